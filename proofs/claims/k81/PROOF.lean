import PyProof.Rows.All
import Wide.All
import OpenK.AllK
import Wide.FinOn
import Lean
import PyProof.EqAt
import PyProof.EqKinds
import PyProof.TupleCall
import PySem.Challenge.RW_fencemask_k81_masks_left_out
open PySem.W (Frag)
set_option Elab.async false
set_option linter.all false
set_option maxRecDepth 100000
namespace L2
open PySem PySem.Spec PyProof.Rows
abbrev Key:=Sum Int Str
def jq:Key->Value->Bool
 | .inl k,v=>Value.isInt k v
 | .inr x,v=>Value.isStrOf x v
def IM (w:World):Key->Int
 | .inl k=>hashInt k
 | .inr x=>hashStr w x
theorem b_:∀ {k:Key}{v:Value},jq k v=true->(∃ i t,k=Sum.inl i/\v=Value.int i t)\/(∃ x t,k=Sum.inr x/\v=Value.str x t)
 | .inl i,v,h=>by
  obtain⟨t,e⟩:=Value.isInt_shape (k:=i) (v:=v) h;exact .inl ⟨i,t,rfl,e⟩
 | .inr x,v,h=>by
  obtain⟨t,e⟩:=Value.isStrOf_shape (x:=x) (v:=v) h;exact .inr ⟨x,t,rfl,e⟩
theorem Ct (i:Int) (t:Tok):jq (.inl i) (.int i t)=true:=by simp [jq,Value.isInt]
theorem vq (x:Str) (t:Tok):jq (.inr x) (.str x t)=true:=by simp [jq,Value.isStrOf]
theorem Hb (a b:Int):decide ((Sum.inl a:Key)=Sum.inl b)=(a == b):=by
 by_cases e:a=b
 .subst e;simp
 .have h:¬(Sum.inl a:Key)=Sum.inl b:=fun q=>e (Sum.inl.inj q)
  rw[decide_eq_false h];exact(beq_eq_false_iff_ne.mpr e).symm
theorem Hg (a b:Str):decide ((Sum.inr a:Key)=Sum.inr b)=decide (a=b):=by
 by_cases e:a=b
 .subst e;simp
 .have h:¬(Sum.inr a:Key)=Sum.inr b:=fun q=>e (Sum.inr.inj q)
  rw[decide_eq_false h,decide_eq_false e]
theorem GW (a:Int) (b:Str):decide ((Sum.inl a:Key)=Sum.inr b)=false:=decide_eq_false (fun q=>nomatch q)
theorem Gm (a:Str) (b:Int):decide ((Sum.inr a:Key)=Sum.inl b)=false:=decide_eq_false (fun q=>nomatch q)
def bq (prog:Program) (w:World):PySem.KeyKind prog w Key where
 is:=jq
 hash:=IM w
 inj:=fun v a b ha hb=>by
  rcases b_ ha with⟨i,t,rfl,rfl⟩|⟨x,t,rfl,rfl⟩
  .rcases b_ hb with⟨j,u,rfl,e⟩|⟨y,u,rfl,e⟩
   .injection e with e1 _;rw[e1]
   .exact nomatch e
  .rcases b_ hb with⟨j,u,rfl,e⟩|⟨y,u,rfl,e⟩
   .exact nomatch e
   .injection e with e1 _;rw[e1]
 byValue:=fun k v h=>by
  rcases b_ h with⟨i,t,rfl,rfl⟩|⟨x,t,rfl,rfl⟩ <;> rfl
 pyHash:=fun hv h=>by
  rcases b_ hv with⟨i,t,rfl,rfl⟩|⟨x,t,rfl,rfl⟩
  .exact wpAny_pyHash_int h
  .exact wpAny_pyHash_str h
 eqBool:=fun hu hv h=>by
  rcases b_ hu with⟨i,t,rfl,rfl⟩|⟨x,t,rfl,rfl⟩
  .rcases b_ hv with⟨j,u,rfl,rfl⟩|⟨y,u,rfl,rfl⟩
   .rw[Hb] at h;exact wpAny_eqBool_int h
   .rw[GW] at h;exact SeqAt.EqAt.int_str i t y u _ _ _ _ h
  .rcases b_ hv with⟨j,u,rfl,rfl⟩|⟨y,u,rfl,rfl⟩
   .rw[Gm] at h;exact SeqAt.EqAt.str_int x t j u _ _ _ _ h
   .rw[Hg] at h;exact wpAny_eqBool_str h
 «strs»:=fun k x t v h=>by
  rcases b_ h with⟨i,u,rfl,e⟩|⟨y,u,rfl,e⟩
  .exact nomatch e
  .injection e with e1 _
   subst e1
   cases v <;> rfl
theorem x_ (prog:Program) (w:World) (i:Int) (t:Tok):(bq prog w).is (.inl i) (.int i t)=true:=Ct i t
theorem rK (prog:Program) (w:World) (x:Str) (t:Tok):(bq prog w).is (.inr x) (.str x t)=true:=vq x t
inductive V where
 | non | bl (b:Bool) | int (i:Int) | str (x:Str) | byt (b:Array UInt8) | flt (b:UInt64) | ref (a:Addr) | ty (n:String)
 deriving DecidableEq
def bp:V->Value->Prop
 | .non,u=>u=Value.none
 | .bl b,u=>u=Value.bool b
 | .int i,u=>∃t,u=Value.int i t
 | .str x,u=>∃t,u=Value.str x t
 | .byt b,u=>∃t,u=Value.bytes b t
 | .flt b,u=>∃t,u=Value.float b t
 | .ref a,u=>u=Value.ref a
 | .ty n,u=>u=Value.type n
abbrev aX:List V->List Value->Prop:=Paired bp
theorem aX.length {xs:List V}{us:List Value}(r:aX xs us):xs.length=us.length:=Paired.length r
theorem aX.get:∀ {xs:List V}{us:List Value}{i:Nat}{x:V},aX xs us->xs[i]? =some x->∃u,us[i]? =some u/\bp x u
 | _,_,_,_,.nil,e=>by simp at e
 | _,_,0,_,.cons r _,e=>by simp at e;subst e;exact⟨_,rfl,r⟩
 | _,_,i+1,x,.cons _ t,e=>by
  obtain⟨u,h1,h2⟩:=aX.get (i:=i) (x:=x) t (by simpa using e)
  exact⟨u,by simpa using h1,h2⟩
theorem aX.set {x:V}{u:Value}(r:bp x u):∀ {xs:List V}{us:List Value}(i:Nat),aX xs us->aX (xs.set i x) (us.set i u)
 | _,_,_,.nil=> .nil
 | _,_,0,.cons _ t=> .cons r t
 | _,_,i+1,.cons q t=> .cons q (aX.set r i t)
theorem aX.append:∀ {xs ys:List V}{us ws:List Value},aX xs us->aX ys ws->aX (xs++ys) (us++ws)
 | _,_,_,_,.nil,s=>s
 | _,_,_,_,.cons r t,s=> .cons r (aX.append t s)
theorem aX.take:∀ {xs:List V}{us:List Value}(n:Nat),aX xs us->aX (xs.take n) (us.take n)
 | _,_,0,_=> .nil
 | _,_,_+1,.nil=> .nil
 | _,_,n+1,.cons r t=> .cons r (aX.take n t)
theorem aX.drop:∀ {xs:List V}{us:List Value}(n:Nat),aX xs us->aX (xs.drop n) (us.drop n)
 | _,_,0,r=>r
 | _,_,_+1,.nil=> .nil
 | _,_,n+1,.cons _ t=>aX.drop n t
def nR:Option V->Option Value->Prop
 | some v,some u=>bp v u
 | none,none=>True
 | _,_=>False
def KV {κ:Type}:List (κ × V)->List (κ × Value)->Prop:=Paired fun(p:κ × V) (q:κ × Value)=>p.1=q.1/\bp p.2 q.2
def kV:Key->V
 | .inl i=> .int i
 | .inr x=> .str x
inductive HO where
 | lst (xs:List V)
 | tup (xs:List V)
 | dK (kvs:List (Key × V)) | dT (kvs:List (List Key × V))
 | set (S:Int->Bool) (n:Nat)
 | ins (C dx:Addr) (fs:List (Str × V))
 | own (x:Addr)
 | xd (fs:List (Str × V))
 | met (f x:Addr)
 | rng (lo hi:Int)
 | frz (o:Obj) (u:HO)
 | tbl (ps:Array Value)
 | ext (φ:Heap->Prop)
abbrev Hp:=Addr->Option HO
def upd (H:Hp) (a:Addr) (o:HO):Hp:=fun b=>if b=a then some o else H b
theorem ad {H:Hp}{a:Addr}{o:HO}:upd H a o a=some o:=by unfold upd;rw[if_pos rfl]
theorem az {H:Hp}{a b:Addr}{o:HO}(h:b≠a):upd H a o b=H b:=by unfold upd;rw[if_neg h]
theorem dn {H:Hp}{a b:Addr}{o u:HO}(h:H a=some o) (h':H b=some u) (d:o≠u):a≠b:=by
 intro e;subst e;rw[h] at h';exact d (Option.some.inj h')
theorem aB {H:Hp}{a b:Addr}{o:HO}(h:H a=some o) (h':H b=none):a≠b:=by
 intro e;subst e;rw[h] at h';cases h'
section
variable (P : Program) (w : World)
def cO (H:Hp) (h:Heap) (a:Addr):HO->Prop
 | .lst xs=>xs.length<=sizeLine/\∃(its:List Value) (n:Nat),aX xs its/\h.get? a=some {cls:= .type "list",data:= .seq its.toArray n}
 | .tup xs=>xs.length<=sizeLine/\∃its:List Value,aX xs its/\IsTup h a its.toArray
 | .dK kvs=>kvs.length<=sizeLine/\(a == sysModules)=false/\∃vs,KV kvs vs/\h.DictOf (bq P w) a vs
 | .dT kvs=>kvs.length<=sizeLine/\(a == sysModules)=false/\∃xs:List (List Key × Addr × Value),
   Paired (fun(p:List Key × V) (q:List Key × Addr × Value)=>p.1=q.1/\H q.2.1=some (.tup (p.1.map kV))/\bp p.2 q.2.2) kvs xs/\
   ∃o es ep,h.get? a=some o/\o.ExactDict/\o.data= .dict es ep/\es.toList=xs.map (entryOfKey (tupleKind (bq P w)))/\(xs.map (·.1)).Nodup
 | .set S n=>h.SetOf (intKind P w) a S n
 | .ins C dx fs=>H dx=some (.own a)/\fs.length<=1000/\dx≠a/\h.get? a=some (W.instObj C dx)/\
   ∃mA,h.Ns1 dx mA/\(∀ f,nR (fs.lookup f) (mA f))/\PySem.Within mA (fs.map (·.1))
 | .own _=>∃o,h.get? a=some o
 | .xd fs=>∃mA,h.Ns1 a mA/\∀f,nR (fs.lookup f) (mA f)
 | .rng lo hi=>∃t u v,h.get? a=some {cls:= .type "range",data:= .fields #[.int lo t,.int hi u,.int 1 v]}
 | .frz o u=>h.get? a=some o/\cO H h a u
 | .tbl ps=>h.get? a=some {cls:= .none,data:= .fields ps}
 | .met f x=>h.get? a=some (W.methodObj (.ref f) (.ref x))
 | .ext φ=>φ h/\(∃ o,h.get? a=some o)/\∀h1 h2:Heap,φ h1->(∀ o,h1.get? a=some o->h2.get? a=some o)->φ h2
def HOk (H:Hp) (h:Heap):Prop:=∀a o,H a=some o->cO P w H h a o
end
section
variable {P : Program} {w : World} {H H' : Hp} {h h' : Heap} {a : Addr} {o : HO}
theorem cO.lt (x:cO P w H h a o):a < h.objs.size:=by
 cases o with
 | lst xs=>obtain⟨_,_,_,_,e⟩:=x;exact Heap.lt_size e
 | tup xs=>obtain⟨_,_,_,p⟩:=x;exact p.lt
 | dK kvs=>obtain⟨_,_,_,_,o,_,_,e,_⟩:=x;exact Heap.lt_size e
 | dT kvs=>obtain⟨_,_,_,_,o,_,_,e,_⟩:=x;exact Heap.lt_size e
 | set S n=>obtain⟨o,_,_,_,e,_⟩:=x;exact Heap.lt_size e
 | ins C dx fs=>obtain⟨_,_,_,e,_⟩:=x;exact Heap.lt_size e
 | own y=>obtain⟨_,e⟩:=x;exact Heap.lt_size e
 | xd fs=>obtain⟨_,⟨_,_,_,e,_⟩,_⟩:=x;exact Heap.lt_size e
 | rng lo hi=>obtain⟨_,_,_,e⟩:=x;exact Heap.lt_size e
 | frz ob u=>obtain⟨e,_⟩:=x;exact Heap.lt_size e
 | tbl ps=>exact Heap.lt_size (show h.get? a=some _ from x)
 | met f y=>exact Heap.lt_size (show h.get? a=some _ from x)
 | ext φ=>obtain⟨_,⟨_,e⟩,_⟩:=x;exact Heap.lt_size e
theorem Paired.mapP {α β:Type}{F G:α->β->Prop}:∀ {l₁:List α}{l₂:List β},Paired F l₁ l₂->(∀ a b,F a b->G a b)->Paired G l₁ l₂
 | _,_,.nil,_=> .nil
 | _,_,.cons r t,f=> .cons (f _ _ r) (Paired.mapP t f)
theorem cO.stay (x:cO P w H h a o) (k:∀b u,(b=a\/H b=some (.own a))->h.get? b=some u->h'.get? b=some u)
  (ho:∀b,H b=some (.own a)->H' b=some (.own a)) (ht:∀b xs,H b=some (.tup xs)->H' b=some (.tup xs)):cO P w H' h' a o:=by
 induction o with
 | lst xs=>obtain⟨z,its,n,r,e⟩:=x;exact⟨z,its,n,r,k _ _ (.inl rfl) e⟩
 | tup xs=>obtain⟨z,its,r,ob,e,c⟩:=x;exact⟨z,its,r,ob,k _ _ (.inl rfl) e,c⟩
 | dK kvs=>obtain⟨z,y,vs,r,ob,es,ep,e,c⟩:=x;exact⟨z,y,vs,r,ob,es,ep,k _ _ (.inl rfl) e,c⟩
 | dT kvs=>
  obtain⟨z,y,xs,r,ob,es,ep,e,c⟩:=x;exact⟨z,y,xs,Paired.mapP r fun p q z=>⟨z.1,ht _ _ z.2.1,z.2.2⟩,ob,es,ep,k _ _ (.inl rfl) e,c⟩
 | set S n=>obtain⟨ob,es,ep,t,e,c⟩:=x;exact⟨ob,es,ep,t,k _ _ (.inl rfl) e,c⟩
 | ins C dx fs=>
  obtain⟨d,z,ne,e,mA,⟨od,es,ep,e2,c⟩,r⟩:=x;exact⟨ho _ d,z,ne,k _ _ (.inl rfl) e,mA,⟨od,es,ep,k _ _ (.inr d) e2,c⟩,r⟩
 | own y=>obtain⟨ob,e⟩:=x;exact⟨ob,k _ _ (.inl rfl) e⟩
 | xd fs=>obtain⟨mA,⟨od,es,ep,e,c⟩,r⟩:=x;exact⟨mA,⟨od,es,ep,k _ _ (.inl rfl) e,c⟩,r⟩
 | rng lo hi=>obtain⟨t,u,v,e⟩:=x;exact⟨t,u,v,k _ _ (.inl rfl) e⟩
 | frz ob u ih=>obtain⟨e,q⟩:=x;exact⟨k _ _ (.inl rfl) e,ih q⟩
 | tbl ps=>
  have e:h.get? a=some {cls:= .none,data:= .fields ps}:=x;show h'.get? a=some {cls:= .none,data:= .fields ps}
  exact k a _ (.inl rfl) e
 | met f y=>
  have e:h.get? a=some (W.methodObj (.ref f) (.ref y)):=x;show h'.get? a=some (W.methodObj (.ref f) (.ref y))
  exact k a _ (.inl rfl) e
 | ext φ=>obtain⟨p,⟨o,e⟩,st⟩:=x;exact⟨st _ _ p fun o q=>k _ _ (.inl rfl) q,⟨o,k _ _ (.inl rfl) e⟩,st⟩
theorem HOk.lt (x:HOk P w H h) (e:H a=some o):a < h.objs.size:=(x a o e).lt
theorem HOk.fresh (x:HOk P w H h) (e:h.objs.size<=a):H a=none:=by
 cases q:H a with
 | none=>rfl
 | some u=>exact absurd (Nat.lt_of_lt_of_le (x.lt q) e) (Nat.lt_irrefl _)
theorem HOk.kept (x:HOk P w H h) (k:∀b u,h.get? b=some u->h'.get? b=some u):HOk P w H h':=fun a o e=>
 (x a o e).stay (fun b u _ q=>k b u q) (fun _ q=>q) fun _ _ q=>q
theorem HOk.laid (x:HOk P w H h) (k:∀b u,h.get? b=some u->h'.get? b=some u) (hp:h.objs.size<=a) (new:cO P w (upd H a o) h' a o):HOk P w (upd H a o) h':=fun b u e=>by
 have hn:=x.fresh hp
 by_cases hb:b=a
 .subst hb;rw[ad] at e;cases e;exact new
 .rw[az hb] at e;exact(x b u e).stay (fun c v _ q=>k c v q) (fun c q=>by rw[az (aB q hn)];exact q) fun c xs q=>by rw[az (aB q hn)];exact q
end
def Rd (H:Hp) (a:Addr) (u:HO):Prop:=H a=some u\/∃o,H a=some (.frz o u)
theorem Rd.ok {P:Program}{w:World}{H:Hp}{h:Heap}{a:Addr}{u:HO}(r:Rd H a u) (x:HOk P w H h):cO P w H h a u:=by
 rcases r with r | ⟨o,r⟩
 .exact x a u r
 .obtain⟨_,q⟩:=x a _ r;exact q
def Mut:Option HO->Prop
 | some (.lst _)=>True
 | some (.dK _)=>True
 | some (.dT _)=>True
 | some (.set _ _)=>True
 | some (.ins _ _ _)=>True
 | some (.ext _)=>True
 | _=>False
section
variable {P : Program} {w : World} {H : Hp} {h h' : Heap} {x e : Addr} {o' : HO}
theorem HOk.write (ok:HOk P w H h) (mu:Mut (H x)) (he:e=x\/H e=some (.own x)) (k:∀b u,b≠e->h.get? b=some u->h'.get? b=some u) (heo:∃u,h'.get? e=some u)
  (new:cO P w (upd H x o') h' x o'):HOk P w (upd H x o') h':=fun b u q=>by
 have nown:∀c y,H c=some (.own y)->c≠x:=fun c y r z=>by subst z;rw[r] at mu;exact mu
 have ntup:∀c xs,H c=some (.tup xs)->c≠x:=fun c xs r z=>by subst z;rw[r] at mu;exact mu
 by_cases hb:b=x
 .subst hb;rw[ad] at q;cases q;exact new
 .rw[az hb] at q
  by_cases hbe:b=e
  .have q':H b=some (.own x):=by
    rcases he with z | z
    .exact absurd (hbe.trans z) hb
    .rw[hbe];exact z
   rw[q] at q';cases q';obtain⟨v,hv⟩:=heo;exact⟨v,by rw[hbe];exact hv⟩
  .refine(ok b u q).stay (fun c v hc r=>k c v ?_ r) (fun c r=>by rw[az (nown c b r)];exact r) fun c xs r=>by rw[az (ntup c xs r)];exact r
   rcases hc with rfl | hc
   .exact hbe
   .rintro rfl
    rcases he with z | z
    .exact nown c b hc z
    .rw[hc] at z;cases z;exact hb rfl
end
structure Un (fs ex:List Addr) (H H':Hp) (h h':Heap):Prop where
 keep:∀b o,h.get? b=some o->H b=none->b ∉ fs->b ∉ ex->h'.get? b=some o
 slot:∀b o,h.get? b=some o->H b=none->b∈fs->b ∉ ex->∃sl,h'.get? b=some {o with slots:=sl}
 free:∀b o,h.get? b=some o->H b=none->b ∉ ex->H' b=none
 there:∀b o,h.get? b=some o->b ∉ ex->∃o',h'.get? b=some o'
 tups:∀b xs,H b=some (.tup xs)->H' b=some (.tup xs)
 frzs:∀b o u,H b=some (.frz o u)->H' b=some (.frz o u)
 tbls:∀b ps,H b=some (.tbl ps)->∃more,H' b=some (.tbl (ps++more))
section
variable {fs fs' ex ex' : List Addr} {H H1 H2 : Hp} {h h1 h2 h' : Heap} {a x e : Addr} {o : HO}
theorem Un.any (u:Un fs ex H H1 h h1) {b:Addr}{ob:Obj}(q:h.get? b=some ob) (n:H b=none) (hx:b ∉ ex):∃sl,h1.get? b=some {ob with slots:=sl}:=by
 by_cases hb:b∈fs
 .exact u.slot b ob q n hb hx
 .exact⟨ob.slots,u.keep b ob q n hb hx⟩
theorem Un.kept (k:∀b u,h.get? b=some u->h'.get? b=some u):Un fs ex H H h h':=
 ⟨fun b ob q _ _ _=>k b ob q,fun b ob q _ _ _=>⟨ob.slots,k b ob q⟩,fun _ _ _ n _=>n,fun b ob q _=>⟨ob,k b ob q⟩,fun _ _ q=>q,fun _ _ _ q=>q,fun _ ps q=>⟨#[],by rw[q];simp⟩⟩
theorem Un.refl:Un fs ex H H h h:=Un.kept fun _ _ q=>q
theorem Un.laid (k:∀b u,h.get? b=some u->h'.get? b=some u) (hp:h.objs.size<=a) (hn:H a=none):Un fs ex H (upd H a o) h h' where
 keep:=fun b u q _ _ _=>k b u q
 slot:=fun b u q _ _ _=>⟨u.slots,k b u q⟩
 free:=fun b u q n _=>by rw[az (Nat.ne_of_lt (Nat.lt_of_lt_of_le (Heap.lt_size q) hp))];exact n
 there:=fun b u q _=>⟨u,k b u q⟩
 tups:=fun b xs q=>by rw[az (aB q hn)];exact q
 frzs:=fun b u xs q=>by rw[az (aB q hn)];exact q
 tbls:=fun b ps q=>⟨#[],by rw[az (aB q hn),q];simp⟩
theorem Un.write (mu:Mut (H x)) (he:e=x\/H e=some (.own x)) (k:∀b u,b≠e->h.get? b=some u->h'.get? b=some u) (heo:∃u,h'.get? e=some u):Un fs ex H (upd H x o) h h':=by
 have hx:∀b,H b=none->b≠x:=fun b n z=>by subst z;rw[n] at mu;exact mu
 have hb:∀b,H b=none->b≠e:=fun b n z=>by
  subst z;rcases he with r | r
  .exact hx b n r
  .rw[n] at r;cases r
 have hm:∀b u,H b=some u->¬Mut (some u)->b≠x:=fun b u q nm z=>by subst z;rw[q] at mu;exact nm mu
 refine⟨fun b u q n _ _=>k b u (hb b n) q,fun b u q n _ _=>⟨u.slots,k b u (hb b n) q⟩,fun b u q n _=>by rw[az (hx b n)];exact n,fun b u q _=> ?_,
  fun b xs q=>by rw[az (hm b _ q fun z=>z)];exact q,fun b u xs q=>by rw[az (hm b _ q fun z=>z)];exact q,fun b ps q=>⟨#[],by rw[az (hm b _ q fun z=>z),q];simp⟩⟩
 by_cases hbe:b=e
 .subst hbe;exact heo
 .exact⟨u,k b u hbe q⟩
end
def trk (h:Heap) (H:Hp):List Addr:=(List.range h.objs.size).filter fun a=>(H a).isSome
def wJ (h:Heap) (H:Hp):Heap:=W.hideAll h (trk h H)
theorem B4 (h:Heap) (H:Hp):(wJ h H).objs.size=h.objs.size:=W.hideAll_size _ _
theorem Dn {h:Heap}{H:Hp}{b:Addr}{o:Obj}(e:h.get? b=some o) (n:H b=none):(wJ h H).get? b=some o:=
 W.hideAll_get _ e fun hm=>by
  have q:(H b).isSome=true:=(List.mem_filter.mp hm).2;rw[n] at q;simp at q
theorem Fp {h:Heap}{H:Hp}{b:Addr}{o:Obj}(e:(wJ h H).get? b=some o):h.get? b=some o/\H b=none:=by
 have e':h.get? b=some o:=W.of_hideAll (trk h H) e;refine⟨e',?_⟩
 cases q:H b with
 | none=>rfl
 | some x=>
  have hm:b∈trk h H:=List.mem_filter.mpr ⟨List.mem_range.mpr (Heap.lt_size e'),by simp [q]⟩
  have z:(wJ h H).get? b=none:=W.hideAll_none (trk h H) hm;rw[z] at e;cases e
def ER (g h:Heap) (L:Addr):List (Addr × Obj):=(List.range h.objs.size).filterMap fun a=>if a=L\/(g.get? a).isSome=true then none else(h.get? a).map fun o=>(a,o)
def fk (g h:Heap) (L d:Addr):List (Addr × Obj):=(ER g h L).filter fun p=>decide (p.1≠d)
structure Mod (K:Frag) (mg:Str->Option Value) (base:Heap):Prop where
 kin:K.In base
 glob:base.Ns mainGlobals mg
 blt:∃mb,base.Ns builtinsNs mb/\∀x:Str,x≠"__name__"->mb x=bootBuiltins x
 nolimit:base.NoLimit
structure Cx where
 prog:Program
 w:World
 K:Frag
 mg:Str->Option Value
 base:Heap
 A:Around
 N:List Str
 s₀:Shared
 H₀:Hp
 env:Env
 outer:List Env
 stack:List Env
 ex:List Addr
 fn:Str->Bool
 calm:Bool
 pn:List (Addr × Obj)
 xe:Value->Shared->Prop
def frs (l:List Env):List Addr:=l.filterMap (·.frame)
abbrev Cx.fs (X:Cx):List Addr:=frs X.outer
def Vis (sc:Scope) (x:Str):Prop:=sc.names.lookup x=some .local\/sc.names.lookup x=some .cell\/sc.names.lookup x=some .free
def Loc (sc:Scope) (x:Str):Prop:=sc.names.lookup x=some .local\/sc.names.lookup x=some .cell
def IY (env:Env) (h:Heap) (m:Str->Option Value) (x:Str) (u:Value):Prop:=
 (env.kindOf x=some .local/\m x=some u)\/((env.kindOf x=some .cell\/env.kindOf x=some .free)/\∃c,env.cells.lookup x=some c/\h.IsCell c (some u))
structure Cx.Ok (X:Cx):Prop where
 mod:Mod X.K X.mg X.base
 kind:X.env.scope.kind= .function
 glob:X.env.globals=mainGlobals
 blt:X.env.builtins=builtinsNs
 above:X.s₀.heap.objs.size<=X.env.locals
 inj:∀x y c,X.env.cells.lookup x=some c->X.env.cells.lookup y=some c->x=y
 has:∀x,(X.env.kindOf x=some .cell\/X.env.kindOf x=some .free)->∃c,X.env.cells.lookup x=some c
 cab:∀x c,X.fn x=true->X.env.cells.lookup x=some c->X.s₀.heap.objs.size<=c
 hd:X.calm=true->X.A.handled=none
 frames:X.A.frames=some X.stack
 stk:X.stack=X.outer\/(X.stack=X.env::X.outer/\X.env.frame=some X.env.locals)
 exf:∀b∈X.ex,b≠X.env.locals/\∀x c,X.env.cells.lookup x=some c->c≠b
 bs:∀b o,X.base.get? b=some o->X.s₀.heap.get? b=some o/\X.H₀ b=none
 bsz:X.base.objs.size<=X.s₀.heap.objs.size
 noex:∀b o,X.base.get? b=some o->b ∉ X.ex
 exfs:∀b∈X.ex,b ∉ X.fs
 funs:X.s₀.heap.FunFrames X.base X.outer
 frf:∀b∈X.fs,X.H₀ b=none
structure Inv (X:Cx) (pins:List (Addr × Obj)) (Z:List (Option V)) (H:Hp) (s:Shared):Prop where
 ok:X.Ok
 os:s.os=X.s₀.os
 bare:AllBare s.gens
 base:Un X.fs X.ex X.H₀ H X.s₀.heap s.heap
 loc:∃m,s.heap.Ns X.env.locals m/\∀(i:Nat) (x:Str) (v:V),X.N[i]? =some x->Z[i]? =some (some v)->Vis X.env.scope x->∃u,bp v u/\IY X.env s.heap m x u
 cell:∀x c,X.env.cells.lookup x=some c->∃v,s.heap.IsCell c v
 free:H X.env.locals=none
 freeC:∀x c,X.env.cells.lookup x=some c->H c=none
 pin:∀p∈X.pn++pins,s.heap.get? p.1=some p.2/\H p.1=none/\p.1≠X.env.locals/\p.1 ∉ X.fs/\∀v,p.2.data≠ .cell v
 hok:HOk X.prog X.w H s.heap
 len:Z.length=X.N.length
section
variable {X : Cx} {pins : List (Addr × Obj)} {σ : List (Option V)} {H H' : Hp} {s : Shared} {h' : Heap}
theorem Cx.Ok.nofr (ok:X.Ok) {b:Addr}{o:Obj}(e:X.base.get? b=some o):b ∉ X.fs:=fun hb=>by
 have:=(ok.funs.mem hb).1;rw[e] at this;cases this
theorem Inv.bs (I:Inv X pins Z H s):∀b o,X.base.get? b=some o->s.heap.get? b=some o/\H b=none:=fun b o e=>
 ⟨I.base.keep b o (I.ok.bs b o e).1 (I.ok.bs b o e).2 (I.ok.nofr e) (I.ok.noex b o e),I.base.free b o (I.ok.bs b o e).1 (I.ok.bs b o e).2 (I.ok.noex b o e)⟩
theorem Inv.bk (I:Inv X pins Z H s):∀b o,X.base.get? b=some o->s.heap.get? b=some o:=fun b o e=>(I.bs b o e).1
theorem Inv.mod (I:Inv X pins Z H s):Mod X.K X.mg X.base:=I.ok.mod
theorem Inv.kIn (I:Inv X pins Z H s):X.K.In s.heap:=I.ok.mod.kin.keeps I.bk
theorem Inv.lt (I:Inv X pins Z H s):X.env.locals < s.heap.objs.size:=let ⟨_,hn,_⟩:=I.loc;hn.lt
theorem Inv.sz (I:Inv X pins Z H s):X.s₀.heap.objs.size<=s.heap.objs.size:=Nat.le_trans I.ok.above (Nat.le_of_lt I.lt)
theorem Inv.nofs (I:Inv X pins Z H s) {a:Addr}(h:s.heap.objs.size<=a):a ∉ X.fs:=fun hb=>by
 obtain⟨_,o,ho,_⟩:=I.ok.funs.mem hb;exact absurd (Nat.lt_of_lt_of_le (Heap.lt_size ho) (Nat.le_trans I.sz h)) (Nat.lt_irrefl _)
theorem Inv.cne (I:Inv X pins Z H s):∀x c,X.env.cells.lookup x=some c->c≠X.env.locals:=fun x c e z=>by
 obtain⟨v,o,ho,hd⟩:=I.cell x c e;obtain⟨m,⟨o',es,ep,ho',hd',_⟩,_⟩:=I.loc;rw[z,ho'] at ho;cases ho;rw[hd'] at hd;cases hd
theorem Inv.funs (I:Inv X pins Z H s):s.heap.FunFrames X.base X.outer:=by
 have all:∀(l:List Env),(∀ b∈frs l,b∈X.fs)->X.s₀.heap.FunFrames X.base l->s.heap.FunFrames X.base l:=by
  intro l
  induction l with
  | nil=>intro _ _;trivial
  | cons env r ih=>
   intro hs hl;obtain⟨hk,⟨L,o,hf,hn,ho,hd⟩,hr⟩:=hl;have hL:L∈X.fs:=hs L (by unfold frs;rw[List.filterMap_cons,hf];exact List.mem_cons_self)
   obtain⟨sl,e⟩:=I.base.slot L o ho (I.ok.frf L hL) hL fun z=>I.ok.exfs L z hL
   exact⟨hk,⟨L,_,hf,hn,e,hd⟩,ih (fun b hb=>hs b (by unfold frs;rw[List.filterMap_cons,hf];exact List.mem_cons_of_mem _ hb)) hr⟩
 exact all X.outer (fun _ hb=>hb) I.ok.funs
theorem Inv.stack (I:Inv X pins Z H s):s.heap.FunFrames X.base X.stack:=by
 rcases I.ok.stk with e | ⟨e,hf⟩
 .rw[e];exact I.funs
 .rw[e];obtain⟨m,hn,_⟩:=I.loc;refine .cons (by rw[I.ok.kind];decide) hf hn ?_ I.funs
  exact Heap.get?_none_of_le (Nat.le_trans I.ok.bsz I.ok.above)
theorem Inv.stkSub (I:Inv X pins Z H s):∀b∈frs X.stack,b∈X.env.locals::X.fs:=fun b hb=>by
 rcases I.ok.stk with e | ⟨e,hf⟩
 .rw[e] at hb;exact List.mem_cons_of_mem _ hb
 .rw[e] at hb;unfold frs at hb;rw[List.filterMap_cons,hf] at hb;exact hb
theorem Inv.stkFree (I:Inv X pins Z H s):∀b∈frs X.stack,H b=none:=fun b hb=>by
 rcases List.mem_cons.mp (I.stkSub b hb) with e | hb
 .rw[e];exact I.free
 .obtain⟨_,o,ho,_⟩:=I.ok.funs.mem hb;exact I.base.free b o ho (I.ok.frf b hb) fun z=>I.ok.exfs b z hb
theorem Inv.step {g':Array GenState}{t':Nat}{d':Drawn}{ch:List Addr}(I:Inv X pins Z H s)
  (hch:∀b∈ch,(b∈X.ex\/X.s₀.heap.objs.size<=b)/\b≠X.env.locals/\(∀ x c,X.env.cells.lookup x=some c->c≠b)/\∀p∈X.pn++pins,p.1≠b)
  (keep:∀b o,b≠X.env.locals->b ∉ X.fs->b ∉ ch->s.heap.get? b=some o->H b=none->h'.get? b=some o)
  (slot:∀b o,b≠X.env.locals->b∈X.fs->b ∉ ch->s.heap.get? b=some o->H b=none->∃sl,h'.get? b=some {o with slots:=sl}) (free:∀b o,b ∉ ch->s.heap.get? b=some o->H b=none->H' b=none)
  (there:∀b o,b ∉ ch->s.heap.get? b=some o->∃o',h'.get? b=some o')
  (tups:∀b xs,H b=some (.tup xs)->H' b=some (.tup xs)) (frzs:∀b o u,H b=some (.frz o u)->H' b=some (.frz o u)) (tbls:∀b ps,H b=some (.tbl ps)->∃more,H' b=some (.tbl (ps++more)))
  (ns:∀m,s.heap.Ns X.env.locals m->h'.Ns X.env.locals m) (hok:HOk X.prog X.w H' h') (hg:AllBare g'):
  Inv X pins Z H' {s with heap:=h',gens:=g',drawn:=d',toks:=t'}:=by
 have neL:∀b o,X.s₀.heap.get? b=some o->b≠X.env.locals:=fun b o e=>Nat.ne_of_lt (Nat.lt_of_lt_of_le (Heap.lt_size e) I.ok.above)
 have neC:∀b o,X.s₀.heap.get? b=some o->b ∉ X.ex->b ∉ ch:=fun b o e hx hb=>by
  rcases(hch b hb).1 with z | z
  .exact hx z
  .exact absurd (Nat.lt_of_lt_of_le (Heap.lt_size e) z) (Nat.lt_irrefl _)
 have cellK:∀x c,X.env.cells.lookup x=some c->∀v,s.heap.IsCell c v->h'.IsCell c v:=fun x c e v ⟨o,ho,hd⟩=>by
  have nch:c ∉ ch:=fun z=>(hch c z).2.2.1 x c e rfl
  by_cases hc:c∈X.fs
  .obtain⟨sl,q⟩:=slot c o (I.cne x c e) hc nch ho (I.freeC x c e);exact⟨_,q,hd⟩
  .exact⟨o,keep c o (I.cne x c e) hc nch ho (I.freeC x c e),hd⟩
 refine⟨I.ok,I.os,hg,⟨fun b o e n hb hx=> ?_,fun b o e n hb hx=> ?_,fun b o e n hx=> ?_,fun b o e hx=> ?_,fun b xs e=>tups b xs (I.base.tups b xs e),fun b o xs e=>frzs b o xs (I.base.frzs b o xs e),fun b ps e=> ?_⟩,?_,fun x c e=> ?_,?_,fun x c e=> ?_,fun p hp=> ?_,hok,I.len⟩
 .exact keep b o (neL b o e) hb (neC b o e hx) (I.base.keep b o e n hb hx) (I.base.free b o e n hx)
 .obtain⟨sl,e1⟩:=I.base.slot b o e n hb hx;obtain⟨sl',e2⟩:=slot b _ (neL b o e) hb (neC b o e hx) e1 (I.base.free b o e n hx);exact⟨sl',e2⟩
 .obtain⟨o',e1⟩:=I.base.there b o e hx;exact free b o' (neC b o e hx) e1 (I.base.free b o e n hx)
 .obtain⟨o',e1⟩:=I.base.there b o e hx;exact there b o' (neC b o e hx) e1
 .obtain⟨m1,e1⟩:=I.base.tbls b ps e;obtain⟨m2,e2⟩:=tbls b _ e1;exact⟨m1++m2,by rw[e2,Array.append_assoc]⟩
 .obtain⟨m,hn,hl⟩:=I.loc;refine⟨m,ns m hn,fun i x v e1 e2 e3=> ?_⟩
  obtain⟨u,r,l⟩:=hl i x v e1 e2 e3;refine⟨u,r,?_⟩
  rcases l with l | ⟨k,c,e,z⟩
  .exact .inl l
  .exact .inr ⟨k,c,e,cellK x c e _ z⟩
 .obtain⟨v,z⟩:=I.cell x c e;exact⟨v,cellK x c e v z⟩
 .obtain⟨m,⟨o,_,_,ho,_⟩,_⟩:=I.loc;exact free _ o (fun z=>(hch _ z).2.1 rfl) ho I.free
 .obtain⟨v,o,ho,hd⟩:=I.cell x c e;exact free c o (fun z=>(hch c z).2.2.1 x c e rfl) ho (I.freeC x c e)
 .obtain⟨e,n,ne,nf,d⟩:=I.pin p hp;have nch:p.1 ∉ ch:=fun z=>(hch p.1 z).2.2.2 p hp rfl
  exact⟨keep p.1 p.2 ne nf nch e n,free p.1 p.2 nch e n,ne,nf,d⟩
theorem Inv.un {t':Nat}(I:Inv X pins Z H s) (u:Un X.fs [] H H' s.heap h') (hok:HOk X.prog X.w H' h'):Inv X pins Z H' {s with heap:=h',toks:=t'}:=by
 obtain⟨m,⟨o,es,ep,ho,r⟩,_⟩:=id I.loc;obtain⟨sl,hL⟩:=u.any ho I.free (by simp)
 exact I.step (g':=s.gens) (d':=s.drawn) (ch:=[]) (fun _ z=>nomatch z) (fun b o _ hb _ e n=>u.keep b o e n hb (by simp)) (fun b o _ hb _ e n=>u.slot b o e n hb (by simp)) (fun b o _ e n=>u.free b o e n (by simp)) (fun b o _ e=>u.there b o e (by simp)) u.tups u.frzs u.tbls (fun m' hm=>by
  obtain⟨o',es',ep',ho',r'⟩:=hm;rw[ho] at ho';cases ho'
  exact⟨_,es',ep',hL,r'⟩) hok I.bare
theorem Inv.call {g':Array GenState}{t':Nat}{d':Drawn}{ch:List Addr}(I:Inv X pins Z H s) (u:Un (frs X.stack) ch H H' s.heap h') (hok:HOk X.prog X.w H' h') (hg:AllBare g')
  (hch:∀b∈ch,(b∈X.ex\/X.s₀.heap.objs.size<=b)/\b≠X.env.locals/\(∀ x c,X.env.cells.lookup x=some c->c≠b)/\∀p∈X.pn++pins,p.1≠b):
  Inv X pins Z H' {s with heap:=h',gens:=g',drawn:=d',toks:=t'}:=by
 obtain⟨m,⟨o,es,ep,ho,r⟩,_⟩:=id I.loc;obtain⟨sl,hL⟩:=u.any ho I.free fun z=>(hch _ z).2.1 rfl
 exact I.step (ch:=ch) hch (fun b o hL hb hc e n=>u.keep b o e n (fun z=>(List.mem_cons.mp (I.stkSub b z)).elim hL hb) hc) (fun b o _ _ hc e n=>u.any e n hc) (fun b o hc e n=>u.free b o e n hc) (fun b o hc e=>u.there b o e hc) u.tups u.frzs u.tbls (fun m' hm=>by
  obtain⟨o',es',ep',ho',r'⟩:=hm;rw[ho] at ho';cases ho'
  exact⟨_,es',ep',hL,r'⟩) hok hg
theorem Inv.turned {t':Nat}{it:Addr}(I:Inv X pins Z H s) (k:∀b o,b≠it->s.heap.get? b=some o->h'.get? b=some o) (hn:H it=none) (hL:it≠X.env.locals)
  (h1:it∈X.ex\/X.s₀.heap.objs.size<=it) (h2:∀x c,X.env.cells.lookup x=some c->c≠it) (h3:∀p∈X.pn++pins,p.1≠it):Inv X pins Z H {s with heap:=h',toks:=t'}:=by
 have nit:∀b u,H b=some u->b≠it:=fun b u e z=>by rw[z,hn] at e;cases e
 refine I.step (g':=s.gens) (d':=s.drawn) (ch:=[it]) (fun b hb=> ?_) (fun b o _ _ hc e _=>k b o (fun z=>hc (by simp [z])) e) (fun b o _ _ hc e _=>⟨o.slots,k b o (fun z=>hc (by simp [z])) e⟩) (fun _ _ _ _ n=>n)
  (fun b o hc e=>⟨o,k b o (fun z=>hc (by simp [z])) e⟩) (fun _ _ e=>e) (fun _ _ _ e=>e) (fun b ps e=>⟨#[],by rw[e];simp⟩) (fun m hm=> ?_) (fun b u e=> ?_) I.bare
 .have e:b=it:=by simpa using hb
  subst e;exact⟨h1,hL,h2,h3⟩
 .obtain⟨o,es,ep,ho,r⟩:=hm;exact⟨o,es,ep,k _ o (Ne.symm hL) ho,r⟩
 .refine(I.hok b u e).stay (fun c v hc q=>k c v ?_ q) (fun _ q=>q) fun _ _ q=>q
  rcases hc with z | z
  .rw[z];exact nit b u e
  .exact nit c _ z
theorem Inv.tok (I:Inv X pins Z H s) (t:Nat):Inv X pins Z H {s with toks:=t}:=I.un (h':=s.heap) (t':=t) Un.refl I.hok
theorem Inv.kept {t':Nat}(I:Inv X pins Z H s) (k:∀b u,s.heap.get? b=some u->h'.get? b=some u):Inv X pins Z H {s with heap:=h',toks:=t'}:=I.un (Un.kept k) (I.hok.kept k)
theorem Inv.laid {a:Addr}{o:HO}{t':Nat}(I:Inv X pins Z H s) (k:∀b u,s.heap.get? b=some u->h'.get? b=some u) (hp:s.heap.objs.size<=a) (new:cO X.prog X.w (upd H a o) h' a o):
  Inv X pins Z (upd H a o) {s with heap:=h',toks:=t'}:=I.un (Un.laid k hp (I.hok.fresh hp)) (I.hok.laid k hp new)
theorem Inv.write {x e:Addr}{o:HO}{t':Nat}(I:Inv X pins Z H s) (mu:Mut (H x)) (he:e=x\/H e=some (.own x)) (k:∀b u,b≠e->s.heap.get? b=some u->h'.get? b=some u) (heo:∃u,h'.get? e=some u)
  (new:cO X.prog X.w (upd H x o) h' x o):Inv X pins Z (upd H x o) {s with heap:=h',toks:=t'}:=I.un (Un.write mu he k heo) (I.hok.write mu he k heo new)
theorem Inv.weak {Z':List (Option V)}(I:Inv X pins Z H s) (hl:Z'.length=Z.length) (w:∀(i:Nat) v,Z'[i]? =some (some v)->Z[i]? =some (some v)):Inv X pins Z' H s:=
 ⟨I.ok,I.os,I.bare,I.base,let ⟨m,hn,hl'⟩:=I.loc;⟨m,hn,fun i x v e1 e2 e3=>hl' i x v e1 (w i v e2) e3⟩,I.cell,I.free,I.freeC,I.pin,I.hok,hl.trans I.len⟩
theorem Inv.pins_of {pins':List (Addr × Obj)}(I:Inv X pins Z H s) (h:∀p∈pins',s.heap.get? p.1=some p.2/\H p.1=none/\p.1≠X.env.locals/\p.1 ∉ X.fs/\∀v,p.2.data≠ .cell v):Inv X pins' Z H s:=
 ⟨I.ok,I.os,I.bare,I.base,I.loc,I.cell,I.free,I.freeC,fun p hp=>(List.mem_append.mp hp).elim (fun z=>I.pin p (List.mem_append_left _ z)) (h p),I.hok,I.len⟩
theorem yh {N:List Str}(hN:N.Nodup) {i j:Nat}{x:Str}(a:N[i]? =some x) (b:N[j]? =some x):i=j:=by
 obtain⟨h1,e1⟩:=List.getElem?_eq_some_iff.mp a;obtain⟨h2,e2⟩:=List.getElem?_eq_some_iff.mp b;exact(List.getElem_inj hN).mp (e1.trans e2.symm)
theorem wa {M:Model}{A:Around}{E:Value->Shared->Prop}{i:Nat}{x:Str}{v:V}{u:Value}{Q:Unit->Shared->Prop}(I:Inv X pins Z H s) (hN:X.N.Nodup) (hi:X.N[i]? =some x) (hx:Loc X.env.scope x) (r:bp v u)
  (h:∀s',Inv X pins (Z.set i (some v)) H s'->(∃ a,Heap.SameBut a s.heap s'.heap/\(a=X.env.locals\/X.env.cells.lookup x=some a))->Q () s') (hf:X.fn x=true\/X.env.scope.names.lookup x=some .local:=by first | exact .inl rfl | exact .inr rfl | assumption):wpAny M A (storeName X.env x u) Q E s:=by
 obtain⟨m,hn,hl⟩:=id I.loc;have hcls:(X.env.scope.kind == .class || (X.env.scope.kind == .module && X.env.locals != X.env.globals))=false:=by rw[I.ok.kind];rfl
 have hiZ:i < Z.length:=by rw[I.len];exact(List.getElem?_eq_some_iff.mp hi).1
 have cne:=I.cne;have tracked:∀ {a:Addr}{h':Heap},(∃ o,s.heap.get? a=some o/\H a=none)->Heap.SameBut a s.heap h'->HOk X.prog X.w H h':=fun {a h'} ha hs b ob e=>by
  obtain⟨_,_,hfree⟩:=ha;refine(I.hok b ob e).stay (fun c w' hc q=>(hs.2 c ?_).trans q) (fun _ q=>q) fun _ _ q=>q
  rintro rfl
  rcases hc with rfl | hc
  .rw[hfree] at e;cases e
  .rw[hfree] at hc;cases hc
 rcases hx with hk | hk
 .refine wpAny_storeName_local hk hn (fun h' hn' hs=> ?_) hcls
  obtain⟨oL,_,_,hoL,_⟩:=id hn;refine h _ ⟨I.ok,I.os,I.bare,⟨fun b o e n hb hx=> ?_,fun b o e n hb hx=> ?_,I.base.free,fun b o e hx=> ?_,I.base.tups,I.base.frzs,I.base.tbls⟩,⟨_,hn',fun j y v' e1 e2 e3=> ?_⟩,fun y c e=> ?_,I.free,I.freeC,fun p hp=> ?_,tracked ⟨oL,hoL,I.free⟩ hs,by simpa using I.len⟩ ⟨_,hs,.inl rfl⟩
  .exact(hs.2 b (Nat.ne_of_lt (Nat.lt_of_lt_of_le (Heap.lt_size e) I.ok.above))).trans (I.base.keep b o e n hb hx)
  .obtain⟨sl,e1⟩:=I.base.slot b o e n hb hx;exact⟨sl,(hs.2 b (Nat.ne_of_lt (Nat.lt_of_lt_of_le (Heap.lt_size e) I.ok.above))).trans e1⟩
  .obtain⟨o',e1⟩:=I.base.there b o e hx;exact⟨o',(hs.2 b (Nat.ne_of_lt (Nat.lt_of_lt_of_le (Heap.lt_size e) I.ok.above))).trans e1⟩
  .by_cases hj:j=i
   .subst hj;rw[hi] at e1;cases e1;rw[List.getElem?_set_self hiZ] at e2
    cases e2
    exact⟨u,r,.inl ⟨hk,by simp⟩⟩
   .rw[List.getElem?_set_ne (Ne.symm hj)] at e2;obtain⟨u',r',q⟩:=hl j y v' e1 e2 e3;refine⟨u',r',?_⟩
    rcases q with⟨k,e⟩|⟨k,c,e,z⟩
    .refine .inl ⟨k,?_⟩
     have:y≠x:=fun e=>hj (yh hN e1 (e ▸ hi))
     simp [this,e]
    .exact .inr ⟨k,c,e,z.sameBut hs (cne y c e)⟩
  .obtain⟨w',z⟩:=I.cell y c e;exact⟨w',z.sameBut hs (cne y c e)⟩
  .obtain⟨e,n,ne,nf,d⟩:=I.pin p hp;exact⟨(hs.2 p.1 ne).trans e,n,ne,nf,d⟩
 .have hfn:X.fn x=true:=by
   rcases hf with z | z
   .exact z
   .rw[z] at hk;cases hk
  obtain⟨c,hc⟩:=I.ok.has x (.inl hk);obtain⟨w',z⟩:=I.cell x c hc;refine wpAny_storeName_cell I.ok.kind hk hc z (fun h' hc' hs=> ?_)
  obtain⟨oc,hoc,hocd⟩:=id z;refine h {s with heap:=h'} ⟨I.ok,I.os,I.bare,⟨fun b o e n hb hx=> ?_,fun b o e n hb hx=> ?_,I.base.free,fun b o e hx=> ?_,I.base.tups,I.base.frzs,I.base.tbls⟩,⟨m,hn.sameBut hs (Ne.symm (cne x c hc)),fun j y v' e1 e2 e3=> ?_⟩,fun y c' e=> ?_,I.free,I.freeC,fun p hp=> ?_,tracked ⟨oc,hoc,I.freeC x c hc⟩ hs,by simpa using I.len⟩ ⟨c,hs,.inr hc⟩
  .exact(hs.2 b (Nat.ne_of_lt (Nat.lt_of_lt_of_le (Heap.lt_size e) (I.ok.cab x c hfn hc)))).trans (I.base.keep b o e n hb hx)
  .obtain⟨sl,e1⟩:=I.base.slot b o e n hb hx;exact⟨sl,(hs.2 b (Nat.ne_of_lt (Nat.lt_of_lt_of_le (Heap.lt_size e) (I.ok.cab x c hfn hc)))).trans e1⟩
  .obtain⟨o',e1⟩:=I.base.there b o e hx;exact⟨o',(hs.2 b (Nat.ne_of_lt (Nat.lt_of_lt_of_le (Heap.lt_size e) (I.ok.cab x c hfn hc)))).trans e1⟩
  .by_cases hj:j=i
   .subst hj;rw[hi] at e1;cases e1;rw[List.getElem?_set_self hiZ] at e2
    cases e2
    exact⟨u,r,.inr ⟨.inl hk,c,hc,hc'⟩⟩
   .rw[List.getElem?_set_ne (Ne.symm hj)] at e2;obtain⟨u',r',q⟩:=hl j y v' e1 e2 e3;refine⟨u',r',?_⟩
    rcases q with q | ⟨k,c',e,z'⟩
    .exact .inl q
    .refine .inr ⟨k,c',e,z'.sameBut hs ?_⟩
     rintro rfl
     exact hj (yh hN e1 (I.ok.inj _ _ _ e hc ▸ hi))
  .by_cases hcc:c'=c
   .subst hcc;exact⟨_,hc'⟩
   .obtain⟨w2,z2⟩:=I.cell y c' e;exact⟨w2,z2.sameBut hs hcc⟩
  .obtain⟨e,n,ne,nf,d⟩:=I.pin p hp;refine⟨(hs.2 p.1 ?_).trans e,n,ne,nf,d⟩
   intro q;rw[q,hoc] at e;have q':oc=p.2:=Option.some.inj e;exact d w' (by rw[<- q'];exact hocd)
theorem zc {M:Model}{A:Around}{E:Value->Shared->Prop}{i:Nat}{x:Str}{v:V}{u:Value}{Q:Unit->Shared->Prop}(I:Inv X pins Z H s) (hN:X.N.Nodup) (hi:X.N[i]? =some x) (hx:Loc X.env.scope x) (r:bp v u)
  (h:∀s',Inv X pins (Z.set i (some v)) H s'->Q () s') (hf:X.fn x=true\/X.env.scope.names.lookup x=some .local:=by first | exact .inl rfl | exact .inr rfl | assumption):wpAny M A (storeName X.env x u) Q E s:=
 wa I hN hi hx r (fun s' I' _=>h s' I') hf
theorem Inv.call' {s':Shared}{ch:List Addr}(I:Inv X pins Z H s) (ho:s'.os=s.os) (u:Un (frs X.stack) ch H H' s.heap s'.heap) (hok:HOk X.prog X.w H' s'.heap) (hg:AllBare s'.gens)
  (hch:∀b∈ch,(b∈X.ex\/X.s₀.heap.objs.size<=b)/\b≠X.env.locals/\(∀ x c,X.env.cells.lookup x=some c->c≠b)/\∀p∈X.pn++pins,p.1≠b):Inv X pins Z H' s':=by
 obtain⟨h',g',d',t',o'⟩:=s';have e:o'=s.os:=ho;subst e;exact I.call (g':=g') (t':=t') (d':=d') u hok hg hch
end
abbrev XK:=Value->Option Addr->Hp->Prop
abbrev St:=List (Option V)
abbrev VK:=V->Hp->Prop
abbrev TE:=St->Hp->VK->Prop
abbrev TT:=St->Hp->(Bool->Hp->Prop)->Prop
abbrev TA:=St->Hp->(List V->Hp->Prop)->Prop
structure tQ where
 nx:St->Hp->Prop
 rt:VK
 bk:St->Hp->Prop:=fun _ _=>False
 ct:St->Hp->Prop:=fun _ _=>False
abbrev TS:=tQ->St->Hp->Prop
def EP (X:Cx) (pins:List (Addr × Obj)) (Z:St) (Q:VK) (u:Value) (s':Shared):Prop:=∃v H',Inv X pins Z H' s'/\bp v u/\Q v H'
def TP (X:Cx) (pins:List (Addr × Obj)) (Z:St) (Q:Bool->Hp->Prop) (b:Bool) (s':Shared):Prop:=∃H',Inv X pins Z H' s'/\Q b H'
def AP (X:Cx) (pins:List (Addr × Obj)) (Z:St) (Q:List V->Hp->Prop) (us:List Value) (s':Shared):Prop:=∃vs H',Inv X pins Z H' s'/\aX vs us/\Q vs H'
def SP (X:Cx) (pins:List (Addr × Obj)) (D:tQ) (f:Flow) (s':Shared):Prop:=
 match f with
 | .next=>∃Z' H',Inv X pins Z' H' s'/\D.nx Z' H'
 | .brk=>∃Z' H',Inv X pins Z' H' s'/\D.bk Z' H'
 | .cont=>∃Z' H',Inv X pins Z' H' s'/\D.ct Z' H'
 | .ret u=>∃v Z' H',Inv X pins Z' H' s'/\bp v u/\D.rt v H'
def PE (X:Cx) (e:Expr) (t:TE):Prop:=
 ∀(pins:List (Addr × Obj)) (s:Shared) (Z:St) (H:Hp) (Q:VK),Inv X pins Z H s->t Z H Q->wpAny (model X.prog X.w) X.A (eval e X.env) (EP X pins Z Q) X.xe s
def PT (X:Cx) (e:Expr) (t:TT):Prop:=
 ∀(pins:List (Addr × Obj)) (s:Shared) (Z:St) (H:Hp) (Q:Bool->Hp->Prop),Inv X pins Z H s->t Z H Q->wpAny (model X.prog X.w) X.A (isTrue e X.env (eval e X.env)) (TP X pins Z Q) X.xe s
def PW (X:Cx) (e:Expr) (t:TT):Prop:=
 ∀(whole:Sem Value) (pins:List (Addr × Obj)) (s:Shared) (Z:St) (H:Hp) (Q:Bool->Hp->Prop),Inv X pins Z H s->t Z H Q->wpAny (model X.prog X.w) X.A (isTrue e X.env whole) (TP X pins Z Q) X.xe s
theorem PW.pt {X:Cx}{e:Expr}{t:TT}(h:PW X e t):PT X e t:=h _
def PA (X:Cx) (es:List Expr) (t:TA):Prop:=
 ∀(pos:Pos) (pins:List (Addr × Obj)) (s:Shared) (Z:St) (H:Hp) (Q:List V->Hp->Prop),Inv X pins Z H s->t Z H Q->wpAny (model X.prog X.w) X.A (spliced (backTo pos (starEach es X.env))) (AP X pins Z Q) X.xe s
def PS (X:Cx) (st:Stmt) (t:TS):Prop:=
 ∀(pins:List (Addr × Obj)) (s:Shared) (Z:St) (H:Hp) (D:tQ),Inv X pins Z H s->t D Z H->wpAny (model X.prog X.w) X.A (exec st X.env) (SP X pins D) X.xe s
def PSs (X:Cx) (st:List Stmt) (t:TS):Prop:=
 ∀(pins:List (Addr × Obj)) (s:Shared) (Z:St) (H:Hp) (D:tQ),Inv X pins Z H s->t D Z H->wpAny (model X.prog X.w) X.A (execs st X.env) (SP X pins D) X.xe s
theorem thn {α:Type}{t:Sem α}{Q Q':α->Shared->Prop}{M:Model}{A:Around}{E:Value->Shared->Prop}{s:Shared}(h:wpAny M A t Q E s) (hQ:∀a s,Q a s->Q' a s):wpAny M A t Q' E s:=wpAny_mono h hQ fun _ _ x=>x
theorem u7 {α β:Type}{p q:α->Shared->β->Prop}{t:Sem α}{Q':α->Shared->Prop}{M:Model}{A:Around}{E:Value->Shared->Prop}{s:Shared}(h:wpAny M A t (fun a s=>∃x,p a s x/\q a s x) E s) (hQ:∀a s x,p a s x->q a s x->Q' a s):wpAny M A t Q' E s:=thn h fun a s h=>Exists.elim h fun x h=>hQ a s x h.1 h.2
theorem HM {α β γ:Type}{p q:α->Shared->β->γ->Prop}{t:Sem α}{Q':α->Shared->Prop}{M:Model}{A:Around}{E:Value->Shared->Prop}{s:Shared}(h:wpAny M A t (fun a s=>∃x y,p a s x y/\q a s x y) E s) (hQ:∀a s x y,p a s x y->q a s x y->Q' a s):wpAny M A t Q' E s:=thn h fun a s h=>Exists.elim h fun x h=>Exists.elim h fun y h=>hQ a s x y h.1 h.2
theorem dj {α β γ:Type}{p r q:α->Shared->β->γ->Prop}{t:Sem α}{Q':α->Shared->Prop}{M:Model}{A:Around}{E:Value->Shared->Prop}{s:Shared}(h:wpAny M A t (fun a s=>∃x y,p a s x y/\r a s x y/\q a s x y) E s) (hQ:∀a s x y,p a s x y->r a s x y->q a s x y->Q' a s):wpAny M A t Q' E s:=thn h fun a s h=>Exists.elim h fun x h=>Exists.elim h fun y h=>hQ a s x y h.1 h.2.1 h.2.2
section
variable {X : Cx}
def Hj (i:Nat):TE:=fun Z H Q=>∃v,Z[i]? =some (some v)/\Q v H
def tC (v:V):TE:=fun _ H Q=>Q v H
theorem GC {i:Nat}{x:Str}{pos:Pos}(hN:X.N[i]? =some x) (hv:Vis X.env.scope x) (hd:(x == ("__debug__":Str))=false:=by decide) (hcd:(x == ("__classdict__":Str))=false:=by decide):PE X (.Name x pos) (Hj i):=by
 intro pins s Z H Q I h;obtain⟨v,e,h⟩:=h;obtain⟨m,hn,hl⟩:=I.loc;obtain⟨u,r,l⟩:=hl i x v hN e hv;have fin:EP X pins Z Q u s:=⟨v,H,I,r,h⟩;rcases l with⟨hk,hm⟩|⟨hk,c,hc,hcell⟩
 .exact wpAny_Name (wpAny_loadName_local I.ok.kind hk hn hm fin) hd
 .rcases hk with hk | hk
  .exact wpAny_Name (wpAny_loadName_cell I.ok.kind hk hc hcell fin) hd
  .exact wpAny_Name (wpAny_loadName_free I.ok.kind hk hc hcell fin hcd) hd
theorem aa {i j pos}:PE X (.Constant (.int i) j pos) (tC (.int i)):=fun _ _ _ H _ I h=>wpAny_Constant_int ⟨.int i,H,I.tok _,⟨_,rfl⟩,h⟩
theorem vj {b j pos}:PE X (.Constant (.bool b) j pos) (tC (.bl b)):=fun _ _ _ H _ I h=>Constant_bool ⟨.bl b,H,I,rfl,h⟩
theorem cQ {j pos}:PE X (.Constant .none j pos) (tC .non):=fun _ _ _ H _ I h=>Constant_none ⟨.non,H,I,rfl,h⟩
theorem au {x j pos}:PE X (.Constant (.str x) j pos) (tC (.str x)):=fun _ _ _ H _ I h=>Calls.Constant_str ⟨.str x,H,I.tok _,⟨_,rfl⟩,h⟩
def Gl (X:Cx) (x:Str):Prop:=X.env.kindOf x=some .globalImplicit
theorem jT {E:Value->Shared->Prop}{pins:List (Addr × Obj)}{s:Shared}{Z:St}{H:Hp}{x:Str}{u:Value}{pos:Pos}{Q:Value->Shared->Prop}(I:Inv X pins Z H s) (hg:Gl X x) (hm:X.mg x=some u) (h:Q u s)
  (hd:(x == ("__debug__":Str))=false:=by decide):wpAny (model X.prog X.w) X.A (eval (.Name x pos) X.env) Q E s:=
 Calls.Name_function_global I.ok.kind hg (Calls.loadGlobal_global (by rw[I.ok.glob];exact I.mod.glob.keeps I.bk) hm h) hd
theorem uu {E:Value->Shared->Prop}{pins:List (Addr × Obj)}{s:Shared}{Z:St}{H:Hp}{x:Str}{u:Value}{pos:Pos}{Q:Value->Shared->Prop}(I:Inv X pins Z H s) (hg:Gl X x) (hm:X.mg x=none) (hv:bootBuiltins x=some u) (h:Q u s)
  (hn:x≠"__name__":=by decide) (hd:(x == ("__debug__":Str))=false:=by decide):wpAny (model X.prog X.w) X.A (eval (.Name x pos) X.env) Q E s:=by
 obtain⟨mb,h1,h2⟩:=I.mod.blt;exact Calls.Name_function_global I.ok.kind hg (Calls.loadGlobal_builtin (by rw[I.ok.glob];exact I.mod.glob.keeps I.bk) hm (by rw[I.ok.blt];exact h1.keeps I.bk) ((h2 x hn).trans hv) h) hd
theorem kB {x:Str}{v:V}{u:Value}{pos:Pos}(hg:Gl X x) (hm:X.mg x=some u) (r:bp v u) (hd:(x == ("__debug__":Str))=false:=by decide):PE X (.Name x pos) (tC v):=
 fun _ _ _ H _ I h=>jT I hg hm ⟨v,H,I,r,h⟩ hd
variable {a b : Expr} {ta tb : TE} {pos : Pos}
def PC (X:Cx) (op:CmpOp) (a b:Expr) (t:TE):Prop:=
 ∀(pins:List (Addr × Obj)) (s:Shared) (Z:St) (H:Hp) (Q:VK),Inv X pins Z H s->t Z H Q->
  wpAny (model X.prog X.w) X.A (eval a X.env) (fun v s₁=>wpAny (model X.prog X.w) X.A (eval b X.env) (fun u s₂=>wpAny (model X.prog X.w) X.A (compareOp op v u) (EP X pins Z Q) X.xe s₂) X.xe s₁) X.xe s
theorem zg (b:Expr) {op:CmpOp}(h:op≠ .In) (h2:op≠ .NotIn):behindInMarks op b=false:=by
 have e1:(op == CmpOp.In)=false:=by cases op <;> first | rfl | exact absurd rfl h
 have e2:(op == CmpOp.NotIn)=false:=by cases op <;> first | rfl | exact absurd rfl h2
 cases b <;> simp [behindInMarks,e1,e2]
def IT (ta:TE):TE:=fun Z H Q=>ta Z H fun x H1=>Q (.bl (decide (x= .non))) H1
def Iu (ta:TE):TE:=fun Z H Q=>ta Z H fun x H1=>Q (.bl (!decide (x= .non))) H1
theorem bp.none_iff {x:V}{v:Value}(r:bp x v):(v == Value.none)=decide (x= .non):=by
 cases x with
 | non=>cases r;rfl
 | bl _=>cases r;rfl
 | int _=>obtain⟨t,rfl⟩:=r;rfl
 | str _=>obtain⟨t,rfl⟩:=r;rfl
 | byt _=>obtain⟨t,rfl⟩:=r;rfl
 | flt _=>obtain⟨t,rfl⟩:=r;rfl
 | ref _=>cases r;rfl
 | ty _=>cases r;rfl
theorem qK {j pos'} (ha:PE X a ta):PC X .Is a (.Constant .none j pos') (IT ta):=by
 intro pins s Z H Q I h;refine dj (ha pins s Z H _ I h) fun v s1 x H1 I1 r1 q1=> ?_
 exact Constant_none (is_none_gen ⟨.bl _,H1,I1,by rw[r1.none_iff];rfl,q1⟩)
theorem sA {j pos'} (ha:PE X a ta):PC X .IsNot a (.Constant .none j pos') (Iu ta):=by
 intro pins s Z H Q I h;refine dj (ha pins s Z H _ I h) fun v s1 x H1 I1 r1 q1=> ?_
 exact Constant_none (isnot_none_gen ⟨.bl _,H1,I1,by rw[r1.none_iff];rfl,q1⟩)
def tB (t:TE):TT:=fun Z H Q=>t Z H fun x H1=>∃c,x= .bl c/\Q c H1
theorem Er {op:CmpOp}{t:TE}(h:PC X op a b t) (h1:behindInMarks op b=false:=by first | exact zg _ (by decide) (by decide) | rfl):PE X (.Compare a [op] [b] pos) t:=fun pins s Z H Q I hw=>wpAny_Compare1 (h pins s Z H Q I hw) h1
theorem mB {op:CmpOp}{t:TE}(h:PC X op a b t) (h1:behindInMarks op b=false:=by first | exact zg _ (by decide) (by decide) | rfl):PT X (.Compare a [op] [b] pos) (tB t):=by
 intro pins s Z H Q I hw;refine wpAny_isTrue_Compare1 (thn (h pins s Z H _ I hw) fun v s1 h1=>thn h1 fun u s2 h2=>thn h2 fun c s3 ⟨x,H1,I1,r1,q1⟩=> ?_) h1
 obtain⟨d,rfl,q⟩:=q1
 cases r1
 exact wpAny_truthy_bool ⟨H1,I1,q⟩
theorem cI {e:Expr}{t:TE}(h:PE X e t) (he:∀whole,isTrue e X.env whole=(do let v <-whole;standAt e.pos;holding [v] (truthy v)):=by intro _;rfl):PT X e (tB t):=by
 intro pins s Z H Q I hw;refine isTrue_plain (dj (h pins s Z H _ I hw) fun v s1 x H1 I1 r1 q1=> ?_) (he _)
 obtain⟨d,rfl,q⟩:=q1
 cases r1
 exact wpAny_truthy_bool ⟨H1,I1,q⟩
variable {tA tB' : TT} {fk : List Expr}
def Jz (t u:TT):TT:=fun Z H Q=>t Z H fun c H1=>if c=true then u Z H1 Q else Q false H1
def tOr (t u:TT):TT:=fun Z H Q=>t Z H fun c H1=>if c=true then Q true H1 else u Z H1 Q
def Ja (t:TT):TT:=fun Z H Q=>t Z H fun c H1=>Q (!c) H1
theorem fr (ha:PT X a tA):PW X (.BoolOp .And [a] pos) tA:=by
 intro wh pins s Z H Q I h;refine isTrue_and (thn (ha pins s Z H Q I h) fun c s1 e=> ?_)
 cases c with
 | true=>exact isTrue_and_nil e
 | false=>exact e
theorem d5 (ha:PT X a tA):PW X (.BoolOp .Or [a] pos) tA:=by
 intro wh pins s Z H Q I h;refine isTrue_or (thn (ha pins s Z H Q I h) fun c s1 e=> ?_)
 cases c with
 | false=>exact isTrue_or_nil e
 | true=>exact e
theorem iy (ha:PT X a tA) (hb:PW X (.BoolOp .And (b::fk) pos) tB'):PW X (.BoolOp .And (a::b::fk) pos) (Jz tA tB'):=by
 intro wh pins s Z H Q I h;refine isTrue_and (u7 (ha pins s Z H _ I h) fun c s1 H1 I1 q1=> ?_)
 cases c with
 | true=>exact hb wh pins s1 Z H1 Q I1 q1
 | false=>exact⟨H1,I1,q1⟩
theorem gk (ha:PT X a tA) (hb:PW X (.BoolOp .Or (b::fk) pos) tB'):PW X (.BoolOp .Or (a::b::fk) pos) (tOr tA tB'):=by
 intro wh pins s Z H Q I h;refine isTrue_or (u7 (ha pins s Z H _ I h) fun c s1 H1 I1 q1=> ?_)
 cases c with
 | true=>exact⟨H1,I1,q1⟩
 | false=>exact hb wh pins s1 Z H1 Q I1 q1
theorem gx (ha:PT X a tA):PT X (.UnaryOp .Not a pos) (Ja tA):=by
 intro pins s Z H Q I h;exact isTrue_not (ha pins s Z H (fun c H1=>Q (!c) H1) I h)
def Hu (ta tb:TE):TE:=fun Z H Q=>ta Z H fun x H1=>∃c,x= .bl c/\if c=true then tb Z H1 Q else Q (.bl false) H1
def IV (ta tb:TE):TE:=fun Z H Q=>ta Z H fun x H1=>∃c,x= .bl c/\if c=true then Q (.bl true) H1 else tb Z H1 Q
theorem iZ {op} {t:TE}(h:PE X a t):PE X (.BoolOp op [a] pos) t:=fun pins s Z H Q I hw=>BoolOp_one (h pins s Z H Q I hw)
theorem En (ha:PE X a ta) (hb:PE X (.BoolOp .And (b::fk) pos) tb):PE X (.BoolOp .And (a::b::fk) pos) (Hu ta tb):=by
 intro pins s Z H Q I h;refine BoolOp_and (dj (ha pins s Z H _ I h) fun v s1 x H1 I1 r1 q1=> ?_)
 obtain⟨c,rfl,q1⟩:=q1
 cases r1
 refine wpAny_truthy_bool ?_
 cases c with
 | true=>exact hb pins s1 Z H1 Q I1 q1
 | false=>exact⟨.bl false,H1,I1,rfl,q1⟩
theorem pH (ha:PE X a ta) (hb:PE X (.BoolOp .Or (b::fk) pos) tb):PE X (.BoolOp .Or (a::b::fk) pos) (IV ta tb):=by
 intro pins s Z H Q I h;refine BoolOp_or (dj (ha pins s Z H _ I h) fun v s1 x H1 I1 r1 q1=> ?_)
 obtain⟨c,rfl,q1⟩:=q1
 cases r1
 refine wpAny_truthy_bool ?_
 cases c with
 | false=>exact hb pins s1 Z H1 Q I1 q1
 | true=>exact⟨.bl true,H1,I1,rfl,q1⟩
def tIf (t:TT) (ta tb:TE):TE:=fun Z H Q=>t Z H fun c H1=>if c=true then ta Z H1 Q else tb Z H1 Q
theorem x9 {c:Expr}(hc:PT X c tA) (ha:PE X a ta) (hb:PE X b tb):PE X (.IfExp c a b pos) (tIf tA ta tb):=by
 intro pins s Z H Q I h;refine wpAny_IfExp (u7 (hc pins s Z H _ I h) fun d s1 H1 I1 q1=> ?_)
 cases d with
 | true=>exact ha pins s1 Z H1 Q I1 q1
 | false=>exact hb pins s1 Z H1 Q I1 q1
end
def SqL (K:Frag) (H:Hp) (a:Addr) (xs:List V):Prop:=
 Rd H a (.lst xs)\/
  ∃(o:Obj) (its:Array Value) (n:Nat),K.lookup a=some o/\o.cls= .type "list"/\o.dict=none/\o.data= .seq its n/\its.size<=sizeLine/\aX xs its.toList
def SqT (K:Frag) (H:Hp) (a:Addr) (xs:List V):Prop:=
 Rd H a (.tup xs)\/
  ∃(o:Obj) (its:Array Value) (n:Nat),K.lookup a=some o/\o.cls= .type "tuple"/\o.data= .seq its n/\its.size<=sizeLine/\aX xs its.toList
def Ji:Value->Option V
 | .none=>some .non
 | .bool b=>some (.bl b)
 | .int i _=>some (.int i)
 | .str x _=>some (.str x)
 | .bytes b _=>some (.byt b)
 | .float b _=>some (.flt b)
 | .ref a=>some (.ref a)
 | .type n=>some (.ty n)
 | _=>none
theorem bp.abs {x:V}{u:Value}(r:bp x u):Ji u=some x:=by
 cases x with
 | non=>cases r;rfl
 | bl _=>cases r;rfl
 | int _=>obtain⟨t,rfl⟩:=r;rfl
 | str _=>obtain⟨t,rfl⟩:=r;rfl
 | byt _=>obtain⟨t,rfl⟩:=r;rfl
 | flt _=>obtain⟨t,rfl⟩:=r;rfl
 | ref _=>cases r;rfl
 | ty _=>cases r;rfl
theorem bp.inj {x y:V}{u:Value}(r:bp x u) (q:bp y u):x=y:=Option.some.inj (r.abs.symm.trans q.abs)
theorem aX.inj:∀ {xs ys:List V}{us:List Value},aX xs us->aX ys us->xs=ys
 | _,_,_,.nil,.nil=>rfl
 | _,_,_,.cons r t,.cons r' t'=>by rw[r.inj r',aX.inj t t']
section
variable {X : Cx} {pins : List (Addr × Obj)} {σ : St} {H : Hp} {s : Shared} {a : Addr} {xs ys : List V}
theorem SqL.of {K:Frag}(h:H a=some (.lst xs)):SqL K H a xs:= .inl (.inl h)
theorem SqT.of {K:Frag}(h:H a=some (.tup xs)):SqT K H a xs:= .inl (.inl h)
theorem Inv.list (I:Inv X pins Z H s) (h:SqL X.K H a xs):∃its:List Value,aX xs its/\PlainL s.heap a its.toArray/\xs.length<=sizeLine:=by
 rcases h with h | ⟨o,its,n,hk,hc,hd,hs,hz,r⟩
 .obtain⟨z,its,n,r,e⟩:=h.ok I.hok;exact⟨its,r,⟨_,n,e,rfl,rfl,rfl⟩,z⟩
 .refine⟨its.toList,r,⟨o,n,I.kIn a o hk,hc,hd,by simpa using hs⟩,?_⟩
  have e:=r.length
  simp only[Array.length_toList] at e
  lia
theorem Inv.tuple (I:Inv X pins Z H s) (h:SqT X.K H a xs):∃its:List Value,aX xs its/\IsTup s.heap a its.toArray/\xs.length<=sizeLine:=by
 rcases h with h | ⟨o,its,n,hk,hc,hs,hz,r⟩
 .obtain⟨z,its,r,p⟩:=h.ok I.hok;exact⟨its,r,p,z⟩
 .refine⟨its.toList,r,⟨o,I.kIn a o hk,hc,n,by simpa using hs⟩,?_⟩
  have e:=r.length
  simp only[Array.length_toList] at e
  lia
theorem Inv.list_inj (I:Inv X pins Z H s) (h:SqL X.K H a xs) (h':SqL X.K H a ys):xs=ys:=by
 obtain⟨its,r,⟨o,n,e,_,_,d⟩,_⟩:=I.list h;obtain⟨its',r',⟨o',n',e',_,_,d'⟩,_⟩:=I.list h';rw[e] at e';cases e';rw[d] at d'
 injection d' with d1 _
 have:its=its':=by simpa using congrArg Array.toList d1
 subst this;exact r.inj r'
theorem Inv.tuple_inj (I:Inv X pins Z H s) (h:SqT X.K H a xs) (h':SqT X.K H a ys):xs=ys:=by
 obtain⟨its,r,⟨o,e,_,n,d⟩,_⟩:=I.tuple h;obtain⟨its',r',⟨o',e',_,n',d'⟩,_⟩:=I.tuple h';rw[e] at e';cases e';rw[d] at d'
 injection d' with d1 _
 have:its=its':=by simpa using congrArg Array.toList d1
 subst this;exact r.inj r'
end
abbrev Cx.wish (X:Cx) (E:Value->Shared->Prop):Cx:={X with xe:=E}
abbrev Cx.nox (X:Cx):Cx:=X.wish fun _ _=>False
theorem Cx.Ok.wish {X:Cx}(ok:X.Ok) (E:Value->Shared->Prop):(X.wish E).Ok:=
 ⟨ok.mod,ok.kind,ok.glob,ok.blt,ok.above,ok.inj,ok.has,ok.cab,ok.hd,ok.frames,ok.stk,ok.exf,ok.bs,ok.bsz,ok.noex,ok.exfs,ok.funs,ok.frf⟩
theorem Cx.Ok.unwish {X:Cx}{E:Value->Shared->Prop}(ok:(X.wish E).Ok):X.Ok:=
 ⟨ok.mod,ok.kind,ok.glob,ok.blt,ok.above,ok.inj,ok.has,ok.cab,ok.hd,ok.frames,ok.stk,ok.exf,ok.bs,ok.bsz,ok.noex,ok.exfs,ok.funs,ok.frf⟩
section
variable {X : Cx} {pins : List (Addr × Obj)} {σ : St} {H : Hp} {s : Shared} {E : Value → Shared → Prop}
theorem Inv.wish (I:Inv X pins Z H s) (E:Value->Shared->Prop):Inv (X.wish E) pins Z H s:=⟨I.ok.wish E,I.os,I.bare,I.base,I.loc,I.cell,I.free,I.freeC,I.pin,I.hok,I.len⟩
theorem Inv.unwish (I:Inv (X.wish E) pins Z H s):Inv X pins Z H s:=⟨I.ok.unwish,I.os,I.bare,I.base,I.loc,I.cell,I.free,I.freeC,I.pin,I.hok,I.len⟩
theorem SP.unwish {D:tQ}{f:Flow}{s':Shared}(h:SP (X.wish E) pins D f s'):SP X pins D f s':=by
 cases f with
 | next=>obtain⟨Z',H',I,q⟩:=h;exact⟨Z',H',I.unwish,q⟩
 | brk=>obtain⟨Z',H',I,q⟩:=h;exact⟨Z',H',I.unwish,q⟩
 | cont=>obtain⟨Z',H',I,q⟩:=h;exact⟨Z',H',I.unwish,q⟩
 | ret u=>obtain⟨v,Z',H',I,r,q⟩:=h;exact⟨v,Z',H',I.unwish,r,q⟩
theorem PE.nox {e:Expr}{t:TE}(h:PE X.nox e t):PE X e t:=fun pins s Z H Q I hw=>
 wpAny_mono (h pins s Z H Q (I.wish _) hw) (fun _ _ ⟨v,H',I',r,q⟩=>⟨v,H',I'.unwish,r,q⟩) fun _ _ z=>False.elim z
theorem PSs.nox {st:List Stmt}{t:TS}(h:PSs X.nox st t):PSs X st t:=fun pins s Z H D I hw=>
 wpAny_mono (h pins s Z H D (I.wish _) hw) (fun _ _ q=>q.unwish) fun _ _ z=>False.elim z
end
section
variable {X : Cx} {st : Stmt} {fk : List Stmt} {t u : TS} {e : Expr} {te : TE} {pos : Pos}
def II:TS:=fun D Z H=>D.nx Z H
def HY (t u:TS):TS:=fun D Z H=>t {D with nx:=u D} Z H
theorem al:PSs X [] II:=fun _ _ Z H _ I h=>wpAny_execs_nil ⟨Z,H,I,h⟩
theorem ac (h1:PS X st t) (h2:PSs X fk u):PSs X (st::fk) (HY t u):=by
 intro pins s Z H D I h;refine wpAny_execs_cons (thn (h1 pins s Z H {D with nx:=u D} I h) fun f s1 q=> ?_)
 cases f with
 | next=>
  obtain⟨Z',H',I',q⟩:=q;exact h2 pins s1 Z' H' D I' q
 | ret v=>exact q
 | brk=>exact q
 | cont=>exact q
theorem ae (h1:PS X st t):PSs X [st] t:=by
 intro pins s Z H D I h;refine wpAny_execs_cons (thn (h1 pins s Z H D I h) fun f s1 q=> ?_)
 cases f with
 | next=>exact wpAny_execs_nil q
 | ret v=>exact q
 | brk=>exact q
 | cont=>exact q
theorem Inv.quiet {pins:List (Addr × Obj)}{Z:St}{H:Hp}{s:Shared}(I:Inv X pins Z H s):interactive X.env=false:=by simp [interactive,I.ok.kind]
def HI (te:TE):TS:=fun D Z H=>te Z H fun _ H1=>D.nx Z H1
theorem bj (he:PE X e te) (hs:swapsWith e none pos.line X.env=pure false:=by rfl):PS X (.Expr e pos) (HI te):=by
 intro pins s Z H D I h;exact wpAny_Expr_any (dj (he pins s Z H _ I h) fun v s1 x H1 I1 r1 q1=>⟨Z,H1,I1,q1⟩) I.quiet hs
def Js (te:TE):TS:=fun D Z H=>te Z H D.rt
theorem ah (he:PE X e te):PS X (.Return (some e) pos) (Js te):=by
 intro pins s Z H D I h;exact wpAny_Return_some (dj (he pins s Z H _ I h) fun v s1 x H1 I1 r1 q1=>⟨x,Z,H1,I1,r1,q1⟩)
def IQ (c:TT) (t u:TS):TS:=fun D Z H=>c Z H fun b H1=>if b=true then t D Z H1 else u D Z H1
theorem ax {c:Expr}{a b:List Stmt}{tc:TT}(hc:PT X c tc) (ha:PSs X a t) (hb:PSs X b u):PS X (.If c a b pos) (IQ tc t u):=by
 intro pins s Z H D I h;refine wpAny_If (u7 (hc pins s Z H _ I h) fun d s1 H1 I1 q1=> ?_)
 cases d with
 | true=>exact ha pins s1 Z H1 D I1 q1
 | false=>exact hb pins s1 Z H1 D I1 q1
def GB:TS:=fun _ _ _=>False
theorem pI:PS X st GB:=fun _ _ _ _ _ _ h=>h.elim
end
abbrev TG:=V->St->Hp->(St->Hp->Prop)->Prop
abbrev TGs:=List V->St->Hp->(St->Hp->Prop)->Prop
def PG (X:Cx) (target:Expr) (t:TG):Prop:=
 ∀(pins:List (Addr × Obj)) (s:Shared) (Z:St) (H:Hp) (v:V) (u:Value) (Q:St->Hp->Prop),Inv X pins Z H s->bp v u->t v Z H Q->
  wpAny (model X.prog X.w) X.A (assign target X.env u) (fun _ s'=>∃Z' H',Inv X pins Z' H' s'/\Q Z' H') X.xe s
def PGs (X:Cx) (ts:List Expr) (t:TGs):Prop:=
 ∀(pins:List (Addr × Obj)) (s:Shared) (Z:St) (H:Hp) (vs:List V) (us:List Value) (Q:St->Hp->Prop),Inv X pins Z H s->aX vs us->t vs Z H Q->
  wpAny (model X.prog X.w) X.A (assignInOrder ((assignEach ts X.env).map (·.2)) us) (fun _ s'=>∃Z' H',Inv X pins Z' H' s'/\Q Z' H') X.xe s
abbrev Hs:=V->V->V->Hp->(Hp->Prop)->Prop
def Ic (X:Cx) (t:Hs):Prop:=
 ∀(pins:List (Addr × Obj)) (s:Shared) (Z:St) (H:Hp) (o i v:V) (ov iv u:Value) (Q:Hp->Prop),Inv X pins Z H s->bp o ov->bp i iv->bp v u->t o i v H Q->
  wpAny (model X.prog X.w) X.A (setItem ov iv u) (fun _ s'=>∃H',Inv X pins Z H' s'/\Q H') X.xe s
section
variable {X : Cx} {pos : Pos}
def zd (i:Nat):TG:=fun v Z H Q=>Q (Z.set i (some v)) H
theorem aP {i:Nat}{x:Str}(hN:X.N.Nodup) (hi:X.N[i]? =some x) (hx:Loc X.env.scope x) (hf:X.fn x=true\/X.env.scope.names.lookup x=some .local:=by first | exact .inl rfl | exact .inr rfl | assumption):PG X (.Name x pos) (zd i):=by
 intro pins s Z H v u Q I r h;exact wpAny_assign_Name (zc I hN hi hx r (fun s' I'=>⟨_,H,I',h⟩) hf)
def IS:TGs:=fun vs Z H Q=>vs=[]/\Q Z H
def IH (t:TG) (u:TGs):TGs:=fun vs Z H Q=>∃v r,vs=v::r/\t v Z H fun Z' H'=>u r Z' H' Q
theorem iL:PGs X [] IS:=by
 intro pins s Z H vs us Q I r h;obtain⟨e,h⟩:=h;subst e
 cases r
 exact assignInOrder_nil ⟨Z,H,I,h⟩
theorem bQ {e:Expr}{es:List Expr}{t:TG}{u:TGs}(h1:PG X e t) (h2:PGs X es u)
  (hs:(assignEach (e::es) X.env).map (·.2)=assign e X.env::(assignEach es X.env).map (·.2):=by rfl):PGs X (e::es) (IH t u):=by
 intro pins s Z H vs us Q I r h;obtain⟨v,vr,e1,h⟩:=h;subst e1
 cases r with
 | cons r rr=>
  rw[hs];refine assignInOrder_cons (HM (h1 pins s Z H _ _ _ I r h) fun _ s1 Z1 H1 I1 q1=> ?_)
  exact h2 pins s1 Z1 H1 _ _ Q I1 rr q1
def Jj (K:Frag) (n:Nat) (t:TGs):TG:=fun v Z H Q=>∃a xs,v= .ref a/\SqT K H a xs/\xs.length=n/\t xs Z H Q
theorem lL {es:List Expr}{k:Nat}{t:TGs}{n:Nat}(hc:X.calm=true) (h:PGs X es t)
  (hn:(assignEach es X.env).length=n:=by rfl) (hst:(assignEach es X.env).findIdx? (·.1)=none:=by rfl):PG X (.Tuple es k pos) (Jj X.K n t):=by
 intro pins s Z H v u Q I r hw;obtain⟨a,xs,e1,hq,hl,hw⟩:=hw;subst e1
 cases r
 obtain⟨its,rv,ht,hz⟩:=I.tuple hq;refine assign_Tuple_tuple (I.ok.hd hc) ht (by simp [hn, <-hl,rv.length]) hst fun h' hx=> ?_
 have I1:Inv X pins Z H {s with heap:=h'}:=I.kept (t':=s.toks) fun b o e=>hx b o (Nat.ne_of_lt (Heap.lt_size e)) e
 exact h pins _ Z H xs _ Q I1 (by simpa using rv) hw
def Jf (to ti:TE) (t:Hs):TG:=fun v Z H Q=>to Z H fun o H1=>ti Z H1 fun i H2=>t o i v H2 fun H3=>Q Z H3
theorem Dp {o i:Expr}{to ti:TE}{t:Hs}(ho:PE X o to) (hi:PE X i ti) (hs:Ic X t)
  (ha:∀v,assign (.Subscript o i pos) X.env v=(do
   let ov <-holding [v] (eval o X.env)
   let iv <-holding [v,ov] (eval i X.env)
   standAt pos
   holding [v,ov,iv] (setItem ov iv v)
   release [v,ov,iv] []):=by intro _;rfl):PG X (.Subscript o i pos) (Jf to ti t):=by
 intro pins s Z H v u Q I r h;rw[ha];refine wpAny_bind (wpAny_holding (dj (ho pins s Z H _ I h) fun ov s1 x H1 I1 r1 q1=> ?_))
 refine wpAny_bind (wpAny_holding (dj (hi pins s1 Z H1 _ I1 q1) fun iv s2 y H2 I2 r2 q2=> ?_))
 refine wpAny_bind (wpAny_standAt (wpAny_bind (wpAny_holding (u7 (hs pins s2 Z H2 x y v ov iv u _ I2 r1 r2 r q2) fun _ s3 H3 I3 q3=> ?_))))
 exact wpAny_release ⟨Z,H3,I3,q3⟩
def Fb (te:TE) (g:TG):TS:=fun D Z H=>te Z H fun x H1=>g x Z H1 D.nx
theorem tG {tg e:Expr}{te:TE}{g:TG}(he:PE X e te) (hg:PG X tg g) (hs:swapsWithSole [tg] e pos.line X.env=pure false:=by rfl) (hw:swappedStores [tg] e X.env=pure none:=by rfl)
  (h1:(assignEach [tg] X.env).map (·.2)=[assign tg X.env]:=by rfl):PS X (.Assign [tg] e pos) (Fb te g):=by
 intro pins s Z H D I h;refine wpAny_Assign_stores (dj (he pins s Z H _ I h) fun v s1 x H1 I1 r1 q1=> ?_) hs hw
 rw[h1];exact thn (hg pins s1 Z H1 x v _ I1 r1 q1) fun _ s2 q=>q
theorem Ha {i:Nat}{x:Str}{e:Expr}{te:TE}{pos':Pos}(hN:X.N.Nodup) (hi:X.N[i]? =some x) (hx:Loc X.env.scope x) (he:PE X e te) (hs:swapsWith e (some (.Name x pos')) pos.line X.env=pure false:=by rfl) (hf:X.fn x=true\/X.env.scope.names.lookup x=some .local:=by first | exact .inl rfl | exact .inr rfl | assumption):
  PS X (.Assign [.Name x pos'] e pos) (Fb te (zd i)):=by
 intro pins s Z H D I h;refine wpAny_Assign_Name (dj (he pins s Z H _ I h) fun v s1 y H1 I1 r1 q1=> ?_) hs
 exact zc I1 hN hi hx r1 (fun s2 I2=>⟨_,H1,I2,q1⟩) hf
end
section
variable {X : Cx} {pos : Pos}
def G_ (c:TT) (tb:TS):TS:=fun D Z H=>∃W:Nat->St->Hp->Prop,(∃ m,W m Z H)/\∀m Z H,W m Z H->
 c Z H fun b H1=>if b=true then ∃N:St->Hp->Prop,(∀ Z' H',N Z' H'->∃m',m' < m/\W m' Z' H')/\tb {D with nx:=N,ct:=N,bk:=D.nx} Z H1 else D.nx Z H1
theorem gW {c:Expr}{body:List Stmt}{tc:TT}{tb:TS}(hp:PassesOwn (model X.prog X.w) X.A X.env X.xe) (hc:PT X c tc) (hb:PSs X body tb):PS X (.While c body [] pos) (G_ tc tb):=by
 intro pins s Z H D I h;obtain⟨W,⟨m0,w0⟩,turn⟩:=h;refine wpAny_While (codeAny_whileLoop (fun n s'=>∃Z' H',Inv X pins Z' H' s'/\W n Z' H') ?_ m0 ⟨Z,H,I,w0⟩)
 rintro n s1 ⟨Z1,H1,I1,w1⟩
 refine wpAny_passesOwn hp (u7 (hc pins s1 Z1 H1 _ I1 (turn n Z1 H1 w1)) fun b s2 H2 I2 q2=> ?_)
 cases b with
 | true=>
  obtain⟨N,hN,q2⟩:=q2;rw[if_pos rfl];refine wpAny_passesOwn hp (thn (hb pins s2 Z1 H2 _ I2 q2) fun f s3 q3=> ?_)
  cases f with
  | next=>
   obtain⟨Z3,H3,I3,n3⟩:=q3;obtain⟨m',hm,w3⟩:=hN Z3 H3 n3;exact⟨m',hm,Z3,H3,I3,w3⟩
  | cont=>
   obtain⟨Z3,H3,I3,n3⟩:=q3;obtain⟨m',hm,w3⟩:=hN Z3 H3 n3;exact⟨m',hm,Z3,H3,I3,w3⟩
  | brk=>exact q3
  | ret v=>exact q3
 | false=>
  rw[if_neg Bool.false_ne_true];exact wpAny_execs_nil ⟨Z1,H2,I2,q2⟩
end
structure It where
 go:Nat->Hp->Prop
 yld:Nat->Hp->V->Hp->Prop
 stop:Nat->Hp->Prop
def nK (X:Cx) (pins:List (Addr × Obj)) (H:Hp) (b:Addr):Prop:=
 H b=none/\b≠X.env.locals/\b ∉ X.fs/\(b∈X.ex\/X.s₀.heap.objs.size<=b)/\(∀ x c,X.env.cells.lookup x=some c->c≠b)/\∀p∈X.pn++pins,p.1≠b
theorem Inv.fpOk {X:Cx}{pins:List (Addr × Obj)}{Z:St}{H H':Hp}{s:Shared}{b:Addr}(I:Inv X pins Z H s) (hb:s.heap.objs.size<=b) (hn:H' b=none):nK X pins H' b:=by
 refine⟨hn,Nat.ne_of_gt (Nat.lt_of_lt_of_le I.lt hb),I.nofs hb,.inr (Nat.le_trans I.sz hb),fun x c e z=> ?_,fun p hp z=> ?_⟩
 .obtain⟨v,q⟩:=I.cell x c e;exact absurd (Nat.lt_of_lt_of_le q.lt (by rw[z];exact hb)) (Nat.lt_irrefl _)
 .exact absurd (Nat.lt_of_lt_of_le (Heap.lt_size (I.pin p hp).1) (by rw[z];exact hb)) (Nat.lt_irrefl _)
structure yx (P:Program) (w:World) (K:Frag) (tg:Expr) (J:It) (fp:List Addr) (it:Addr) (tn:Nat->Heap->Prop):Prop where
 mem:it∈fp
 obj:∀i h,tn i h->∀b∈fp, ∃o,h.get? b=some o/\∀v,o.data≠ .cell v
 keep:∀i h h',tn i h->(∀ b∈fp, ∀o,h.get? b=some o->h'.get? b=some o)->tn i h'
 item:∀(X:Cx),X.prog=P->X.w=w->X.K=K->X.calm=true->∀(i:Nat) (pins:List (Addr × Obj)) (s:Shared) (Z:St) (H:Hp) (E:Value->Shared->Prop),Inv X pins Z H s->(∀ b∈fp,nK X pins H b)->tn i s.heap->J.go i H->
  wpAny (model P w) X.A (pyNext (.ref it)) (fun r s1=>∃u,r=some u/\
   wpAny (model P w) X.A (letOwnedTupleGo tg (.ref it) u) (fun _ s2=>∃x H',Inv X pins Z H' s2/\bp x u/\J.yld i H x H'/\tn (i+1) s2.heap/\∀b∈fp,H' b=none) E s1) E s
 done:∀(X:Cx),X.prog=P->X.w=w->X.K=K->X.calm=true->∀(i:Nat) (pins:List (Addr × Obj)) (s:Shared) (Z:St) (H:Hp) (E:Value->Shared->Prop),Inv X pins Z H s->(∀ b∈fp,nK X pins H b)->tn i s.heap->J.stop i H->
  wpAny (model P w) X.A (pyNext (.ref it)) (fun r s1=>r=none/\Inv X pins Z H s1) E s
 self:∀(A:Around) (i:Nat) (s:Shared) (Q:Value->Shared->Prop) (E:Value->Shared->Prop),tn i s.heap->Q (.ref it) s->wpAny (model P w) A (pyIter (.ref it)) Q E s
abbrev TI:=St->Hp->(It->Hp->Prop)->Prop
def PIE (X:Cx) (pins:List (Addr × Obj)) (Z:St) (tg:Expr) (R:It->Hp->Prop) (itv:Value) (s2:Shared):Prop:=
 ∃(it:Addr) (fp:List Addr) (tn:Nat->Heap->Prop) (J:It) (H':Hp),itv= .ref it/\Inv X pins Z H' s2/\yx X.prog X.w X.K tg J fp it tn/\tn 0 s2.heap/\(∀ b∈fp,nK X pins H' b)/\R J H'
def PI (X:Cx) (tg iter:Expr) (wi:TI):Prop:=
 ∀(pins:List (Addr × Obj)) (s:Shared) (Z:St) (H:Hp) (R:It->Hp->Prop),Inv X pins Z H s->wi Z H R->
  wpAny (model X.prog X.w) X.A (eval iter X.env) (fun v s1=>wpAny (model X.prog X.w) X.A (pyIter v) (PIE X pins Z tg R) X.xe s1) X.xe s
theorem Ej {M : Model}{A : Around}{E : Value → Shared → Prop}{s : Shared}{tg : Expr}{it : Addr}{u : Value}{o : Obj}{n : String}{vs : Array Value}{Q : Unit → Shared → Prop}(ho : s.heap.get? it = some o) (hc : o.cls = .type n) (hd : o.data = .fields vs)
    (hn : ["enumerate", "zip", "dict_itemiterator", "dict_reverseitemiterator", "odict_iterator", "itertools.zip_longest", "itertools.pairwise"].contains n = false) (hQ : Q () s) : wpAny M A (letOwnedTupleGo tg (.ref it) u) Q E s := by
  unfold letOwnedTupleGo
  cases tg <;> first
    | exact wpAny_pure hQ
    | (cases u <;> first
        | exact wpAny_pure hQ
        | (refine wpAny_bind (wpAny_load ho ?_)
           rw[hc, hd]
           show wpAny M A (if (["enumerate", "zip", "dict_itemiterator", "dict_reverseitemiterator", "odict_iterator", "itertools.zip_longest", "itertools.pairwise"].contains n && vs[0]? == some (rawInt _)) = true then _ else _) Q E s
           rw[if_neg (by intro h; rw[hn, Bool.false_and] at h; cases h)]
           exact wpAny_pure hQ))
def Itl (K:Frag) (a:Addr):It:=
 ⟨fun i H=>∃xs x,SqL K H a xs/\xs[i]? =some x,fun i H x H'=>H'=H/\∀xs,SqL K H a xs->xs[i]? =some x,fun i H=>∃xs,SqL K H a xs/\xs.length<=i⟩
def Itt (K:Frag) (a:Addr):It:=
 ⟨fun i H=>∃xs x,SqT K H a xs/\xs[i]? =some x,fun i H x H'=>H'=H/\∀xs,SqT K H a xs->xs[i]? =some x,fun i H=>∃xs,SqT K H a xs/\xs.length<=i⟩
def Itr (lo:Int) (n:Nat):It:=⟨fun i _=>i < n,fun i H x H'=>H'=H/\x= .int (lo+i),fun i _=>n<=i⟩
theorem Cj {P:Program}{w:World}{K:Frag}{tg:Expr}(a it:Addr):yx P w K tg (Itl K a) [it] it (fun i h=>h.IsListIter it a i) where
 mem:=by simp
 obj:=fun i h st b hb=>by
  have e:b=it:=by simpa using hb
  subst e;obtain⟨o,e,c,d⟩:=st;exact⟨o,e,fun v z=>by rw[d] at z;cases z⟩
 keep:=fun i h h' st k=>st.at fun o e=>k it (by simp) o e
 item:=by
  intro X hP hw hK hc i pins s Z H E I hf st hg;subst hP hw hK;obtain⟨xs,x,hq,hx⟩:=hg;obtain⟨its,rv,p,hz⟩:=I.list hq;obtain⟨u,hu,ru⟩:=rv.get hx;obtain⟨f0,f1,f2,f3,f4,f5⟩:=hf it (by simp)
  refine wpAny_pyNext_list_item st p.isList (x:=u) (by simpa using hu) fun h' st' sb=> ?_
  have I1:Inv X pins Z H {s with heap:=h'}:=I.turned (t':=s.toks) (fun b o hb e=>(sb.2 b hb).trans e) f0 f1 f3 f4 f5
  obtain⟨o,e,c,d⟩:=id st';exact⟨u,rfl,Ej (s:={s with heap:=h'}) e c d (by decide) ⟨x,H,I1,ru,⟨rfl,fun ys hy=>by rw[I.list_inj hy hq];exact hx⟩,st',fun b hb=>(hf b hb).1⟩⟩
 done:=by
  intro X hP hw hK hc i pins s Z H E I hf st hg;subst hP hw hK;obtain⟨xs,hq,hx⟩:=hg;obtain⟨its,rv,p,hz⟩:=I.list hq;obtain⟨f0,f1,f2,f3,f4,f5⟩:=hf it (by simp)
  have hl:=rv.length;exact wpAny_pyNext_list_end (I.ok.hd hc) st p.isList (by simp;lia) fun h' eb=>⟨rfl,I.turned (t':=s.toks) (fun b o hb e=>eb b o hb e) f0 f1 f3 f4 f5⟩
 self:=fun _ _ _ _ _ st h=>wpAny_pyIter_listiter st h
theorem As {P:Program}{w:World}{K:Frag}{tg:Expr}(a it:Addr):yx P w K tg (Itt K a) [it] it (fun i h=>h.IsTupleIter it a i) where
 mem:=by simp
 obj:=fun i h st b hb=>by
  have e:b=it:=by simpa using hb
  subst e;obtain⟨o,e,c,d⟩:=st;exact⟨o,e,fun v z=>by rw[d] at z;cases z⟩
 keep:=fun i h h' st k=>st.at fun o e=>k it (by simp) o e
 item:=by
  intro X hP hw hK hc i pins s Z H E I hf st hg;subst hP hw hK;obtain⟨xs,x,hq,hx⟩:=hg;obtain⟨its,rv,p,hz⟩:=I.tuple hq;obtain⟨u,hu,ru⟩:=rv.get hx;obtain⟨f0,f1,f2,f3,f4,f5⟩:=hf it (by simp)
  refine wpAny_pyNext_tuple_item st (show s.heap.IsTuple a its.toArray from p) (x:=u) (by simpa using hu) fun h' st' sb=> ?_
  have I1:Inv X pins Z H {s with heap:=h'}:=I.turned (t':=s.toks) (fun b o hb e=>(sb.2 b hb).trans e) f0 f1 f3 f4 f5
  obtain⟨o,e,c,d⟩:=id st';exact⟨u,rfl,Ej (s:={s with heap:=h'}) e c d (by decide) ⟨x,H,I1,ru,⟨rfl,fun ys hy=>by rw[I.tuple_inj hy hq];exact hx⟩,st',fun b hb=>(hf b hb).1⟩⟩
 done:=by
  intro X hP hw hK hc i pins s Z H E I hf st hg;subst hP hw hK;obtain⟨xs,hq,hx⟩:=hg;obtain⟨its,rv,p,hz⟩:=I.tuple hq;obtain⟨f0,f1,f2,f3,f4,f5⟩:=hf it (by simp)
  have hl:=rv.length;exact wpAny_pyNext_tuple_end (I.ok.hd hc) st (show s.heap.IsTuple a its.toArray from p) (by simp;lia) fun h' eb=>⟨rfl,I.turned (t':=s.toks) (fun b o hb e=>eb b o hb e) f0 f1 f3 f4 f5⟩
 self:=fun _ _ _ _ _ st h=>wpAny_pyIter_tupleiter st h
theorem AT {P:Program}{w:World}{K:Frag}{tg:Expr}(it:Addr) (lo:Int) (n:Nat):yx P w K tg (Itr lo n) [it] it (fun i h=>IsRangeIter h it (lo+(i:Nat)*1) ((n:Int) - (i:Nat)) 1) where
 mem:=by simp
 obj:=fun i h st b hb=>by
  have e:b=it:=by simpa using hb
  subst e
  exact⟨_,st,fun v z=>by
   have z':Data.fields _=Data.cell v:=z
   cases z'⟩
 keep:=fun i h h' st k=>k it (by simp) _ st
 item:=by
  intro X hP hw hK hc i pins s Z H E I hf st hg;subst hP hw hK;obtain⟨f0,f1,f2,f3,f4,f5⟩:=hf it (by simp)
  have W:=Walks.range (prog:=X.prog) (w:=X.w) (I.ok.hd hc) it lo 1 n;refine W.item i s _ _ hg st fun v h' tk hv st' kk=> ?_
  obtain⟨t,rfl⟩:=hv;have I1:Inv X pins Z H {s with heap:=h',toks:=tk}:=I.turned (fun b o hb e=>kk b o (by simpa using hb) e) f0 f1 f3 f4 f5
  refine⟨_,rfl,Ej (s:={s with heap:=h',toks:=tk}) (n:="range_iterator") st' rfl rfl (by decide) ⟨.int (lo+i),H,I1,⟨t,?_⟩,⟨rfl,rfl⟩,st',fun b hb=>(hf b hb).1⟩⟩
  rw[Int.mul_one]
 done:=by
  intro X hP hw hK hc i pins s Z H E I hf st hg;subst hP hw hK;obtain⟨f0,f1,f2,f3,f4,f5⟩:=hf it (by simp)
  exact wpAny_pyNext_range_end (I.ok.hd hc) st (by have:n<=i:=hg;lia) fun h' eb=>⟨rfl,I.turned (t':=s.toks) (fun b o hb e=>eb b o hb e) f0 f1 f3 f4 f5⟩
 self:=fun _ _ _ _ _ st h=>wpAny_pyIter_rangeiter st h
section
variable {X : Cx} {tg : Expr}
def Ie (K:Frag) (tl:TE):TI:=fun Z H R=>tl Z H fun x H1=>∃a,x= .ref a/\(∃ xs,SqL K H1 a xs)/\R (Itl K a) H1
def Jq (K:Frag) (tl:TE):TI:=fun Z H R=>tl Z H fun x H1=>∃a,x= .ref a/\(∃ xs,SqT K H1 a xs)/\R (Itt K a) H1
theorem pi {l:Expr}{tl:TE}(hl:PE X l tl):PI X tg l (Ie X.K tl):=by
 intro pins s Z H R I h;refine dj (hl pins s Z H _ I h) fun v s1 x H1 I1 r1 q1=> ?_
 obtain⟨a,e,⟨xs,hq⟩,q⟩:=q1;subst e
 cases r1
 obtain⟨its,rv,p,hz⟩:=I1.list hq;refine wpAny_pyIter_list p.isList ?_
 refine⟨s1.heap.objs.size,[s1.heap.objs.size],_,_,H1,rfl,I1.kept (t':=s1.toks) fun b o e=>Heap.get?_push_of_some _ e,Cj a _,⟨_,Heap.get?_push_size _ rfl,rfl,rfl⟩,fun b hb=> ?_,q⟩
 have e:b=s1.heap.objs.size:=by simpa using hb
 subst e;exact I1.fpOk (Nat.le_refl _) (I1.hok.fresh (Nat.le_refl _))
theorem lK {l:Expr}{tl:TE}(hl:PE X l tl):PI X tg l (Jq X.K tl):=by
 intro pins s Z H R I h;refine dj (hl pins s Z H _ I h) fun v s1 x H1 I1 r1 q1=> ?_
 obtain⟨a,e,⟨xs,hq⟩,q⟩:=q1;subst e
 cases r1
 obtain⟨its,rv,p,hz⟩:=I1.tuple hq;refine wpAny_pyIter_tuple (show s1.heap.IsTuple a its.toArray from p) ?_
 refine⟨s1.heap.objs.size,[s1.heap.objs.size],_,_,H1,rfl,I1.kept (t':=s1.toks) fun b o e=>Heap.get?_push_of_some _ e,As a _,⟨_,Heap.get?_push_size _ rfl,rfl,rfl⟩,fun b hb=> ?_,q⟩
 have e:b=s1.heap.objs.size:=by simpa using hb
 subst e;exact I1.fpOk (Nat.le_refl _) (I1.hok.fresh (Nat.le_refl _))
theorem Ds {pins:List (Addr × Obj)}{Z:St}{H:Hp}{s:Shared}{R:It->Hp->Prop}{E:Value->Shared->Prop}{lo hi:Int}{t u v:Tok}{tk:Nat}(I:Inv X pins Z H s) (h1: -(2^62)<=lo) (h2:lo < 2^62) (h3: -(2^62)<=hi) (h4:hi < 2^62)
  (q:R (Itr lo (hi - lo).toNat) H):wpAny (model X.prog X.w) X.A (pyIter (.ref s.heap.objs.size)) (PIE X pins Z tg R) E {s with heap:=s.heap.push {cls:= .type "range",data:= .fields #[.int lo t,.int hi u,.int 1 v]},toks:=tk}:=by
 refine wpAny_pyIter_range (IsRange.new ..) (small_one h1 h2 h3 h4) ?_
 have I1:Inv X pins Z H {s with heap:=s.heap.push {cls:= .type "range",data:= .fields #[.int lo t,.int hi u,.int 1 v]},toks:=tk}:=I.kept fun b o e=>Heap.get?_push_of_some _ e
 refine⟨(s.heap.push {cls:= .type "range",data:= .fields #[.int lo t,.int hi u,.int 1 v]}).objs.size,[(s.heap.push {cls:= .type "range",data:= .fields #[.int lo t,.int hi u,.int 1 v]}).objs.size],_,_,H,rfl,
  I1.kept (t':=tk) fun b o e=>Heap.get?_push_of_some _ e,AT _ lo (hi - lo).toNat,?_,fun b hb=> ?_,q⟩
 .have e1:lo+((0:Nat):Int)*1=lo:=by simp
  have e2:(((hi - lo).toNat:Nat):Int) - ((0:Nat):Int)=Builtin.Range.rangeSize lo hi 1:=by rw[rangeSize_one];split <;> lia
  show IsRangeIter _ _ (lo+((0:Nat):Int)*1) ((((hi - lo).toNat:Nat):Int) - ((0:Nat):Int)) 1
  rw[e1,e2];exact Heap.get?_push_size _ rfl
 .have e:b=(s.heap.push {cls:= .type "range",data:= .fields #[.int lo t,.int hi u,.int 1 v]}).objs.size:=by simpa using hb
  subst e;exact I1.fpOk (Nat.le_refl _) (I1.hok.fresh (Nat.le_refl _))
def HK (ta:TA):TI:=fun Z H R=>ta Z H fun vs H1=>∃j:Int,vs=[.int j]/\ -(2^62)<=j/\j < 2^62/\R (Itr 0 j.toNat) H1
theorem dU {a:Expr}{ta:TA}{p pos:Pos}(hg:Gl X "range") (hm:X.mg "range"=none) (ha:PA X [a] ta) (hs:starEach [a] X.env=[(false,eval a X.env)]:=by rfl):PI X tg (.Call (.Name "range" p) [a] [] pos) (HK ta):=by
 intro pins s Z H R I h;refine Call_ (uu I hg hm boot_range (PyProof.Rows.callWith_type1 (dj (ha pos pins s Z H _ I h) fun us s1 vs H1 I1 r1 q1=> ?_) hs rfl))
 obtain⟨j,e,q1,q2,q⟩:=q1;subst e
 cases r1 with
 | cons r rr=>
  cases rr
  obtain⟨t,rfl⟩:=r;exact call_range_1 (Ds I1 (by lia) (by lia) q1 q2 (by simpa using q))
def Jo (wi:TI) (g:TG) (tb:TS):TS:=fun D Z H=>wi Z H fun J H1=>∃W:Nat->Nat->St->Hp->Prop,(∃ m,W 0 m Z H1)/\∀i m Z H,W i m Z H->
 (J.stop i H/\D.nx Z H)\/(J.go i H/\∃N:St->Hp->Prop,(∀ Z' H',N Z' H'->∃m',m' < m/\W (i+1) m' Z' H')/\∀x H',J.yld i H x H'->g x Z H' fun Z2 H2=>tb {D with nx:=N,ct:=N,bk:=D.nx} Z2 H2)
def xT (fp:List Addr) (h:Heap):List (Addr × Obj):=fp.filterMap fun b=>(h.get? b).map fun o=>(b,o)
theorem dP {fp:List Addr}{h:Heap}{b:Addr}{o:Obj}(hb:b∈fp) (e:h.get? b=some o):(b,o)∈xT fp h:=List.mem_filterMap.mpr ⟨b,hb,by rw[e];rfl⟩
theorem Cc {fp:List Addr}{h:Heap}{p:Addr × Obj}(hp:p∈xT fp h):p.1∈fp/\h.get? p.1=some p.2:=by
 obtain⟨b,hb,e⟩:=List.mem_filterMap.mp hp
 cases q:h.get? b with
 | none=>rw[q] at e;cases e
 | some o=>
  rw[q] at e;have e':(b,o)=p:=Option.some.inj e;subst e';exact⟨hb,q⟩
theorem Inv.pinned {pins:List (Addr × Obj)}{Z:St}{H:Hp}{s:Shared}{fp:List Addr}(I:Inv X pins Z H s) (hf:∀b∈fp,nK X pins H b) (ho:∀b∈fp, ∃o,s.heap.get? b=some o/\∀v,o.data≠ .cell v):Inv X (pins++xT fp s.heap) Z H s:=
 I.pins_of fun p hp=>(List.mem_append.mp hp).elim (fun z=>I.pin p (List.mem_append_right _ z)) fun z=>by
  obtain⟨hb,e⟩:=Cc z;obtain⟨f0,f1,f2,_⟩:=hf p.1 hb;obtain⟨o,e',d⟩:=ho p.1 hb;rw[e] at e';cases e';exact⟨e,f0,f1,f2,d⟩
theorem Inv.unpinned {pins pl:List (Addr × Obj)}{Z:St}{H:Hp}{s:Shared}(I:Inv X (pins++pl) Z H s):Inv X pins Z H s:=I.pins_of fun p hp=>I.pin p (List.mem_append_right _ (List.mem_append_left _ hp))
theorem d8 {iter:Expr}{body:List Stmt}{wi:TI}{g:TG}{tb:TS}{pos:Pos}(hp:PassesOwn (model X.prog X.w) X.A X.env X.xe) (hc:X.calm=true) (hi:PI X tg iter wi) (hg:PG X tg g) (hb:PSs X body tb)
  (hs:∀x,foldedSetIterable iter X.env x=pure x:=by intro _;rfl):PS X (.For tg iter body [] pos) (Jo wi g tb):=by
 intro pins s Z H D I h;refine wpAny_For (thn (hi pins s Z H _ I h) fun v s1 h1=>thn h1 fun itv s2 h2=> ?_) hs
 obtain⟨it,fp,tn,J,H2,e,I2,T,st2,f2,W,⟨m0,w0⟩,turn⟩:=h2;subst e;have stat:∀ {H':Hp},(∀ b∈fp,H' b=none)->∀b∈fp,nK X pins H' b:=fun hn b hb=>⟨hn b hb,(f2 b hb).2⟩
 refine codeAny_forLoop_any (fun n s'=>∃i Z' H',Inv X pins Z' H' s'/\tn i s'.heap/\(∀ b∈fp,H' b=none)/\W i n Z' H') ?_ m0 ⟨0,Z,H2,I2,st2,fun b hb=>(f2 b hb).1,w0⟩
 rintro n s3 ⟨i,Z3,H3,I3,st3,fr3,w3⟩
 rcases turn i n Z3 H3 w3 with⟨stop,qn⟩|⟨go,N,hN,step⟩
 .refine wpAny_passesOwn hp (thn (T.done X rfl rfl rfl hc i pins s3 Z3 H3 X.xe I3 (stat fr3) st3 stop) fun r s4 ⟨hr,I4⟩=> ?_)
  subst hr;exact wpAny_execs_nil ⟨Z3,H3,I4,qn⟩
 .refine wpAny_passesOwn hp (u7 (T.item X rfl rfl rfl hc i pins s3 Z3 H3 X.xe I3 (stat fr3) st3 go) fun r s4 u hr h4=> ?_)
  subst hr;refine wpAny_passesOwn hp (thn h4 fun _ s5 ⟨x,H5,I5,r5,y5,st5,fr5⟩=> ?_)
  have I5':=I5.pinned (stat fr5) (T.obj _ _ st5);refine wpAny_passesOwn hp (HM (hg _ s5 Z3 H5 x u _ I5' r5 (step x H5 y5)) fun _ s6 Z6 H6 I6 q6=> ?_)
  refine wpAny_passesOwn hp (thn (hb _ s6 Z6 H6 _ I6 q6) fun f s7 q7=> ?_)
  have again:∀ {Z7:St}{H7:Hp},Inv X (pins++xT fp s5.heap) Z7 H7 s7->N Z7 H7->∃m,m < n/\∃i Z' H',Inv X pins Z' H' s7/\tn i s7.heap/\(∀ b∈fp,H' b=none)/\W i m Z' H':=fun {Z7 H7} I7 n7=>by
   obtain⟨m',hm,w7⟩:=hN Z7 H7 n7;refine⟨m',hm,i+1,Z7,H7,I7.unpinned,T.keep _ _ _ st5 fun b hb o e=>(I7.pin (b,o) (List.mem_append_right _ (List.mem_append_right _ (dP hb e)))).1,fun b hb=> ?_,w7⟩
   obtain⟨o,e,d⟩:=T.obj _ _ st5 b hb;exact(I7.pin (b,o) (List.mem_append_right _ (List.mem_append_right _ (dP hb e)))).2.1
  cases f with
  | next=>obtain⟨Z7,H7,I7,n7⟩:=q7;exact again I7 n7
  | cont=>obtain⟨Z7,H7,I7,n7⟩:=q7;exact again I7 n7
  | brk=>obtain⟨Z7,H7,I7,q7⟩:=q7;exact⟨Z7,H7,I7.unpinned,q7⟩
  | ret v=>obtain⟨x7,Z7,H7,I7,r7,q7⟩:=q7;exact⟨x7,Z7,H7,I7.unpinned,r7,q7⟩
end
theorem zl {K:Frag}{a:Addr}{xs:List V}{g:TG}{tb:TS}{D:tQ}{Z:St}{H:Hp}(Pv:Nat->St->Hp->Prop) (h0:Pv 0 Z H) (hl:∀i Z H,i<=xs.length->Pv i Z H->SqL K H a xs)
  (hs:∀i x Z H,xs[i]? =some x->Pv i Z H->g x Z H fun Z2 H2=>tb {D with nx:=Pv (i+1),ct:=Pv (i+1),bk:=D.nx} Z2 H2) (hd:∀Z H,Pv xs.length Z H->D.nx Z H):
  ∃W:Nat->Nat->St->Hp->Prop,(∃ m,W 0 m Z H)/\∀i m Z H,W i m Z H->
   ((Itl K a).stop i H/\D.nx Z H)\/((Itl K a).go i H/\∃N:St->Hp->Prop,(∀ Z' H',N Z' H'->∃m',m' < m/\W (i+1) m' Z' H')/\∀x H',(Itl K a).yld i H x H'->g x Z H' fun Z2 H2=>tb {D with nx:=N,ct:=N,bk:=D.nx} Z2 H2):=by
 refine⟨fun i m Z H=>m=xs.length - i/\i<=xs.length/\Pv i Z H,⟨xs.length,by simp,Nat.zero_le _,h0⟩,?_⟩
 rintro i m Z H ⟨rfl,hi,p⟩
 have q:=hl i Z H hi p
 by_cases hlt:i < xs.length
 .refine .inr ⟨⟨xs,xs[i],q,by simp [hlt]⟩,Pv (i+1),fun Z' H' p'=>⟨xs.length - (i+1),by lia,rfl,hlt,p'⟩,fun x H' y=> ?_⟩
  obtain⟨e,y⟩:=y;subst e;exact hs i x Z _ (y xs q) p
 .have e:i=xs.length:=by lia
  subst e;exact .inl ⟨⟨xs,q,Nat.le_refl _⟩,hd Z H p⟩
theorem sH {K:Frag}{a:Addr}{xs:List V}{g:TG}{tb:TS}{D:tQ}{Z:St}{H:Hp}(Pv:Nat->St->Hp->Prop) (h0:Pv 0 Z H) (hl:∀i Z H,i<=xs.length->Pv i Z H->SqT K H a xs)
  (hs:∀i x Z H,xs[i]? =some x->Pv i Z H->g x Z H fun Z2 H2=>tb {D with nx:=Pv (i+1),ct:=Pv (i+1),bk:=D.nx} Z2 H2) (hd:∀Z H,Pv xs.length Z H->D.nx Z H):
  ∃W:Nat->Nat->St->Hp->Prop,(∃ m,W 0 m Z H)/\∀i m Z H,W i m Z H->
   ((Itt K a).stop i H/\D.nx Z H)\/((Itt K a).go i H/\∃N:St->Hp->Prop,(∀ Z' H',N Z' H'->∃m',m' < m/\W (i+1) m' Z' H')/\∀x H',(Itt K a).yld i H x H'->g x Z H' fun Z2 H2=>tb {D with nx:=N,ct:=N,bk:=D.nx} Z2 H2):=by
 refine⟨fun i m Z H=>m=xs.length - i/\i<=xs.length/\Pv i Z H,⟨xs.length,by simp,Nat.zero_le _,h0⟩,?_⟩
 rintro i m Z H ⟨rfl,hi,p⟩
 have q:=hl i Z H hi p
 by_cases hlt:i < xs.length
 .refine .inr ⟨⟨xs,xs[i],q,by simp [hlt]⟩,Pv (i+1),fun Z' H' p'=>⟨xs.length - (i+1),by lia,rfl,hlt,p'⟩,fun x H' y=> ?_⟩
  obtain⟨e,y⟩:=y;subst e;exact hs i x Z _ (y xs q) p
 .have e:i=xs.length:=by lia
  subst e;exact .inl ⟨⟨xs,q,Nat.le_refl _⟩,hd Z H p⟩
theorem jz {lo:Int}{n:Nat}{g:TG}{tb:TS}{D:tQ}{Z:St}{H:Hp}(Pv:Nat->St->Hp->Prop) (h0:Pv 0 Z H)
  (hs:∀i Z H,i < n->Pv i Z H->g (.int (lo+i)) Z H fun Z2 H2=>tb {D with nx:=Pv (i+1),ct:=Pv (i+1),bk:=D.nx} Z2 H2) (hd:∀Z H,Pv n Z H->D.nx Z H):
  ∃W:Nat->Nat->St->Hp->Prop,(∃ m,W 0 m Z H)/\∀i m Z H,W i m Z H->
   ((Itr lo n).stop i H/\D.nx Z H)\/((Itr lo n).go i H/\∃N:St->Hp->Prop,(∀ Z' H',N Z' H'->∃m',m' < m/\W (i+1) m' Z' H')/\∀x H',(Itr lo n).yld i H x H'->g x Z H' fun Z2 H2=>tb {D with nx:=N,ct:=N,bk:=D.nx} Z2 H2):=by
 refine⟨fun i m Z H=>m=n - i/\i<=n/\Pv i Z H,⟨n,by simp,Nat.zero_le _,h0⟩,?_⟩
 rintro i m Z H ⟨rfl,hi,p⟩
 by_cases hlt:i < n
 .refine .inr ⟨hlt,Pv (i+1),fun Z' H' p'=>⟨n - (i+1),by lia,rfl,hlt,p'⟩,fun x H' y=> ?_⟩
  obtain⟨e,y⟩:=y;subst e y;exact hs i Z _ hlt p
 .have e:i=n:=by lia
  subst e;exact .inl ⟨Nat.le_refl _,hd Z H p⟩
abbrev R2:=V->V->Hp->VK->Prop
def OpR (X:Cx) (f:Value->Value->Sem Value) (r:R2):Prop:=
 ∀(pins:List (Addr × Obj)) (s:Shared) (Z:St) (H:Hp) (x y:V) (v u:Value) (Q:VK),Inv X pins Z H s->bp x v->bp y u->r x y H Q->
  wpAny (model X.prog X.w) X.A (f v u) (EP X pins Z Q) X.xe s
def UnR (X:Cx) (f:Value->Sem Value) (r:V->Hp->VK->Prop):Prop:=
 ∀(pins:List (Addr × Obj)) (s:Shared) (Z:St) (H:Hp) (x:V) (v:Value) (Q:VK),Inv X pins Z H s->bp x v->r x H Q->
  wpAny (model X.prog X.w) X.A (f v) (EP X pins Z Q) X.xe s
def mG (X:Cx) (f:Value) (r:List V->Hp->VK->Prop):Prop:=
 ∀(pins:List (Addr × Obj)) (s:Shared) (Z:St) (H:Hp) (xs:List V) (us:List Value) (Q:VK),Inv X pins Z H s->aX xs us->r xs H Q->
  wpAny (model X.prog X.w) X.A (call f us) (EP X pins Z Q) X.xe s
def tOp (r:R2) (ta tb:TE):TE:=fun Z H Q=>ta Z H fun x H1=>tb Z H1 fun y H2=>r x y H2 Q
def tUn (r:V->Hp->VK->Prop) (ta:TE):TE:=fun Z H Q=>ta Z H fun x H1=>r x H1 Q
def rI (C:Int->Int->Prop) (g:Int->Int->V):R2:=fun x y H Q=>∃i j,x= .int i/\y= .int j/\C i j/\Q (g i j) H
def rI0 (g:Int->Int->V):R2:=fun x y H Q=>∃i j,x= .int i/\y= .int j/\Q (g i j) H
def rU (g:Int->V):V->Hp->VK->Prop:=fun x H Q=>∃i,x= .int i/\Q (g i) H
section
variable {X : Cx} {a b c : Expr} {ta tb tc : TE} {pos : Pos}
theorem Hh (ha:PE X a ta) (hb:PE X b tb) {pins:List (Addr × Obj)}{s:Shared}{Z:St}{H:Hp}{R:V->V->Hp->Prop}(I:Inv X pins Z H s)
  (h:ta Z H fun x H1=>tb Z H1 fun y H2=>R x y H2) {Q:Value->Shared->Prop}{f:Value->Value->Sem Value}
  (hf:∀v u s2 x y H2,Inv X pins Z H2 s2->bp x v->bp y u->R x y H2->wpAny (model X.prog X.w) X.A (f v u) Q X.xe s2):
  wpAny (model X.prog X.w) X.A (eval a X.env) (fun v s₁=>wpAny (model X.prog X.w) X.A (eval b X.env) (fun u s₂=>wpAny (model X.prog X.w) X.A (f v u) Q X.xe s₂) X.xe s₁) X.xe s:=by
 refine dj (ha pins s Z H _ I h) fun v s1 x H1 I1 r1 q1=> ?_
 refine dj (hb pins s1 Z H1 _ I1 q1) fun u s2 y H2 I2 r2 q2=> ?_
 exact hf v u s2 x y H2 I2 r1 r2 q2
theorem aj {op:Operator}{r:R2}(ho:OpR X (binaryOp op) r) (ha:PE X a ta) (hb:PE X b tb):PE X (.BinOp a op b pos) (tOp r ta tb):=by
 intro pins s Z H Q I h;exact wpAny_BinOp (Hh ha hb I h fun v u s2 x y H2 I2 rx ry q=>ho pins s2 Z H2 x y v u Q I2 rx ry q)
theorem Gh {op:UnaryOp}{r:V->Hp->VK->Prop}(ho:UnR X (unaryOp op) r) (ha:PE X a ta):PE X (.UnaryOp op a pos) (tUn r ta):=by
 intro pins s Z H Q I h;exact UnaryOp_ (dj (ha pins s Z H _ I h) fun v s1 x H1 I1 r1 q1=>ho pins s1 Z H1 x v Q I1 r1 q1)
theorem opI {f:Value->Value->Sem Value}{C:Int->Int->Prop}{g:Int->Int->Int}
  (rule:∀(i j:Int) (t u:Tok) (s:Shared) (Q:Value->Shared->Prop) (E:Value->Shared->Prop),C i j->Q (.int (g i j) s.toks) {s with toks:=s.toks+1}->wpAny (model X.prog X.w) X.A (f (.int i t) (.int j u)) Q E s):
  OpR X f (rI C fun i j=> .int (g i j)):=by
 intro pins s Z H x y v u Q I rx ry h;obtain⟨i,j,rfl,rfl,hc,q⟩:=h;obtain⟨t,rfl⟩:=rx;obtain⟨t',rfl⟩:=ry;exact rule i j t t' s _ _ hc ⟨.int (g i j),H,I.tok _,⟨_,rfl⟩,q⟩
theorem C7 {f:Value->Value->Sem Value}{g:Int->Int->Int}
  (rule:∀(i j:Int) (t u:Tok) (s:Shared) (Q:Value->Shared->Prop) (E:Value->Shared->Prop),Q (.int (g i j) s.toks) {s with toks:=s.toks+1}->wpAny (model X.prog X.w) X.A (f (.int i t) (.int j u)) Q E s):
  OpR X f (rI0 fun i j=> .int (g i j)):=by
 intro pins s Z H x y v u Q I rx ry h;obtain⟨i,j,rfl,rfl,q⟩:=h;obtain⟨t,rfl⟩:=rx;obtain⟨t',rfl⟩:=ry;exact rule i j t t' s _ _ ⟨.int (g i j),H,I.tok _,⟨_,rfl⟩,q⟩
theorem FA {f:Value->Value->Sem Value}{g:Int->Int->Bool}
  (rule:∀(i j:Int) (t u:Tok) (s:Shared) (Q:Value->Shared->Prop) (E:Value->Shared->Prop),Q (.bool (g i j)) s->wpAny (model X.prog X.w) X.A (f (.int i t) (.int j u)) Q E s):
  OpR X f (rI0 fun i j=> .bl (g i j)):=by
 intro pins s Z H x y v u Q I rx ry h;obtain⟨i,j,rfl,rfl,q⟩:=h;obtain⟨t,rfl⟩:=rx;obtain⟨t',rfl⟩:=ry;exact rule i j t t' s _ _ ⟨.bl (g i j),H,I,rfl,q⟩
def mQ (i j:Int):Prop:=0<=j/\j<=1000000/\i.natAbs < 2^64
def qm (i j:Int):Prop:=(-(2^64) < i/\i < 2^64)\/(-(2^64) < j/\j < 2^64)
theorem qm.ok {i j:Int}(h:qm i j):IntMulOk i j:=by
 rcases h with⟨h1,h2⟩|⟨h1,h2⟩
 .exact .of_left (intBits_le_64 h1 h2)
 .exact .of_right (intBits_le_64 h1 h2)
theorem aO:OpR X (binaryOp .Add) (rI0 fun i j=> .int (i+j)):=C7 fun _ _ _ _ _ _ _ q=>add_int q
theorem a_:OpR X (binaryOp .Sub) (rI0 fun i j=> .int (i - j)):=C7 fun _ _ _ _ _ _ _ q=>sub_int q
theorem bz:OpR X (binaryOp .Mult) (rI qm fun i j=> .int (i*j)):=opI fun _ _ _ _ _ _ _ hc q=>mul_int q hc.ok
theorem cD:OpR X (binaryOp .Mod) (rI (fun _ j=>0 < j) fun i j=> .int (i %j)):=opI fun i j _ _ _ _ _ hc q=>by
 have h1:(0:Int) < j:=hc;exact mod_int' (by lia) (by rw[Int.fmod_eq_emod_of_nonneg i (by lia)];exact q)
theorem Hk:OpR X (binaryOp .Pow) (rI mQ fun i j=> .int (i^j.toNat)):=opI fun _ _ _ _ _ _ _ hc q=>pow_int_small hc.1 hc.2.1 hc.2.2 q
theorem cU:OpR X (binaryOp .LShift) (rI mQ fun i j=> .int (i*2^j.toNat)):=opI fun _ _ _ _ _ _ _ hc q=>lshift_int_small hc.1 hc.2.1 hc.2.2 q
theorem GU:OpR X (binaryOp .BitAnd) (rI0 fun i j=> .int (Builtin.bitAnd i j)):=C7 fun _ _ _ _ _ _ _ q=>and_int q
theorem ID:OpR X (binaryOp .BitOr) (rI0 fun i j=> .int (Builtin.bitOr i j)):=C7 fun _ _ _ _ _ _ _ q=>or_int q
theorem Hn:OpR X (binaryOp .BitXor) (rI0 fun i j=> .int (Builtin.bitXor i j)):=C7 fun _ _ _ _ _ _ _ q=>xor_int q
theorem unI {f:Value->Sem Value}{g:Int->Int}
  (rule:∀(i:Int) (t:Tok) (s:Shared) (Q:Value->Shared->Prop) (E:Value->Shared->Prop),Q (.int (g i) s.toks) {s with toks:=s.toks+1}->wpAny (model X.prog X.w) X.A (f (.int i t)) Q E s):
  UnR X f (rU fun i=> .int (g i)):=by
 intro pins s Z H x v Q I rx h;obtain⟨i,rfl,q⟩:=h;obtain⟨t,rfl⟩:=rx;exact rule i t s _ _ ⟨.int (g i),H,I.tok _,⟨_,rfl⟩,q⟩
theorem DQ:UnR X (unaryOp .USub) (rU fun i=> .int (-i)):=unI fun _ _ _ _ _ q=>neg_int q
end
def HH:V->V->Bool
 | .non,.non=>true | .non,.int _=>true | .int _,.non=>true | .non,.bl _=>true | .bl _,.non=>true | .non,.str _=>true | .str _,.non=>true
 | .int _,.int _=>true | .bl _,.bl _=>true | .str _,.str _=>true | .byt _,.byt _=>true
 | .int _,.str _=>true | .str _,.int _=>true | .bl _,.str _=>true | .str _,.bl _=>true
 | _,_=>false
def rEq:R2:=fun x y H Q=>HH x y=true/\Q (.bl (decide (x=y))) H
def rNe:R2:=fun x y H Q=>HH x y=true/\Q (.bl (!decide (x=y))) H
theorem A8 {i j:Int}:decide (V.int i=V.int j)=(i == j):=by
 rw[Bool.eq_iff_iff]
 simp
theorem Dh {i j:Bool}:decide (V.bl i=V.bl j)=(i == j):=by
 rw[Bool.eq_iff_iff]
 simp
theorem BW {i j:Str}:decide (V.str i=V.str j)=(i == j):=by
 rw[Bool.eq_iff_iff]
 simp
theorem Bj {i j:Array UInt8}:decide (V.byt i=V.byt j)=(i.toList == j.toList):=by
 rw[Bool.eq_iff_iff]
 cases i
 cases j
 simp
section
variable {X : Cx} {a b c : Expr} {ta tb tc : TE} {pos : Pos}
theorem bL {pins:List (Addr × Obj)}{Z:St}{H:Hp}{s:Shared}{Q:VK}{k k':Bool}(I:Inv X pins Z H s) (q:Q (.bl k) H) (e:k=k'):EP X pins Z Q (.bool k') s:=by
 subst e;exact⟨.bl k,H,I,rfl,q⟩
theorem aG:OpR X (compareOp .Eq) rEq:=by
 intro pins s Z H x y v u Q I rx ry h;obtain⟨hs,q⟩:=h
 cases x with
 | non=>
  cases rx
  cases y with
  | non=>cases ry;exact PySem.EqNone.eq_none_none (bL I q (by simp))
  | bl j=>cases ry;exact PySem.EqNone.eq_none_bool (bL I q (by simp))
  | int j=>obtain⟨t',rfl⟩:=ry;exact PySem.EqNone.eq_none_int (bL I q (by simp))
  | str j=>obtain⟨t',rfl⟩:=ry;exact PySem.EqNone.eq_none_str (bL I q (by simp))
  | _=>exact absurd (show false=true from hs) Bool.false_ne_true
 | bl i=>
  cases rx
  cases y with
  | non=>cases ry;exact PySem.EqNone.eq_bool_none (bL I q (by simp))
  | bl j=>cases ry;exact eq_bool (bL I q Dh)
  | str j=>obtain⟨t',rfl⟩:=ry;exact PySem.EqMixed.eq_bool_str (bL I q (by simp))
  | _=>exact absurd (show false=true from hs) Bool.false_ne_true
 | int i=>
  obtain⟨t,rfl⟩:=rx
  cases y with
  | non=>cases ry;exact PySem.EqNone.eq_int_none (bL I q (by simp))
  | int j=>obtain⟨t',rfl⟩:=ry;exact eq_int (bL I q A8)
  | str j=>obtain⟨t',rfl⟩:=ry;exact PySem.EqMixed.eq_int_str (bL I q (by simp))
  | _=>exact absurd (show false=true from hs) Bool.false_ne_true
 | str i=>
  obtain⟨t,rfl⟩:=rx
  cases y with
  | non=>cases ry;exact PySem.EqNone.eq_str_none (bL I q (by simp))
  | bl j=>cases ry;exact PySem.EqMixed.eq_str_bool (bL I q (by simp))
  | int j=>obtain⟨t',rfl⟩:=ry;exact PySem.EqMixed.eq_str_int (bL I q (by simp))
  | str j=>obtain⟨t',rfl⟩:=ry;exact eq_str (bL I q BW)
  | _=>exact absurd (show false=true from hs) Bool.false_ne_true
 | byt i=>
  obtain⟨t,rfl⟩:=rx
  cases y with
  | byt j=>obtain⟨t',rfl⟩:=ry;exact W.eq_bytes (bL I q Bj)
  | _=>exact absurd (show false=true from hs) Bool.false_ne_true
 | _=>cases y <;> exact absurd (show false=true from hs) Bool.false_ne_true
theorem vA:OpR X (compareOp .NotEq) rNe:=by
 intro pins s Z H x y v u Q I rx ry h;obtain⟨hs,q⟩:=h
 cases x with
 | non=>
  cases rx
  cases y with
  | non=>cases ry;exact PySem.EqNone.ne_none_none (bL I q (by simp))
  | bl j=>cases ry;exact PySem.EqNone.ne_none_bool (bL I q (by simp))
  | int j=>obtain⟨t',rfl⟩:=ry;exact PySem.EqNone.ne_none_int (bL I q (by simp))
  | str j=>obtain⟨t',rfl⟩:=ry;exact PySem.EqNone.ne_none_str (bL I q (by simp))
  | _=>exact absurd (show false=true from hs) Bool.false_ne_true
 | bl i=>
  cases rx
  cases y with
  | non=>cases ry;exact PySem.EqNone.ne_bool_none (bL I q (by simp))
  | bl j=>cases ry;exact ne_bool (bL I q (congrArg not Dh))
  | str j=>obtain⟨t',rfl⟩:=ry;exact PySem.EqMixed.ne_bool_str (bL I q (by simp))
  | _=>exact absurd (show false=true from hs) Bool.false_ne_true
 | int i=>
  obtain⟨t,rfl⟩:=rx
  cases y with
  | non=>cases ry;exact PySem.EqNone.ne_int_none (bL I q (by simp))
  | int j=>obtain⟨t',rfl⟩:=ry;exact ne_int (bL I q (congrArg not A8))
  | str j=>obtain⟨t',rfl⟩:=ry;exact PySem.EqMixed.ne_int_str (bL I q (by simp))
  | _=>exact absurd (show false=true from hs) Bool.false_ne_true
 | str i=>
  obtain⟨t,rfl⟩:=rx
  cases y with
  | non=>cases ry;exact PySem.EqNone.ne_str_none (bL I q (by simp))
  | bl j=>cases ry;exact PySem.EqMixed.ne_str_bool (bL I q (by simp))
  | int j=>obtain⟨t',rfl⟩:=ry;exact PySem.EqMixed.ne_str_int (bL I q (by simp))
  | str j=>obtain⟨t',rfl⟩:=ry;exact ne_str (bL I q (congrArg not BW))
  | _=>exact absurd (show false=true from hs) Bool.false_ne_true
 | byt i=>
  obtain⟨t,rfl⟩:=rx
  cases y with
  | byt j=>obtain⟨t',rfl⟩:=ry;exact W.ne_bytes (bL I q (congrArg not Bj))
  | _=>exact absurd (show false=true from hs) Bool.false_ne_true
 | _=>cases y <;> exact absurd (show false=true from hs) Bool.false_ne_true
theorem gD:OpR X (compareOp .Lt) (rI0 fun i j=> .bl (decide (i < j))):=FA fun _ _ _ _ _ _ _ q=>lt_int q
theorem Dq:OpR X (compareOp .LtE) (rI0 fun i j=> .bl (decide (i<=j))):=FA fun _ _ _ _ _ _ _ q=>le_int q
theorem lf:OpR X (compareOp .Gt) (rI0 fun i j=> .bl (decide (j < i))):=FA fun _ _ _ _ _ _ _ q=>gt_int q
theorem n8:OpR X (compareOp .GtE) (rI0 fun i j=> .bl (decide (j<=i))):=FA fun _ _ _ _ _ _ _ q=>ge_int q
theorem AW (b:Expr) {op:CmpOp}(h:op≠ .In:=by decide) (h2:op≠ .NotIn:=by decide):behindInMarks op b=false:=by
 have e1:(op == CmpOp.In)=false:=by cases op <;> first | rfl | exact absurd rfl h
 have e2:(op == CmpOp.NotIn)=false:=by cases op <;> first | rfl | exact absurd rfl h2
 cases b <;> simp [behindInMarks,e1,e2]
theorem EM {op:CmpOp}{r:R2}(ho:OpR X (compareOp op) r) (ha:PE X a ta) (hb:PE X b tb) (hm:behindInMarks op b=false):PE X (.Compare a [op] [b] pos) (tOp r ta tb):=by
 intro pins s Z H Q I h;exact wpAny_Compare1 (Hh ha hb I h fun v u s2 x y H2 I2 rx ry q=>ho pins s2 Z H2 x y v u Q I2 rx ry q) hm
def F1 (t:TE):TT:=fun Z H Q=>t Z H fun x H'=>∃k,x= .bl k/\Q k H'
theorem nA {op:CmpOp}{r:R2}(ho:OpR X (compareOp op) r) (ha:PE X a ta) (hb:PE X b tb) (hm:behindInMarks op b=false):PT X (.Compare a [op] [b] pos) (F1 (tOp r ta tb)):=by
 intro pins s Z H Q I h
 refine wpAny_isTrue_Compare1 (dj (ha pins s Z H _ I h) fun v s1 x H1 I1 r1 q1=>dj (hb pins s1 Z H1 _ I1 q1) fun u s2 y H2 I2 r2 q2=>
  thn (ho pins s2 Z H2 x y v u _ I2 r1 r2 q2) fun c s3 ⟨z,H3,I3,r3,k,e,q3⟩=> ?_) hm
 subst e
 cases r3
 exact wpAny_truthy_bool ⟨H3,I3,q3⟩
theorem qJ:(sizeLine:Nat) < 2^63:=by rw[sizeLine_eq];decide
theorem tK {x:V}{us:List Value}(r:aX [x] us):∃u,us=[u]/\bp x u:=by
 cases r with
 | cons r1 r2=>cases r2;exact⟨_,rfl,r1⟩
theorem C6 {x y:V}{us:List Value}(r:aX [x,y] us):∃u w',us=[u,w']/\bp x u/\bp y w':=by
 cases r with
 | cons r1 r2=>
  cases r2 with
  | cons r3 r4=>cases r4;exact⟨_,_,rfl,r1,r3⟩
theorem zf:mG X (.builtin "abs") (fun xs H Q=>∃i,xs=[.int i]/\Q (.int (if i < 0 then -i else i)) H):=by
 intro pins s Z H xs us Q I r h;obtain⟨i,rfl,q⟩:=h;obtain⟨u,rfl,t,rfl⟩:=tK r;exact call_abs_int fun u tk=>⟨.int (if i < 0 then -i else i),H,I.tok _,⟨_,rfl⟩,q⟩
theorem qC (hc:X.calm=true):mG X (.builtin "max") (fun xs H Q=>∃i j,xs=[.int i,.int j]/\Q (.int (if j >i then j else i)) H):=by
 intro pins s Z H xs us Q I r h;obtain⟨i,j,rfl,q⟩:=h;obtain⟨u,w',rfl,⟨t,rfl⟩,⟨t',rfl⟩⟩:=C6 r;refine max_two_ints (I.ok.hd hc) fun h' tk k=>⟨_,H,I.kept k,?_,q⟩
 by_cases hj:j >i
 .rw[if_pos hj,if_pos hj];exact⟨_,rfl⟩
 .rw[if_neg hj,if_neg hj];exact⟨_,rfl⟩
theorem fg (hc:X.calm=true):mG X (.builtin "min") (fun xs H Q=>∃i j,xs=[.int i,.int j]/\Q (.int (if j < i then j else i)) H):=by
 intro pins s Z H xs us Q I r h;obtain⟨i,j,rfl,q⟩:=h;obtain⟨u,w',rfl,⟨t,rfl⟩,⟨t',rfl⟩⟩:=C6 r;refine min_two_ints (I.ok.hd hc) fun h' tk k=>⟨_,H,I.kept k,?_,q⟩
 by_cases hj:j < i
 .rw[if_pos hj,if_pos hj];exact⟨_,rfl⟩
 .rw[if_neg hj,if_neg hj];exact⟨_,rfl⟩
end
structure Ao (h:Heap) (x dx C:Addr) (mA:Str->Option Value):Prop where
 obj:h.get? x=some (W.instObj C dx)
 ns:h.Ns1 dx mA
 ne:dx≠x
theorem CK {h:Heap}{dx:Addr}{mA:Str->Option Value}(n:h.Ns1 dx mA):∃od,h.get? dx=some od/\∀name,W.lookIn name od=some (mA name):=by
 obtain⟨o,es,ep,ho,hd,hk,_,hm⟩:=n;refine⟨o,ho,fun name=> ?_⟩
 have e:=hm name;unfold nsFind findBy at e;rw[<- Array.find?_toList] at e;unfold W.lookIn;rw[hd];dsimp only
 split
 .rename_i y q
  rw[q] at e;exact congrArg some e
 .rename_i q
  rw[q] at e;have a:es.toList.any (·.refKey)=false:=by
   rw[List.any_eq_false];intro y hy;obtain⟨z,t,hkey⟩:=hk y (Array.mem_toList_iff.mp hy)
   simp [DictEntry.refKey,hkey]
  have a':¬es.toList.any (·.refKey)=true:=by rw[a];exact Bool.false_ne_true
  rw[if_neg a'];exact congrArg some e
theorem Ao.look {h:Heap}{x dx C:Addr}{mA:Str->Option Value}(I:Ao h x dx C mA):∃od,PySem.W.InstAt h x (W.instObj C dx) C (some od)/\∀name,W.lookIn name od=some (mA name):=
 let ⟨od,ho,hl⟩:=CK I.ns
 ⟨od,⟨I.obj,rfl,rfl,ho⟩,hl⟩
section
variable {prog : Program} {w : World} {A : Around} {E : Value → Shared → Prop} {s : Shared} {K : Frag} {x dx C f : Addr} {mA : Str → Option Value} {name : Str} {v : Value}
theorem Fg {expr:Bool}{Q:Value->Shared->Prop}(X:K.In s.heap) (I:Ao s.heap x dx C mA) (hg:W.plainGet K C name=true) (hh:W.hasDictIn K C=true)
  (ha:W.findIn K (.ref C) name=some none) (hv:mA name=some v) (hv':W.handedIn v=true) (h:Q v {s with toks:=s.toks+1}):
  wpAny (model prog w) A (getAttr (.ref x) name expr) Q E s:=by
 obtain⟨od,J,hl⟩:=I.look;exact W.get_value X J (W.plainGet_of hg).1 (W.findObj_own hh ha rfl (by rw[hl,hv])) hv' h
theorem ED {pl:Sem Bool}{Q:Value × List Value->Shared->Prop}(X:K.In s.heap) (I:Ao s.heap x dx C mA) (hg:W.plainGet K C name=true)
  (hf:W.findIn K (.ref C) name=some (some (.ref f))) (ht:W.isFn K (.ref f)=true) (hv:mA name=none) (h:Q (.ref f,[.ref x]) s):
  wpAny (model prog w) A (getMethod (.ref x) name pl) Q E s:=by
 obtain⟨od,J,hl⟩:=I.look;exact W.method_fn X J (W.plainGet_of hg).1 (W.plainGet_of hg).2 hf (beq_iff_eq.mp ht) (by show(W.lookIn name od).map (·.isSome)=some false;rw[hl,hv];rfl) h
theorem FD {ns:List Str}{Q:Unit->Shared->Prop}(X:K.In s.heap) (I:Ao s.heap x dx C mA)
  (hs:W.findIn K (.ref C) "__setattr__"=some (some (.builtin "object.__setattr__"))) (hp:W.plainOver K C=true) (ht:W.takerIn K C name=some none) (hh:W.hasDictIn K C=true)
  (hw:PySem.Within mA ns) (hsz:ns.length<=sizeLine)
  (h:∀h',Ao h' x dx C (fun y=>if y=name then some v else mA y)->Heap.SameBut dx s.heap h'->Q () {s with heap:=h',toks:=s.toks+2}):
  wpAny (model prog w) A (setAttr (.ref x) name v) Q E s:=by
 obtain⟨od,J,hl⟩:=I.look;refine W.set_plain X J hs (W.osa_open (s:={s with toks:=s.toks+1}) (r:=none) X J hp ht fun b=> ?_)
 obtain⟨cd,hc,hd'⟩:=W.any_some hh;have hx:s.heap.get? x=some ⟨.ref C,some dx,.plain, #[]⟩:=I.obj;refine wpAny_bind (wpAny_pure (wpAny_bind (wpAny_bind (wpAny_loadPart hx (wpAny_bind (PySem.W.Looks.here (s:={s with toks:=s.toks+1}) (W.looks_clsIn X hc) ?_))))))
 rw[hd'];refine wpAny_pure (a:=some dx) (wpAny_bind (wpAny_pure (wpAny_bind ?_)))
 refine wpAny_nsSet1 (s:={s with toks:=s.toks+1}) I.ns fun h' hn2 hs2=> ?_
 obtain⟨oD,esD,epD,hoD,hdD,hcD⟩:=hn2.count (PySem.Within.cons name v hw);refine wpAny_bind (wpAny_lookBehind hoD (by rw[hdD];exact pastItsLine_dict (Nat.le_trans hcD (by rw[List.length_cons];lia))) ?_)
 exact wpAny_pure (h _ ⟨(hs2.2 _ (Ne.symm I.ne)).trans I.obj,hn2,I.ne⟩ hs2)
theorem DP {R:Result->Shared->Prop}{vs:List Value}{kw:List (Str × Value)}(X:K.In s.heap) (hm:W.makesIn K C=true)
  (hi:W.findIn K (.ref C) "__init__"=some (some (.ref f))) (hf:W.typeIn K (.ref f)=some (.type "function"))
  (h:codeAny (model prog w) (A.under (.builtin "type.__call__" ⟨.ref C::vs,kw⟩)) (.call (.ref f) ⟨.ref (s.heap.objs.size+1)::vs,kw⟩) (PySem.W.InitBack (s.heap.objs.size+1) R)
   {s with heap:=(s.heap.push W.emptyDict).push (W.instObj C s.heap.objs.size)}):
  codeAny (model prog w) A (.call (.ref C) ⟨vs,kw⟩) R s:=by
 obtain⟨hh,g,d,t,os⟩:=s;exact W.make_core (W.makes_of X hm) (W.looks_findIn X hi) (fun self=>W.bind_fn X self hf) (.inl rfl) h
end
def fu (f:Str) (v:V):List (Str × V)->List (Str × V)
 | []=>[(f,v)]
 | (g,x)::r=>if g=f then(g,v)::r else(g,x)::fu f v r
theorem rj (f g:Str) (v:V):∀fs:List (Str × V),(fu f v fs).lookup g=if g=f then some v else fs.lookup g
 | []=>by
  show List.lookup g [(f,v)]=_
  by_cases h:g=f
  .have hb:(g == f)=true:=beq_iff_eq.mpr h
   simp only[List.lookup,hb,if_pos h]
  .have hb:(g == f)=false:=beq_eq_false_iff_ne.mpr h
   simp only[List.lookup,hb,if_neg h]
 | (k,x)::r=>by
  have ih:=rj f g v r;rw[show fu f v ((k,x)::r)=(if k=f then(k,v)::r else(k,x)::fu f v r) from rfl]
  by_cases hk:k=f
  .rw[if_pos hk]
   by_cases h:g=k
   .have hb:(g == k)=true:=beq_iff_eq.mpr h
    simp only[List.lookup,hb,if_pos (h.trans hk)]
   .have hb:(g == k)=false:=beq_eq_false_iff_ne.mpr h
    simp only[List.lookup,hb,if_neg (fun e:g=f=>h (e.trans hk.symm))]
  .rw[if_neg hk]
   by_cases h:g=k
   .have hb:(g == k)=true:=beq_iff_eq.mpr h
    simp only[List.lookup,hb,if_neg (fun e:g=f=>hk (h.symm.trans e))]
   .have hb:(g == k)=false:=beq_eq_false_iff_ne.mpr h
    simp only[List.lookup,hb]
    exact ih
theorem qN (f:Str) (v:V):∀fs:List (Str × V),f∈(fu f v fs).map (·.1)/\∀g,g∈fs.map (·.1)->g∈(fu f v fs).map (·.1)
 | []=>⟨by simp [fu],fun g h=>by simp at h⟩
 | (k,x)::r=>by
  obtain⟨i1,i2⟩:=qN f v r;rw[show fu f v ((k,x)::r)=(if k=f then(k,v)::r else(k,x)::fu f v r) from rfl]
  by_cases hk:k=f
  .rw[if_pos hk];subst hk;exact⟨by simp,fun g h=>by simpa using h⟩
  .rw[if_neg hk];refine⟨?_,fun g h=> ?_⟩
   .rw[List.map_cons];exact List.mem_cons_of_mem _ i1
   .rw[List.map_cons] at h ⊢;rcases List.mem_cons.mp h with e | e
    .exact List.mem_cons.mpr (.inl e)
    .exact List.mem_cons_of_mem _ (i2 g e)
theorem qZ (f:Str) (v:V):∀fs:List (Str × V),(fu f v fs).length<=fs.length+1
 | []=>by simp [fu]
 | (k,x)::r=>by
  have ih:=qZ f v r;rw[show fu f v ((k,x)::r)=(if k=f then(k,v)::r else(k,x)::fu f v r) from rfl]
  by_cases hk:k=f
  .rw[if_pos hk,List.length_cons,List.length_cons];lia
  .rw[if_neg hk,List.length_cons,List.length_cons];lia
theorem nR.some_of {v:V}{o:Option Value}(r:nR (some v) o):∃u,o=some u/\bp v u:=by
 cases o with
 | none=>exact(show False from r).elim
 | some u=>exact⟨u,rfl,r⟩
theorem nR.none_of {o:Option Value}(r:nR none o):o=none:=by
 cases o with
 | none=>rfl
 | some u=>exact(show False from r).elim
theorem Cf {v:V}{u:Value}(r:bp v u):W.handedIn u=true:=by
 cases v with
 | non=>cases(show u=Value.none from r);rfl
 | bl b=>cases(show u=Value.bool b from r);rfl
 | int i=>obtain⟨t,e⟩:=(show ∃t,u=Value.int i t from r);cases e;rfl
 | str x=>obtain⟨t,e⟩:=(show ∃t,u=Value.str x t from r);cases e;rfl
 | byt b=>obtain⟨t,e⟩:=(show ∃t,u=Value.bytes b t from r);cases e;rfl
 | flt b=>obtain⟨t,e⟩:=(show ∃t,u=Value.float b t from r);cases e;rfl
 | ref a=>cases(show u=Value.ref a from r);rfl
 | ty n=>cases(show u=Value.type n from r);rfl
section
variable {P : Program} {w : World} {H H' : Hp} {h h' : Heap} {a C dx : Addr} {fs fs' : List (Str × V)}
theorem wy (hok:HOk P w H h) (e:H a=some (.ins C dx fs)):∃mA,Ao h a dx C mA/\(∀ f,nR (fs.lookup f) (mA f))/\PySem.Within mA (fs.map (·.1))/\fs.length<=1000/\H dx=some (.own a):=by
 obtain⟨d,z,ne,ob,mA,n,r,q⟩:=(show cO P w H h a (.ins C dx fs) from hok a _ e);exact⟨mA,⟨ob,n,ne⟩,r,q,z,d⟩
end
structure Cls (K:Frag) (C:Addr):Prop where
 pg:W.plainGet K C Str.empty=true
 hd:W.hasDictIn K C=true
 po:W.plainOver K C=true
 sa:W.findIn K (.ref C) "__setattr__"=some (some (.builtin "object.__setattr__"))
theorem Cls.get {K:Frag}{C:Addr}(c:Cls K C) (f:Str):W.plainGet K C f=true:=c.pg
def qM (K:Frag) (C:Addr) (f:Str):Prop:=W.findIn K (.ref C) f=some none
theorem qM.taker {K:Frag}{C:Addr}{f:Str}(n:qM K C f):W.takerIn K C f=some none:=by
 unfold W.takerIn;rw[show W.findIn K (.ref C) f=some none from n]
 rfl
structure Df (K:Frag) (C:Addr) (m:Str) (f:Addr):Prop where
 at_:W.findIn K (.ref C) m=some (some (.ref f))
 fn:W.isFn K (.ref f)=true
 kp:W.keepIn K (.ref f)=true
section
variable {X : Cx} {pins : List (Addr × Obj)} {σ : St} {H : Hp} {s : Shared} {a C dx : Addr} {fs : List (Str × V)} {f : Str} {v : V} {A : Around} {E : Value → Shared → Prop}
theorem Ay {b:Bool}{Q:Value->Shared->Prop}(I:Inv X pins Z H s) (e:H a=some (.ins C dx fs)) (c:Cls X.K C) (n:qM X.K C f) (l:fs.lookup f=some v)
  (h:∀u s',Inv X pins Z H s'->bp v u->Q u s'):wpAny (model X.prog X.w) A (getAttr (.ref a) f b) Q E s:=by
 obtain⟨mA,O,r,_,_,_⟩:=wy I.hok e;obtain⟨u,hu,ru⟩:=nR.some_of (v:=v) (o:=mA f) (by rw[<- l];exact r f)
 exact Fg I.kIn O (c.get f) c.hd n hu (Cf ru) (h u _ (I.tok _) ru)
theorem tN {m:Str}{g:Addr}{pl:Sem Bool}{Q:Value × List Value->Shared->Prop}(I:Inv X pins Z H s) (e:H a=some (.ins C dx fs)) (c:Cls X.K C) (k:Df X.K C m g) (l:fs.lookup m=none)
  (h:Q (.ref g,[.ref a]) s):wpAny (model X.prog X.w) A (getMethod (.ref a) m pl) Q E s:=by
 obtain⟨mA,O,r,_,_,_⟩:=wy I.hok e;have hn:mA m=none:=nR.none_of (by rw[<- l];exact r m)
 exact ED I.kIn O (c.get m) k.at_ k.fn hn h
theorem A5 {y:V}{u:Value}{Q:Unit->Shared->Prop}(I:Inv X pins Z H s) (e:H a=some (.ins C dx fs)) (c:Cls X.K C) (n:qM X.K C f) (hl:fs.length < 1000) (ry:bp y u)
  (h:∀s',Inv X pins Z (upd H a (.ins C dx (fu f y fs))) s'->Q () s'):wpAny (model X.prog X.w) A (setAttr (.ref a) f u) Q E s:=by
 obtain⟨mA,O,r,wi,_,ho⟩:=wy I.hok e;have hz:(fs.map (·.1)).length<=sizeLine:=by rw[List.length_map,sizeLine_eq];lia
 refine FD I.kIn O c.sa c.po n.taker c.hd wi hz fun h' O' sb=>h _ ?_
 have hd:∃o,h'.get? dx=some o:=let ⟨o,_,_,e',_⟩:=O'.ns;⟨o,e'⟩
 refine I.write (x:=a) (e:=dx) (by rw[e];exact True.intro) (.inr ho) (fun b q hb z=>(sb.2 b hb).trans z) hd ?_
 refine⟨by rw[az O.ne];exact ho,?_,O.ne,O'.obj,_,O'.ns,fun g=> ?_,fun g hg=> ?_⟩
 .have:=qZ f y fs;lia
 .show nR ((fu f y fs).lookup g) (if g=f then some u else mA g)
  rw[rj]
  by_cases q:g=f
  .rw[if_pos q,if_pos q];exact ry
  .rw[if_neg q,if_neg q];exact r g
 .by_cases q:g=f
  .rw[q];exact(qN f y fs).1
  .refine(qN f y fs).2 g (wi g fun z=>hg ?_)
   show(if g=f then some u else mA g)=none
   rw[if_neg q];exact z
theorem Inv.made (I:Inv X pins Z H s):Inv X pins Z (upd (upd H s.heap.objs.size (.own (s.heap.objs.size+1))) (s.heap.objs.size+1) (.ins C s.heap.objs.size []))
  {s with heap:=(s.heap.push W.emptyDict).push (W.instObj C s.heap.objs.size)}:=by
 have e1:(s.heap.push W.emptyDict).get? s.heap.objs.size=some W.emptyDict:=Heap.get?_push_size s.heap rfl;have e2:((s.heap.push W.emptyDict).push (W.instObj C s.heap.objs.size)).get? (s.heap.objs.size+1)=some (W.instObj C s.heap.objs.size):=by
  have:=Heap.get?_push_size (s.heap.push W.emptyDict) (o:=W.instObj C s.heap.objs.size) rfl
  rwa [Heap.size_push] at this
 have e3:(s.heap.push W.emptyDict).Ns s.heap.objs.size (fun _=>none):=⟨W.emptyDict, #[],_,e1,rfl,(fun e he=>absurd he (by simp)),fun _=>rfl⟩
 have I1:=I.laid (a:=s.heap.objs.size) (o:= .own (s.heap.objs.size+1)) (h':=s.heap.push W.emptyDict) (t':=s.toks) (fun b u q=>Heap.get?_push_of_some _ q) (Nat.le_refl _) ⟨_,e1⟩
 refine I1.laid (a:=s.heap.objs.size+1) (o:= .ins C s.heap.objs.size []) (t':=s.toks) (fun b u q=>Heap.get?_push_of_some _ q) (Nat.le_of_eq (Heap.size_push _ _)) ?_
 have ne:s.heap.objs.size≠s.heap.objs.size+1:=Nat.ne_of_lt (Nat.lt_succ_self _);refine⟨by rw[az ne,ad],Nat.zero_le _,ne,e2,fun _=>none,(Heap.Ns1.of_empty e3).at fun o q=>Heap.get?_push_of_some _ q,fun _=>True.intro,fun y hy=>absurd rfl hy⟩
theorem Fi {prog:Program}{w:World}{env:Env}{e:Expr}{f:Str}{pos:Pos}{s:Shared}{Q:Value->Shared->Prop}(hb:attributeBase e f env (eval e env)=eval e env)
  (h:wpAny (model prog w) A (eval e env) (fun o s₁=>wpAny (model prog w) A (getAttr o f true) Q E s₁) E s):wpAny (model prog w) A (eval (.Attribute e f pos) env) Q E s:=
 Attribute_any_ h (by rw[arm_eval_Attribute,hb])
end
def Je (K:Frag) (ta:TE) (f:Str):TE:=fun Z H Q=>ta Z H fun x H1=>∃a C dx fs v,x= .ref a/\H1 a=some (.ins C dx fs)/\Cls K C/\qM K C f/\fs.lookup f=some v/\Q v H1
def I_ (K:Frag) (ta tv:TE) (f:Str):TS:=fun D Z H=>tv Z H fun y H1=>ta Z H1 fun x H2=>∃a C dx fs,x= .ref a/\H2 a=some (.ins C dx fs)/\Cls K C/\qM K C f/\fs.length < 1000/\
 D.nx Z (upd H2 a (.ins C dx (fu f y fs)))
section
variable {X : Cx} {o e value : Expr} {f : Str} {pos pos' tpos : Pos} {ta tv : TE}
theorem d4 (he:PE X e ta) (hb:attributeBase e f X.env (eval e X.env)=eval e X.env):PE X (.Attribute e f pos) (Je X.K ta f):=by
 intro pins s Z H Q I h;refine Fi hb (thn (he pins s Z H _ I h) fun u s1 ⟨x,H1,I1,rx,a,C,dx,fs,v,ex,ea,c,n,l,q⟩=> ?_)
 subst ex;obtain rfl:u=Value.ref a:=rx;exact Ay I1 ea c n l fun u' s2 I2 ru=>⟨v,H1,I2,ru,q⟩
theorem gv (ha:PE X o ta) (hv:PE X value tv) (hs:swapsWith value (some (.Attribute o f pos')) pos.line X.env=pure false):PS X (.Assign [.Attribute o f pos'] value pos) (I_ X.K ta tv f):=by
 intro pins s Z H D I h;refine plainObj_wpAny_Assign_Attribute (dj (hv pins s Z H _ I h) fun u s1 y H1 I1 ry q=>thn (ha pins s1 Z H1 _ I1 q) fun ov s2 ⟨x,H2,I2,rx,a,C,dx,fs,ex,ea,c,n,l,q2⟩=> ?_) hs
 subst ex;obtain rfl:ov=Value.ref a:=rx;exact A5 I2 ea c n l ry fun s3 I3=>⟨Z,_,I3,q2⟩
end
section
variable {X : Cx} {pins : List (Addr × Obj)} {σ : St} {H : Hp} {s : Shared} {A : Around} {E : Value → Shared → Prop} {Q : Value → Shared → Prop} {c : Value} {b : Bool}
inductive rO (K:Frag) (H:Hp):V->Value->Prop where
 | non:rO K H .non (.type "NoneType")
 | bl (x:Bool):rO K H (.bl x) (.type "bool")
 | int (i:Int):rO K H (.int i) (.type "int")
 | str (x:Str):rO K H (.str x) (.type "str")
 | flt (x:UInt64):rO K H (.flt x) (.type "float")
 | lst {a:Addr}{xs:List V}(e:H a=some (.lst xs)):rO K H (.ref a) (.type "list")
 | frz {a:Addr}{o:Obj}{xs:List V}(e:H a=some (.frz o (.lst xs))):rO K H (.ref a) (.type "list")
 | tup {a:Addr}{xs:List V}(e:H a=some (.tup xs)):rO K H (.ref a) (.type "tuple")
 | dK {a:Addr}{kvs:List (Key × V)}(e:H a=some (.dK kvs)):rO K H (.ref a) (.type "dict")
 | dT {a:Addr}{kvs:List (List Key × V)}(e:H a=some (.dT kvs)):rO K H (.ref a) (.type "dict")
 | ins {a C dx:Addr}{fs:List (Str × V)}(e:H a=some (.ins C dx fs)) (cl:Cls K C) (ha:W.findIn K (.ref C) "__class__"=some (some (.builtin "object.__class__")))
   (hn:W.specialIn K (.builtin "object.__class__") "__get__"=some (some (.builtin "getset_descriptor.__get__"))) (htk:W.takesIn K (.builtin "object.__class__")=some true)
   (hm:W.mroIn K C (.type "object")=some true):rO K H (.ref a) (.ref C)
end
structure Room (k:Nat) (A:Around):Prop where
 hd:A.handled=none
 dp:A.depth+3*k+5 < recursionLimit
 un:A.units+16*k+200 < cLine
theorem Room.mono {j k:Nat}{A:Around}(r:Room k A) (h:j<=k):Room j A:=⟨r.hd,by have:=r.dp;lia,by have:=r.un;lia⟩
theorem Room.deeper {k:Nat}{A:Around}(r:Room (k+1) A) (env:Env):Room k (A.deeper env):=
 ⟨r.hd,by have:=r.dp;show A.depth+1+3*k+5 < _;lia,by have:=r.un;show A.units+3+16*k+200 < _;lia⟩
theorem AZ {A:Around}{C:Addr}{us:List Value}{kw:List (Str × Value)}:(A.under (.builtin "type.__call__" ⟨.ref C::us,kw⟩)).depth=A.depth+1:=by
 first | rfl | simp [Around.under,Code.weight,Code.isCreation,Code.isGuard,Code.isCaller,Code.frames,Code.isFrame,guardIds]
theorem Av {A:Around}{C:Addr}{us:List Value}{kw:List (Str × Value)}:(A.under (.builtin "type.__call__" ⟨.ref C::us,kw⟩)).units=A.units+1:=by
 first | rfl | simp [Around.under,Code.cUnits,Code.frames,Code.isFrame]
theorem Room.make {k:Nat}{A:Around}(r:Room (k+1) A) (C:Addr) (us:List Value) (kw:List (Str × Value)):Room k (A.under (.builtin "type.__call__" ⟨.ref C::us,kw⟩)):=
 ⟨r.hd,by have:=r.dp;rw[AZ];lia,by have:=r.un;rw[Av];lia⟩
theorem Room.depth {k:Nat}{A:Around}(r:Room k A):A.depth < recursionLimit:=by have:=r.dp;lia
theorem Room.units {k:Nat}{A:Around}(r:Room k A):A.units+64 < cLine:=by have:=r.un;lia
def sP:TA:=fun _ H Q=>Q [] H
def fC (ta:TE) (tr:TA):TA:=fun Z H Q=>ta Z H fun x H1=>tr Z H1 fun xs H2=>Q (x::xs) H2
section
variable {X : Cx} {e : Expr} {es : List Expr} {te : TE} {t : TA} {pos : Pos}
theorem cY:PA X [] sP:=fun _ _ _ _ H Q I h=>Calls.spliced_nil ⟨[],H,I,.nil,h⟩
theorem aN (ha:PE X e te) (hr:PA X es t) (hs:starEach (e::es) X.env=(false,eval e X.env)::starEach es X.env:=by rfl):PA X (e::es) (fC te t):=by
 intro pos pins s Z H Q I h;rw[hs];show wpAny _ _ (spliced ((false,eval e X.env)::backTo pos (starEach es X.env))) _ _ s
 refine Calls.spliced_cons (dj (ha pins s Z H _ I h) fun u s1 x H1 I1 r1 q1=> ?_)
 exact dj (hr pos pins s1 Z H1 _ I1 q1) fun us s2 xs H2 I2 r2 q2=>⟨x::xs,H2,I2,.cons r1 r2,q2⟩
def Ju (t:TA):TE:=fun Z H Q=>t Z H fun xs H1=>xs.length<=sizeLine/\∀p,H1 p=none->Q (.ref p) (upd H1 p (.tup xs))
def Jh (t:TA):TE:=fun Z H Q=>t Z H fun xs H1=>xs.length<=sizeLine/\∀p,H1 p=none->Q (.ref p) (upd H1 p (.lst xs))
theorem aw {x1} (h:PA X es t):PE X (.Tuple es x1 pos) (Ju t):=by
 intro pins s Z H Q I hq;refine wpAny_Tuple_spliced (thn (h pos pins s Z H _ I hq) fun us s1 ⟨xs,H1,I1,r,z,q⟩=>⟨by rw[<- r.length];exact z,?_⟩)
 have hf:H1 s1.heap.objs.size=none:=I1.hok.fresh (Nat.le_refl _);refine⟨.ref s1.heap.objs.size,upd H1 s1.heap.objs.size (.tup xs),I1.laid (t':=s1.toks) (fun b u e=>Heap.get?_push_of_some _ e) (Nat.le_refl _) ?_,rfl,q _ hf⟩
 exact⟨z,us,r,⟨_,Heap.get?_push_size _ rfl,rfl,_,rfl⟩⟩
theorem aT (h:PA X es t):PE X (.List es pos) (Jh t):=by
 intro pins s Z H Q I hq;refine wpAny_List_spliced (thn (h pos pins s Z H _ I hq) fun us s1 ⟨xs,H1,I1,r,z,q⟩=>⟨by rw[<- r.length];exact z,?_⟩)
 have hf:H1 s1.heap.objs.size=none:=I1.hok.fresh (Nat.le_refl _);refine⟨.ref s1.heap.objs.size,upd H1 s1.heap.objs.size (.lst xs),I1.laid (t':=s1.toks) (fun b u e=>Heap.get?_push_of_some _ e) (Nat.le_refl _) ?_,rfl,q _ hf⟩
 exact⟨z,us,0,r,Heap.get?_push_size _ rfl⟩
end
abbrev Sp:=List V->Hp->VK->XK->Prop
abbrev CXT:=List Env->Hp->Shared->XK->Value->Shared->Prop
structure AY (P:Program) (w:World) (K:Frag) (mg:Str->Option Value) (base:Heap) (A:Around) (outer:List Env) (s:Shared) (H:Hp):Prop where
 frames:A.frames=some outer
 mod:Mod K mg base
 bs:∀b o,base.get? b=some o->s.heap.get? b=some o/\H b=none
 bsz:base.objs.size<=s.heap.objs.size
 funs:s.heap.FunFrames base outer
 frf:∀b∈frs outer,H b=none
 hok:HOk P w H s.heap
 bare:AllBare s.gens
def CE (outer:List Env) (P:Program) (w:World) (H:Hp) (s:Shared) (Q:VK) (u:Value) (s':Shared):Prop:=
 ∃v H',s'.os=s.os/\AllBare s'.gens/\Un (frs outer) [] H H' s.heap s'.heap/\HOk P w H' s'.heap/\bp v u/\Q v H'
def CR (CX:CXT) (outer:List Env) (P:Program) (w:World) (H:Hp) (s:Shared) (Q:VK) (E:XK) (r:Result) (s':Shared):Prop:=
 match r with
 | .ok (.ret u)=>CE outer P w H s Q u s'
 | .ok _=>False
 | .error e=>CX outer H s E e s'
structure iF (P:Program) (w:World) (K:Frag) (mg:Str->Option Value) (base:Heap) (CX:CXT) (k:Nat) (f:Addr) (fd:FuncData) (ps:List Str) (sp:Sp):Prop where
 len:∀vs H Q E,sp vs H Q E->vs.length=ps.length
 run:∀(A:Around) (outer:List Env) (s:Shared) (H:Hp) (args:Args) (us:List Value) (vs:List V) (Q:VK) (E:XK),Room k A->AY P w K mg base A outer s H->BindsTo s fd args (ps.zip us)->aX vs us->sp vs H Q E->
  codeAny (model P w) A (.call (.ref f) args) (CR CX outer P w H s Q E) s
theorem iF.mono {P:Program}{w:World}{K:Frag}{mg:Str->Option Value}{base:Heap}{CX:CXT}{j k:Nat}{f:Addr}{fd:FuncData}{ps:List Str}{sp:Sp}(F:iF P w K mg base CX j f fd ps sp) (h:j<=k):
  iF P w K mg base CX k f fd ps sp:=⟨F.len,fun A outer s H args us vs Q E hr=>F.run A outer s H args us vs Q E (hr.mono h)⟩
theorem AY.make {P:Program}{w:World}{K:Frag}{mg:Str->Option Value}{base:Heap}{A:Around}{outer:List Env}{s:Shared}{H:Hp}(e:AY P w K mg base A outer s H) (C:Addr) (us:List Value) (kw:List (Str × Value)):
  AY P w K mg base (A.under (.builtin "type.__call__" ⟨.ref C::us,kw⟩)) outer s H:=⟨by first | exact e.frames | (simpa [Around.under,Code.envs,Code.isFrame,pushEnvs] using e.frames),e.mod,e.bs,e.bsz,e.funs,e.frf,e.hok,e.bare⟩
section
variable {X : Cx} {pins : List (Addr × Obj)} {σ : St} {H : Hp} {s s' : Shared}
theorem Inv.env0 (I:Inv X pins Z H s):AY X.prog X.w X.K X.mg X.base X.A X.stack s H:=
 ⟨I.ok.frames,I.ok.mod,I.bs,Nat.le_trans I.ok.bsz I.sz,I.stack,I.stkFree,I.hok,I.bare⟩
theorem Inv.after {Q:VK}{u:Value}(I:Inv X pins Z H s) (h:CE X.stack X.prog X.w H s Q u s'):EP X pins Z Q u s':=by
 obtain⟨v,H',os,bare,un,hok,r,q⟩:=h;obtain⟨hh,g,d,t,os'⟩:=s';obtain rfl:os'=s.os:=os;exact⟨v,H',I.call (h':=hh) (g':=g) (d':=d) (t':=t) (ch:=[]) un hok bare (fun b z=>absurd z (by simp)),r,q⟩
end
def yn (sp:Sp) (dvs:List V) (E:XK) (t:TA):TE:=fun Z H Q=>t Z H fun vs H1=>sp (vs++dvs) H1 Q E
def BB (C:Addr) (m:Str) (sp:Sp) (dvs:List V) (E:XK) (ta:TE) (t:TA):TE:=fun Z H Q=>ta Z H fun x H1=>∃a dx fs,x= .ref a/\H1 a=some (.ins C dx fs)/\fs.lookup m=none/\
 t Z H1 fun vs H2=>sp (x::(vs++dvs)) H2 Q E
def Bf (C:Addr) (sp:Sp) (dvs:List V) (E:XK) (t:TA):TE:=fun Z H Q=>t Z H fun vs H1=>∀x dx,H1 x=none->H1 dx=none->dx≠x->
 sp (.ref x::(vs++dvs)) (upd (upd H1 dx (.own x)) x (.ins C dx [])) (fun v H2=>v= .non/\Q (.ref x) H2) E
def gE (K:Frag) (fd:FuncData) (ps:List Str) (ds:List Value):Prop:=
 ∀(s:Shared) (us:List Value),K.In s.heap->(us++ds).length=ps.length->BindsTo s fd ⟨us,[]⟩ (ps.zip (us++ds))
theorem gE.all {K:Frag}{fd:FuncData}{ps:List Str}(h:∀us:List Value,us.length=ps.length->bindArgs fd ⟨us,[]⟩=pure (ps.zip us)):gE K fd ps []:=fun s us _ hl=>by
 rw[List.append_nil] at hl ⊢;exact .of_eq (h us hl)
def kF (CX:CXT) (X:Cx) (E:XK):Prop:=∀(pins:List (Addr × Obj)) (Z:St) (H:Hp) (s:Shared) (e:Value) (s':Shared),Inv X pins Z H s->CX X.stack H s E e s'->X.xe e s'
section
variable {X : Cx} {CX : CXT} {k : Nat} {f C : Addr} {fd : FuncData} {ps : List Str} {sp : Sp} {dvs : List V} {ds : List Value} {E : XK} {x m : Str} {p pos apos : Pos} {e o : Expr} {es : List Expr} {ta : TE} {t : TA}
theorem wz {pins:List (Addr × Obj)}{Z:St}{H:Hp}{s:Shared}{Q:VK}{us:List Value}{vs:List V}(F:iF X.prog X.w X.K X.mg X.base CX k f fd ps sp) (hr:Room k X.A) (hb:gE X.K fd ps ds) (hd:aX dvs ds) (hx:kF CX X E)
  (I:Inv X pins Z H s) (r:aX vs us) (h:sp (vs++dvs) H Q E):wpAny (model X.prog X.w) X.A (call (.ref f) us) (EP X pins Z Q) X.xe s:=by
 have r2:aX (vs++dvs) (us++ds):=r.append hd;have hl:(us++ds).length=ps.length:=by rw[<- r2.length];exact F.len _ _ _ _ h
 refine wpAny_call (codeAny_mono (F.run X.A X.stack s H ⟨us,[]⟩ (us++ds) (vs++dvs) Q E hr I.env0 (hb s us I.kIn hl) r2 h) fun r s' hq=> ?_)
 cases r with
 | error e=>exact hx pins Z H s e s' I hq
 | ok fl=>
  cases fl with
  | ret u=>exact I.after hq
  | next=>exact False.elim hq
  | brk=>exact False.elim hq
  | cont=>exact False.elim hq
theorem ES (F:iF X.prog X.w X.K X.mg X.base CX k f fd ps sp) (hr:Room k X.A) (hg:Gl X x) (hm:X.mg x=some (.ref f)) (hk:W.keepIn X.K (.ref f)=true) (hb:gE X.K fd ps ds) (hd:aX dvs ds) (hx:kF CX X E)
  (ha:PA X (e::es) t) (hdb:(x == ("__debug__":Str))=false:=by decide) (he:starEach (e::es) X.env=(false,eval e X.env)::starEach es X.env:=by rfl) (hpl:(backTo pos (starEach es X.env)).any (·.1)=false:=by rfl):
  PE X (.Call (.Name x p) (e::es) [] pos) (yn sp dvs E t):=by
 intro pins s Z H Q I h;refine wpAny_Call_Name_kw (jT I hg hm ?_ hdb)
 refine W.callWith_K (h₀:=X.base) I.ok.mod.kin hk (dj (ha pos pins s Z H _ I h) fun us s1 vs H1 I1 r q=>⟨I1.kIn,?_⟩) he hpl
 exact wz F hr hb hd hx I1 r q
theorem CZ (F:iF X.prog X.w X.K X.mg X.base CX k f fd ps sp) (hr:Room k X.A) (hg:Gl X x) (hm:X.mg x=some (.ref f)) (hk:W.keepIn X.K (.ref f)=true) (hb:gE X.K fd ps ds) (hd:aX dvs ds) (hx:kF CX X E)
  (hdb:(x == ("__debug__":Str))=false:=by decide):PE X (.Call (.Name x p) [] [] pos) (yn sp dvs E sP):=by
 intro pins s Z H Q I h;refine wpAny_Call_Name_kw (jT I hg hm ?_ hdb)
 exact W.callWith_K0 I.kIn hk (wz (us:=[]) F hr hb hd hx I .nil h)
theorem Fr {pl:Sem Bool}(he:PE X o ta) (c:Cls X.K C) (hm:Df X.K C m f) (F:iF X.prog X.w X.K X.mg X.base CX k f fd ps sp) (hr:Room k X.A) (hb:gE X.K fd ps ds) (hd:aX dvs ds) (hx:kF CX X E) (ha:PA X (e::es) t)
  (hst:starEach (e::es) X.env=(false,eval e X.env)::starEach es X.env:=by rfl) (hpl:(backTo pos (starEach es X.env)).any (·.1)=false:=by rfl)
  (ht:eval (.Call (.Attribute o m apos) (e::es) [] pos) X.env=(do
   let ov <-eval o X.env
   standAt apos.atName
   let (f,first) <-holding [ov] (getMethod ov m pl)
   callWith pos f first (backTo pos (starEach (e::es) X.env)) (backToKw pos (keywordEach [] X.env))):=by rfl):
  PE X (.Call (.Attribute o m apos) (e::es) [] pos) (BB C m sp dvs E ta t):=by
 intro pins s Z H Q I h;refine W.methodCall_KW (pl:=pl) (thn (he pins s Z H _ I h) fun u s1 ⟨x,H1,I1,rx,a,dx,fs,ex,ea,l,q⟩=> ?_) ht
 subst ex;obtain rfl:u=Value.ref a:=rx;refine tN I1 ea c hm l ?_
 refine W.callWith_K (first:=[.ref a]) (h₀:=X.base) I.ok.mod.kin hm.kp (dj (ha pos pins s1 Z H1 _ I1 q) fun us s2 vs H2 I2 r q2=>⟨I2.kIn,?_⟩) hst hpl
 exact wz (us:= .ref a::us) (vs:= .ref a::vs) F hr hb hd hx I2 (.cons rfl r) q2
theorem Do {pl:Sem Bool}(he:PE X o ta) (c:Cls X.K C) (hm:Df X.K C m f) (F:iF X.prog X.w X.K X.mg X.base CX k f fd ps sp) (hr:Room k X.A) (hb:gE X.K fd ps ds) (hd:aX dvs ds) (hx:kF CX X E)
  (ht:eval (.Call (.Attribute o m apos) [] [] pos) X.env=(do
   let ov <-eval o X.env
   standAt apos.atName
   let (f,first) <-holding [ov] (getMethod ov m pl)
   callWith pos f first (backTo pos (starEach [] X.env)) (backToKw pos (keywordEach [] X.env))):=by rfl):
  PE X (.Call (.Attribute o m apos) [] [] pos) (BB C m sp dvs E ta sP):=by
 intro pins s Z H Q I h;refine W.methodCall_KW (pl:=pl) (thn (he pins s Z H _ I h) fun u s1 ⟨x,H1,I1,rx,a,dx,fs,ex,ea,l,q⟩=> ?_) ht
 subst ex;obtain rfl:u=Value.ref a:=rx;refine tN I1 ea c hm l ?_
 exact W.callWith_K0 (first:=[.ref a]) I1.kIn hm.kp (wz (us:=[.ref a]) (vs:=[.ref a]) F hr hb hd hx I1 (.cons rfl .nil) q)
structure Mk (K:Frag) (C f:Addr):Prop where
 makes:W.makesIn K C=true
 init:W.findIn K (.ref C) "__init__"=some (some (.ref f))
 fn:W.isFn K (.ref f)=true
 kp:W.keepIn K (.ref C)=true
theorem yp {pins:List (Addr × Obj)}{Z:St}{H:Hp}{s:Shared}{Q:VK}{us:List Value}{vs:List V}(M:Mk X.K C f) (F:iF X.prog X.w X.K X.mg X.base CX k f fd ps sp) (hr:Room (k+1) X.A) (hb:gE X.K fd ps ds) (hd:aX dvs ds)
  (hx:kF CX X E) (I:Inv X pins Z H s) (r:aX vs us)
  (h:∀x dx,H x=none->H dx=none->dx≠x->sp (.ref x::(vs++dvs)) (upd (upd H dx (.own x)) x (.ins C dx [])) (fun v H2=>v= .non/\Q (.ref x) H2) E):
  wpAny (model X.prog X.w) X.A (call (.ref C) us) (EP X pins Z Q) X.xe s:=by
 have hq:=h (s.heap.objs.size+1) s.heap.objs.size (I.hok.fresh (Nat.le_succ _)) (I.hok.fresh (Nat.le_refl _)) (Nat.ne_of_lt (Nat.lt_succ_self _));have I2:=Inv.made (C:=C) I;have r2:aX (V.ref (s.heap.objs.size+1)::(vs++dvs)) (Value.ref (s.heap.objs.size+1)::(us++ds)):= .cons rfl (r.append hd);have hl:(Value.ref (s.heap.objs.size+1)::us++ds).length=ps.length:=by
  have e:=r2.length;rw[F.len _ _ _ _ hq] at e;exact e.symm
 refine wpAny_call (DP (f:=f) I.kIn M.makes M.init (beq_iff_eq.mp M.fn) (codeAny_mono (F.run _ X.stack _ _ ⟨Value.ref (s.heap.objs.size+1)::us,[]⟩ (Value.ref (s.heap.objs.size+1)::(us++ds)) _ _ E (hr.make C us [])
  (I2.env0.make C us []) (hb _ (Value.ref (s.heap.objs.size+1)::us) I2.kIn hl) r2 hq) fun r s' hq'=> ?_))
 cases r with
 | error e=>exact hx pins Z _ _ e s' I2 hq'
 | ok fl=>
  cases fl with
  | ret u=>
   obtain⟨v,H',I3,rv,ev,q3⟩:=I2.after hq';subst ev;exact⟨rv,⟨V.ref (s.heap.objs.size+1),H',I3,rfl,q3⟩⟩
  | next=>exact False.elim hq'
  | brk=>exact False.elim hq'
  | cont=>exact False.elim hq'
theorem FC (M:Mk X.K C f) (F:iF X.prog X.w X.K X.mg X.base CX k f fd ps sp) (hr:Room (k+1) X.A) (hg:Gl X x) (hm:X.mg x=some (.ref C)) (hb:gE X.K fd ps ds) (hd:aX dvs ds) (hx:kF CX X E)
  (ha:PA X (e::es) t) (hdb:(x == ("__debug__":Str))=false:=by decide) (he:starEach (e::es) X.env=(false,eval e X.env)::starEach es X.env:=by rfl) (hpl:(backTo pos (starEach es X.env)).any (·.1)=false:=by rfl):
  PE X (.Call (.Name x p) (e::es) [] pos) (Bf C sp dvs E t):=by
 intro pins s Z H Q I h;refine wpAny_Call_Name_kw (jT I hg hm ?_ hdb)
 refine W.callWith_K (h₀:=X.base) I.ok.mod.kin M.kp (dj (ha pos pins s Z H _ I h) fun us s1 vs H1 I1 r q=>⟨I1.kIn,?_⟩) he hpl
 exact yp M F hr hb hd hx I1 r q
theorem Db (M:Mk X.K C f) (F:iF X.prog X.w X.K X.mg X.base CX k f fd ps sp) (hr:Room (k+1) X.A) (hg:Gl X x) (hm:X.mg x=some (.ref C)) (hb:gE X.K fd ps ds) (hd:aX dvs ds) (hx:kF CX X E)
  (hdb:(x == ("__debug__":Str))=false:=by decide):PE X (.Call (.Name x p) [] [] pos) (Bf C sp dvs E sP):=by
 intro pins s Z H Q I h;refine wpAny_Call_Name_kw (jT I hg hm ?_ hdb)
 exact W.callWith_K0 I.kIn M.kp (yp (us:=[]) M F hr hb hd hx I .nil h)
end
structure aq (N P:List Str) (sc:Scope):Prop where
 kind:sc.kind= .function
 co:sc.isCoroutine=false
 gen:sc.isGenerator=false
 nd:N.Nodup
 pre:N.take P.length=P
 par:∀x∈P,sc.names.lookup x=some .local\/sc.names.lookup x=some .cell
 nofree:∀y∈sc.names,y.2≠ .free
theorem vL {kindOf:Str->Option NameKind}{x:Str}:∀ {binds:List (Str × Value)}{m:Str->Option Value},(∀ v,(x,v) ∉ binds)->bindL kindOf binds m x=m x
 | [],_,_=>rfl
 | (n,v)::r,m,h=>by
  unfold bindL;rw[vL fun w hw=>h w (List.mem_cons_of_mem _ hw)]
  split
  .have:x≠n:=by rintro rfl;exact h v List.mem_cons_self
   simp [this]
  .rfl
theorem wj {kindOf:Str->Option NameKind}{x:Str}:∀ {binds:List (Str × Value)}{m:Str->Option Value},(∀ v,(x,v) ∉ binds)->bindC kindOf binds m x=m x
 | [],_,_=>rfl
 | (n,v)::r,m,h=>by
  unfold bindC;rw[wj fun w hw=>h w (List.mem_cons_of_mem _ hw)]
  split
  .rfl
  .have:x≠n:=by rintro rfl;exact h v List.mem_cons_self
   simp [this]
theorem vT {kindOf:Str->Option NameKind}{x:Str}{v:Value}:∀ {P:List Str}{vs:List Value}{i:Nat}{m:Str->Option Value},P.Nodup->P[i]? =some x->vs[i]? =some v->kindOf x=some .local->
  bindL kindOf (P.zip vs) m x=some v
 | [],_,_,_,_,h,_,_=>by simp at h
 | _::_,[],_,_,_,_,h,_=>by simp at h
 | p::P,w::vs,0,m,nd,h1,h2,hk=>by
  simp at h1 h2;subst h1;subst h2
  show bindL kindOf ((p,w)::P.zip vs) m p=_
  unfold bindL;rw[vL fun v hv=>(List.nodup_cons.mp nd).1 (List.of_mem_zip hv).1,if_pos hk]
  simp
 | p::P,w::vs,i+1,m,nd,h1,h2,hk=>by
  show bindL kindOf ((p,w)::P.zip vs) m x=_
  unfold bindL;exact vT (i:=i) (List.nodup_cons.mp nd).2 (by simpa using h1) (by simpa using h2) hk
theorem wg {kindOf:Str->Option NameKind}{x:Str}{v:Value}:∀ {P:List Str}{vs:List Value}{i:Nat}{m:Str->Option Value},P.Nodup->P[i]? =some x->vs[i]? =some v->kindOf x≠some .local->
  bindC kindOf (P.zip vs) m x=some v
 | [],_,_,_,_,h,_,_=>by simp at h
 | _::_,[],_,_,_,_,h,_=>by simp at h
 | p::P,w::vs,0,m,nd,h1,h2,hk=>by
  simp at h1 h2;subst h1;subst h2
  show bindC kindOf ((p,w)::P.zip vs) m p=_
  unfold bindC;rw[wj fun v hv=>(List.nodup_cons.mp nd).1 (List.of_mem_zip hv).1,if_neg hk]
  simp
 | p::P,w::vs,i+1,m,nd,h1,h2,hk=>by
  show bindC kindOf ((p,w)::P.zip vs) m x=_
  unfold bindC;exact wg (i:=i) (List.nodup_cons.mp nd).2 (by simpa using h1) (by simpa using h2) hk
def start (N:List Str) (vs:List V):St:=vs.map some++List.replicate (N.length - vs.length) none
def pC (CX:CXT) (P:Program) (w:World) (K:Frag) (mg:Str->Option Value) (base:Heap) (N:List Str) (qual:Str) (scope:Scope) (f:Addr) (cd:Value) (A:Around) (outer:List Env) (s:Shared) (H:Hp) (E:XK):Cx where
 prog:=P
 w:=w
 K:=K
 mg:=mg
 base:=base
 A:=A.deeper (envOfC qual scope s.heap.objs.size f cd)
 N:=N
 s₀:=s
 H₀:=H
 env:=envOfC qual scope s.heap.objs.size f cd
 outer:=outer
 stack:=envOfC qual scope s.heap.objs.size f cd::outer
 ex:=[]
 calm:=true
 fn:=fun _=>true
 pn:=[]
 xe:=fun e s'=>wpAny (model P w) (A.deeper (envOfC qual scope s.heap.objs.size f cd)) (leaving (envOfC qual scope s.heap.objs.size f cd) e) (fun _ s''=>CX outer H s E e s'') (fun e' s''=>CX outer H s E e' s'') s'
theorem y6 {sc:Scope}{n:Nat}{x:Str}(h:sc.names.lookup x=some .cell):∃c,(cellsFrom n sc.names []).lookup x=some c:=by
 have q:=W.cellsFrom_some sc.names n [] (.inl h);exact Option.isSome_iff_exists.mp q
theorem Cz {CX:CXT}{P:Program}{w:World}{K:Frag}{mg:Str->Option Value}{base:Heap}{N ps:List Str}{qual:Str}{scope:Scope}{f:Addr}{cd:Value}{A:Around}{outer:List Env}{s s1:Shared}{H:Hp}{E:XK}{us:List Value}{vs:List V}
  (S:aq N ps scope) (hd:A.handled=none) (e0:AY P w K mg base A outer s H) (hl:vs.length=ps.length) (r:aX vs us)
  (x:InCallC s s.heap.objs.size (bindL (envOfC qual scope s.heap.objs.size f cd).kindOf (ps.zip us) fun _=>none) (cellsFrom (s.heap.objs.size+1) scope.names []) (bindC (envOfC qual scope s.heap.objs.size f cd).kindOf (ps.zip us) fun _=>none) s1):
  Inv (pC CX P w K mg base N qual scope f cd A outer s H E) [] (start N vs) H s1:=by
 have hpl:ps.length<=N.length:=by have:=congrArg List.length S.pre;rw[List.length_take] at this;lia
 obtain⟨h1,tk,rfl,hk⟩:=x.done;have noA:∀b:Addr,b ∉ (pC CX P w K mg base N qual scope f cd A outer s H E).ex:=fun b z=>absurd (show b∈([]:List Addr) from z) (by simp)
 refine⟨⟨e0.mod,S.kind,rfl,rfl,Nat.le_refl _,fun y z c h1 h2=> ?_,fun y hy=> ?_,fun y c _ h=> ?_,fun _=>hd,Around.frames_deeper e0.frames,.inr ⟨rfl,rfl⟩,fun b z=>absurd z (noA b),e0.bs,e0.bsz,fun b _ _=>noA b,fun b z=>absurd z (noA b),e0.funs,e0.frf⟩,
  rfl,e0.bare,Un.kept hk,⟨_,x.toInCall.ns,fun i y v h1 h2 h3=> ?_⟩,fun y c h=>⟨_,x.cell y c h⟩,e0.hok.fresh (Nat.le_refl _),fun y c h=> ?_,fun p hp=>absurd (show p∈([]:List (Addr × Obj)) from hp) (by simp),e0.hok.kept hk,?_⟩
 .exact name_of_addr x.apart (PySem.mem_of_lookup h1) (PySem.mem_of_lookup h2)
 .have hy:scope.names.lookup y=some .cell\/scope.names.lookup y=some .free:=hy;rcases hy with hy | hy
  .exact y6 hy
  .exact absurd rfl (S.nofree _ (PySem.mem_of_lookup hy))
 .exact Nat.le_of_lt (x.above y c (PySem.mem_of_lookup h))
 .have hi:i < vs.length:=by
   unfold start at h2
   by_cases hi:i < vs.length
   .exact hi
   .rw[List.getElem?_append_right (by simpa using hi)] at h2
    rw[List.getElem?_replicate] at h2
    split at h2 <;> cases h2
  have ha:vs[i]? =some v:=by
   unfold start at h2;rw[List.getElem?_append_left (by simpa using hi),List.getElem?_map] at h2
   cases e:vs[i]? with
   | none=>rw[e] at h2;cases h2
   | some a=>rw[e] at h2;cases h2;rfl
  obtain⟨u,hu,rv⟩:=r.get ha;have hp:ps[i]? =some y:=by
   rw[<- S.pre,List.getElem?_take_of_lt (by lia)];exact h1
  have ndP:ps.Nodup:=by rw[<- S.pre];exact S.nd.sublist (List.take_sublist _ _)
  refine⟨u,rv,?_⟩
  rcases S.par y (List.mem_of_getElem? hp) with k | k
  .exact .inl ⟨k,vT ndP hp hu k⟩
  .obtain⟨c,e⟩:=y6 (n:=s.heap.objs.size+1) k;refine .inr ⟨.inl k,c,e,?_⟩
   have q:=x.cell y c e;rw[wg ndP hp hu (by show scope.names.lookup y≠_;rw[k];decide)] at q
   exact q
 .exact e0.hok.fresh (Nat.le_of_lt (x.above y c (PySem.mem_of_lookup h)))
 .unfold start;show _=N.length
  rw[List.length_append,List.length_map,List.length_replicate]
  lia
theorem Gj {CX:CXT}{P:Program}{w:World}{K:Frag}{mg:Str->Option Value}{base:Heap}{k:Nat}{f:Addr}{name qual:Str}{params:Arguments}{body:List Stmt}{scope:Scope}{dV kV doc pm cdv ct oc:Value}{an od:Option Addr}
  {osl:Array (Option Value)}{N ps:List Str}{sp:Sp}(lk:K.lookup f=some ⟨oc,od,.func (W.fnOf name qual params body scope dV kV doc pm an cdv ct),osl⟩) (hcd:W.codeIn K cdv qual=true) (S:aq N ps scope)
  (len:∀vs H Q E,sp vs H Q E->vs.length=ps.length)
  (hbody:∀(A:Around) (outer:List Env) (s:Shared) (H:Hp) (vs:List V) (Q:VK) (E:XK),Room k (A.deeper (envOfC qual scope s.heap.objs.size f cdv))->sp vs H Q E->
   ∃t,PSs (pC CX P w K mg base N qual scope f cdv A outer s H E) body t/\t {nx:=fun _ H'=>Q .non H',rt:=Q} (start N vs) H):
  iF P w K mg base CX (k+1) f (W.fnOf name qual params body scope dV kV doc pm an cdv ct) ps sp:=by
 refine⟨len,fun A outer s H args us vs Q E hr e0 hb r hsp=> ?_⟩
 have hl:=len _ _ _ _ hsp;have KX:K.In s.heap:=e0.mod.kin.keeps fun b o e=>(e0.bs b o e).1
 have lim:s.heap.NoLimit:=e0.mod.nolimit.keeps fun b o e=>(e0.bs b o e).1
 have hkind:∀y∈ps.zip us,scope.names.lookup y.1=some .local\/(scope.names.lookup y.1=some .cell/\((cellsFrom (s.heap.objs.size+1) scope.names []).lookup y.1).isSome=true):=fun⟨n,v⟩ hy=>by
  rcases S.par n (List.of_mem_zip hy).1 with q | q
  .exact .inl q
  .exact .inr ⟨q,W.cellsFrom_some _ _ _ (.inl q)⟩
 refine codeAny_call_function hr.depth (KX _ _ lk) rfl S.co S.gen rfl (W.codeRec_of KX hcd) (hb _ _ _ _ ?_)
 refine wpAny_newFunctionEnv_cells S.kind hkind fun env he s1 x=> ?_
 subst he;refine⟨lim.keeps x.toInCall.keep,codeAny_func ?_⟩
 obtain⟨t,ht,hq⟩:=hbody A outer s H vs Q E (hr.deeper _) hsp;have I:Inv (pC CX P w K mg base N qual scope f cdv A outer s H E) [] (start N vs) H s1:=Cz S hr.hd e0 hl r x;refine wpAny_mono (ht [] s1 (start N vs) H _ I hq) (fun fl s' hs=> ?_) fun e s' hs=>hs
 have fin:∀ {Z':St}{H':Hp}{v:V}{u:Value},Inv (pC CX P w K mg base N qual scope f cdv A outer s H E) [] Z' H' s'->bp v u->Q v H'->CE outer P w H s Q u s':=
  fun {Z' H' v u} J rv q=>⟨v,H',J.os,J.bare,J.base,J.hok,rv,q⟩
 cases fl with
 | ret u=>
  obtain⟨v,Z',H',J,rv,q⟩:=hs;exact fin J rv q
 | next=>
  obtain⟨Z',H',J,q⟩:=hs;exact fin (v:=V.non) (u:=Value.none) J rfl q
 | brk=>
  obtain⟨_,_,_,q⟩:=hs;exact False.elim q
 | cont=>
  obtain⟨_,_,_,q⟩:=hs;exact False.elim q
section
variable {X : Cx} {x : Str} {p pos : Pos} {e : Expr} {es : List Expr} {t : TA} {id T : String} {r : List V → Hp → VK → Prop}
def tCB (r:List V->Hp->VK->Prop) (t:TA):TE:=fun Z H Q=>t Z H fun vs H1=>r vs H1 Q
theorem aF (hc:mG X (.builtin id) r) (hg:Gl X x) (hm:X.mg x=none) (hv:bootBuiltins x=some (.builtin id)) (ha:PA X (e::es) t) (hn:x≠"__name__":=by decide) (hdb:(x == ("__debug__":Str))=false:=by decide)
  (he:starEach (e::es) X.env=(false,eval e X.env)::starEach es X.env:=by rfl) (hpl:(backTo pos (starEach es X.env)).any (·.1)=false:=by rfl):PE X (.Call (.Name x p) (e::es) [] pos) (tCB r t):=by
 intro pins s Z H Q I h;refine wpAny_Call_Name_kw (uu I hg hm hv ?_ hn hdb)
 exact PyProof.Rows.callWith_builtin1 (dj (ha pos pins s Z H _ I h) fun us s1 vs H1 I1 r1 q1=>hc pins s1 Z H1 vs us Q I1 r1 q1) he hpl
theorem jA (hc:mG X (.type T) r) (hg:Gl X x) (hm:X.mg x=none) (hv:bootBuiltins x=some (.type T)) (ha:PA X (e::es) t) (hn:x≠"__name__":=by decide) (hdb:(x == ("__debug__":Str))=false:=by decide)
  (he:starEach (e::es) X.env=(false,eval e X.env)::starEach es X.env:=by rfl) (hpl:(backTo pos (starEach es X.env)).any (·.1)=false:=by rfl):PE X (.Call (.Name x p) (e::es) [] pos) (tCB r t):=by
 intro pins s Z H Q I h;refine wpAny_Call_Name_kw (uu I hg hm hv ?_ hn hdb)
 exact PyProof.Rows.callWith_type1 (dj (ha pos pins s Z H _ I h) fun us s1 vs H1 I1 r1 q1=>hc pins s1 Z H1 vs us Q I1 r1 q1) he hpl
end
end L2
namespace HT
open PySem PyProof.Rows
section
variable {prog : Program} {w : World} {A : Around} {E : Value → Shared → Prop} {s : Shared}
theorem cat_tup {t b:Addr}{vs ws:List Value}{Q:Value->Shared->Prop}(ht:IsTup s.heap t vs.toArray) (hb:IsTup s.heap b ws.toArray) (hv:vs≠[])
  (h1:ws=[]->Q (.ref t) s) (h2:ws≠[]->Q (.ref s.heap.objs.size) {s with heap:=s.heap.push {cls:= .type "tuple",data:= .seq (vs++ws).toArray}})
  (hsz:vs.length+ws.length<=sizeLine):wpAny (model prog w) A (binaryOp .Add (.ref t) (.ref b)) Q E s:=by
 obtain⟨⟨cls,dd,data,sl⟩,ho,hc,n,hd⟩:=id ht;obtain⟨⟨cls2,dd2,data2,sl2⟩,ho2,hc2,n2,hd2⟩:=id hb
 simp only at hc hd hc2 hd2
 subst hc hd hc2 hd2;have e:vs.toArray++ws.toArray=(vs++ws).toArray:=by simp
 by_cases hw:ws=[]
 .exact concat_meets ⟨_,ho,rfl⟩ ⟨_,ho2,rfl⟩ noFill_tuple_add seq_tuple_add PySem.F.slot_tuple_add PySem.F.entry_tuple_add (PySem.F.args_tuple_add_2 _ _)
   (tuple_addW1 t b vs.toArray ws.toArray n n2 dd dd2 sl sl2 (by simpa using hv) (by simp [hw])) ⟨ho,ho2,h1 hw⟩
 .refine concat_meets ⟨_,ho,rfl⟩ ⟨_,ho2,rfl⟩ noFill_tuple_add seq_tuple_add PySem.F.slot_tuple_add PySem.F.entry_tuple_add (PySem.F.args_tuple_add_2 _ _)
   (tuple_addW2 t b vs.toArray ws.toArray n n2 dd dd2 sl sl2 (by simpa using hv) (by simpa using hw) (by rw[List.size_toArray,List.size_toArray];exact hsz)) ⟨ho,ho2,?_⟩
  rw[e];exact h2 hw
def sIx (n d:Nat):Option Int->Nat
 | none=>d
 | some v=>if v < 0 then(v+(n:Int)).toNat else min v.toNat n
theorem sIx_none (n d:Nat):sIx n d none=d:=rfl
theorem sIx_nat (n d k:Nat):sIx n d (some (k:Int))=min k n:=by
 show(if (k:Int) < 0 then((k:Int)+(n:Int)).toNat else min (k:Int).toNat n)=min k n
 rw[if_neg (by lia),Int.toNat_natCast]
theorem Hr (n d:Nat) (hd:d<=n) (o:Option Int):sIx n d o<=n:=by
 cases o with
 | none=>exact hd
 | some v=>
  show(if v < 0 then(v+(n:Int)).toNat else min v.toNat n)<=n
  by_cases hv:v < 0
  .rw[if_pos hv];lia
  .rw[if_neg hv];exact Nat.min_le_right _ _
theorem BR (v:Int) (n d:Nat):(if v < 0 then max (v+(n:Int)) 0 else min v (n:Int))=((sIx n d (some v):Nat):Int):=by
 show(if v < 0 then max (v+(n:Int)) 0 else min v (n:Int))=(((if v < 0 then(v+(n:Int)).toNat else min v.toNat n):Nat):Int)
 by_cases hv:v < 0
 .simp only[if_pos hv];lia
 .simp only[if_neg hv];lia
theorem AO (lo hi:Option Int) (n:Nat):Builtin.Slice.sliceAdjust lo hi 1 (n:Int)=(((sIx n 0 lo:Nat):Int),((sIx n n hi:Nat):Int)):=by
 have h1:¬((1:Int) < 0):=by lia
 unfold Builtin.Slice.sliceAdjust
 simp only[h1,if_false]
 refine Prod.ext ?_ ?_
 .cases lo with
  | none=>rfl
  | some v=>exact BR v n 0
 .cases hi with
  | none=>rfl
  | some v=>exact BR v n n
theorem AM (i j:Nat):Builtin.Slice.slicePlaces (i:Int) (j:Int) 1=j - i:=by
 unfold Builtin.Slice.slicePlaces;have h1:(1:Int) >0:=by lia
 simp only[h1,if_true,Int.ediv_one]
 split <;> lia
theorem tu {v:Value}{o:Option Int}{Q:Option Int->Shared->Prop}(p:IsPart v o) (h:Q o s):wpAny (model prog w) A (Builtin.Slice.slicePartIndex v) Q E s:=by
 cases p with
 | none=>exact slicePart_none h
 | int i t=>exact slicePart_int h
theorem qr {sl:Addr}{vl vu:Value}{lo hi:Option Int}{n:Nat}{Q:Int × Int × Nat->Shared->Prop}(hs:s.heap.IsSliceOf sl vl vu .none) (pl:IsPart vl lo) (pu:IsPart vu hi)
  (h:Q (((sIx n 0 lo:Nat):Int),1,sIx n n hi - sIx n 0 lo) s):wpAny (model prog w) A (Builtin.Slice.sliceApplied (.ref sl) (pure (n:Int))) Q E s:=by
 obtain⟨os,hos,hcs,hds⟩:=id hs;unfold Builtin.Slice.sliceApplied Builtin.Slice.sliceFields;refine wpAny_bind (wpAny_bind (wpAny_field hos hds (x:=vl) rfl (wpAny_bind (wpAny_field hos hds (x:=vu) rfl (wpAny_bind (wpAny_field hos hds (x:= .none) rfl (wpAny_pure ?_)))))))
 refine wpAny_bind (slicePart_none ?_)
 show wpAny _ _ (if ((1:Int) == 0)=true then _ else _) _ _ s
 rw[if_neg (by decide)]
 refine wpAny_bind (tu pl (wpAny_bind (tu pu (wpAny_bind (wpAny_pure ?_)))))
 show wpAny _ _ (match Builtin.Slice.sliceAdjust lo hi 1 (n:Int) with | (lo,hi)=>pure (lo,(1:Int),Builtin.Slice.slicePlaces lo hi 1)) _ _ s
 rw[AO lo hi n];show wpAny _ _ (pure (((sIx n 0 lo:Nat):Int),(1:Int),Builtin.Slice.slicePlaces ((sIx n 0 lo:Nat):Int) ((sIx n n hi:Nat):Int) 1)) _ _ s
 rw[AM];exact wpAny_pure h
theorem DZ (xs:Array Value) (i k:Nat):((List.range k).filterMap fun(m:Nat)=>xs[((i:Int)+(m:Int)*1).toNat]?).toArray=((xs.toList.drop i).take k).toArray:=by
 have e:(fun(m:Nat)=>xs[((i:Int)+(m:Int)*1).toNat]?)=fun m=>xs[i+m]? :=by
  funext m
  have:((i:Int)+(m:Int)*1).toNat=i+m:=by lia
  rw[this]
 rw[e];have:=pick_run xs i k;rw[List.filterMap_map] at this;have e2:((fun x=>xs[x]?) ∘ fun x=>i+x)=fun m=>xs[i+m]? :=rfl
 rw[e2] at this;rw[this]
theorem getItem_tuple_cut {t sl:Addr}{items:Array Value}{vl vu:Value}{lo hi:Option Int}{Q:Value->Shared->Prop}(ht:IsTup s.heap t items) (hs:s.heap.IsSliceOf sl vl vu .none) (pl:IsPart vl lo) (pu:IsPart vu hi)
  (hw:¬(sIx items.size 0 lo=0/\sIx items.size items.size hi=items.size))
  (h:Q (.ref s.heap.objs.size) {s with heap:=s.heap.push {cls:= .type "tuple",data:= .seq ((items.toList.drop (sIx items.size 0 lo)).take (sIx items.size items.size hi - sIx items.size 0 lo)).toArray}})
  (hsz:items.size<=sizeLine):wpAny (model prog w) A (getItem (.ref t) (.ref sl)) Q E s:=by
 have htake:sizeOk (.seq ((items.toList.drop (sIx items.size 0 lo)).take (sIx items.size items.size hi - sIx items.size 0 lo)).toArray):=by
  show((items.toList.drop (sIx items.size 0 lo)).take (sIx items.size items.size hi - sIx items.size 0 lo)).toArray.size<=sizeLine
  rw[List.size_toArray,List.length_take,List.length_drop,Array.length_toList]
  lia
 have hj:sIx items.size items.size hi<=items.size:=Hr _ _ (Nat.le_refl _) hi;obtain⟨os,hos,hcs,hds⟩:=id hs;have hTs:s.TypeIs (.ref sl) "slice":=⟨os,hos,hcs⟩;unfold getItem
 try with_reducible refine wpAny_holding ?_
 first | refine wpAny_bind (wpAny_pure ?_) | skip
 refine wpAny_bind (wpAny_sequenceKey ht.typeIs (by decide) ?_)
 refine wpAny_bind (wpAny_callSpecial?_slot (name:=Str.ofString "__getitem__") ht.typeIs PyProof.Rows.slot_tuple_getitem
  (wpAny_call_entry PyProof.Rows.slot_tuple_getitem ht.typeIs entry_tuple_getitem ?_ (args_tuple_getitem _ _)))
 show wpAny _ _ (Builtin.Tuple.tupleItemsOf (.ref t) >>= _) _ _ s
 refine wpAny_bind (tupleItemsOf_ ht ?_)
 refine wpAny_bind (wpAny_typeOf hTs ?_)
 rw[if_pos (by decide)]
 refine wpAny_bind (qr hs pl pu ?_)
 have hno:¬((((sIx items.size 0 lo:Nat):Int) == 0 && (1:Int) == 1 && (sIx items.size items.size hi - sIx items.size 0 lo) == items.size)=true):=by
  intro q;rw[Bool.and_eq_true,Bool.and_eq_true] at q;have q1:((sIx items.size 0 lo:Nat):Int)=0:=eq_of_beq q.1.1;have q2:sIx items.size items.size hi - sIx items.size 0 lo=items.size:=eq_of_beq q.2;exact hw ⟨by lia,by lia⟩
 show wpAny _ _ (if (((sIx items.size 0 lo:Nat):Int) == 0 && (1:Int) == 1 && (sIx items.size items.size hi - sIx items.size 0 lo) == items.size)=true then _ else _) _ _ s
 rw[if_neg hno,DZ]
 first
  | exact wpAny_bind (m:=Builtin.Tuple.tupleExact _) (wpAny_newObj_type (wpAny_pure ⟨_,rfl,wpAny_pure h⟩) htake)
  | exact wpAny_bind (m:=Builtin.Tuple.tupleExact _) (wpAny_newObj_type (wpAny_bind (wpAny_pure (wpAny_pure ⟨_,rfl,wpAny_pure h⟩))) htake)
  | exact wpAny_bind (wpAny_bind (m:=Builtin.Tuple.tupleExact _) (wpAny_newObj_type (wpAny_pure (wpAny_pure ⟨_,rfl,wpAny_pure h⟩)) htake))
  | exact wpAny_bind (wpAny_bind (m:=Builtin.Tuple.tupleExact _) (wpAny_newObj_type (wpAny_pure ⟨_,rfl,wpAny_pure h⟩) htake))
end
end HT
namespace L2
open PySem PySem.Spec PyProof.Rows
abbrev TO:=St->Hp->(Option Int->Hp->Prop)->Prop
def PO (X:Cx) (e:Option Expr) (t:TO):Prop:=
 ∀(pins:List (Addr × Obj)) (s:Shared) (Z:St) (H:Hp) (Q:Option Int->Hp->Prop),Inv X pins Z H s->t Z H Q->
  wpAny (model X.prog X.w) X.A (evalPart e X.env) (fun u s'=>∃o H',Inv X pins Z H' s'/\IsPart u o/\Q o H') X.xe s
def Fm:TO:=fun _ H Q=>Q none H
def HC (t:TE):TO:=fun Z H Q=>t Z H fun x H1=>∃i,x= .int i/\Q (some i) H1
theorem cK {ns:List Int}:∀ {us:List Value},aX (ns.map V.int) us->IntsAre us ns:=by
 induction ns with
 | nil=>intro us r;rw[List.map_nil] at r;cases r;exact .nil
 | cons n ns ih=>
  intro us r;rw[List.map_cons] at r
  cases r with
  | cons r1 r2=>
   obtain⟨t,e⟩:=r1;subst e;exact .cons n t (ih r2)
section
variable {X : Cx} {e : Expr} {te : TE} {lo hi : Option Expr} {tl th : TO} {pos p2 : Pos}
theorem fz:PO X none Fm:=by
 intro pins s Z H Q I h;rw[evalPart_none];exact wpAny_pure ⟨none,H,I,.none,h⟩
theorem dW (h:PE X e te):PO X (some e) (HC te):=by
 intro pins s Z H Q I hw;rw[evalPart_some];refine dj (h pins s Z H _ I hw) fun u s1 x H1 I1 r1 q1=> ?_
 obtain⟨i,rfl,q⟩:=q1;obtain⟨t,rfl⟩:=r1;exact⟨some i,H1,I1,.int i t,q⟩
def SlR (X:Cx) (r:V->Option Int->Option Int->Hp->VK->Prop):Prop:=
 ∀(pins:List (Addr × Obj)) (s:Shared) (Z:St) (H:Hp) (x:V) (v vl vu:Value) (lo hi:Option Int) (sl:Addr) (Q:VK),Inv X pins Z H s->bp x v->s.heap.IsSliceOf sl vl vu .none->IsPart vl lo->IsPart vu hi->r x lo hi H Q->
  ∃T id,typeLookup (.type T) "__getitem__"=pure (some (.builtin id))/\s.TypeIs v T/\wpAny (model X.prog X.w) X.A (getItem v (.ref sl)) (EP X pins Z Q) X.xe s
def tSl (r:V->Option Int->Option Int->Hp->VK->Prop) (te:TE) (tl th:TO):TE:=fun Z H Q=>te Z H fun x H1=>tl Z H1 fun l H2=>th Z H2 fun u H3=>r x l u H3 Q
theorem dm {r:V->Option Int->Option Int->Hp->VK->Prop}(hr:SlR X r) (he:PE X e te) (hl:PO X lo tl) (hu:PO X hi th):PE X (.Subscript e (.Slice lo hi none p2) pos) (tSl r te tl th):=by
 intro pins s Z H Q I h;refine Subscript_ (dj (he pins s Z H _ I h) fun v s1 x H1 I1 r1 q1=> ?_)
 refine wpAny_Slice (dj (hl pins s1 Z H1 _ I1 q1) fun vl s2 l H2 I2 pl q2=>dj (hu pins s2 Z H2 _ I2 q2) fun vu s3 u H3 I3 pu q3=> ?_)
 rw[evalPart_none];refine wpAny_pure ?_
 have I4:Inv X pins Z H3 {s3 with heap:=s3.heap.push {cls:= .type "slice",data:= .fields #[vl,vu,.none]}}:=I3.kept (t':=s3.toks) fun b ob q=>Heap.get?_push_of_some _ q
 obtain⟨T,id,hT,ht,hg⟩:=hr pins {s3 with heap:=s3.heap.push {cls:= .type "slice",data:= .fields #[vl,vu,.none]}} Z H3 x v vl vu l u s3.heap.objs.size Q I4 r1 (Heap.IsSliceOf.new ..) pl pu q3
 show wpAny (model X.prog X.w) X.A (subscriptTail e (.Slice lo hi none p2) v (.ref s3.heap.objs.size)) (EP X pins Z Q) X.xe {s3 with heap:=s3.heap.push {cls:= .type "slice",data:= .fields #[vl,vu,.none]}}
 exact tail_any (ops:=[.ref s3.heap.objs.size,v]) ht hT hg (by with_unfolding_all rfl)
def fZ (xs:List V) (lo hi:Option Int):List V:=(xs.drop (HT.sIx xs.length 0 lo)).take (HT.sIx xs.length xs.length hi - HT.sIx xs.length 0 lo)
theorem rl (xs:List V) (lo hi:Option Int):(fZ xs lo hi).length<=xs.length:=by
 unfold fZ;rw[List.length_take,List.length_drop]
 lia
def Jb (K:Frag):V->Option Int->Option Int->Hp->VK->Prop:=fun x lo hi H Q=>∃a xs,x= .ref a/\SqT K H a xs/\
 ¬(HT.sIx xs.length 0 lo=0/\HT.sIx xs.length xs.length hi=xs.length)/\∀p,H p=none->Q (.ref p) (upd H p (.tup (fZ xs lo hi)))
theorem iT:SlR X (Jb X.K):=by
 intro pins s Z H x v vl vu lo hi sl Q I rx hs pl pu h;obtain⟨a,xs,rfl,hx,hw,q⟩:=h
 cases rx
 obtain⟨its,r,ht,hz⟩:=I.tuple hx;have hlen:its.toArray.size=xs.length:=by rw[List.size_toArray];exact r.length.symm
 refine⟨"tuple",_,PyProof.Rows.slot_tuple_getitem.lookup,ht.typeIs,?_⟩
 refine HT.getItem_tuple_cut ht hs pl pu (by rw[hlen];exact hw) ?_ (by rw[hlen];exact hz)
 rw[hlen];refine⟨.ref s.heap.objs.size,_,I.laid (t':=s.toks) (o:= .tup (fZ xs lo hi)) (fun b ob q=>Heap.get?_push_of_some _ q) (Nat.le_refl _) ?_,rfl,q _ (I.hok.fresh (Nat.le_refl _))⟩
 exact⟨Nat.le_trans (rl xs lo hi) hz,_,(r.drop (HT.sIx xs.length 0 lo)).take (HT.sIx xs.length xs.length hi - HT.sIx xs.length 0 lo),IsTup.new _ _⟩
def HG (K:Frag):R2:=fun x y H Q=>∃a b xs ys,x= .ref a/\y= .ref b/\SqT K H a xs/\SqT K H b ys/\xs≠[]/\xs.length+ys.length<=sizeLine/\
 (ys=[]->Q (.ref a) H)/\(ys≠[]->∀p,H p=none->Q (.ref p) (upd H p (.tup (xs++ys))))
theorem aX.nil_iff {xs:List V}{us:List Value}(r:aX xs us):us=[]↔xs=[]:=by
 cases r with
 | nil=>simp
 | cons _ _=>simp
theorem xt:OpR X (binaryOp .Add) (HG X.K):=by
 intro pins s Z H x y v u Q I rx ry h;obtain⟨a,b,xs,ys,rfl,rfl,ha,hb,hx,hz,q1,q2⟩:=h
 cases rx
 cases ry
 obtain⟨its,r1,p1,_⟩:=I.tuple ha;obtain⟨its2,r2,p2,_⟩:=I.tuple hb;refine HT.cat_tup p1 p2 (fun z=>hx (r1.nil_iff.mp z)) (fun z=>⟨.ref a,H,I,rfl,q1 (r2.nil_iff.mp z)⟩) (fun z=> ?_) (by rw[<- r1.length, <-r2.length];exact hz)
 refine⟨.ref s.heap.objs.size,_,I.laid (t':=s.toks) (o:= .tup (xs++ys)) (fun b ob q=>Heap.get?_push_of_some _ q) (Nat.le_refl _) ?_,rfl,q2 (fun w=>z (r2.nil_iff.mpr w)) _ (I.hok.fresh (Nat.le_refl _))⟩
 exact⟨by rw[List.length_append];exact hz,_,r1.append r2,IsTup.new _ _⟩
end
def ixN (n:Nat) (i:Int):Option Nat:=if 0<=i then(if i < n then some i.toNat else none) else if -(n:Int)<=i then some (i+n).toNat else none
def atI {α:Type}(xs:List α) (i:Int):Option α:=(ixN xs.length i).bind fun j=>xs[j]?
theorem BY {n:Nat}{i:Int}{j:Nat}(h:ixN n i=some j):seqIndex? i n=some j/\j < n/\ -(n:Int)<=i/\i < n:=by
 unfold ixN at h
 by_cases h0:0<=i
 .rw[if_pos h0] at h
  by_cases h1:i < n
  .rw[if_pos h1] at h;have e:i.toNat=j:=Option.some.inj h;exact⟨by rw[seqIndex_of h0 h1,e],by lia,by lia,h1⟩
  .rw[if_neg h1] at h;cases h
 .rw[if_neg h0] at h
  by_cases h1: -(n:Int)<=i
  .rw[if_pos h1] at h;have e:(i+n).toNat=j:=Option.some.inj h;exact⟨by rw[seqIndex_neg (by lia) h1,e],by lia,h1,by lia⟩
  .rw[if_neg h1] at h;cases h
theorem wN {α:Type}{xs:List α}{i:Int}{v:α}(h:atI xs i=some v):∃j,seqIndex? i xs.length=some j/\xs[j]? =some v/\j < xs.length/\ -(xs.length:Int)<=i/\i < xs.length:=by
 unfold atI at h
 cases e:ixN xs.length i with
 | none=>rw[e] at h;cases h
 | some j=>
  rw[e] at h;obtain⟨h1,h2,h3,h4⟩:=BY e;exact⟨j,h1,h,h2,h3,h4⟩
theorem a9 {α:Type}{xs:List α}{j:Nat}{v:α}(h:xs[j]? =some v):atI xs (j:Int)=some v:=by
 have hj:j < xs.length:=(List.getElem?_eq_some_iff.mp h).1;have e:ixN xs.length (j:Int)=some j:=by
  unfold ixN;rw[if_pos (by lia),if_pos (by lia)];simp
 unfold atI;rw[e];exact h
def BK (b:Expr):Prop:=∀o i,subscripted b false o i=operate [o,i] (getItem o i)
def IxR (X:Cx) (r:R2):Prop:=
 ∀(value slice:Expr) (pins:List (Addr × Obj)) (s:Shared) (Z:St) (H:Hp) (x y:V) (v u:Value) (Q:VK),Inv X pins Z H s->bp x v->bp y u->r x y H Q->
  subscripted slice false v u=operate [v,u] (getItem v u)->wpAny (model X.prog X.w) X.A (subscriptTail value slice v u) (EP X pins Z Q) X.xe s
def MtR (X:Cx) (id:String) (r:V->List V->Hp->VK->Prop):Prop:=
 ∀(pins:List (Addr × Obj)) (s:Shared) (Z:St) (H:Hp) (x:V) (xs:List V) (v:Value) (us:List Value) (Q:VK),Inv X pins Z H s->bp x v->aX xs us->r x xs H Q->
  wpAny (model X.prog X.w) X.A (call (.builtin id) (v::us)) (EP X pins Z Q) X.xe s
section
variable {X : Cx} {a b : Expr} {ta tb : TE} {pos : Pos}
theorem IxR.or {r r':R2}(h:IxR X r) (h':IxR X r'):IxR X (fun x y H Q=>r x y H Q\/r' x y H Q):=by
 intro value slice pins s Z H x y v u Q I rx ry q hs;rcases q with q | q
 .exact h value slice pins s Z H x y v u Q I rx ry q hs
 .exact h' value slice pins s Z H x y v u Q I rx ry q hs
theorem Ey {r:R2}(hr:IxR X r) (ha:PE X a ta) (hb:PE X b tb) (hs:BK b):PE X (.Subscript a b pos) (tOp r ta tb):=by
 intro pins s Z H Q I h;exact Subscript_ (Hh ha hb I h fun v u s2 x y H2 I2 rx ry q=>hr a b pins s2 Z H2 x y v u Q I2 rx ry q (hs _ _))
def IE (K:Frag):R2:=fun x y H Q=>∃p xs i v,x= .ref p/\y= .int i/\SqL K H p xs/\atI xs i=some v/\Q v H
def E4 (K:Frag):R2:=fun x y H Q=>∃p xs i v,x= .ref p/\y= .int i/\SqT K H p xs/\atI xs i=some v/\Q v H
def IK:R2:=fun x y H Q=>∃z i c,x= .str z/\y= .int i/\z.length<=sizeLine/\atI z.cps.toList i=some c/\Q (.str ⟨#[c]⟩) H
theorem bP:IxR X (IE X.K):=by
 intro value slice pins s Z H x y v u Q I rx ry h hs;obtain⟨p,xs,i,z,rfl,rfl,hq,he,q⟩:=h
 cases rx
 obtain⟨t,rfl⟩:=ry;obtain⟨its,r,pl,hz⟩:=I.list hq;obtain⟨j,h1,h2,h3,h4,h5⟩:=wN he;obtain⟨w,ew,rw'⟩:=r.get h2;have hl:=r.length;have hn:=qJ;have fin:EP X pins Z Q w s:=⟨z,H,I,rw',q⟩
 by_cases h0:0<=i
 .have hj:i.toNat=j:=by
   rw[seqIndex_of h0 h5] at h1;exact Option.some.inj h1
  exact item_listR pl.isList h0 (by lia) (by rw[hj];simpa using ew) fin hs
 .have hj:(i+(its.toArray.size:Int)).toNat=j:=by
   rw[seqIndex_neg (by lia) h4] at h1
   rw[List.size_toArray, <-hl];exact Option.some.inj h1
  exact subscriptTail_builtinR (x:=w) pl.isList.typeIs slot_list_getitem.lookup
   (wpAny_getItem_list_neg (Q:=fun r s'=>r=w/\EP X pins Z Q r s') pl.isList (by lia) (by rw[List.size_toArray] <;> lia) (by lia) (by rw[hj];simpa using ew) ⟨rfl,fin⟩) hs
theorem ai:IxR X (E4 X.K):=by
 intro value slice pins s Z H x y v u Q I rx ry h hs;obtain⟨p,xs,i,z,rfl,rfl,hq,he,q⟩:=h
 cases rx
 obtain⟨t,rfl⟩:=ry;obtain⟨its,r,pl,hz⟩:=I.tuple hq;obtain⟨j,h1,h2,h3,h4,h5⟩:=wN he;obtain⟨w,ew,rw'⟩:=r.get h2;have hl:=r.length;have hn:=qJ;have fin:EP X pins Z Q w s:=⟨z,H,I,rw',q⟩;exact subscriptTail_builtinR (x:=w) pl.typeIs slot_tuple_getitem.lookup
  (getItem_tuple (j:=j) (Q:=fun r s'=>r=w/\EP X pins Z Q r s') pl (by lia) (by lia) (by rw[List.size_toArray, <-hl];exact h1) (by simpa using ew) ⟨rfl,fin⟩) hs
theorem Go:IxR X IK:=by
 intro value slice pins s Z H x y v u Q I rx ry h hs;obtain⟨z,i,c,rfl,rfl,hz,he,q⟩:=h;obtain⟨t,rfl⟩:=rx;obtain⟨t',rfl⟩:=ry;obtain⟨j,h1,h2,h3,h4,h5⟩:=wN he;have hl:z.cps.toList.length=z.length:=by simp [Str.length]
 rw[hl] at h1 h4 h5;have hn:=qJ
 exact tail_any (typeIs_str s z t) slot_str_getitem.lookup (getItem_str (c:=c) (by
  have e1:decide (i < -(2^63:Int))=false:=decide_eq_false (by lia)
  have e2:decide (i>=2^63)=false:=decide_eq_false (by lia)
  rw[e1,e2,Bool.or_false]) (by rw[h1];simpa using h2) ⟨.str ⟨#[c]⟩,H,I.tok _,⟨_,rfl⟩,q⟩) hs
def rIx (K:Frag):R2:=fun x y H Q=>IE K x y H Q\/E4 K x y H Q\/IK x y H Q
theorem Gw:IxR X (rIx X.K):=bP.or (ai.or Go)
theorem Az (its:List Value) (n j:Nat) (u:Value):Obj.mapSeq (·.setIfInBounds j u) {cls:= .type "list",data:= .seq its.toArray n}={cls:= .type "list",data:= .seq (its.set j u).toArray n}:=by
 simp [Obj.mapSeq]
theorem Inv.lst {pins:List (Addr × Obj)}{Z:St}{H:Hp}{s:Shared}{p:Addr}{xs:List V}(I:Inv X pins Z H s) (h:H p=some (.lst xs)):
  ∃(its:List Value) (n:Nat),aX xs its/\s.heap.get? p=some {cls:= .type "list",data:= .seq its.toArray n}/\xs.length<=sizeLine:=by
 obtain⟨z,its,n,r,e⟩:=I.hok p _ h;exact⟨its,n,r,e,z⟩
theorem Inv.lstUpd {pins:List (Addr × Obj)}{Z:St}{H:Hp}{s:Shared}{p:Addr}{xs ys:List V}{its its':List Value}{n n':Nat}{f:Obj->Obj}(I:Inv X pins Z H s) (h:H p=some (.lst xs))
  (ho:s.heap.get? p=some {cls:= .type "list",data:= .seq its.toArray n}) (hf:f {cls:= .type "list",data:= .seq its.toArray n}={cls:= .type "list",data:= .seq its'.toArray n'}) (r:aX ys its') (hz:ys.length<=sizeLine) (t:Nat):
  Inv X pins Z (upd H p (.lst ys)) {s with heap:=s.heap.update p f,toks:=t}:=by
 have e:(s.heap.update p f).get? p=some {cls:= .type "list",data:= .seq its'.toArray n'}:=by
  rw[Heap.get?_update_self f ho (by rw[hf] <;> rfl),hf]
 refine I.write (x:=p) (e:=p) (by rw[h];trivial) (.inl rfl) (fun b u hb q=>(Heap.get?_update_other _ _ (Ne.symm hb)).trans q) ⟨_,e⟩ ?_
 exact⟨hz,its',n',r,e⟩
def Iq:V->V->V->Hp->(Hp->Prop)->Prop:=fun o i v H Q=>∃p xs k j,o= .ref p/\i= .int k/\H p=some (.lst xs)/\ixN xs.length k=some j/\Q (upd H p (.lst (xs.set j v)))
theorem yL:Ic X Iq:=by
 intro pins s Z H o i v ov iv u Q I ro ri rv h;obtain⟨p,xs,k,j,rfl,rfl,hp,hj,q⟩:=h
 cases ro
 obtain⟨t,rfl⟩:=ri;obtain⟨its,n,r,ho,hz⟩:=I.lst hp;obtain⟨h1,h2,h3,h4⟩:=BY hj;have hl:=r.length;have hn:=qJ;have I':Inv X pins Z (upd H p (.lst (xs.set j v))) {s with heap:=s.heap.update p (Obj.mapSeq (·.setIfInBounds j u))}:=
  I.lstUpd hp ho (Az its n j u) (r.set rv j) (by rw[List.length_set];exact hz) s.toks
 by_cases h0:0<=k
 .have hk:k.toNat=j:=by
   rw[seqIndex_of h0 h4] at h1;exact Option.some.inj h1
  exact W.ki_setAt ho h0 (by lia) (by rw[List.size_toArray, <-hl];exact h4) (by rw[hk];exact⟨_,I',q⟩)
 .have hk:(k+(its.toArray.size:Int)).toNat=j:=by
   rw[seqIndex_neg (by lia) h3] at h1
   rw[List.size_toArray, <-hl];exact Option.some.inj h1
  exact W.ki_setBack ho (by lia) (by rw[List.size_toArray, <-hl];exact h3) (by lia) (by rw[hk];exact⟨_,I',q⟩)
theorem xP (lo hi:Option Int) (n:Nat):(sliceBounds lo hi none n).1=((HT.sIx n 0 lo:Nat):Int)/\(sliceBounds lo hi none n).2.1=((HT.sIx n n hi:Nat):Int)/\(sliceBounds lo hi none n).2.2=1:=by
 refine⟨?_,?_,rfl⟩
 .cases lo with
  | none=>simp [sliceBounds,HT.sIx]
  | some i=>
   simp only[sliceBounds,HT.sIx,Option.getD_none,show(1:Int) >0 by decide,if_true]
   by_cases h:i < 0
   .simp only[h,if_true] <;> lia
   .simp only[h,if_false] <;> lia
 .cases hi with
  | none=>simp [sliceBounds,HT.sIx]
  | some i=>
   simp only[sliceBounds,HT.sIx,Option.getD_none,show(1:Int) >0 by decide,if_true]
   by_cases h:i < 0
   .simp only[h,if_true] <;> lia
   .simp only[h,if_false] <;> lia
theorem uV (its:List Value) (lo hi:Option Int):slicePick its.toArray lo hi none=((its.drop (HT.sIx its.length 0 lo)).take (HT.sIx its.length its.length hi - HT.sIx its.length 0 lo)).toArray:=by
 obtain⟨h1,h2,h3⟩:=xP lo hi its.toArray.size;unfold slicePick;rw[h1,h2,h3]
 simp only[sliceRange_one,pick_run,List.size_toArray] <;> rfl
def IR (K:Frag):V->Option Int->Option Int->Hp->VK->Prop:=fun x lo hi H Q=>∃a xs,x= .ref a/\SqL K H a xs/\∀p,H p=none->Q (.ref p) (upd H p (.lst (fZ xs lo hi)))
theorem BS:SlR X (IR X.K):=by
 intro pins s Z H x v vl vu lo hi sl Q I rx hs pl pu h;obtain⟨a,xs,rfl,hx,q⟩:=h
 cases rx
 obtain⟨its,r,ht,hz⟩:=I.list hx;have hlen:=r.length;refine⟨"list",_,slot_list_getitem.lookup,ht.isList.typeIs,?_⟩
 refine wpAny_getItem_list_slice ht.isList hs pl pu .none (by simp) ?_ (by rw[List.size_toArray] <;> lia)
 rw[uV, <-hlen];refine⟨.ref s.heap.objs.size,_,I.laid (t':=s.toks) (o:= .lst (fZ xs lo hi)) (fun b ob q=>Heap.get?_push_of_some _ q) (Nat.le_refl _) ?_,rfl,q _ (I.hok.fresh (Nat.le_refl _))⟩
 exact⟨Nat.le_trans (rl xs lo hi) hz,_,0,(r.drop (HT.sIx xs.length 0 lo)).take (HT.sIx xs.length xs.length hi - HT.sIx xs.length 0 lo),Heap.get?_push_size _ rfl⟩
def iN:V->Bool
 | .non=>true
 | .bl _=>true
 | .int _=>true
 | .str _=>true
 | _=>false
def eqV:V->V->Bool
 | .non,.non=>true
 | .bl a,.bl b=>a == b
 | .bl a,.int b=>(if a then 1 else 0) == b
 | .int a,.bl b=>a == (if b then 1 else 0)
 | .int a,.int b=>a == b
 | .str a,.str b=>a == b
 | _,_=>false
theorem GR {A:Around}{s:Shared}{y x:V}{u v:Value}(ry:bp y u) (rx:bp x v) (fy:iN y=true) (fx:iN x=true):SeqAt.EqAt A s u v (eqV y x):=by
 cases y with
 | non=>
  cases ry
  cases x with
  | non=>cases rx;exact SeqAt.EqAt.same _
  | bl b=>cases rx;exact SeqAt.EqAt.none_bool b
  | int b=>obtain⟨t,rfl⟩:=rx;exact SeqAt.EqAt.none_int b t
  | str b=>obtain⟨t,rfl⟩:=rx;exact SeqAt.EqAt.none_str b t
  | _=>exact absurd (show false=true from fx) Bool.false_ne_true
 | bl a=>
  cases ry
  cases x with
  | non=>cases rx;exact SeqAt.EqAt.bool_none a
  | bl b=>cases rx;exact SeqAt.EqAt.bool_bool a b
  | int b=>obtain⟨t,rfl⟩:=rx;exact SeqAt.EqAt.bool_int a b t
  | str b=>obtain⟨t,rfl⟩:=rx;exact SeqAt.EqAt.bool_str a b t
  | _=>exact absurd (show false=true from fx) Bool.false_ne_true
 | int a=>
  obtain⟨t',rfl⟩:=ry
  cases x with
  | non=>cases rx;exact SeqAt.EqAt.int_none a t'
  | bl b=>cases rx;exact SeqAt.EqAt.int_bool a t' b
  | int b=>obtain⟨t,rfl⟩:=rx;exact SeqAt.EqAt.int_int a t' b t
  | str b=>obtain⟨t,rfl⟩:=rx;exact SeqAt.EqAt.int_str a t' b t
  | _=>exact absurd (show false=true from fx) Bool.false_ne_true
 | str a=>
  obtain⟨t',rfl⟩:=ry
  cases x with
  | non=>cases rx;exact SeqAt.EqAt.str_none a t'
  | bl b=>cases rx;exact SeqAt.EqAt.str_bool a t' b
  | int b=>obtain⟨t,rfl⟩:=rx;exact SeqAt.EqAt.str_int a t' b t
  | str b=>obtain⟨t,rfl⟩:=rx;exact SeqAt.EqAt.str_str a t' b t
  | _=>exact absurd (show false=true from fx) Bool.false_ne_true
 | _=>exact absurd (show false=true from fy) Bool.false_ne_true
def eqU (x:V) (u:Value):Bool:=match u with
 | .none=>eqV .non x
 | .bool b=>eqV (.bl b) x
 | .int i _=>eqV (.int i) x
 | .str z _=>eqV (.str z) x
 | _=>false
theorem xL {x y:V}{u:Value}(r:bp y u) (f:iN y=true):eqU x u=eqV y x:=by
 cases y with
 | non=>cases r;rfl
 | bl b=>cases r;rfl
 | int i=>obtain⟨t,rfl⟩:=r;rfl
 | str z=>obtain⟨t,rfl⟩:=r;rfl
 | _=>exact absurd (show false=true from f) Bool.false_ne_true
theorem pA {x:V}:∀ {xs:List V}{us:List Value},aX xs us->xs.all iN=true->us.any (eqU x)=xs.any fun y=>eqV y x
 | _,_,.nil,_=>rfl
 | y::xs,u::us,.cons r t,f=>by
  rw[List.all_cons,Bool.and_eq_true] at f;rw[List.any_cons,List.any_cons,xL r f.1,pA t f.2]
theorem gQ {A:Around}{s:Shared}{x:V}{v:Value}(rx:bp x v) (fx:iN x=true):∀ {xs:List V}{us:List Value},aX xs us->xs.all iN=true->∀u∈us,SeqAt.EqAt A s u v (eqU x u)
 | _,_,.nil,_=>fun u hu=>by cases hu
 | y::xs,u::us,.cons r t,f=>fun u' hu=>by
  rw[List.all_cons,Bool.and_eq_true] at f;rcases List.mem_cons.mp hu with rfl | hu
  .rw[xL r f.1];exact GR r rx f.1 fx
  .exact gQ rx fx t f.2 u' hu
def inV (x:V) (xs:List V):Bool:=xs.any fun y=>eqV y x
def rIn (K:Frag) (neg:Bool):R2:=fun x y H Q=>∃p xs,y= .ref p/\(SqL K H p xs\/SqT K H p xs)/\iN x=true/\xs.all iN=true/\Q (.bl (if neg then !inV x xs else inV x xs)) H
theorem v_:OpR X (compareOp .In) (rIn X.K false):=by
 intro pins s Z H x y v u Q I rx ry h;obtain⟨p,xs,rfl,hq,fx,fs,q⟩:=h
 cases ry
 rcases hq with hq | hq
 .obtain⟨its,r,pl,hz⟩:=I.list hq;refine SeqAt.in_listAt (eqU x) pl.isList (fun w hw=>gQ rx fx r fs w (by simpa using hw)) ⟨.bl _,H,I,rfl,?_⟩
  rw[show its.toArray.any (eqU x)=its.any (eqU x) by simp,pA r fs]
  exact q
 .obtain⟨its,r,pl,hz⟩:=I.tuple hq;refine SeqAt.in_tupleAt (eqU x) pl (fun w hw=>gQ rx fx r fs w (by simpa using hw)) ⟨.bl _,H,I,rfl,?_⟩
  rw[show its.toArray.any (eqU x)=its.any (eqU x) by simp,pA r fs]
  exact q
theorem kE:OpR X (compareOp .NotIn) (rIn X.K true):=by
 intro pins s Z H x y v u Q I rx ry h;obtain⟨p,xs,rfl,hq,fx,fs,q⟩:=h
 cases ry
 rcases hq with hq | hq
 .obtain⟨its,r,pl,hz⟩:=I.list hq;refine SeqAt.notIn_listAt (eqU x) pl.isList (fun w hw=>gQ rx fx r fs w (by simpa using hw)) ⟨.bl _,H,I,rfl,?_⟩
  rw[show its.toArray.any (eqU x)=its.any (eqU x) by simp,pA r fs]
  exact q
 .obtain⟨its,r,pl,hz⟩:=I.tuple hq;refine SeqAt.notIn_tupleAt (eqU x) pl (fun w hw=>gQ rx fx r fs w (by simpa using hw)) ⟨.bl _,H,I,rfl,?_⟩
  rw[show its.toArray.any (eqU x)=its.any (eqU x) by simp,pA r fs]
  exact q
theorem aC:mG X (.builtin "len") (fun xs H Q=>∃p ys,xs=[.ref p]/\(SqL X.K H p ys\/SqT X.K H p ys)/\Q (.int ys.length) H):=by
 intro pins s Z H xs us Q I r h;obtain⟨p,ys,rfl,hq,q⟩:=h;obtain⟨u,rfl,rx⟩:=tK r
 cases rx
 have hn:=qJ;rcases hq with hq | hq
 .obtain⟨its,r',pl,hz⟩:=I.list hq;have hlen:=r'.length;exact Calls.call_len_list pl.isList (by simp only[List.size_toArray] <;> lia) ⟨.int ys.length,H,I.tok _,⟨s.toks+1,by rw[List.size_toArray,hlen]⟩,q⟩
 .obtain⟨its,r',pl,hz⟩:=I.tuple hq;have hlen:=r'.length;exact len_tuple pl (by simp only[List.size_toArray] <;> lia) ⟨.int ys.length,H,I.tok _,⟨s.toks+1,by rw[List.size_toArray,hlen]⟩,q⟩
theorem gg:mG X (.type "tuple") (fun xs H Q=>∃p ys,xs=[.ref p]/\((SqL X.K H p ys/\∀l,H l=none->Q (.ref l) (upd H l (.tup ys)))\/(SqT X.K H p ys/\Q (.ref p) H))):=by
 intro pins s Z H xs us Q I r h;obtain⟨p,ys,rfl,h⟩:=h;obtain⟨u,rfl,rx⟩:=tK r
 cases rx
 rcases h with⟨hq,q⟩|⟨hq,q⟩
 .obtain⟨its,r',pl,hz⟩:=I.list hq;have hlen:=r'.length;refine call_tuple_list pl.isList (fun h' kp=> ?_) (by simp only[List.size_toArray] <;> lia)
  have I1:Inv X pins Z H {s with heap:=h'}:=I.kept (t':=s.toks) kp
  have I2:Inv X pins Z (upd H h'.objs.size (.tup ys)) {s with heap:=h'.push {cls:= .type "tuple",data:= .seq its.toArray}}:=
   I1.laid (t':=s.toks) (fun b o e=>Heap.get?_push_of_some _ e) (Nat.le_refl _) (show cO X.prog X.w _ _ _ (.tup ys) from⟨hz,its,r',IsTup.new _ _⟩)
  exact⟨.ref h'.objs.size,_,I2,rfl,q _ (I1.hok.fresh (Nat.le_refl _))⟩
 .obtain⟨its,r',pl,hz⟩:=I.tuple hq;exact call_tuple_same pl ⟨.ref p,H,I,rfl,q⟩
def tyV (K:Frag) (T:String) (x:V) (H:Hp):Prop:=match x with
 | .str _=>T="str"
 | .int _=>T="int"
 | .ref p=>(T="list"/\∃xs,SqL K H p xs)\/(T="tuple"/\∃o,K.lookup p=some o/\o.cls= .type "tuple"/\o.dict=none)\/
   (T="dict"/\((∃ kvs,H p=some (.dK kvs))\/∃kvs,H p=some (.dT kvs)))\/(T="set"/\∃S n,H p=some (.set S n))
 | _=>False
theorem Dz {pins:List (Addr × Obj)}{Z:St}{H:Hp}{s:Shared}{T:String}{x:V}{v:Value}(I:Inv X pins Z H s) (r:bp x v) (ty:tyV X.K T x H):
  s.TypeIs v T/\∀a,v= .ref a->∃ob,s.heap.get? a=some ob/\ob.dict=none:=by
 cases x with
 | str z=>
  obtain⟨t,rfl⟩:=r
  cases(show T="str" from ty)
  exact⟨typeIs_str s z t,fun _ e=>nomatch e⟩
 | int i=>
  obtain⟨t,rfl⟩:=r
  cases(show T="int" from ty)
  exact⟨typeIs_int s i t,fun _ e=>nomatch e⟩
 | ref p=>
  cases r
  rcases ty with⟨rfl,xs,hq⟩|⟨rfl,o,hk,hc,hd⟩|⟨rfl,hk⟩|⟨rfl,S,n,hk⟩
  .obtain⟨its,_,pl,_⟩:=I.list hq;refine⟨pl.isList.typeIs,fun a e=> ?_⟩
   cases e
   obtain⟨o,n,e,c,hd,_⟩:=pl;exact⟨o,e,hd⟩
  .refine⟨⟨o,I.kIn p o hk,hc⟩,fun a e=> ?_⟩
   cases e
   exact⟨o,I.kIn _ o hk,hd⟩
  .have z:∃o,s.heap.get? p=some o/\o.ExactDict:=by
    rcases hk with⟨kvs,hk⟩|⟨kvs,hk⟩
    .obtain⟨_,_,_,_,o,_,_,e,ex,_⟩:=I.hok p _ hk;exact⟨o,e,ex⟩
    .obtain⟨_,_,_,_,o,_,_,e,ex,_⟩:=I.hok p _ hk;exact⟨o,e,ex⟩
   obtain⟨o,e,ex⟩:=z;refine⟨⟨o,e,ex.1⟩,fun a e2=> ?_⟩
   cases e2
   exact⟨o,e,ex.2.1⟩
  .obtain⟨o,_,_,_,e,ex,_⟩:=I.hok p _ hk;refine⟨⟨o,e,ex.1⟩,fun a e2=> ?_⟩
   cases e2
   exact⟨o,e,ex.2.1⟩
 | _=>exact False.elim ty
def Jg (K:Frag) (T:String) (r:V->List V->Hp->VK->Prop) (to:TE):TE:=fun Z H Q=>to Z H fun x H1=>tyV K T x H1/\r x [] H1 Q
def tBM (K:Frag) (T:String) (r:V->List V->Hp->VK->Prop) (to:TE) (t:TA):TE:=fun Z H Q=>to Z H fun x H1=>tyV K T x H1/\t Z H1 fun xs H2=>r x xs H2 Q
variable {o e : Expr} {es : List Expr} {to : TE} {t : TA} {name : Str} {apos cpos : Pos} {T id : String} {r : V → List V → Hp → VK → Prop}
theorem GX (pa:PlainAttrs T) (slot:Slot T name id) (hty:typeOf (.builtin id)=pure (.type "method_descriptor")) (hm:MtR X id r) (ho:PE X o to)
  (hbase:attributeBase o name X.env (eval o X.env)=eval o X.env:=by rfl) (hline:(apos.endLine == cpos.line)=true:=by rfl):PE X (.Call (.Attribute o name apos) [] [] cpos) (Jg X.K T r to):=by
 intro pins s Z H Q I h;refine wpAny_Call_method0_late hbase hline (thn (ho pins s Z H _ I h) fun v s1 ⟨x,H1,I1,r1,ty,q1⟩=> ?_)
 obtain⟨h1,h2⟩:=Dz I1 r1 ty;exact⟨T,id,pa,slot,hty,h1,h2,Calls.callWith_builtin rfl (PySem.evalArgs_none (hm pins s1 Z H1 x [] v [] Q I1 r1 .nil q1))⟩
theorem fe (pa:PlainAttrs T) (slot:Slot T name id) (hty:typeOf (.builtin id)=pure (.type "method_descriptor")) (hm:MtR X id r) (ho:PE X o to) (ha:PA X (e::es) t)
  (hbase:attributeBase o name X.env (eval o X.env)=eval o X.env:=by rfl)
  (hfew:((backTo cpos (starEach (e::es) X.env)).all (fun x=> !x.1) && (backToKw cpos (keywordEach [] X.env)).all (fun x=>x.1.isSome)
   && decide ((e::es).length+([]:List Keyword).length+(if ([]:List Keyword).isEmpty then 0 else 1) < 30))=true:=by rfl)
  (hline:(apos.endLine == cpos.line)=true:=by rfl) (hs:starEach (e::es) X.env=(false,eval e X.env)::starEach es X.env:=by rfl) (hplain:(backTo cpos (starEach es X.env)).any (·.1)=false:=by rfl):
  PE X (.Call (.Attribute o name apos) (e::es) [] cpos) (tBM X.K T r to t):=by
 intro pins s Z H Q I h;refine wpAny_Call_method_late hbase hfew hline rfl (thn (ho pins s Z H _ I h) fun v s1 ⟨x,H1,I1,r1,ty,q1⟩=> ?_)
 obtain⟨h1,h2⟩:=Dz I1 r1 ty;refine⟨T,id,pa,slot,hty,h1,h2,?_⟩
 have hA:=ha cpos pins s1 Z H1 _ I1 q1;rw[hs] at hA ⊢;refine Calls.callWith_builtin (by show(false || (backTo cpos (starEach es X.env)).any (·.1))=false;rw[hplain] <;> rfl) (Calls.evalArgs_plain ?_)
 exact thn hA fun us s2 ⟨vs,H2,I2,r2,q2⟩=>hm pins s2 Z H2 x vs v us Q I2 r1 r2 q2
end
def MtM (X:Cx) (id:String) (r:V->List V->Hp->VK->Prop):Prop:=
 ∀(pins:List (Addr × Obj)) (s:Shared) (Z:St) (H:Hp) (x:V) (xs:List V) (v:Value) (us:List Value) (Q:VK),Inv X pins Z H s->bp x v->aX xs us->r x xs H Q->
  wpAny (model X.prog X.w) X.A (call (.builtin id) (v::us)) (EP X pins Z Q) X.xe s
theorem aX.one:∀ {x:V}{us:List Value},aX [x] us->∃u,us=[u]/\bp x u
 | _,_,.cons r .nil=>⟨_,rfl,r⟩
theorem aX.zero:∀ {us:List Value},aX [] us->us=[]
 | _,.nil=>rfl
theorem aX.rep {xs:List V}{us:List Value}(h:aX xs us):∀k:Nat,aX (List.replicate k xs).flatten (List.replicate k us).flatten
 | 0=> .nil
 | k+1=>by
  rw[List.replicate_succ,List.replicate_succ,List.flatten_cons,List.flatten_cons];exact aX.append h (aX.rep h k)
theorem vv (its:List Value):∀(k:Nat) (acc:List Value),
  List.foldl (fun x1 x2=>x1++x2) acc.toArray (List.replicate k its.toArray)=(acc++(List.replicate k its).flatten).toArray
 | 0,acc=>by simp
 | k+1,acc=>by
  have e:acc.toArray++its.toArray=(acc++its).toArray:=by simp
  have e2:(acc++its)++(List.replicate k its).flatten=acc++(List.replicate (k+1) its).flatten:=by
   rw[List.replicate_succ,List.flatten_cons,List.append_assoc]
  rw[<- e2, <-vv its k (acc++its), <-e,List.replicate_succ,List.foldl_cons]
section
variable {X : Cx} {pins : List (Addr × Obj)} {σ : St} {H : Hp} {s : Shared} {l b : Addr} {xs ys zs : List V}
theorem Inv.lset {its its':List Value}{n:Nat}{f:Array Value->Array Value}{t':Nat}(I:Inv X pins Z H s) (hH:H l=some (.lst xs))
  (e:s.heap.get? l=some {cls:= .type "list",data:= .seq its.toArray n}) (hf:f its.toArray=its'.toArray) (hv:aX ys its') (hz:ys.length<=sizeLine):
  Inv X pins Z (upd H l (.lst ys)) {s with heap:=s.heap.update l (Obj.mapSeq f),toks:=t'}:=by
 have q:=PySem.IsL.update e f;rw[hf] at q;refine I.write (x:=l) (e:=l) (by rw[hH];exact trivial) (.inl rfl) (fun b' u hb hu=>(Heap.get?_update_other s.heap (Obj.mapSeq f) (Ne.symm hb)).trans hu) ⟨_,q⟩ ?_
 exact⟨hz,its',_,hv,q⟩
theorem Inv.lnew {its:List Value}{t':Nat}(I:Inv X pins Z H s) (hv:aX ys its) (hz:ys.length<=sizeLine):
  Inv X pins Z (upd H s.heap.objs.size (.lst ys)) {s with heap:=s.heap.push {cls:= .type "list",data:= .seq its.toArray},toks:=t'}:=
 I.laid (fun _ _ q=>Heap.get?_push_of_some _ q) (Nat.le_refl _) ⟨hz,its,0,hv,Heap.get?_push_size _ rfl⟩
theorem Inv.fresh (I:Inv X pins Z H s):H s.heap.objs.size=none:=I.hok.fresh (Nat.le_refl _)
theorem Inv.lstM (I:Inv X pins Z H s) (hH:H l=some (.lst xs)):xs.length<=sizeLine/\∃(its:List Value) (n:Nat),aX xs its/\xs.length=its.length/\s.heap.get? l=some {cls:= .type "list",data:= .seq its.toArray n}:=by
 obtain⟨z,its,n,r,e⟩:=I.hok l _ hH;exact⟨z,its,n,r,r.length,e⟩
theorem ze {n:Nat}(h:n<=sizeLine):Builtin.List.listTooLong n=false:=by
 unfold Builtin.List.listTooLong;exact decide_eq_false (by lia)
end
section
variable {X : Cx}
def Fw:V->List V->Hp->VK->Prop:=fun x vs H Q=>∃l xs y,x= .ref l/\vs=[y]/\H l=some (.lst xs)/\xs.length < sizeLine/\Q .non (upd H l (.lst (xs++[y])))
theorem bJ:MtM X "list.append" Fw:=by
 intro pins s Z H x vs v us Q I rx rv h;obtain⟨l,xs,y,rfl,rfl,hH,hz,q⟩:=h
 cases rx
 obtain⟨u,rfl,ru⟩:=rv.one;obtain⟨z,its,n,r,hl,e⟩:=I.lstM hH;refine call_meets F.slot_list_append ⟨_,e,rfl⟩ F.entry_list_append (F.args_list_append_2 _ _) (PySem.list_append l its.toArray n u (by rw[List.size_toArray];lia)) ⟨e,?_⟩
 refine⟨.non,_,I.lset (its':=its++[u]) hH e (by simp) (r.append (.cons ru .nil)) ?_,rfl,q⟩
 rw[List.length_append,List.length_singleton]
 lia
def Fj:V->List V->Hp->VK->Prop:=fun x vs H Q=>∃l b xs zs,x= .ref l/\vs=[.ref b]/\H l=some (.lst xs)/\H b=some (.lst zs)/\xs.length+zs.length<=sizeLine/\Q .non (upd H l (.lst (xs++zs)))
theorem qG:MtM X "list.extend" Fj:=by
 intro pins s Z H x vs v us Q I rx rv h;obtain⟨l,b,xs,zs,rfl,rfl,hH,hB,hz,q⟩:=h
 cases rx
 obtain⟨u,rfl,ru⟩:=rv.one
 cases ru
 obtain⟨z,its,n,r,hl,e⟩:=I.lstM hH;obtain⟨z2,its2,n2,r2,hl2,e2⟩:=I.lstM hB;have hsz:its.toArray.size+its2.toArray.size<=sizeLine:=by rw[List.size_toArray,List.size_toArray];lia
 have hlong:¬(!its.toArray.isEmpty && Builtin.List.listTooLong (its.toArray.size+its2.toArray.size))=true:=by
  rw[ze hsz,Bool.and_false];exact Bool.false_ne_true
 refine call_meets F.slot_list_extend ⟨_,e,rfl⟩ F.entry_list_extend (F.args_list_extend_2 _ _)
  (AutoSeq1.list_extend_list_list_0 l its.toArray n b its2.toArray n2 hlong (by rw[List.size_toArray];lia) (by lia)) ⟨e,e2,?_⟩
 refine⟨.non,_,I.lset (its':=its++its2) hH e (by simp) (r.append r2) ?_,rfl,q⟩
 rw[List.length_append]
 lia
def IU:R2:=fun x y H Q=>∃l b xs zs,x= .ref l/\y= .ref b/\H l=some (.lst xs)/\H b=some (.lst zs)/\xs.length+zs.length<=sizeLine/\∀p,H p=none->Q (.ref p) (upd H p (.lst (xs++zs)))
theorem tI:OpR X (binaryOp .Add) IU:=by
 intro pins s Z H x y v u Q I rx ry h;obtain⟨l,b,xs,zs,rfl,rfl,hH,hB,hz,q⟩:=h
 cases rx
 cases ry
 obtain⟨z,its,n,r,hl,e⟩:=I.lstM hH;obtain⟨z2,its2,n2,r2,hl2,e2⟩:=I.lstM hB;refine PySem.P.add_list e e2 ?_ (by rw[List.size_toArray,List.size_toArray];lia)
 have ea:its.toArray++its2.toArray=(its++its2).toArray:=by simp
 rw[ea];exact⟨.ref _,_,I.lnew (t':=s.toks) (r.append r2) (by rw[List.length_append];lia),rfl,q _ I.fresh⟩
def Jk:R2:=fun x y H Q=>∃l k xs,x= .ref l/\y= .int k/\H l=some (.lst xs)/\ -(2^63)<=k/\k < 2^63/\xs.length*k.toNat<=sizeLine/\
 ∀p,H p=none->Q (.ref p) (upd H p (.lst (List.replicate k.toNat xs).flatten))
theorem E2 {α:Type}(xs:List α) (k:Nat):(List.replicate k xs).flatten.length=k*xs.length:=by
 induction k with
 | zero=>simp
 | succ k ih=>rw[List.replicate_succ,List.flatten_cons,List.length_append,ih,Nat.succ_mul,Nat.add_comm]
theorem tw:OpR X (binaryOp .Mult) Jk:=by
 intro pins s Z H x y v u Q I rx ry h;obtain⟨l,k,xs,rfl,rfl,hH,h1,h2,hz,q⟩:=h
 cases rx
 obtain⟨t,rfl⟩:=ry;obtain⟨z,its,n,r,hl,e⟩:=I.lstM hH;have hlen:its.toArray.size*k.toNat<=sizeLine:=by rw[List.size_toArray, <-hl];exact hz
 have hcap:¬its.toArray.size*k.toNat >(2^63 - 1) / 8:=by
  have:(sizeLine:Nat)<=(2^63 - 1) / 8:=by decide
  lia
 have hfit:¬(!Builtin.List.listFitsIndex k)=true:=by
  rw[fitsIndex_both h1 h2];exact Bool.false_ne_true
 have hlong:¬Builtin.List.listTooLong (its.toArray.size*k.toNat)=true:=by
  rw[ze hlen];exact Bool.false_ne_true
 have hnew:List.foldl (fun x1 x2=>x1++x2) #[] (List.replicate (if its.toArray.isEmpty=true then 0 else k.toNat) its.toArray)=(List.replicate k.toNat its).flatten.toArray:=by
  have f0:∀m:Nat,List.foldl (fun x1 x2=>x1++x2) #[] (List.replicate m its.toArray)=(List.replicate m its).flatten.toArray:=fun m=>by
   have:=vv its m [];rw[List.nil_append] at this;exact this
  rw[f0]
  cases its with
  | nil=>simp
  | cons a r'=>rw[if_neg (by simp)]
 refine wpAny_binaryOp_repeat_ref (T:="list") (U:="int") (by decide) ⟨_,e,rfl⟩ (fun s'=>typeIs_int s' k t) noFill_list_mul F.fills_int_mul F.slot_int_rmul repeat_list F.slot_int_index.lookup
  (call_meets F.slot_int_rmul (typeIs_int s k t) F.entry_int_rmul (F.args_int_rmul_2 _ _) (int___rmul___int_list k t l its.toArray n)
   ⟨e,rfl,⟨_,e,rfl⟩,call_meets F.slot_list_mul ⟨_,e,rfl⟩ F.entry_list_mul (F.args_list_mul_2 _ _) (AutoListH.list___mul___list_int_3 l its.toArray n k t hfit hcap hlong) ⟨e,?_⟩⟩)
 rw[hnew];exact⟨.ref _,_,I.lnew (t':=s.toks) (r.rep k.toNat) (by rw[E2,Nat.mul_comm];exact hz),rfl,q _ I.fresh⟩
end
section
variable {κ : Type} [DecidableEq κ]
def gI (kvs:List (κ × V)) (k:κ):Option V:=(kvs.find? fun kv=>decide (kv.1=k)).map (·.2)
def qz (kvs:List (κ × V)) (k:κ) (v:V):List (κ × V):=
 if (kvs.any fun kv=>decide (kv.1=k))=true then kvs.map (fun kv=>if kv.1=k then(kv.1,v) else kv) else kvs++[(k,v)]
theorem iA {p:κ × V}{r:List (κ × V)}{k:κ}(e:p.1=k):gI (p::r) k=some p.2:=by simp [gI,List.find?_cons,e]
theorem gj {p:κ × V}{r:List (κ × V)}{k:κ}(e:¬p.1=k):gI (p::r) k=gI r k:=by simp [gI,List.find?_cons,e]
theorem zy (k:κ):∀kvs:List (κ × V),(kvs.any fun kv=>decide (kv.1=k))=(gI kvs k).isSome
 | []=>rfl
 | p::r=>by
  rw[List.any_cons]
  by_cases e:p.1=k
  .simp only[iA e,decide_eq_true e,Bool.true_or,Option.isSome_some]
  .rw[gj e,decide_eq_false e,Bool.false_or];exact zy k r
theorem rp (kvs:List (κ × V)) (k:κ) (v:V):(qz kvs k v).length<=kvs.length+1:=by
 unfold qz
 split
 .rw[List.length_map];lia
 .rw[List.length_append,List.length_cons,List.length_nil];lia
theorem nR.isSome_eq {o:Option V}{u:Option Value}(r:nR o u):o.isSome=u.isSome:=by
 cases o with
 | none=>cases u with
  | none=>rfl
  | some _=>exact(show False from r).elim
 | some _=>cases u with
  | none=>exact(show False from r).elim
  | some _=>rfl
theorem KV.val {kvs:List (κ × V)}{vs:List (κ × Value)}(r:KV kvs vs) (k:κ):nR (gI kvs k) (valueAt vs k):=by
 unfold KV at r
 induction r with
 | nil=>exact True.intro
 | @cons p q ps qs h t ih=>
  obtain⟨h1,h2⟩:=h
  by_cases e:p.1=k
  .have e':q.1=k:=h1.symm.trans e;have b:valueAt (q::qs) k=some q.2:=by simp [valueAt,List.find?_cons,e']
   rw[iA e,b];exact h2
  .have e':¬q.1=k:=fun z=>e (h1.trans z)
   have b:valueAt (q::qs) k=valueAt qs k:=by simp [valueAt,List.find?_cons,e']
   rw[gj e,b];exact ih
theorem KV.any {kvs:List (κ × V)}{vs:List (κ × Value)}(r:KV kvs vs) (k:κ):(kvs.any fun kv=>decide (kv.1=k))=vs.any fun kv=>decide (kv.1=k):=by
 unfold KV at r
 induction r with
 | nil=>rfl
 | cons h t ih=>rw[List.any_cons,List.any_cons,ih,h.1]
theorem KV.repl {kvs:List (κ × V)}{vs:List (κ × Value)}(r:KV kvs vs) (k:κ) {y:V}{u:Value}(ry:bp y u):
  KV (kvs.map fun kv=>if kv.1=k then(kv.1,y) else kv) (vs.map fun kv=>if kv.1=k then(kv.1,u) else kv):=by
 unfold KV at r ⊢
 induction r with
 | nil=>exact .nil
 | @cons p q ps qs h t ih=>
  rw[List.map_cons,List.map_cons];refine .cons ?_ ih
  obtain⟨h1,h2⟩:=h
  by_cases e:p.1=k
  .rw[if_pos e,if_pos (h1.symm.trans e)];exact⟨h1,ry⟩
  .rw[if_neg e,if_neg (fun z=>e (h1.trans z))];exact⟨h1,h2⟩
theorem KV.put {kvs:List (κ × V)}{vs:List (κ × Value)}(r:KV kvs vs) (k:κ) {y:V}{u:Value}(ry:bp y u):KV (qz kvs k y) (stored vs k u):=by
 unfold qz stored;rw[r.any k]
 by_cases e:(vs.any fun kv=>decide (kv.1=k))=true
 .rw[if_pos e,if_pos e];exact r.repl k ry
 .rw[if_neg e,if_neg e];exact Paired.snoc r ⟨rfl,ry⟩
theorem KV.keys {kvs:List (κ × V)}{vs:List (κ × Value)}(r:KV kvs vs):kvs.map (·.1)=vs.map (·.1):=by
 unfold KV at r
 induction r with
 | nil=>rfl
 | cons h t ih=>rw[List.map_cons,List.map_cons,ih,h.1]
theorem KV.length {kvs:List (κ × V)}{vs:List (κ × Value)}(r:KV kvs vs):kvs.length=vs.length:=Paired.length r
end
theorem DF {P:Program}{w:World}{k:Key}{u:Value}(r:bp (kV k) u):(bq P w).is k u=true:=by
 cases k with
 | inl i=>obtain⟨t,e⟩:=(show ∃t,u=Value.int i t from r);subst e;exact x_ P w i t
 | inr x=>obtain⟨t,e⟩:=(show ∃t,u=Value.str x t from r);subst e;exact rK P w x t
theorem vK {P:Program}{w:World}:∀ {ks:List Key}{us:List Value},aX (ks.map kV) us->ItemsAre (bq P w) ks us
 | [],_,r=>by rw[List.map_nil] at r;cases r;exact .nil
 | k::ks,_,r=>by
  rw[List.map_cons] at r
  cases r with
  | cons h t=>exact .cons (DF h) (vK t)
abbrev KT (H:Hp):List (List Key × V)->List (List Key × Addr × Value)->Prop:=Paired fun p q=>p.1=q.1/\H q.2.1=some (.tup (p.1.map kV))/\bp p.2 q.2.2
theorem KT.val {H:Hp}{kvs:List (List Key × V)}{xs:List (List Key × Addr × Value)}(r:KT H kvs xs) (k:List Key):nR (gI kvs k) ((atKey xs k).map (·.2)):=by
 induction r with
 | nil=>exact True.intro
 | @cons p q ps qs h t ih=>
  obtain⟨h1,_,h2⟩:=h
  by_cases e:p.1=k
  .have e':q.1=k:=h1.symm.trans e;have b:atKey (q::qs) k=some q.2:=by simp [atKey,List.find?_cons,e']
   rw[iA e,b];exact h2
  .have e':¬q.1=k:=fun z=>e (h1.trans z)
   have b:atKey (q::qs) k=atKey qs k:=by simp [atKey,List.find?_cons,e']
   rw[gj e,b];exact ih
theorem KT.repl {H:Hp}{kvs:List (List Key × V)}{xs:List (List Key × Addr × Value)}(r:KT H kvs xs) (k:List Key) {y:V}{u:Value}(ry:bp y u):
  KT H (kvs.map fun kv=>if kv.1=k then(kv.1,y) else kv) (xs.map (putAt k u)):=by
 induction r with
 | nil=>exact .nil
 | @cons p q ps qs h t ih=>
  rw[List.map_cons,List.map_cons];refine .cons ?_ ih
  obtain⟨h1,h2,h3⟩:=h;unfold putAt
  by_cases e:p.1=k
  .rw[if_pos e,if_pos (h1.symm.trans e)];exact⟨h1,h2,ry⟩
  .rw[if_neg e,if_neg (fun z=>e (h1.trans z))];exact⟨h1,h2,h3⟩
theorem KT.put {H:Hp}{kvs:List (List Key × V)}{xs:List (List Key × Addr × Value)}(r:KT H kvs xs) (k:List Key) {b:Addr}{y:V}{u:Value}(hb:H b=some (.tup (k.map kV))) (ry:bp y u):
  KT H (qz kvs k y) (storedH xs k b u):=by
 have e:(kvs.any fun kv=>decide (kv.1=k))=(atKey xs k).isSome:=by
  rw[zy,(r.val k).isSome_eq,Option.isSome_map]
 unfold qz storedH;rw[e]
 by_cases q:(atKey xs k).isSome=true
 .rw[if_pos q,if_pos q];exact r.repl k ry
 .rw[if_neg q,if_neg q];exact Paired.snoc r ⟨rfl,hb,ry⟩
theorem KT.keeps {H H':Hp}{kvs:List (List Key × V)}{xs:List (List Key × Addr × Value)}(r:KT H kvs xs) (ht:∀b ys,H b=some (.tup ys)->H' b=some (.tup ys)):KT H' kvs xs:=
 Paired.mapP r fun _ _ z=>⟨z.1,ht _ _ z.2.1,z.2.2⟩
section
variable {P : Program} {w : World} {H : Hp} {h : Heap} {a : Addr}
theorem Gc {u:HO}(ok:HOk P w H h) (e:Rd H a u):cO P w H h a u:=e.ok ok
theorem zO {kvs:List (Key × V)}(ok:HOk P w H h) (e:Rd H a (.dK kvs)):kvs.length<=sizeLine/\(a == sysModules)=false/\∃vs,KV kvs vs/\h.DictOf (bq P w) a vs:=
 show cO P w H h a (.dK kvs) from Gc ok e
theorem IB {kvs:List (Key × V)}(ok:HOk P w H h) (e:H a=some (.dK kvs)):kvs.length<=sizeLine/\(a == sysModules)=false/\∃vs,KV kvs vs/\h.DictOf (bq P w) a vs:=zO ok (.inl e)
theorem A6 {ks:List Key}(ok:HOk P w H h) (e:H a=some (.tup (ks.map kV))):(tupleKind (bq P w)).is h ks a:=by
 obtain⟨_,its,r,o,h1,h2,n,h3⟩:=(show cO P w H h a (.tup (ks.map kV)) from ok a _ e);exact⟨o,its.toArray,n,h1,h2,h3,by simpa using vK r⟩
theorem vt {kvs:List (List Key × V)}(ok:HOk P w H h) (e:Rd H a (.dT kvs)):kvs.length<=sizeLine/\(a == sysModules)=false/\
  ∃xs,KT H kvs xs/\h.DictOfH (tupleKind (bq P w)) a xs:=by
 obtain⟨z,y,xs,r,o,es,ep,h1,h2,h3,h4,h5⟩:=(show cO P w H h a (.dT kvs) from Gc ok e);refine⟨z,y,xs,r,o,es,ep,h1,h2,h3,h4,fun x hx=> ?_,h5⟩
 have all:∀ {l:List (List Key × V)}{m:List (List Key × Addr × Value)},KT H l m->∀x∈m,(tupleKind (bq P w)).is h x.1 x.2.1:=by
  intro l m q
  induction q with
  | nil=>intro x hx;exact nomatch hx
  | @cons p q ps qs hq t ih=>
   intro x hx;rcases List.mem_cons.mp hx with e | hx
   .subst e;exact A6 ok (by rw[<- hq.1];exact hq.2.1)
   .exact ih x hx
 exact all r x hx
theorem HD {kvs:List (List Key × V)}(ok:HOk P w H h) (e:H a=some (.dT kvs)):kvs.length<=sizeLine/\(a == sysModules)=false/\
  ∃xs,KT H kvs xs/\h.DictOfH (tupleKind (bq P w)) a xs:=vt ok (.inl e)
end
def DK (H:Hp) (a:Addr) (y:V) (r:Option V):Prop:=
 (∃ kvs k,Rd H a (.dK kvs)/\y=kV k/\r=gI kvs k)\/∃kvs k b,Rd H a (.dT kvs)/\y= .ref b/\H b=some (.tup (k.map kV))/\r=gI kvs k
def BZ (H:Hp) (a:Addr) (y v:V) (H':Hp):Prop:=
 (∃ kvs k,H a=some (.dK kvs)/\y=kV k/\kvs.length < sizeLine/\H'=upd H a (.dK (qz kvs k v)))\/
 ∃kvs k b,H a=some (.dT kvs)/\y= .ref b/\H b=some (.tup (k.map kV))/\kvs.length < sizeLine/\H'=upd H a (.dT (qz kvs k v))
theorem BZ.t {H:Hp}{a b:Addr}{kvs:List (List Key × V)}{k:List Key}{v:V}(e:H a=some (.dT kvs)) (eb:H b=some (.tup (k.map kV))) (hl:kvs.length < sizeLine):
  BZ H a (.ref b) v (upd H a (.dT (qz kvs k v))):= .inr ⟨kvs,k,b,e,rfl,eb,hl,rfl⟩
section
variable {X : Cx} {pins : List (Addr × Obj)} {σ : St} {H : Hp} {s : Shared} {a : Addr} {y v : V} {u r : Value} {o : Option V} {A : Around} {E : Value → Shared → Prop}
theorem Inv.big (I:Inv X pins Z H s):sysModules < s.heap.objs.size:=by
 have h:mainGlobals < s.heap.objs.size:=(I.mod.glob.keeps I.bk).lt;exact Nat.lt_trans (by decide) h
theorem Cy {Q:Value->Shared->Prop}(hu:A.units+1 < cLine) (I:Inv X pins Z H s) (g:DK H a y (some v)) (ry:bp y u) (h:∀w' s',Inv X pins Z H s'->bp v w'->Q w' s'):
  wpAny (model X.prog X.w) A (getItem (.ref a) u) Q E s:=by
 rcases g with⟨kvs,k,e,ey,l⟩|⟨kvs,k,b,e,ey,eb,l⟩
 .subst ey;obtain⟨z,hd,vs,rel,dd⟩:=zO I.hok e;obtain⟨w',hw,rw'⟩:=nR.some_of (v:=v) (o:=valueAt vs k) (by rw[l];exact rel.val k)
  exact wpAny_getItem_of (DF ry) dd.mapOf hw (h w' _ (I.tok _) rw')
 .subst ey
  cases(show u=Value.ref b from ry)
  obtain⟨z,hd,xs,rel,dd⟩:=vt I.hok e;obtain⟨w',hw,rw'⟩:=nR.some_of (v:=v) (o:=(atKey xs k).map (·.2)) (by rw[l];exact rel.val k)
  obtain⟨p,hp,hp2⟩:=Option.map_eq_some_iff.mp hw;refine wpAny_getItem_heap (tupleKind_room_in1 hu) (A6 I.hok eb) dd hp ?_
  rw[hp2];exact h w' _ (I.tok _) rw'
theorem xr {h':Heap}{t':Nat}{ob:HO}(I:Inv X pins Z H s) (mu:Mut (H a)) (hs:Heap.SameBut a s.heap h') (he:∃q,h'.get? a=some q) (new:cO X.prog X.w (upd H a ob) h' a ob):
  Inv X pins Z (upd H a ob) {s with heap:=h',toks:=t'}:=
 I.write (x:=a) (e:=a) mu (.inl rfl) (fun b q hb z=>(hs.2 b hb).trans z) he new
theorem GQ {P:Program}{w:World}{H':Hp}{h':Heap}{kvs:List (Key × V)}{vs:List (Key × Value)}(z:kvs.length<=sizeLine) (hd:(a == sysModules)=false) (rel:KV kvs vs) (dd:h'.DictOf (bq P w) a vs):
  cO P w H' h' a (.dK kvs):=⟨z,hd,vs,rel,dd⟩
theorem Cg {H':Hp}{Q:Unit->Shared->Prop}(hu:A.units+1 < cLine) (I:Inv X pins Z H s) (g:BZ H a y v H') (ry:bp y u) (rv:bp v r) (h:∀s',Inv X pins Z H' s'->Q () s'):
  wpAny (model X.prog X.w) A (setItem (.ref a) u r) Q E s:=by
 rcases g with⟨kvs,k,e,ey,l,eH⟩|⟨kvs,k,b,e,ey,eb,l,eH⟩
 .subst ey eH;obtain⟨z,hd,vs,rel,dd⟩:=IB I.hok e;have hz:vs.length<=sizeLine:=by rw[<- rel.length];exact z
  have hl:(qz kvs k v).length<=sizeLine:=by have:=rp kvs k v;lia
  refine wpAny_setItem_pairs (hsz:=hz) (DF ry) dd fun h' dd' hs=>h _ ?_
  have he:∃q,h'.get? a=some q:=let ⟨q,_,_,hq,_⟩:=dd';⟨q,hq⟩
  exact xr I (by rw[e];exact True.intro) hs he (GQ hl hd (rel.put k rv) dd')
 .subst ey eH
  cases(show u=Value.ref b from ry)
  obtain⟨z,hd,xs,rel,dd⟩:=HD I.hok e;have hz:xs.length<=sizeLine:=by rw[<- Paired.length rel];exact z
  have hl:(qz kvs k v).length<=sizeLine:=by have:=rp kvs k v;lia
  refine wpAny_setItem_heap (hsz:=hz) (tupleKind_room_in1 hu) (A6 I.hok eb) dd fun h' dd' hs=>h _ ?_
  obtain⟨q,es,ep,hq,h2,h3,h4,_,h5⟩:=dd';refine xr I (by rw[e];exact True.intro) hs ⟨q,hq⟩ ⟨hl,hd,_,(rel.put k eb rv).keeps fun c ys ec=> ?_,q,es,ep,hq,h2,h3,h4,h5⟩
  rw[az (dn ec e (fun z=>nomatch z))]
  exact ec
end
def Io (i:Expr):Prop:=∀ov iv,subscripted i false ov iv=operate [ov,iv] (getItem ov iv)
theorem Fn {prog:Program}{w:World}{A:Around}{E:Value->Shared->Prop}{s:Shared}{env:Env}{value slice:Expr}{pos:Pos}{T id:String}{Q:Value->Shared->Prop}
  (hl:typeLookup (.type T) "__getitem__"=pure (some (.builtin id))) (hs:Io slice)
  (h:wpAny (model prog w) A (eval value env) (fun o s₁=>wpAny (model prog w) A (eval slice env) (fun i s₂=>s₂.TypeIs o T/\wpAny (model prog w) A (getItem o i) Q E s₂) E s₁) E s):
  wpAny (model prog w) A (eval (.Subscript value slice pos) env) Q E s:=by
 refine Subscript_ (wpAny_mono h (fun o s₁ h₁=>wpAny_mono h₁ (fun i s₂ h₂=> ?_) fun _ _ x=>x) fun _ _ x=>x)
 obtain⟨hT,h₂⟩:=h₂;unfold subscriptTail;refine wpAny_bind ?_
 rw[getitemInPython_of_ne hT.not_modules];refine wpAny_bind (wpAny_specialOf hT hl ?_)
 have fin:wpAny (model prog w) A (subscripted slice false o i) (fun r s₃=>wpAny (model prog w) A (letTemporaryGo value o r >>= fun _=>pure r) Q E s₃) E s₂:=by
  rw[hs o i];exact wpAny_operating (wpAny_mono h₂ (fun r s₃ h₃=>wpAny_bind (wpAny_letTemporaryGo (wpAny_pure h₃))) fun _ _ x=>x)
 first
  | exact wpAny_pure (wpAny_bind fin)
  | exact wpAny_bind (wpAny_pure (wpAny_bind fin))
  | exact wpAny_bind fin
theorem yF {X:Cx}{pins:List (Addr × Obj)}{Z:St}{H:Hp}{s:Shared}{a:Addr}{y:V}{o:Option V}(I:Inv X pins Z H s) (g:DK H a y o):s.TypeIs (.ref a) "dict":=by
 rcases g with⟨kvs,k,e,_,_⟩|⟨kvs,k,b,e,_,_,_⟩
 .obtain⟨_,_,vs,_,dd⟩:=zO I.hok e;exact dd.typeIs
 .obtain⟨_,_,xs,_,dd⟩:=vt I.hok e;exact dd.typeIs
def Im (td ty:TE):TE:=fun Z H Q=>td Z H fun x H1=>ty Z H1 fun y H2=>∃a v,x= .ref a/\DK H2 a y (some v)/\Q v H2
def Hv (td ty tv:TE):TS:=fun D Z H=>tv Z H fun v H1=>td Z H1 fun x H2=>ty Z H2 fun y H3=>∃a H4,x= .ref a/\BZ H3 a y v H4/\D.nx Z H4
section
variable {X : Cx} {o i e value : Expr} {pos pos' tpos : Pos} {td ty tv : TE}
theorem BX (hu:X.A.units+1 < cLine) (ho:PE X o td) (hi:PE X i ty) (hs:Io i):PE X (.Subscript o i pos) (Im td ty):=by
 intro pins s Z H Q I h;refine Fn PySem.F.slot_dict_getitem.lookup hs (dj (ho pins s Z H _ I h) fun u s1 x H1 I1 rx q1=>thn (hi pins s1 Z H1 _ I1 q1) fun iv s2 ⟨y,H2,I2,ry,a,v,ex,g,q2⟩=> ?_)
 subst ex;obtain rfl:u=Value.ref a:=rx;exact⟨yF I2 g,Cy hu I2 g ry fun w' s3 I3 rw'=>⟨v,H2,I3,rw',q2⟩⟩
theorem Fe (hu:X.A.units+1 < cLine) (ho:PE X o td) (hi:PE X i ty) (hv:PE X value tv) (hs:swapsWith value (some (.Subscript o i pos')) pos.line X.env=pure false):
  PS X (.Assign [.Subscript o i pos'] value pos) (Hv td ty tv):=by
 intro pins s Z H D I h;refine wpAny_Assign_Subscript (dj (hv pins s Z H _ I h) fun r s1 v H1 I1 rv q1=>dj (ho pins s1 Z H1 _ I1 q1) fun u s2 x H2 I2 rx q2=>thn (hi pins s2 Z H2 _ I2 q2) fun iv s3 ⟨y,H3,I3,ry,a,H4,ex,g,q3⟩=> ?_) hs
 subst ex;obtain rfl:u=Value.ref a:=rx;exact Cg hu I3 g ry rv fun s4 I4=>⟨Z,H4,I4,q3⟩
end
theorem CW {P:Program}{w:World}{H:Hp}(h:Heap) (hb:sysModules < h.objs.size):cO P w H (h.push {cls:= .type "dict",data:= .dict #[]}) h.objs.size (.dT []):=
 ⟨Nat.zero_le _,beq_eq_false_iff_ne.mpr (Ne.symm (Nat.ne_of_lt hb)),[],.nil,_, #[],0,Heap.get?_push_size _ rfl,⟨rfl,rfl,rfl⟩,rfl,rfl,List.nodup_nil⟩
def GF:TE:=fun _ H Q=>∀p,H p=none->Q (.ref p) (upd H p (.dT []))
section
variable {X : Cx} {pos : Pos}
theorem EE:PE X (.Dict [] [] pos) GF:=fun pins s Z H Q I h=>
 wpAny_Dict_empty ⟨.ref s.heap.objs.size,_,I.laid (a:=s.heap.objs.size) (o:= .dT []) (t':=s.toks) (fun _ _ q=>Heap.get?_push_of_some _ q) (Nat.le_refl _) (CW s.heap I.big),rfl,h _ (I.hok.fresh (Nat.le_refl _))⟩
end
structure M1 (X:Cx) (o:Expr) (m:Str) (apos:Pos) (e:Expr) (cpos:Pos):Prop where
 base:attributeBase o m X.env (eval o X.env)=eval o X.env
 few:((backTo cpos (starEach [e] X.env)).all (fun x=> !x.1) && (backToKw cpos (keywordEach [] X.env)).all (fun x=>x.1.isSome)
  && decide (([e]:List Expr).length+([]:List Keyword).length+(if ([]:List Keyword).isEmpty then 0 else 1) < 30))=true
 line:(apos.endLine == cpos.line)=true
 trees:backTo cpos (starEach [e] X.env)=[(false,eval e X.env)]
structure M2 (X:Cx) (o:Expr) (m:Str) (apos:Pos) (e f:Expr) (cpos:Pos):Prop where
 base:attributeBase o m X.env (eval o X.env)=eval o X.env
 few:((backTo cpos (starEach [e,f] X.env)).all (fun x=> !x.1) && (backToKw cpos (keywordEach [] X.env)).all (fun x=>x.1.isSome)
  && decide (([e,f]:List Expr).length+([]:List Keyword).length+(if ([]:List Keyword).isEmpty then 0 else 1) < 30))=true
 line:(apos.endLine == cpos.line)=true
 trees:backTo cpos (starEach [e,f] X.env)=[(false,eval e X.env),(false,eval f X.env)]
end L2
namespace Att
open PySem PySem.W PySem.Calls PyProof.Rows
theorem se {P:Params}{h:Heap}:∀(ns:List Int) (vs:List Value),WellAll P h vs (ns.map WData.int)->IntsAre vs ns:=by
 intro ns
 induction ns with
 | nil=>
  intro vs w;rw[List.map_nil] at w
  cases w
  exact .nil
 | cons n ns ih=>
  intro vs w;rw[List.map_cons] at w
  cases w with
  | cons a b=>
   cases a
   exact .cons _ _ (ih _ b)
theorem B1 {l:OpenLaw}{n:Nat}(hn:l.most=some n) {P:Params}{h:Heap}{args:List WData}{vals:List Value}
  (hpre:l.row.toRowW.claim.pre args=true) (hwl:WellAll P h vals args):
  ∃a vs ns,vals=[Value.ref a]/\args=[WData.list (ns.map WData.int)]/\h.get? a=some {cls:= .type "list",data:= .seq vs.toArray}/\IntsAre vs ns/\ns.length<=n:=by
 have hsh:WShape.hasAll [] args [.list .int]=true:=(pre_splitW hpre).1;have hc:l.pre.holds [] {args:=args}=true:=(pre_splitW hpre).2;obtain⟨d,r,rfl,h1,h2⟩:=hasAllW_cons hsh;obtain rfl:=hasAllW_nil h2;obtain⟨xs,rfl,h3⟩:=hasW_list h1;obtain⟨ns,rfl⟩:=items_int h3;have hlen:ns.length<=n:=by
  unfold OpenLaw.pre at hc;have h4:(WTm.not (.lt (.lit (.int (n:Int))) (.len (.arg 0)))).holds [] {args:=[.list (ns.map .int)]}=true:=by
   have h4:=(holds_andW hc).1;rw[hn] at h4;exact h4
  have h5:=condW_of h4 (w_not (w_lt w_lit (w_len_list (w_arg rfl))));rw[List.length_map] at h5;refine Nat.le_of_not_lt fun q=> ?_
  have q':(n:Int) < ((ns.length:Nat):Int):=by lia
  first
   | (rw[decide_eq_true q'] at h5;exact absurd h5 (by decide))
   | (simp at h5;lia)
 cases hwl with
 | cons w1 w2=>
  cases w2
  cases w1 with
  | list ho hall=>exact⟨_,_,ns,rfl,rfl,ho,se ns _ hall,hlen⟩
theorem Ci (l:OpenLaw) (args:List WData):l.row.toRowW.claim.post args (.bool true) args=true:=
 postW_of (r:=l.row.toRowW) (X:=(true == true))
  (show WShape.has [] (.bool true) .bool=true by first | rfl | decide | simp [WShape.has,WShape.arms,WShape.armsAll])
  (show(WTm.eq .res (.lit (.bool true))).value [] {args:=args,res:=some (.bool true),after:=args}=some (.bool (true == true)) from w_eq_bool (w_res rfl) w_lit) rfl
theorem attach_call {l:OpenLaw}{n:Nat}{q:Program}{loose:List Str}{XP:(Str->Option Value)->Heap->Prop}{YP:World->Heap->Prop}{d:DefRec}
  (hn:l.most=some n) (hdf:d.params.defaults=[])
  (call:∀(w:World) (s₀ s₁:Shared) (mg mb:Str->Option Value) (fa:Addr) (o:Obj) (pm cd doc:Value) (a:Addr) (vs:List Value) (ns:List Int),
   Ground q loose [] XP w s₀ mg mb s₁.heap->YP w s₁.heap->
   s₁.heap.get? fa=some o->o.data= .func (docDef d.name d.params d.body d.scope pm cd doc)->s₁.heap.CodeRec cd d.name->mg d.name=some (.ref fa)->
   s₁.heap.get? a=some {cls:= .type "list",data:= .seq vs.toArray}->IntsAre vs ns->ns.length<=n->s₁.gens= #[]->
   codeAny (model l.prog w) callerA (.call (.ref fa) ⟨[.ref a],[]⟩) (fun r s'=>r= .ok (.ret (.bool true))/\OldK s₁.heap s'.heap/\s'.os=s₁.os/\AllBare s'.gens) s₁):
  WalkO q loose XP YP l.row.toRowW d [] (fun f vs=>PySem.call f vs):=by
 intro w s₀ s₁ mg mb G Y fa o pm cd doc dV kV ho hd hcd hD hmg hg args vals as hpre hlay hrd hwl hlo;obtain rfl:dV= .none:=Dflts.none hD hdf;obtain rfl:kV= .none:=Dflts.noKw hD;obtain⟨a,vs,ns,rfl,rfl,hobj,hints,hlen⟩:=B1 hn hpre hwl;refine enter_call (codeAny_mono (call w s₀ s₁ mg mb fa o pm cd doc a vs ns G Y ho (fd_plain hd) hcd hmg hobj hints hlen hg) fun r s' hq=> ?_)
 obtain⟨rfl,h2,h3,h4⟩:=hq;exact⟨.inl ⟨.bool true,.bool true,[],rfl,fun _=>rfl,.bool true,Ci l _,fun _=>⟨List.Pairwise.nil,fun _ hm=>(nomatch hm)⟩⟩,h2,h3,h4⟩
end Att
namespace L2
open PySem PySem.Spec PyProof.Rows
theorem vZ:∀ {vs:List Value}{ns:List Int},IntsAre vs ns->aX (ns.map V.int) vs
 | _,_,.nil=> .nil
 | _,_,.cons n t h=> .cons ⟨t,rfl⟩ (vZ h)
def FH (H:Hp):Prop:=∀b,H b=none\/∃o xs,H b=some (.frz o (.lst xs))
theorem DS {P:Program}{w:World}{K:Frag}{mg mb:Str->Option Value}{CX:CXT}{k:Nat}{fa a:Addr}{fd:FuncData}{x:Str}{sp:Sp}{s₁:Shared}{vs:List Value}{ns:List Int}
  (KX:K.In s₁.heap) (hns:s₁.heap.Ns mainGlobals mg) (hb:s₁.heap.Ns builtinsNs mb) (hbb:∀x:Str,x≠"__name__"->mb x=bootBuiltins x) (hlim:s₁.heap.NoLimit) (hg:s₁.gens= #[])
  (ha:s₁.heap.get? a=some {cls:= .type "list",data:= .seq vs.toArray}) (hi:IntsAre vs ns) (hl:ns.length<=sizeLine) (hr:Room k callerA)
  (F:∀base:Heap,K.In base->base.Ns mainGlobals mg->iF P w K mg base CX k fa fd [x] sp) (hbind:∀(s:Shared) (u:Value),BindsTo s fd ⟨[u],[]⟩ [(x,u)])
  (hsp:∀H:Hp,FH H->SqL K H a (ns.map V.int)->sp [.ref a] H (fun v _=>v= .bl true) fun _ _ _=>False)
  (hCX:∀H e s',CX [] H s₁ (fun _ _ _=>False) e s'->False):
  codeAny (model P w) callerA (.call (.ref fa) ⟨[.ref a],[]⟩) (fun r s'=>r= .ok (.ret (.bool true))/\OldK s₁.heap s'.heap/\s'.os=s₁.os/\AllBare s'.gens) s₁:=by
 have rv:=vZ hi;have lenV:=hi.length;have core:∀H:Hp,FH H->SqL K H a (ns.map V.int)->HOk P w H s₁.heap->(∀ b,H b≠none->b=a)->(H a≠none->K.lookup a=none)->
   codeAny (model P w) callerA (.call (.ref fa) ⟨[.ref a],[]⟩) (fun r s'=>r= .ok (.ret (.bool true))/\OldK s₁.heap s'.heap/\s'.os=s₁.os/\AllBare s'.gens) s₁:=by
  intro H hO hS hok hA hK;have base_of:∀ {b:Addr}{o:Obj},s₁.heap.get? b=some o->H b=none->(wJ s₁.heap H).get? b=some o:=fun e n=>Dn e n
  have noA:∀ {b:Addr}{o:Obj}{es:Array DictEntry}{ep:Nat},s₁.heap.get? b=some o->o.data= .dict es ep->H b=none:=fun {b o es ep} e d=>by
   cases q:H b with
   | none=>rfl
   | some u=>
    have e':b=a:=hA b (by rw[q];simp)
    subst e';rw[ha] at e;cases e;have d':Data.seq vs.toArray _=Data.dict es ep:=d
    cases d'
  have nsK:∀ {b:Addr}{m:Str->Option Value},s₁.heap.Ns b m->(wJ s₁.heap H).Ns b m:=fun {b m} ⟨o,es,ep,e,d,r⟩=>⟨o,es,ep,base_of e (noA e d),d,r⟩
  have hKb:K.In (wJ s₁.heap H):=fun b o e=>base_of (KX b o e) (by
   cases q:H b with
   | none=>rfl
   | some u=>
    have e':b=a:=hA b (by rw[q];simp)
    subst e'
    rw[hK (by rw[q];simp)] at e;cases e)
  have hM:Mod K mg (wJ s₁.heap H):=⟨hKb,nsK hns,⟨mb,nsK hb,hbb⟩,let ⟨mc,h1,h2⟩:=hlim;⟨mc,nsK h1,h2⟩⟩
  have e0:AY P w K mg (wJ s₁.heap H) callerA [] s₁ H:=⟨rfl,hM,fun b o e=>Fp e,Nat.le_of_eq (B4 _ _),trivial,fun b hb=>absurd (show b∈([]:List Addr) from hb) (by simp),hok,.of_eq hg⟩
  refine codeAny_mono ((F _ hKb (nsK hns)).run callerA [] s₁ H ⟨[.ref a],[]⟩ [.ref a] [.ref a] _ _ hr e0 (hbind s₁ (.ref a)) (.cons rfl .nil) (hsp H hO hS)) fun r s' h=> ?_
  cases r with
  | error e=>exact(hCX H e s' h).elim
  | ok fl=>
   cases fl with
   | next=>exact False.elim h
   | brk=>exact False.elim h
   | cont=>exact False.elim h
   | ret u=>
    obtain⟨v,H',os,bare,un,hok',r',q⟩:=h;have q':v= .bl true:=q;subst q';obtain rfl:u=Value.bool true:=r';refine⟨rfl,OldK.of_keep fun b o e=> ?_,os,bare⟩
    cases q:H b with
    | none=>exact un.keep b o e q (by intro z;exact absurd (show b∈([]:List Addr) from z) (by simp)) (by simp)
    | some u=>
     rcases hO b with z | ⟨ob,xs,z⟩
     .rw[q] at z;cases z
     .have z2:=un.frzs b ob _ z;obtain⟨e1,_⟩:=hok b _ z;obtain⟨e2,_⟩:=hok' b _ z2;rw[e] at e1;cases e1;exact e2
 cases hk:K.lookup a with
 | some o=>
  have e:=KX a o hk;rw[ha] at e
  cases e
  refine core (fun _=>none) (fun _=> .inl rfl) (.inr ⟨_,vs.toArray,_,hk,rfl,rfl,rfl,by rw[List.size_toArray,lenV];exact hl,by simpa using rv⟩) (fun b u z=>by have z':(none:Option HO)=some u:=z;cases z') (fun b z=>absurd rfl z) fun z=>absurd rfl z
 | none=>
  refine core (fun b=>if b=a then some (.frz {cls:= .type "list",data:= .seq vs.toArray} (.lst (ns.map V.int))) else none) (fun b=> ?_) (.inl (.inr ⟨{cls:= .type "list",data:= .seq vs.toArray},if_pos rfl⟩)) (fun b u z=> ?_) (fun b z=> ?_) fun _=>hk
  .by_cases hb:b=a
   .exact .inr ⟨_,_,if_pos hb⟩
   .exact .inl (if_neg hb)
  .by_cases hb:b=a
   .have z':=(if_pos hb).symm.trans z
    cases z'
    subst hb;exact⟨ha,by rw[List.length_map];exact hl,vs,_,rv,ha⟩
   .have z':=(if_neg hb).symm.trans z
    cases z'
  .by_cases hb:b=a
   .exact hb
   .exact absurd (if_neg hb) z
abbrev KOf {K:Frag}{h:Heap}(_:K.In h):Frag:=K
theorem FG {l:PySem.W.OpenLaw}{n k:Nat}{q:Program}{loose:List Str}{XP:(Str->Option Value)->Heap->Prop}{YP:World->Heap->Prop}{d:DefRec}{K:Params->Frag}{CX:World->CXT}{sp:World->Sp}{x:Str}
  (hn:l.most=some n) (hn2:n<=sizeLine) (hdf:d.params.defaults=[]) (hr:Room k callerA)
  (hY:∀(w:World) (h:Heap),YP w h->(K w.params).In h)
  (F:∀(w:World) (mg:Str->Option Value) (fa:Addr) (h:Heap),(K w.params).In h->h.Ns mainGlobals mg->mg d.name=some (.ref fa)->
   ∃fd:FuncData,(∀ (s:Shared) (u:Value),BindsTo s fd ⟨[u],[]⟩ [(x,u)])/\
    ∀base:Heap,(K w.params).In base->base.Ns mainGlobals mg->iF l.prog w (K w.params) mg base (CX w) k fa fd [x] (sp w))
  (hsp:∀(w:World) (H:Hp) (a:Addr) (ns:List Int),ns.length<=n->FH H->SqL (K w.params) H a (ns.map V.int)->sp w [.ref a] H (fun v _=>v= .bl true) fun _ _ _=>False)
  (hCX:∀(w:World) (H:Hp) (s:Shared) (e:Value) (s':Shared),CX w [] H s (fun _ _ _=>False) e s'->False):
  PySem.W.WalkO q loose XP YP l.row.toRowW d [] (fun f vs=>PySem.call f vs):=by
 refine Att.attach_call hn hdf fun w s₀ s₁ mg mb fa o pm cd doc a vs ns G Y ho hd hcd hmg hobj hints hlen hg=> ?_
 have KX:=hY w _ Y;obtain⟨fd,hb,hF⟩:=F w mg fa _ KX G.T.g hmg;exact DS KX G.T.g G.T.b G.T.builtins G.T.nolimit hg hobj hints (Nat.le_trans hlen hn2) hr hF hb (fun H hO hS=>hsp w H a ns hlen hO hS) fun H e s'=>hCX w H s₁ e s'
def fE (s:Stmt) (j:Nat):Stmt:=match s with
 | .ClassDef _ _ _ body _ _ _ _ _ _ _=>body.getD j (.Pass ⟨0,0,0,0⟩)
 | _=> .Pass ⟨0,0,0,0⟩
def gH (s:Stmt):Arguments:=match s with
 | .FunctionDef _ a _ _ _ _ _ _ _ _=>a
 | _=>{posonlyargs:=[],args:=[],vararg:=none,kwonlyargs:=[],kw_defaults:=[],kwarg:=none,defaults:=[]}
def dZ (s:Stmt):List Stmt:=match s with
 | .FunctionDef _ _ b _ _ _ _ _ _ _=>b
 | _=>[]
def ag (s:Stmt):Scope:=match s with
 | .FunctionDef _ _ _ _ _ _ sc _ _ _=>sc
 | _=>{kind:= .function,names:=[],isGenerator:=false,isCoroutine:=false}
abbrev CX0:CXT:=fun _ _ _ _ _ _=>False
abbrev E0:XK:=fun _ _ _=>False
theorem vY {X:Cx}:kF CX0 X E0:=fun _ _ _ _ _ _ _ h=>h.elim
structure Fun (K:Frag) (x qual:Str) (st:Stmt) (f:Addr) (fd:FuncData):Prop where
 ex:∃(oc:Value) (od:Option Addr) (kV doc pm:Value) (an:Option Addr) (cdv ct:Value) (osl:Array (Option Value)),
  fd=W.fnOf x qual (gH st) (dZ st) (ag st) .none kV doc pm an cdv ct/\K.lookup f=some ⟨oc,od,.func fd,osl⟩/\W.codeIn K cdv qual=true
 kp:W.keepIn K (.ref f)=true
section
variable {P : Program} {w : World} {K : Frag} {mg : Str → Option Value} {base : Heap}
theorem Fun.ok {x qual:Str}{st:Stmt}{f:Addr}{fd:FuncData}{N ps:List Str}{k:Nat}{sp:Sp}(F:Fun K x qual st f fd) (S:aq N ps (ag st)) (len:∀vs H Q E,sp vs H Q E->vs.length=ps.length)
  (hbody:∀(cdv:Value) (A:Around) (outer:List Env) (s:Shared) (H:Hp) (vs:List V) (Q:VK) (E:XK),Room k (A.deeper (envOfC qual (ag st) s.heap.objs.size f cdv))->sp vs H Q E->
   ∃t,PSs (pC CX0 P w K mg base N qual (ag st) f cdv A outer s H E).nox (dZ st) t/\t {nx:=fun _ H'=>Q .non H',rt:=Q} (start N vs) H):iF P w K mg base CX0 (k+1) f fd ps sp:=by
 obtain⟨oc,od,kV,doc,pm,an,cdv,ct,osl,rfl,lk,hcd⟩:=F.ex;refine Gj lk hcd S len fun A outer s H vs Q E hr hsp=> ?_
 obtain⟨t,h,q⟩:=hbody cdv A outer s H vs Q E hr hsp;exact⟨t,h.nox,q⟩
theorem Fun.binds {x qual:Str}{st:Stmt}{f:Addr}{fd:FuncData}{ps:List Str}(F:Fun K x qual st f fd)
  (h:∀(kV doc pm:Value) (an:Option Addr) (cdv ct:Value) (us:List Value),us.length=ps.length->bindArgs (W.fnOf x qual (gH st) (dZ st) (ag st) .none kV doc pm an cdv ct) ⟨us,[]⟩=pure (ps.zip us)):gE K fd ps []:=by
 obtain⟨oc,od,kV,doc,pm,an,cdv,ct,osl,rfl,lk,hcd⟩:=F.ex;exact .all (h kV doc pm an cdv ct)
theorem AI {x qual:Str}{st:Stmt}{f:Addr}{oc:Value}{od an:Option Addr}{osl:Array (Option Value)}{kV doc pm cdv ct:Value}(l:K.lookup f=some ⟨oc,od,.func (W.fnOf x qual (gH st) (dZ st) (ag st) .none kV doc pm an cdv ct),osl⟩)
  (c:W.codeIn K cdv qual=true) (k:W.keepIn K (.ref f)=true):Fun K x qual st f (W.fnOf x qual (gH st) (dZ st) (ag st) .none kV doc pm an cdv ct):=⟨⟨oc,od,kV,doc,pm,an,cdv,ct,osl,rfl,l,c⟩,k⟩
end
theorem Es {A:Around}{k:Nat}(hr:Room k A):A.units+1 < cLine:=Nat.lt_of_le_of_lt (Nat.add_le_add_left (by decide:1<=64) _) hr.units
section
variable {X : Cx}
theorem pv (i:Nat) {x:Str}{pos:Pos}(hN:X.N[i]? =some x:=by rfl) (hv:Vis X.env.scope x:=by first | exact Or.inl rfl | exact Or.inr (Or.inl rfl) | exact Or.inr (Or.inr rfl)) (hd:(x == ("__debug__":Str))=false:=by decide)
  (hcd:(x == ("__classdict__":Str))=false:=by decide):PE X (.Name x pos) (Hj i):=GC hN hv hd hcd
end
theorem Ax {A B:Prop}(h:B):if false=true then A else B:=by
 rw[if_neg Bool.false_ne_true];exact h
theorem wk {A B:Prop}(h:A):if true=true then A else B:=by
 rw[if_pos rfl];exact h
theorem HF {c A B:Prop} [Decidable c] (h1:c->A) (h2:¬c->B):if c then A else B:=by
 by_cases h:c
 .rw[if_pos h];exact h1 h
 .rw[if_neg h];exact h2 h
theorem yv {c A B:Prop} [Decidable c] (hc:c) (h:B):if (!decide c)=true then A else B:=by
 rw[decide_eq_true hc];exact Ax h
def ay (H H':Hp):Prop:=∀b o,H b=some o->H' b=some o
theorem ay.refl (H:Hp):ay H H:=fun _ _ h=>h
theorem ay.trans {H H1 H2:Hp}(a:ay H H1) (b:ay H1 H2):ay H H2:=fun c o h=>b c o (a c o h)
theorem ay.free {H H':Hp}(e:ay H H') {l:Addr}(h:H' l=Option.none):H l=Option.none:=by
 cases q:H l with
 | none=>rfl
 | some o=>
  rw[e l o q] at h
  cases h
theorem ay.seq {K:Frag}{H H':Hp}{a:Addr}{xs:List V}(e:ay H H') (h:SqL K H a xs):SqL K H' a xs:=by
 rcases h with(h | ⟨o,h⟩) | h
 .exact .inl (.inl (e _ _ h))
 .exact .inl (.inr ⟨o,e _ _ h⟩)
 .exact .inr h
end L2
set_option maxHeartbeats 4000000
namespace L2
open PySem PySem.Spec PyProof.Rows
theorem mT:bootBuiltins "tuple"=some (.type "tuple"):=by decide +kernel
theorem GK:bootBuiltins "zip"=some (.type "zip"):=by decide +kernel
theorem Gn:bootBuiltins "sum"=some (.builtin "sum"):=by decide +kernel
theorem w_:bootBuiltins "enumerate"=some (.type "enumerate"):=by decide +kernel
theorem ur:bootBuiltins "max"=some (.builtin "max"):=by decide +kernel
theorem mY:bootBuiltins "min"=some (.builtin "min"):=by decide +kernel
theorem Ed:bootBuiltins "abs"=some (.builtin "abs"):=by decide +kernel
theorem bT:bootBuiltins "len"=some (.builtin "len"):=by decide +kernel
structure Bi (mg:Str->Option Value):Prop where
 len:mg "len"=none
 range:mg "range"=none
 isinstance:mg "isinstance"=none
 max:mg "max"=none
 min:mg "min"=none
 abs:mg "abs"=none
 all:mg "all"=none
 int:mg "int"=none
 bool:mg "bool"=none
 str:mg "str"=none
 list:mg "list"=none
 tuple:mg "tuple"=none
 dict:mg "dict"=none
 zip:mg "zip"=none
 enumerate:mg "enumerate"=none
 sum:mg "sum"=none
section
variable {X : Cx} {a b c : Expr} {ta tb tc : TE} {pos : Pos}
def BV (i j:Int):Prop:=0 < j/\j<=2^100
theorem dH:OpR X (binaryOp .FloorDiv) (rI BV fun i j=> .int (i / j)):=opI fun i j _ _ _ _ _ hc q=>by
 have h1:(0:Int) < j:=hc.1;have h2:j<=2^100:=hc.2;refine floordiv_int (by lia) (by rw[Int.fdiv_eq_ediv_of_nonneg i (by lia)];exact q) (.inl (PyProof.noPylong_of_log2 ?_))
 have h3:j.natAbs<=2^100:=by lia
 have h4:j.natAbs≠0:=by lia
 exact Nat.lt_of_lt_of_le ((Nat.log2_lt h4).mpr (Nat.lt_of_le_of_lt h3 (by decide:2^100 < 2^101))) (by decide)
def IP (t:TS):TS:=fun D Z H=>∃M:St->Hp->Prop,t {D with nx:=M} Z H/\∀Z' H',M Z' H'->D.nx Z' H'
theorem bn {st:Stmt}{t:TS}(h:PS X st t):PS X st (IP t):=by
 intro pins s Z H D I hq;obtain⟨M,h1,h2⟩:=hq;refine thn (h pins s Z H _ I h1) fun f s1 q=> ?_
 cases f with
 | next=>obtain⟨Z',H',I',q'⟩:=q;exact⟨Z',H',I',h2 _ _ q'⟩
 | brk=>exact q
 | cont=>exact q
 | ret u=>exact q
def JA (t T:String):Option Bool:=
 if t=T then(if T∈["int","bool","str","list","tuple","dict"] then some true else none)
 else if t∈["int","bool","str","list","tuple","dict","NoneType"]/\T∈["int","bool","str","list","tuple","dict"] then some (t="bool"/\T="int") else none
structure Has (P:Program) (w:World) (K:Frag) (mg:Str->Option Value) (base:Heap) (k:Nat) (x:Str) (ps:List Str) (sp:Sp):Prop where
 ex:∃(f:Addr) (fd:FuncData),mg x=some (.ref f)/\W.keepIn K (.ref f)=true/\gE K fd ps []/\iF P w K mg base CX0 k f fd ps sp
theorem Has.mono {P:Program}{w:World}{K:Frag}{mg:Str->Option Value}{base:Heap}{j k:Nat}{x:Str}{ps:List Str}{sp:Sp}(h:Has P w K mg base j x ps sp) (hj:j<=k):Has P w K mg base k x ps sp:=by
 obtain⟨f,fd,h1,h2,h3,h4⟩:=h.ex;exact⟨f,fd,h1,h2,h3,h4.mono hj⟩
theorem DM {k:Nat}{x:Str}{ps:List Str}{sp:Sp}{e:Expr}{es:List Expr}{t:TA}{p pos:Pos}(h:Has X.prog X.w X.K X.mg X.base k x ps sp) (hr:Room k X.A) (hg:Gl X x)
  (ha:PA X (e::es) t) (hdb:(x == ("__debug__":Str))=false:=by decide) (he:starEach (e::es) X.env=(false,eval e X.env)::starEach es X.env:=by rfl) (hpl:(backTo pos (starEach es X.env)).any (·.1)=false:=by rfl):
  PE X (.Call (.Name x p) (e::es) [] pos) (yn sp [] E0 t):=by
 obtain⟨f,fd,hm,hk,hb,F⟩:=h.ex;exact ES F hr hg hm hk hb .nil vY ha hdb he hpl
structure Def (K:Frag) (mg:Str->Option Value) (x:Str) (st:Stmt) (ps:List Str):Prop where
 ex:∃(f:Addr) (fd:FuncData),Fun K x x st f fd/\mg x=some (.ref f)/\gE K fd ps []
theorem Def.has {P:Program}{w:World}{K:Frag}{mg:Str->Option Value}{base:Heap}{k:Nat}{x:Str}{st:Stmt}{N ps:List Str}{sp:Sp}(D:Def K mg x st ps) (S:aq N ps (ag st)) (len:∀vs H Q E,sp vs H Q E->vs.length=ps.length)
  (hbody:∀(f:Addr) (cdv:Value) (A:Around) (outer:List Env) (s:Shared) (H:Hp) (vs:List V) (Q:VK) (E:XK),Room k (A.deeper (envOfC x (ag st) s.heap.objs.size f cdv))->sp vs H Q E->
   ∃t,PSs (pC CX0 P w K mg base N x (ag st) f cdv A outer s H E).nox (dZ st) t/\t {nx:=fun _ H'=>Q .non H',rt:=Q} (start N vs) H):Has P w K mg base (k+1) x ps sp:=by
 obtain⟨f,fd,F,hm,hb⟩:=D.ex;exact⟨f,fd,hm,F.kp,hb,F.ok S len fun cdv A outer s H vs Q E hr h=>hbody f cdv A outer s H vs Q E hr h⟩
end
theorem Dm {c A B:Prop} [Decidable c] (hc:c) (h:A):if decide c=true then A else B:=by
 rw[decide_eq_true hc];exact wk h
theorem d3 {c A B:Prop} [Decidable c] (hc:¬c) (h:B):if decide c=true then A else B:=by
 rw[decide_eq_false hc];exact Ax h
theorem aV {c A B:Prop} [Decidable c] (h1:c->A) (h2:¬c->B):if decide c=true then A else B:=by
 by_cases h:c
 .exact Dm h (h1 h)
 .exact d3 h (h2 h)
def But (d:Addr) (H H':Hp):Prop:=∀b o,b≠d->H b=some o->H' b=some o
theorem But.refl (d:Addr) (H:Hp):But d H H:=fun _ _ _ h=>h
theorem But.trans {d:Addr}{H H1 H2:Hp}(a:But d H H1) (b:But d H1 H2):But d H H2:=fun c o hc h=>b c o hc (a c o hc h)
theorem ay.but {d:Addr}{H H1:Hp}(a:ay H H1):But d H H1:=fun c o _ h=>a c o h
theorem But.upd {d:Addr}{H:Hp}{o:HO}:But d H (upd H d o):=fun c u hc h=>by rw[az hc];exact h
theorem But.same {d:Addr}{H H1 H2:Hp}(a:ay H H1) (hd:H d=none) (b:But d H1 H2):ay H H2:=fun c o h=>b c o (aB h hd) (a c o h)
theorem af {H:Hp}{p:Addr}(h:H p=none) (o:HO):ay H (upd H p o):=fun b u q=>by rw[az (aB q h)];exact q
def Bd (x:Str) (st:Stmt) (ps:List Str):Prop:=∀(kV doc pm:Value) (an:Option Addr) (cdv ct:Value) (us:List Value),us.length=ps.length->
 bindArgs (W.fnOf x x (gH st) (dZ st) (ag st) .none kV doc pm an cdv ct) ⟨us,[]⟩=pure (ps.zip us)
theorem aD {K:Frag}{h:Heap}{mg:Str->Option Value}{x:Str}{st:Stmt}{ps:List Str}{f:Addr}{od an:Option Addr}{sl:Array (Option Value)}{oc kV dc pm cd ct:Value}(b:Bd x st ps) (X:K.In h) (G:h.Ns mainGlobals mg)
  (a:W.nsIn K mainGlobals x=some (some (.ref f))) (l:K.lookup f=some ⟨oc,od,.func (W.fnOf x x (gH st) (dZ st) (ag st) .none kV dc pm an cd ct),sl⟩) (c:W.codeIn K cd x=true) (k:W.keepIn K (.ref f)=true):
  Def K mg x st ps:=by
 have F:=AI (st:=st) l c k;exact⟨f,_,F,W.mg_of X G a,F.binds b⟩
theorem Ii {K:Frag}{h:Heap}{mg:Str->Option Value}(X:K.In h) (G:h.Ns mainGlobals mg)
  (z0:W.nsIn K mainGlobals "len"=some none) (z1:W.nsIn K mainGlobals "range"=some none) (z2:W.nsIn K mainGlobals "isinstance"=some none) (z3:W.nsIn K mainGlobals "max"=some none) (z4:W.nsIn K mainGlobals "min"=some none)
  (z5:W.nsIn K mainGlobals "abs"=some none) (z6:W.nsIn K mainGlobals "all"=some none) (z7:W.nsIn K mainGlobals "int"=some none) (z8:W.nsIn K mainGlobals "bool"=some none) (z9:W.nsIn K mainGlobals "str"=some none)
  (z10:W.nsIn K mainGlobals "list"=some none) (z11:W.nsIn K mainGlobals "tuple"=some none) (z12:W.nsIn K mainGlobals "dict"=some none) (z13:W.nsIn K mainGlobals "zip"=some none) (z14:W.nsIn K mainGlobals "enumerate"=some none) (z15:W.nsIn K mainGlobals "sum"=some none):Bi mg:=
 ⟨W.mg_none_of X G z0,W.mg_none_of X G z1,W.mg_none_of X G z2,W.mg_none_of X G z3,W.mg_none_of X G z4,W.mg_none_of X G z5,W.mg_none_of X G z6,W.mg_none_of X G z7,W.mg_none_of X G z8,
  W.mg_none_of X G z9,W.mg_none_of X G z10,W.mg_none_of X G z11,W.mg_none_of X G z12,W.mg_none_of X G z13,W.mg_none_of X G z14,W.mg_none_of X G z15⟩
def zR (K:Frag):Sp:=fun vs H Q _=>∃(a:Addr) (ns:List Int),vs=[.ref a]/\SqL K H a (ns.map V.int)/\ns.length<=63/\FH H/\∀H',Q (.bl true) H'
theorem Ho {P:Program}{w:World}{K:Frag}{h:Heap}{mg:Str->Option Value}{x:Str}{st:Stmt}{fa f:Addr}{od an:Option Addr}{sl:Array (Option Value)}{oc kV dc pm cd ct:Value}{k:Nat}(b:Bd "law" st [x]) (X:K.In h) (G:h.Ns mainGlobals mg) (hfa:mg "law"=some (.ref fa))
  (a:W.nsIn K mainGlobals "law"=some (some (.ref f))) (l:K.lookup f=some ⟨oc,od,.func (W.fnOf "law" "law" (gH st) (dZ st) (ag st) .none kV dc pm an cd ct),sl⟩) (c:W.codeIn K cd "law"=true) (kp:W.keepIn K (.ref f)=true)
  (ok:∀(f:Addr) (fd:FuncData),Fun K "law" "law" st f fd->∀base:Heap,iF P w K mg base CX0 k f fd [x] (zR K)):
  ∃fd:FuncData,(∀ (s:Shared) (u:Value),BindsTo s fd ⟨[u],[]⟩ [(x,u)])/\∀base:Heap,K.In base->base.Ns mainGlobals mg->iF P w K mg base CX0 k fa fd [x] (zR K):=by
 have e:=hfa.symm.trans (W.mg_of X G a)
 cases e
 have F:=AI (st:=st) l c kp;exact⟨_,fun s u=> .of_eq (b kV dc pm an cd ct [u] rfl),fun base _ _=>ok _ _ F base⟩
theorem DO {l:PySem.W.OpenLaw}{k:Nat}{x:Str}{q:Program}{loose:List Str}{XP:(Str->Option Value)->Heap->Prop}{YP:World->Heap->Prop}{d:DefRec}{K:Params->Frag}(hn:l.most=some 63) (hdf:d.params.defaults=[])
  (hr:Room k callerA) (hY:∀(w:World) (h:Heap),YP w h->(K w.params).In h)
  (F:∀(w:World) (mg:Str->Option Value) (fa:Addr) (h:Heap),(K w.params).In h->h.Ns mainGlobals mg->mg d.name=some (.ref fa)->
   ∃fd:FuncData,(∀ (s:Shared) (u:Value),BindsTo s fd ⟨[u],[]⟩ [(x,u)])/\∀base:Heap,(K w.params).In base->base.Ns mainGlobals mg->iF l.prog w (K w.params) mg base CX0 k fa fd [x] (zR (K w.params))):
  PySem.W.WalkO q loose XP YP l.row.toRowW d [] (fun f vs=>PySem.call f vs):=
 L2.FG (n:=63) (k:=k) (x:=x) (CX:=fun _=>CX0) (sp:=fun w=>zR (K w.params)) hn (by decide) hdf hr hY F (fun _ _ a ns hl hO hS=>⟨a,ns,rfl,hS,hl,hO,fun _=>rfl⟩) fun _ _ _ _ _ z=>z
def oF:List (Str × NameKind)->Env->List (Str × Addr)->List (Str × Addr)
 | [],_,acc=>acc
 | (n,k)::r,env,acc=>oF r env (if (k == NameKind.free)=true then(n,(env.cells.lookup n).getD 0)::acc else acc)
theorem ji {scope:Scope}{env:Env}(h:∀y∈scope.names,y.2=NameKind.free->∃c,env.cells.lookup y.1=some c):closureFor scope env=pure (oF scope.names env []):=by
 have key:∀(l:List (Str × NameKind)) (acc:List (Str × Addr)),(∀ y∈l,y.2=NameKind.free->∃c,env.cells.lookup y.1=some c)->
   (forIn l acc fun(x:Str × NameKind) (r:List (Str × Addr))=>(if (x.2 == NameKind.free)=true then do let a <-cellOf env x.1;pure (ForInStep.yield ((x.1,a)::r)) else pure (ForInStep.yield r):Sem (ForInStep (List (Str × Addr)))))=pure (oF l env acc):=by
  intro l
  induction l with
  | nil=>intro acc _;rfl
  | cons y r ih=>
   intro acc hl;obtain⟨n,k⟩:=y;rw[List.forIn_cons];have hr:∀z∈r,z.2=NameKind.free->∃c,env.cells.lookup z.1=some c:=fun z hz=>hl z (List.mem_cons_of_mem _ hz)
   by_cases hk:(k == NameKind.free)=true
   .have hk':k=NameKind.free:=by simpa using hk
    obtain⟨c,hc⟩:=hl (n,k) List.mem_cons_self hk';have hc':env.cells.lookup n=some c:=hc;have e:cellOf env n=pure c:=by unfold cellOf;rw[hc']
    simp only[hk,if_true,e,pure_bind]
    rw[ih _ hr]
    simp only[oF,hk,if_true,hc',Option.getD_some]
   .have hk2:(k == NameKind.free)=false:=by simpa using hk
    simp only[hk2,Bool.false_eq_true,if_false,pure_bind]
    rw[ih _ hr]
    simp only[oF,hk2,Bool.false_eq_true,if_false]
 have k:=key scope.names [] h;unfold closureFor;refine Eq.trans ?_ k
 simp only[bind_pure_comp,bind_pure]
theorem Ae {env:Env}{x:Str}{c:Addr}:∀ {names:List (Str × NameKind)}{acc:List (Str × Addr)},(∀ y∈names,y.2=NameKind.free->∃c,env.cells.lookup y.1=some c)->(∀ d,acc.lookup x=some d->env.cells.lookup x=some d)->
  (oF names env acc).lookup x=some c->env.cells.lookup x=some c
 | [],_,_,ha,h=>ha c h
 | (n,k)::r,acc,hl,ha,h=>by
  unfold oF at h;refine Ae (names:=r) (fun z hz=>hl z (List.mem_cons_of_mem _ hz)) (fun d hd=> ?_) h
  split at hd
  .rename_i hk
   have hk':k=NameKind.free:=by simpa using hk
   obtain⟨c',hc'⟩:=hl (n,k) List.mem_cons_self hk';have hc':env.cells.lookup n=some c':=hc';rw[hc',Option.getD_some,List.lookup_cons] at hd
   by_cases hx:x=n
   .subst hx
    simp only[beq_self_eq_true] at hd
    rw[<- hd];exact hc'
   .have hb:(x == n)=false:=by simpa using hx
    rw[hb] at hd;exact ha d hd
  .exact ha d hd
theorem tD {env:Env}{x:Str}:∀ {names:List (Str × NameKind)}{acc:List (Str × Addr)},((x,NameKind.free)∈names\/∃d,acc.lookup x=some d)->∃c,(oF names env acc).lookup x=some c
 | [],acc,h=>by
  rcases h with h | h
  .simp at h
  .exact h
 | (n,k)::r,acc,h=>by
  unfold oF;apply tD (names:=r)
  rcases h with h | ⟨d,h⟩
  .rcases List.mem_cons.mp h with e | e
   .cases e
    refine .inr ⟨(env.cells.lookup x).getD 0,?_⟩
    rw[if_pos (by simp),List.lookup_cons]
    simp only[beq_self_eq_true]
   .exact .inl e
  .refine .inr ?_
   split
   .rw[List.lookup_cons]
    cases(x == n) with
    | true=>exact⟨_,rfl⟩
    | false=>exact⟨d,h⟩
   .exact⟨d,h⟩
structure iI (sc0 scope:Scope) (N0 N:List Str) (t:Nat) (js:List Nat):Prop where
 kind:scope.kind= .function
 cell:∀y∈scope.names,y.2≠NameKind.cell
 names:∀y∈scope.names,y.2=NameKind.local->scope.names.lookup y.1=some NameKind.local
 free:∀y∈scope.names,y.2=NameKind.free->sc0.names.lookup y.1=some NameKind.cell
 frs:∀x∈N.drop t,scope.names.lookup x=some NameKind.free
 js:(N.drop t).map some=js.map fun j=>N0[j]?
 len:t<=N.length
 nd:N.Nodup
def blk (t:Nat) (js:List Nat) (Z:St):St:=List.replicate t none++js.map fun j=>(Z[j]?).join
def cxB (X:Cx) (scope:Scope) (N:List Str) (C:Addr) (s:Shared) (H:Hp) (fp:List Addr):Cx where
 prog:=X.prog
 w:=X.w
 K:=X.K
 mg:=X.mg
 base:=X.base
 A:=X.A
 N:=N
 s₀:=s
 H₀:=H
 env:=compEnvC scope (oF scope.names X.env []) C X.env
 outer:=X.stack
 stack:=X.stack
 ex:=fp
 fn:=fun _=>false
 calm:=X.calm
 pn:=[]
 xe:=fun _ _=>False
theorem lr {f:Str->NameKind->NameKind}{x:Str}:∀(names:List (Str × NameKind)),(names.map fun y=>(y.1,f y.1 y.2)).lookup x=(names.lookup x).map (f x)
 | []=>rfl
 | (n,k)::r=>by
  rw[List.map_cons,List.lookup_cons,List.lookup_cons,lr r]
  by_cases hx:x=n
  .subst hx
   simp
  .have hb:(x == n)=false:=by simpa using hx
   rw[hb]
theorem u6 (scope:Scope) (env:Env):(relabel scope env).names=scope.names.map fun y=>(y.1,if (y.2 == NameKind.free && env.scope.kind == .function && env.kindOf y.1 == some NameKind.cell)=true then NameKind.cell else y.2):=by
 unfold relabel;refine List.map_congr_left fun y _=> ?_
 obtain⟨n,k⟩:=y;dsimp only
 split <;> rfl
theorem mt (scope:Scope) (env:Env) (x:Str):(relabel scope env).names.lookup x=(scope.names.lookup x).map fun k=>if (k == NameKind.free && env.scope.kind == .function && env.kindOf x == some NameKind.cell)=true then NameKind.cell else k:=by
 rw[u6];exact lr (f:=fun n k=>if (k == NameKind.free && env.scope.kind == .function && env.kindOf n == some NameKind.cell)=true then NameKind.cell else k) scope.names
section
variable {X : Cx} {pins : List (Addr × Obj)} {σ : St} {H H' : Hp} {s s' : Shared} {sc0 scope : Scope} {N0 N : List Str} {t : Nat} {js : List Nat} {fp : List Addr}
theorem pD (I:Inv X pins Z H s) (hsc:X.env.scope=sc0) (B:iI sc0 scope N0 N t js):∀y∈scope.names,y.2=NameKind.free->∃c,X.env.cells.lookup y.1=some c:=fun y hy hf=>
 I.ok.has y.1 (.inl (by show X.env.scope.names.lookup y.1=_;rw[hsc];exact B.free y hy hf))
theorem vC {m:Str->Option Value}{ob:Obj}{h₁:Heap}{tk:Nat}(I:Inv X pins Z H s) (hsc:X.env.scope=sc0) (hN0:X.N=N0) (B:iI sc0 scope N0 N t js) (hfp:∀b∈fp,nK X pins H b) (hlt:∀b∈fp,b < s.heap.objs.size)
  (hns:h₁.Ns s.heap.objs.size m) (hsb:Heap.SameBut s.heap.objs.size (s.heap.push ob) h₁):Inv (cxB X scope N s.heap.objs.size s H fp) [] (blk t js Z) H {s with heap:=h₁,toks:=tk}:=by
 have hf:=pD I hsc B;have sub:∀ {x c},(oF scope.names X.env []).lookup x=some c->X.env.cells.lookup x=some c:=fun {x c} h=>Ae hf (fun d hd=>by simp at hd) h
 have old:∀b o,s.heap.get? b=some o->h₁.get? b=some o:=fun b o e=>(hsb.2 b (Nat.ne_of_lt (Heap.lt_size e))).trans (Heap.get?_push_of_some _ e)
 refine⟨⟨I.ok.mod,B.kind,I.ok.glob,I.ok.blt,Nat.le_refl _,fun x y c h1 h2=>I.ok.inj x y c (sub h1) (sub h2),fun x hx=> ?_,fun x c h=>absurd (show false=true from h) (by decide),I.ok.hd,I.ok.frames,.inl rfl,fun b hb=>⟨Nat.ne_of_lt (hlt b hb),fun x c h=>(hfp b hb).2.2.2.2.1 x c (sub h)⟩,
  I.bs,Nat.le_trans I.ok.bsz I.sz,fun b o e hb=> ?_,fun b hb z=> ?_,I.stack,I.stkFree⟩,rfl,I.bare,Un.kept old,⟨m,hns,fun i x v e1 e2 e3=> ?_⟩,fun x c h=> ?_,I.hok.fresh (Nat.le_refl _),fun x c h=>I.freeC x c (sub h),fun p hp=>absurd (show p∈([]:List (Addr × Obj)) from hp) (by simp),I.hok.kept old,?_⟩
 .apply tD
  left
  have q:(relabel scope X.env).names.lookup x=some NameKind.cell\/(relabel scope X.env).names.lookup x=some NameKind.free:=hx;rw[mt] at q
  cases e:scope.names.lookup x with
  | none=>rw[e] at q;simp at q
  | some k=>
   have hm:=PySem.mem_of_lookup e
   by_cases hk:k=NameKind.free
   .rw[<- hk];exact hm
   .rw[e] at q;have hb:(k == NameKind.free)=false:=by simpa using hk
    simp only[Option.map_some,hb,Bool.false_and,Bool.false_eq_true,if_false,Option.some.injEq] at q
    rcases q with q | q
    .exact absurd q (B.cell _ hm)
    .exact absurd q hk
 .rcases(hfp b hb).2.2.2.1 with z | z
  .exact I.ok.noex b o e z
  .exact absurd (Nat.lt_of_lt_of_le (Heap.lt_size e) (Nat.le_trans I.ok.bsz z)) (Nat.lt_irrefl _)
 .rcases List.mem_cons.mp (I.stkSub b z) with q | q
  .exact(hfp b hb).2.1 q
  .exact(hfp b hb).2.2.1 q
 .unfold blk at e2
  by_cases hi:i < t
  .rw[List.getElem?_append_left (by simpa using hi),List.getElem?_replicate] at e2
   split at e2 <;> cases e2
  .rw[List.getElem?_append_right (by simpa using Nat.not_lt.mp hi),List.length_replicate,List.getElem?_map] at e2
   cases ej:js[i - t]? with
   | none=>rw[ej] at e2;cases e2
   | some j=>
    rw[ej] at e2;have e2:(Z[j]?).join=some v:=by simpa using e2
    have eZ:Z[j]? =some (some v):=by
     cases q:Z[j]? with
     | none=>rw[q] at e2;cases e2
     | some o=>rw[q] at e2;exact congrArg some e2
    have eN:(N.drop t)[i - t]? =some x:=by rw[List.getElem?_drop,show t+(i - t)=i by lia];exact e1
    have eX:X.N[j]? =some x:=by
     have q:=congrArg (fun l=>l[i - t]?) B.js
     simp only[List.getElem?_map,eN,ej,Option.map_some] at q
     rw[hN0];exact(Option.some.inj q).symm
    have hxf:scope.names.lookup x=some NameKind.free:=B.frs x (List.mem_of_getElem? eN);have hxm:=PySem.mem_of_lookup hxf;have hxc:X.env.scope.names.lookup x=some NameKind.cell:=by rw[hsc];exact B.free _ hxm rfl
    obtain⟨m0,hn0,hl0⟩:=I.loc;obtain⟨u,r,l⟩:=hl0 j x v eX eZ (.inr (.inl hxc));refine⟨u,r,?_⟩
    rcases l with⟨hk,_⟩|⟨_,c,hc,hcell⟩
    .have hk:X.env.scope.names.lookup x=some NameKind.local:=hk;rw[hxc] at hk
     cases hk
    .obtain⟨c',hc'⟩:=tD (env:=X.env) (names:=scope.names) (acc:=[]) (.inl hxm);have ec:=sub hc';rw[hc] at ec
     cases ec
     refine .inr ⟨?_,c,hc',?_⟩
     .have q:=mt scope X.env x;rw[hxf] at q;show(relabel scope X.env).names.lookup x=_\/(relabel scope X.env).names.lookup x=_
      rw[q]
      simp only[Option.map_some]
      split
      .exact .inl rfl
      .exact .inr rfl
     .obtain⟨o,ho,hd⟩:=hcell;exact⟨o,old c o ho,hd⟩
 .obtain⟨v,o,ho,hd⟩:=I.cell x c (sub h);exact⟨v,o,old c o ho,hd⟩
 .show(blk t js Z).length=N.length
  unfold blk;have q:=congrArg List.length B.js
  simp only[List.length_map,List.length_drop] at q
  rw[List.length_append,List.length_replicate,List.length_map];have:=B.len
  lia
theorem vP {pins':List (Addr × Obj)}{Z':St}(I:Inv X pins Z H s) (hfp:∀b∈fp,nK X pins H b) (I':Inv (cxB X scope N s.heap.objs.size s H fp) pins' Z' H' s'):Inv X pins Z H' s':=
 I.call' (ch:=fp) I'.os I'.base I'.hok I'.bare fun b hb=>⟨(hfp b hb).2.2.2.1,(hfp b hb).2.1,(hfp b hb).2.2.2.2.1,(hfp b hb).2.2.2.2.2⟩
theorem sY {h':Heap}{C:Addr}{Z':St}(I:Inv X pins Z H s) {s₁:Shared}(I₁:Inv X pins Z' H' s₁) (hC:C=s.heap.objs.size) (hn:H' C=none) (hs:Heap.SameBut C s₁.heap h'):Inv X pins Z' H' {s₁ with heap:=h'}:=by
 subst hC;refine I₁.turned (t':=s₁.toks) (it:=s.heap.objs.size) (fun b o hb e=>(hs.2 b hb).trans e) hn (Nat.ne_of_gt I.lt) (.inr I.sz) (fun x c e z=> ?_) fun p hp z=> ?_
 .obtain⟨v,q⟩:=I.cell x c e;exact absurd q.lt (by rw[z];exact Nat.lt_irrefl _)
 .exact absurd (Heap.lt_size (I.pin p hp).1) (by rw[z];exact Nat.lt_irrefl _)
end
def Wk (Z Z':St):Prop:=∀(k:Nat) v,Z[k]? =some (some v)->Z'[k]? =some (some v)
theorem Wk.none {r r':St}{o:Option V}(h:Wk r r'):Wk (none::r) (o::r')
 | 0,v,q=>by simp at q
 | k+1,v,q=>by
  rw[List.getElem?_cons_succ] at q ⊢;exact h k v q
theorem Wk.refl {Z:St}:Wk Z Z:=fun _ _ h=>h
structure me (J:It) (g:TG) (te:TE) (t:Nat) (js:List Nat) (Z:St) (p:Addr) (H1:Hp) (Q:VK):Prop where
 out:∃W:Nat->Nat->List V->Hp->Prop,(∃ m,W 0 m [] (upd H1 p (.lst [])))/\∀i m ys H,W i m ys H->
  (J.stop i H/\Q (.ref p) H)\/(J.go i H/\∀x H',J.yld i H x H'->g x (blk t js Z) H' fun Z2 H2=>Wk (blk t js Z) Z2/\te Z2 H2 fun y H3=>H3 p=some (.lst ys)/\ys.length < sizeLine/\∃m',m' < m/\W (i+1) m' (ys++[y]) (upd H3 p (.lst (ys++[y]))))
def FY (wi:TI) (g:TG) (te:TE) (t:Nat) (js:List Nat):TE:=fun Z H Q=>wi Z H fun J H1=>∀p,H1 p=none->me J g te t js Z p H1 Q
theorem wL {prog:Program}{w:World}{A:Around}{R:Result->Shared->Prop}{s:Shared}{elt target iter:Expr}{scope:Scope}{pos:Pos}{it acc:Value}{env:Env}(I:Nat->Shared->Prop)
  (turn:∀n s,I n s->wpAny (model prog w) A (pyNext it) (fun r s₁=>match r with
   | none=>R (.ok .next) s₁
   | some v=>wpAny (model prog w) A (letOwnedTupleGo target it v) (fun _ s₁'=>wpAny (model prog w) A (assign target env v) (fun _ s₂=>wpAny (model prog w) A (eval elt env) (fun x s₃=>
     wpAny (model prog w) A (call (.builtin "list.append") [acc,x]) (fun _ s₄=>∃m,m < n/\I m s₄) (fun _ _=>False) s₃)
     (fun _ _=>False) s₂) (fun _ _=>False) s₁') (fun _ _=>False) s₁) (fun _ _=>False) s)
  (n:Nat) (h:I n s):
  codeAny (model prog w) A (.compLoop (.ListComp elt [⟨target,iter,[],0⟩] scope pos) 0 it acc env) R s:=by
 refine codeAny_loop rfl I (fun n s hI=> ?_) n h
 show wpAny _ _ ((compTurn (.ListComp elt [⟨target,iter,[],0⟩] scope pos) 0 it acc env).onRaise (fun x=>do noteFrame x env;theTreesLotGoes x)) _ _ s
 refine wpAny_noted ?_
 rw[compTurn_list1];refine wpAny_bind (wpAny_standAt (wpAny_bind (wpAny_mono (turn n s hI) (fun r s₁ h₁=> ?_) fun _ _ h'=>h'.elim)))
 cases r with
 | none=>exact wpAny_pure h₁
 | some v=>
  exact wpAny_bind (wpAny_mono h₁ (fun _ s₁' h₁'=>wpAny_bind (wpAny_mono h₁' (fun _ s₂ h₂=>wpAny_bind (wpAny_bind (wpAny_mono h₂ (fun x s₃ h₃=>wpAny_bind (wpAny_mono h₃
   (fun _ s₄ h₄=>wpAny_pure (wpAny_pure ⟨rfl,h₄⟩)) fun _ _ h'=>h'.elim)) fun _ _ h'=>h'.elim))) fun _ _ h'=>h'.elim)) fun _ _ h'=>h'.elim)
section
variable {X : Cx}
theorem yI {pins:List (Addr × Obj)}{Z:St}{s2:Shared}{sc0 scope:Scope}{N0 N:List Str}{t:Nat}{js:List Nat}{elt iter tg:Expr}{pos:Pos}{g:TG}{te:TE}{J:It}{H2:Hp}{it:Addr}{fp:List Addr}{tn:Nat->Heap->Prop}
  {RR:Value->Addr->Result->Shared->Prop}{Q:V->Hp->Prop}{E:Value->Shared->Prop}(hc:X.calm=true) (hsc:X.env.scope=sc0) (hN0:X.N=N0) (B:iI sc0 scope N0 N t js)
  (hg:∀(C:Addr) (s:Shared) (H:Hp) (fp:List Addr),PG (cxB X scope N C s H fp) tg g) (he:∀(C:Addr) (s:Shared) (H:Hp) (fp:List Addr),PE (cxB X scope N C s H fp) elt te)
  (I2:Inv X pins Z H2 s2) (T:yx X.prog X.w X.K tg J fp it tn) (st2:tn 0 s2.heap) (f2:∀b∈fp,nK X pins H2 b)
  (h:∀p,H2 p=none->me J g te t js Z p H2 Q)
  (hRR:∀(s3:Shared) (H3:Hp) (p:Addr) (H':Hp) (s':Shared) (m:Str->Option Value),Inv X pins Z H3 s3->Inv X pins Z H' s'->s'.heap.Ns s3.heap.objs.size m->H' s3.heap.objs.size=none->Q (.ref p) H'->RR (.ref p) s3.heap.objs.size (.ok .next) s'):
  wpAny (model X.prog X.w) X.A (newList []) (fun acc s₃=>wpAny (model X.prog X.w) X.A (newFunctionEnv scope X.env.globals (oF scope.names X.env []) [] X.env.qual none .none (some X.env)) (fun cenv s₄=>
   codeAny (model X.prog X.w) X.A (.compStart (.ListComp elt [⟨tg,iter,[],0⟩] scope pos) 0 (.ref it) acc {cenv with scope:=relabel scope X.env}) (RR acc cenv.locals) s₄) E s₃) E s2:=by
 refine wpAny_newObj_type ?_ (by show 0<=sizeLine;decide)
 generalize hp:s2.heap.objs.size=p;have hfree:H2 p=none:=by rw[<- hp];exact I2.fresh
 generalize hs3:({s2 with heap:=s2.heap.push {cls:= .type "list",data:= .seq ([]:List Value).toArray}}:Shared)=s3
 have I3:Inv X pins Z (upd H2 p (.lst [])) s3:=by
  rw[<- hs3, <-hp];exact I2.laid (t':=s2.toks) (fun b u e=>Heap.get?_push_of_some _ e) (Nat.le_refl _) ⟨by show 0<=sizeLine;decide,[],0,.nil,Heap.get?_push_size _ rfl⟩
 have old3:∀b o,s2.heap.get? b=some o->s3.heap.get? b=some o:=by
  rw[<- hs3];exact fun b o e=>Heap.get?_push_of_some _ e
 have lt2:∀b∈fp,b < s2.heap.objs.size:=fun b hb=>by
  obtain⟨o,e,_⟩:=T.obj 0 _ st2 b hb;exact Heap.lt_size e
 have f3:∀b∈fp,nK X pins (upd H2 p (.lst [])) b:=fun b hb=>⟨by rw[az (by rw[<- hp];exact Nat.ne_of_lt (lt2 b hb))];exact(f2 b hb).1,(f2 b hb).2⟩
 have lt3:∀b∈fp,b < s3.heap.objs.size:=fun b hb=>by
  obtain⟨o,e,_⟩:=T.obj 0 _ st2 b hb;exact Heap.lt_size (old3 b o e)
 have st3:tn 0 s3.heap:=T.keep _ _ _ st2 fun b _ o e=>old3 b o e
 obtain⟨W,⟨m0,w0⟩,turn⟩:=(h p hfree).out;refine wpAny_newFunctionEnv B.cell (by intro y hy;simp at hy) (fun h₁ hns₁ hsb₁=> ?_) B.kind
 generalize hs4:({s3 with heap:=h₁,toks:=s3.toks+([]:List (Str × Value)).length}:Shared)=s4
 have I4:Inv (cxB X scope N s3.heap.objs.size s3 (upd H2 p (.lst [])) fp) [] (blk t js Z) (upd H2 p (.lst [])) s4:=by
  rw[<- hs4];exact vC I3 hsc hN0 B f3 lt3 hns₁ hsb₁
 have st4:tn 0 s4.heap:=by
  rw[<- hs4];exact T.keep _ _ _ st3 fun b hb o e=>(hsb₁.2 b (Nat.ne_of_lt (lt3 b hb))).trans (Heap.get?_push_of_some _ e)
 have stat:∀ {H':Hp},(∀ b∈fp,H' b=none)->∀b∈fp,nK (cxB X scope N s3.heap.objs.size s3 (upd H2 p (.lst [])) fp) [] H' b:=fun {H'} hn b hb=>by
  refine⟨hn b hb,(I4.ok.exf b hb).1,I4.ok.exfs b hb,.inl hb,fun x c e=>(I4.ok.exf b hb).2 x c e,fun q hq=>absurd (show q∈([]:List (Addr × Obj)) from hq) (by simp)⟩
 have loop:∀s₅:Shared,s₅=s4->codeAny (model X.prog X.w) X.A (.compLoop (.ListComp elt [⟨tg,iter,[],0⟩] scope pos) 0 (.ref it) (.ref p) (compEnvC scope (oF scope.names X.env []) s3.heap.objs.size X.env)) (RR (.ref p) s3.heap.objs.size) s₅:=by
  rintro s₅ rfl
  refine wL (fun n s'=>∃i ys H',Inv (cxB X scope N s3.heap.objs.size s3 (upd H2 p (.lst [])) fp) [] (blk t js Z) H' s'/\tn i s'.heap/\(∀ b∈fp,H' b=none)/\W i n ys H') ?_ m0 ⟨0,[],_,I4,st4,fun b hb=>(f3 b hb).1,w0⟩
  rintro n s5 ⟨i,ys,H5,I5,st5,fr5,w5⟩
  rcases turn i n ys H5 w5 with⟨stop,qn⟩|⟨go,step⟩
  .refine thn (T.done (cxB X scope N s3.heap.objs.size s3 (upd H2 p (.lst [])) fp) rfl rfl rfl hc i [] s5 _ H5 _ I5 (stat fr5) st5 stop) fun r s6 ⟨hr,I6⟩=> ?_
   subst hr;obtain⟨m6,hn6,_⟩:=I6.loc;exact hRR s3 _ p H5 s6 m6 I3 (vP I3 f3 I6) hn6 I6.free qn
  .refine u7 (T.item (cxB X scope N s3.heap.objs.size s3 (upd H2 p (.lst [])) fp) rfl rfl rfl hc i [] s5 _ H5 _ I5 (stat fr5) st5 go) fun r s6 u hr h6=> ?_
   subst hr;refine thn h6 fun _ s7 ⟨x,H7,I7,r7,y7,st7,fr7⟩=> ?_
   have I7':=I7.pinned (stat fr7) (T.obj _ _ st7);refine thn (hg _ _ _ _ _ s7 _ H7 x u _ I7' r7 (step x H7 y7)) fun _ s8 ⟨Z8,H8,I8,wk8,q8⟩=> ?_
   refine thn (he _ _ _ _ _ s8 Z8 H8 _ I8 q8) fun v9 s9 ⟨y,H9,I9,r9,hp9,hz,m',hm,w9⟩=> ?_
   refine dj (bJ _ s9 Z8 H9 (.ref p) [y] (.ref p) [v9] (fun _ H10=>H10=upd H9 p (.lst (ys++[y]))) I9 rfl (.cons r9 .nil) ⟨p,ys,y,rfl,rfl,hp9,hz,rfl⟩) fun _ s10 _ H10 I10 _ e10=> ?_
   subst e10;refine⟨m',hm,i+1,ys++[y],_,?_,T.keep _ _ _ st7 fun b hb o e=>(I10.pin (b,o) (List.mem_append_right _ (List.mem_append_right _ (dP hb e)))).1,fun b hb=> ?_,w9⟩
   .exact I10.unpinned.weak (by rw[I5.len];exact I10.len.symm) wk8
   .obtain⟨o,e,d⟩:=T.obj _ _ st7 b hb;exact(I10.pin (b,o) (List.mem_append_right _ (List.mem_append_right _ (dP hb e)))).2.1
 exact codeAny_compStart_list (loop _ rfl) (T.self _ 0 _ _ _ st4 (loop _ rfl))
variable {sc0 scope : Scope} {N0 N : List Str} {t : Nat} {js : List Nat} {elt iter tg : Expr} {pos : Pos} {wi : TI} {g : TG} {te : TE}
theorem kY (hc:X.calm=true) (hsc:X.env.scope=sc0) (hN0:X.N=N0) (B:iI sc0 scope N0 N t js) (hi:PI X tg iter wi) (hg:∀(C:Addr) (s:Shared) (H:Hp) (fp:List Addr),PG (cxB X scope N C s H fp) tg g)
  (he:∀(C:Addr) (s:Shared) (H:Hp) (fp:List Addr),PE (cxB X scope N C s H fp) elt te) (hs:∀x,foldedSetIterable iter X.env x=pure x:=by intro _;rfl):PE X (.ListComp elt [⟨tg,iter,[],0⟩] scope pos) (FY wi g te t js):=by
 intro pins s Z H Q I h;rw[eval_ListComp];refine wpAny_comprehension_free (use:=none) rfl hs (ji (pD I hsc B)) B.kind B.names (thn (hi pins s Z H _ I h) fun v s1 h1=>thn h1 fun itv s2 h2=> ?_)
 obtain⟨it,fp,tn,J,H2,e,I2,T,st2,f2,hJ⟩:=h2;subst e;refine yI (RR:=fun acc C=>compPost (model X.prog X.w) X.A X.xe none (EP X pins Z Q) acc C) (Q:=Q) hc hsc hN0 B hg he I2 T st2 f2 hJ ?_
 intro s3 H3 p H' s' m I3 I' hn hfree q;exact⟨m,hn,fun h' hs'=>⟨.ref p,H',sY I3 I' rfl hfree hs',rfl,q⟩⟩
theorem xX {i:Nat}{y:Str}{py spos:Pos}(hc:X.calm=true) (hsc:X.env.scope=sc0) (hN0:X.N=N0) (B:iI sc0 scope N0 N t js) (hN:X.N.Nodup) (hiy:X.N[i]? =some y) (hy:Loc X.env.scope y) (hi:PI X tg iter wi)
  (hg:∀(C:Addr) (s:Shared) (H:Hp) (fp:List Addr),PG (cxB X scope N C s H fp) tg g) (he:∀(C:Addr) (s:Shared) (H:Hp) (fp:List Addr),PE (cxB X scope N C s H fp) elt te)
  (hs:∀x,foldedSetIterable iter X.env x=pure x:=by intro _;rfl)
  (hsw:swapsWith (.ListComp elt [⟨tg,iter,[],0⟩] scope pos) (some (.Name y py)) spos.line X.env=pure true:=by rfl)
  (hf:X.fn y=true\/X.env.scope.names.lookup y=some .local:=by first | exact .inl rfl | exact .inr rfl | assumption):
  PS X (.Assign [.Name y py] (.ListComp elt [⟨tg,iter,[],0⟩] scope pos) spos) (Fb (FY wi g te t js) (zd i)):=by
 intro pins s Z H D I h;rw[exec_Assign_Name_used _ _ _ _ hsw];refine wpAny_bind (wpAny_standAt (wpAny_bind ?_))
 show wpAny _ X.A (do let _ <-comprehension (.ListComp elt [⟨tg,iter,[],0⟩] scope pos) scope X.env _ (newList []) false (eval iter X.env) (some (assign (.Name y py) X.env))) _ _ s
 refine wpAny_bind (wpAny_mono (wpAny_comprehension_free (use:=some (assign (.Name y py) X.env)) (Q:=fun _ s'=>SP X pins D .next s') rfl hs (ji (pD I hsc B)) B.kind B.names
  (thn (hi pins s Z H _ I h) fun v s1 h1=>thn h1 fun itv s2 h2=> ?_)) (fun _ s' hq=>wpAny_pure (wpAny_pure hq)) fun _ _ e=>e)
 obtain⟨it,fp,tn,J,H2,e,I2,T,st2,f2,hJ⟩:=h2;subst e;refine yI (RR:=fun acc C=>compPost (model X.prog X.w) X.A X.xe (some (assign (.Name y py) X.env)) (fun _ s'=>SP X pins D .next s') acc C) (Q:=fun x H1=>zd i x Z H1 D.nx) hc hsc hN0 B hg he I2 T st2 f2 hJ ?_
 intro s3 H3 p H' s' m I3 I' hn hfree q;refine wpAny_assign_Name (wa (v:=V.ref p) I' hN hiy hy (show bp (.ref p) (.ref p) from rfl) (fun s'' I'' ⟨a,hsa,ha⟩=>⟨m,hn.sameBut hsa ?_,fun h' hs'=>⟨_,H',sY I3 I'' rfl hfree hs',q⟩⟩) hf)
 rcases ha with ha | ha
 .rw[ha];exact Nat.ne_of_gt I3.lt
 .obtain⟨v,z⟩:=I3.cell y a ha;exact Nat.ne_of_gt z.lt
end
section
variable {X : Cx}
def Iy (K:Frag) (neg:Bool):R2:=fun x y H Q=>∃(a b:Addr) (ns ms:List Int),x= .ref a/\y= .ref b/\SqL K H a (ns.map V.int)/\SqL K H b (ms.map V.int)/\Q (.bl (if neg then !decide (ns=ms) else decide (ns=ms))) H
theorem Aj (hu:X.A.units+64 < cLine):OpR X (compareOp .Eq) (Iy X.K false):=by
 intro pins s Z H x y v u Q I rx ry h;obtain⟨a,b,ns,ms,rfl,rfl,h1,h2,q⟩:=h
 cases rx
 cases ry
 obtain⟨its,r,pl,_⟩:=I.list h1;obtain⟨its2,r2,pl2,_⟩:=I.list h2;exact W.eq_intsK pl.isList (cK r) pl2.isList (cK r2) hu ⟨.bl _,H,I,rfl,q⟩
theorem Al (hu:X.A.units+64 < cLine):OpR X (compareOp .NotEq) (Iy X.K true):=by
 intro pins s Z H x y v u Q I rx ry h;obtain⟨a,b,ns,ms,rfl,rfl,h1,h2,q⟩:=h
 cases rx
 cases ry
 obtain⟨its,r,pl,_⟩:=I.list h1;obtain⟨its2,r2,pl2,_⟩:=I.list h2;exact W.ne_intsK pl.isList (cK r) pl2.isList (cK r2) hu ⟨.bl _,H,I,rfl,q⟩
def jP (x:V) (xs:List V) (j:Nat):Prop:=(∃ y,xs[j]? =some y/\eqV y x=true)/\∀m y,m < j->xs[m]? =some y->eqV y x=false
def Gk (K:Frag):V->List V->Hp->VK->Prop:=fun x vs H Q=>∃p xs y j,x= .ref p/\vs=[y]/\SqL K H p xs/\iN y=true/\xs.all iN=true/\jP y xs j/\Q (.int j) H
theorem vN {x:V}{xs:List V}{its:List Value}{j:Nat}(r:aX xs its) (fs:xs.all iN=true) (hf:jP x xs j):
  ∃hj:j < its.toArray.size,eqU x its.toArray[j]=true/\∀m (hm:m < its.toArray.size),m < j->eqU x its.toArray[m]=false:=by
 obtain⟨⟨y,hy,he⟩,hno⟩:=hf;have fl:∀(m:Nat) (z:V),xs[m]? =some z->iN z=true:=fun m z hz=>List.all_eq_true.mp fs z (List.mem_of_getElem? hz)
 obtain⟨u,hu,ru⟩:=r.get hy;obtain⟨hj,ej⟩:=List.getElem?_eq_some_iff.mp hu;refine⟨by simpa using hj,?_,fun m hm hmj=> ?_⟩
 .rw[List.getElem_toArray,ej,xL ru (fl _ _ hy)];exact he
 .have hm':m < its.length:=by simpa using hm
  have hmx:m < xs.length:=by rw[r.length];exact hm'
  obtain⟨u',hu',ru'⟩:=r.get (List.getElem?_eq_getElem hmx);obtain⟨_,em⟩:=List.getElem?_eq_some_iff.mp hu';rw[List.getElem_toArray,em,xL ru' (fl _ _ (List.getElem?_eq_getElem hmx))];exact hno m _ hmj (List.getElem?_eq_getElem hmx)
theorem D6:MtM X "list.index" (Gk X.K):=by
 intro pins s Z H x vs v us Q I rx rv h;obtain⟨p,xs,y,j,rfl,rfl,hq,fy,fs,hf,q⟩:=h
 cases rx
 obtain⟨u,rfl,ru⟩:=rv.one;obtain⟨its,r,⟨o,n,e,hc,hd,hs⟩,hz⟩:=I.list hq;obtain⟨hj,hit,hno⟩:=vN r fs hf;obtain⟨oc,od,odt,osl⟩:=o
 simp only at hc hd hs
 subst hc hd hs;have hn:=qJ;have hl:=r.length;refine call_meets F.slot_list_index ⟨_,e,rfl⟩ F.entry_list_index (F.args_list_index_2 _ _) (SeqAt.list_indexAt p its.toArray n none osl u (eqU y) j hj (by rw[List.size_toArray] at hj;lia) hit hno) ⟨e,fun z hz=>gQ ru fy r fs z (by simpa using hz),?_⟩
 exact⟨.int j,H,I.tok _,⟨_,rfl⟩,q⟩
theorem rZ {M:Model}{A:Around}{E:Value->Shared->Prop}{s:Shared}{β:Type}(n:Nat) (f:Nat->β->Sem (ForInStep β)) (I:Nat->β->Shared->Prop) (Q:β->Shared->Prop)
  (turn:∀i b s,i < n->I i b s->wpAny M A (f i b) (fun r s'=>match r with | .yield b'=>I (i+1) b' s' | .done b'=>Q b' s') E s)
  (fin:∀b s,I n b s->Q b s) (b:β) (h:I 0 b s):wpAny M A (forIn [:n] b f) Q E s:=by
 rw[Std.Legacy.Range.forIn_eq_forIn_range'];have hz:List.range' [:n].start [:n].size [:n].step=(List.range n):=by simp [Std.Legacy.Range.size,List.range_eq_range']
 rw[hz];refine wpAny_forIn_list f (fun fk b s=>∃i,fk=(List.range n).drop i/\i<=n/\I i b s) Q (fun x fk b s hI=> ?_) (fun b s hI=> ?_) _ b ⟨0,rfl,Nat.zero_le _,h⟩
 .obtain⟨i,hr,hi,hI⟩:=hI;have hlt:i < n:=by
   rcases Nat.lt_or_ge i n with h' | h'
   .exact h'
   .rw[List.drop_of_length_le (by simpa using h')] at hr;cases hr
  rw[List.drop_eq_getElem_cons (by simpa using hlt)] at hr
  injection hr with h1 h2
  have h1:x=i:=by simpa using h1
  subst h1;refine wpAny_mono (turn x b s hlt hI) (fun r s' hr=> ?_) fun _ _ e=>e
  cases r with
  | done b'=>exact hr
  | yield b'=>exact⟨x+1,h2,hlt,hr⟩
 .obtain⟨i,hr,hi,hI⟩:=hI;have:i=n:=by
   rcases Nat.lt_or_ge i n with h' | h'
   .rw[List.drop_eq_getElem_cons (by simpa using h')] at hr;cases hr
   .lia
  subst this;exact fin b s hI
theorem vf (l:Addr) (items:Array Value) (n:Nat) (dd:Option Addr) (sl:Array (Option Value)) (x:Value) (e:Value->Bool) (j:Nat) (hj:j < items.size) (hit:e items[j]=true) (hno:∀m (hm:m < items.size),m < j->e items[m]=false):
  Meets (Builtin.«tuple.index» ⟨[.ref l,x],[]⟩)
   (fun A R s=>s.heap.get? l=some {cls:= .type "tuple",dict:=dd,data:= .seq items n,slots:=sl}/\(∀ y,y∈items->SeqAt.EqAt A.in1 s y x (e y))/\R (.ok (.ret (.int j s.toks))) {s with toks:=s.toks+1}):=
 .of_wp fun prog w A R s h=>by
  obtain⟨hp,g,d,tk,os⟩:=s;obtain⟨hl,he,h⟩:=h
  wp_walk using AutoSeq1.wpAny_loadPart' hl,rZ _ _ (fun i b s'=>b.1=none/\s'=⟨hp,g,d,tk,os⟩/\i<=j) _
  case turn=>
   rintro i ⟨b1,b2⟩ s' hi ⟨hb,rfl,hij⟩
   have hi':i < items.size:=by lia
   rw[Array.getElem?_eq_getElem hi'];refine wpAny_bind (he _ (Array.getElem_mem hi') prog w _ _ ?_)
   rcases Nat.lt_or_ge i j with hlt | hge
   .rw[hno i hi' hlt]
    wp_walk
    exact⟨rfl,rfl,hlt⟩
   .have hij2:i=j:=by lia
    subst hij2;rw[hit]
    wp_walk
    exact⟨_,rfl,h⟩
  case fin=>
   rintro b s' ⟨hb,rfl,hij⟩
   lia
  case h=>exact⟨rfl,rfl,Nat.zero_le _⟩
theorem Cq:MtM X "tuple.index" (fun x vs H Q=>∃p xs y j,x= .ref p/\vs=[y]/\SqT X.K H p xs/\iN y=true/\xs.all iN=true/\jP y xs j/\Q (.int j) H):=by
 intro pins s Z H x vs v us Q I rx rv h;obtain⟨p,xs,y,j,rfl,rfl,hq,fy,fs,hf,q⟩:=h
 cases rx
 obtain⟨u,rfl,ru⟩:=rv.one;obtain⟨its,r,⟨o,e,hc,n,hs⟩,hz⟩:=I.tuple hq;obtain⟨hj,hit,hno⟩:=vN r fs hf;obtain⟨oc,od,odt,osl⟩:=o
 simp only at hc hs
 subst hc hs;refine call_meets F.slot_tuple_index ⟨_,e,rfl⟩ F.entry_tuple_index (F.args_tuple_index_2 _ _) (vf p its.toArray n od osl u (eqU y) j hj hit hno) ⟨e,fun z hz=>gQ ru fy r fs z (by simpa using hz),?_⟩
 exact⟨.int j,H,I.tok _,⟨_,rfl⟩,q⟩
def zD (prm:Params) (L:List (Str × Tok × Value)):Array DictEntry:=(L.map fun p=>(⟨PyData.keyHash prm p.1,.str p.1 p.2.1,p.2.2⟩:DictEntry)).toArray
def SqD (prm:Params) (K:Frag) (a:Addr) (kvs:List (Str × V)):Prop:=
 ∃(L:List (Str × Tok × Value)) (n:Nat),K.lookup a=some {cls:= .type "dict",data:= .dict (zD prm L) n}/\Paired (fun(p:Str × V) (q:Str × Tok × Value)=>p.1=q.1/\bp p.2 q.2.2) kvs L
theorem yf {x:Str}:∀ {kvs:List (Str × V)}{L:List (Str × Tok × Value)}{v:V}(prm:Params),Paired (fun(p:Str × V) (q:Str × Tok × Value)=>p.1=q.1/\bp p.2 q.2.2) kvs L->kvs.lookup x=some v->
  ∃u,bp v u/\findBy jq (zD prm L) (Sum.inr x:Key)=some u
 | _,_,_,_,.nil,h=>by simp at h
 | p::kvs,q::L,v,prm,.cons hpq r,h=>by
  obtain⟨e1,rv⟩:=hpq;obtain⟨px,pv⟩:=p;obtain⟨qx,qt,qv⟩:=q
  simp only at e1 rv
  subst e1;rw[List.lookup_cons] at h;have hf:findBy jq (zD prm ((px,qt,qv)::L)) (Sum.inr x:Key)=if (x == px)=true then some qv else findBy jq (zD prm L) (Sum.inr x:Key):=by
   unfold findBy zD;rw[List.map_cons];show((⟨PyData.keyHash prm px,.str px qt,qv⟩::L.map fun p=>(⟨PyData.keyHash prm p.1,.str p.1 p.2.1,p.2.2⟩:DictEntry)).toArray.find? fun e=>jq (Sum.inr x) e.key).map (·.val)=_
   rw[List.find?_toArray,List.find?_cons,List.find?_toArray];have hk:jq (Sum.inr x:Key) (.str px qt)=(x == px):=by
    show Value.isStrOf x (.str px qt)=_
    show(px == x)=(x == px)
    by_cases hpx:px=x
    .subst hpx
     rfl
    .have h1:(px == x)=false:=beq_eq_false_iff_ne.mpr hpx;have h2:(x == px)=false:=beq_eq_false_iff_ne.mpr (Ne.symm hpx);rw[h1,h2]
   dsimp only;rw[hk]
   cases(x == px) <;> rfl
  rw[hf]
  cases hx:(x == px) with
  | true=>
   rw[hx] at h
   cases h
   exact⟨qv,rv,if_pos rfl⟩
  | false=>
   rw[hx] at h;rw[if_neg (by simp)]
   exact yf prm r h
theorem F7:IxR X (fun x y H Q=>∃a kvs k v,x= .ref a/\y= .str k/\SqD X.w.params X.K a kvs/\kvs.lookup k=some v/\Q v H):=by
 intro value slice pins s Z H x y v u Q I rx ry h hs;obtain⟨a,kvs,k,z,rfl,rfl,⟨L,n,hk,hp⟩,hl,q⟩:=h
 cases rx
 obtain⟨t,rfl⟩:=ry;have e:=I.kIn a _ hk;obtain⟨u,ru,hu⟩:=yf X.w.params hp hl;have hm:s.heap.MapOf (bq X.prog X.w) a (fun k=>findBy jq (zD X.w.params L) k):=by
  refine⟨_,_,_,e,⟨rfl,rfl,rfl⟩,rfl,fun en hen=> ?_,fun k=>rfl⟩
  have hen:en∈(L.map fun p=>(⟨PyData.keyHash X.w.params p.1,.str p.1 p.2.1,p.2.2⟩:DictEntry)):=by simpa [zD] using hen
  obtain⟨p,_,rfl⟩:=List.mem_map.mp hen;exact⟨Sum.inr p.1,vq p.1 p.2.1,rfl⟩
 exact subscriptTail_builtinR (x:=u) hm.typeIs slot_dict_getitem.lookup (wpAny_getItem_of (Q:=fun r s'=>r=u/\EP X pins Z Q r s') (rK X.prog X.w k t) hm hu ⟨rfl,⟨z,H,I.tok _,ru,q⟩⟩) hs
end
section
variable {prog : Program} {w : World} {A : Around} {E : Value → Shared → Prop} {s : Shared}
theorem AN {q t:Addr}{k:Nat}{its:Array Value}{v:Value}{Q:Value->Shared->Prop}(hq:s.heap.IsTupleIter q t k) (ht:s.heap.IsTuple t its) (hv:its[k]? =some v)
  (hQ:∀h',h'.IsTupleIter q t (k+1)->Heap.SameBut q s.heap h'->Q v {s with heap:=h'}):wpAny (model prog w) A (Builtin.SmallTypes.nextOf (.ref q)) Q E s:=by
 obtain⟨o,ho,hc,hd⟩:=id hq;obtain⟨ot,hot,_,nt,hdt⟩:=ht;unfold Builtin.SmallTypes.nextOf;refine wpAny_bind (wpAny_callSpecial?_slot (name:=Str.ofString "__next__") hq.typeIs F.slot_tuple_iterator_next (wpAny_call_entry F.slot_tuple_iterator_next hq.typeIs F.entry_tuple_iterator_next ?_ (F.args_tuple_iterator_next_1 _)))
 show wpAny _ _ (field (.ref q) 0 >>= _) _ _ s
 refine wpAny_bind (wpAny_field ho hd (x:= .ref t) rfl ?_)
 show wpAny _ _ (if (Value.ref t == Value.none)=true then _ else _) _ _ s
 rw[if_neg (show ¬((Value.ref t == Value.none)=true) from Bool.false_ne_true)];show wpAny _ _ (field (.ref q) 1 >>= _) _ _ s
 refine wpAny_bind (wpAny_field ho hd (x:= .int k 0) rfl ?_)
 show wpAny _ _ (seqItems? (.ref t) >>= _) _ _ s
 refine wpAny_bind (wpAny_seqItems hot hdt ?_)
 simp only[Int.toNat_natCast,hv]
 refine wpAny_bind (wpAny_setField ho hd (by simp) (wpAny_pure ⟨v,rfl,wpAny_pure (hQ _ ?_ (Heap.SameBut.update ..))⟩))
 exact⟨_,Heap.get?_update_self _ ho (Obj.isFreed_of_fields (Obj.data_mapFields hd _)),(Obj.cls_mapFields ..).trans hc,by rw[Obj.data_mapFields hd];simp [rawInt]⟩
theorem Cm {q t:Addr}{k:Nat}{its:Array Value}{Q:Value->Shared->Prop}(hh:A.handled=none) (hq:s.heap.IsTupleIter q t k) (ht:s.heap.IsTuple t its) (hv:its[k]? =none)
  (hE:∀h' e,Heap.ExtBut q s.heap h'->(∃ o,h'.get? e=some o/\o.cls= .type "StopIteration")->E (.ref e) {s with heap:=h'}):wpAny (model prog w) A (Builtin.SmallTypes.nextOf (.ref q)) Q E s:=by
 obtain⟨o,ho,hc,hd⟩:=id hq;obtain⟨ot,hot,_,nt,hdt⟩:=ht;unfold Builtin.SmallTypes.nextOf;refine wpAny_bind (wpAny_callSpecial?_slot (name:=Str.ofString "__next__") hq.typeIs F.slot_tuple_iterator_next (wpAny_call_entry F.slot_tuple_iterator_next hq.typeIs F.entry_tuple_iterator_next ?_ (F.args_tuple_iterator_next_1 _)))
 show wpAny _ _ (field (.ref q) 0 >>= _) _ _ s
 refine wpAny_bind (wpAny_field ho hd (x:= .ref t) rfl ?_)
 show wpAny _ _ (if (Value.ref t == Value.none)=true then _ else _) _ _ s
 rw[if_neg (show ¬((Value.ref t == Value.none)=true) from Bool.false_ne_true)];show wpAny _ _ (field (.ref q) 1 >>= _) _ _ s
 refine wpAny_bind (wpAny_field ho hd (x:= .int k 0) rfl ?_)
 show wpAny _ _ (seqItems? (.ref t) >>= _) _ _ s
 refine wpAny_bind (wpAny_seqItems hot hdt ?_)
 simp only[Int.toNat_natCast,hv]
 refine wpAny_bind (wpAny_rule (wpAny_bind (wpAny_setField ho hd (by simp) ?_)))
 show wpAny _ _ (newExc (.type "StopIteration") [] >>= _) _ _ _
 refine wpAny_bind ?_
 simp only[newExc,newTuple]
 refine wpAny_bind (wpAny_newObj_type ?_ (by size_fits))
 refine wpAny_bind (m:=firstArgMember _ _) (wpAny_of_eq (a:=Value.none) (by first | rfl | (simp only[firstArgMember];rfl)) ?_)
 refine wpAny_newObj_type ?_ (by size_fits)
 simp only[raiseNew]
 refine wpAny_bind (wpAny_handled ?_)
 first | rw[show A.in1.handled=none from hh] | rw[hh]
 refine wpAny_bind (wpAny_pure (wpAny_throw ?_))
 exact hE _ _ (((Heap.SameBut.update ..).extBut.push _).push _) ⟨_,Heap.get?_push_size _ rfl,rfl⟩
end
theorem yM {prog:Program}{w:World}{A:Around}(hh:A.handled=none) (q t:Addr) (hne:t≠q) (its:Array Value):
  Draws prog w A q [q,t] its.size (fun i v=>its[i]? =some v) (fun i h=>h.IsTupleIter q t i/\h.IsTuple t its) where
 live:=fun _ _ st=>let ⟨o,ho,_⟩:=st.1;⟨o,ho⟩
 frame:=fun _ _ _ st hk=>⟨st.1.at fun o e=>hk q (by simp) o e,st.2.at fun o e=>hk t (by simp) o e⟩
 item:=fun i s Q E hi st hQ=>by
  refine AN st.1 st.2 (v:=its[i]) (by simp [hi]) fun h' hq hs=> ?_
  exact hQ _ h' s.toks (by simp [hi]) ⟨hq,st.2.extBut hs.extBut hne⟩ hs
 done:=fun s Q E st hE=>Cm hh st.1 st.2 (by simp) hE
structure ZA (z TI TO i1 i2:Addr) (fp1 fp2:List Addr):Prop where
 TIz:TI≠z
 TOz:TO≠z
 i1z:i1≠z
 i2z:i2≠z
 TITO:TI≠TO
 TIi1:TI≠i1
 TIi2:TI≠i2
 TOi1:TO≠i1
 TOi2:TO≠i2
 i12:i1≠i2
 z1:z ∉ fp1
 z2:z ∉ fp2
 o1:TO ∉ fp1
 o2:TO ∉ fp2
 a2:i1 ∉ fp2
 a1:i2 ∉ fp1
section
variable {prog : Program} {w : World} {A : Around} {E : Value → Shared → Prop} {s : Shared} {z TI TO i1 i2 : Addr} {fp1 fp2 : List Addr} {n1 n2 : Nat} {P1 P2 : Nat → Value → Prop} {S1 S2 : Nat → Heap → Prop}
def ZK (z TO i1 i2:Addr) (h h':Heap):Prop:=∀c o,c≠z->c≠TO->c≠i1->c≠i2->h.get? c=some o->h'.get? c=some o
theorem lw {D1:Draws prog w A i1 fp1 n1 P1 S1}{k:Nat}{h h':Heap}{b:Addr}(st:S1 k h) (hs:Heap.SameBut b h h') (hb:b ∉ fp1):S1 k h':=D1.frame _ _ _ st fun c hc o e=>hs.extBut c o (fun q=>hb (q ▸ hc)) e
theorem B8 {k:Nat}{a b:Value}{Q:Value->Shared->Prop}(D1:Draws prog w A i1 fp1 n1 P1 S1) (D2:Draws prog w A i2 fp2 n2 P2 S2) (D:ZA z TI TO i1 i2 fp1 fp2)
  (hz:IsZip s.heap z TI TO .none) (hTI:IsPair s.heap TI (.ref i1) (.ref i2)) (hTO:IsPair s.heap TO a b) (h1:S1 k s.heap) (h2:S2 k s.heap) (l1:k < n1) (l2:k < n2)
  (hQ:∀x y h' tk,P1 k x->P2 k y->IsZip h' z TI TO (rawInt s.heap.objs.size)->IsPair h' TO x y->S1 (k+1) h'->S2 (k+1) h'->IsPair h' s.heap.objs.size x y->ZK z TO i1 i2 s.heap h'->Q (.ref s.heap.objs.size) {s with heap:=h',toks:=tk}):
  wpAny (model prog w) A (Builtin.«zip.__next__» ⟨[.ref z],[]⟩) (fun fin s'=>∃v,fin= .done (.ret v)/\Q v s') E s:=by
 obtain⟨hp,g,d,tk₀,os⟩:=s;show wpAny _ _ (field (.ref z) 2 >>= _) _ _ _
 refine wpAny_bind (wpAny_field hz rfl (x:= .bool false) rfl ?_)
 show wpAny _ _ (field (.ref z) 3 >>= _) _ _ _
 refine wpAny_bind (wpAny_field hz rfl (x:= .ref TI) rfl ?_)
 refine wpAny_bind (wpAny_seqItems hTI rfl ?_)
 show wpAny _ _ (Builtin.SmallTypes.ownedTupleIsFree (.ref z) >>= _) _ _ _
 refine wpAny_bind ?_
 unfold Builtin.SmallTypes.ownedTupleIsFree;refine wpAny_bind (wpAny_field hz rfl (x:= .none) rfl (wpAny_pure ?_))
 simp only[if_true]
 refine wpAny_bind (wpAny_rule ?_)
 refine wpAny_bind (wpAny_field hz rfl (x:= .ref TO) rfl ?_)
 refine wpAny_bind (wpAny_setField_rec hz (by simp) fun g1 hz1 e1=> ?_)
 replace hz1:IsZip g1 z TI TO .ellipsis:=hz1
 replace e1:Heap.SameBut z hp g1:=e1
 refine wpAny_bind ?_
 simp only[List.zipIdx_cons,List.zipIdx_nil,List.forIn_cons,List.forIn_nil]
 refine wpAny_bind (wpAny_bind (wpAny_onRaise ?_))
 show wpAny _ _ (Builtin.SmallTypes.nextOf (.ref i1) >>= _) _ _ _
 have s1a:S1 k g1:=lw (D1:=D1) h1 e1 D.z1;have s2a:S2 k g1:=lw (D1:=D2) h2 e1 D.z2;refine wpAny_bind (D1.item k _ _ _ l1 s1a fun x g2 t2 hx s1b e2=>wpAny_pure ?_)
 replace e2:Heap.SameBut i1 g1 g2:=e2
 have s2b:S2 k g2:=lw (D1:=D2) s2a e2 D.a2;have hO2:IsPair g2 TO a b:=e2.extBut _ _ D.TOi1 (e1.extBut _ _ D.TOz hTO);refine wpAny_bind (wpAny_seqItems hO2 rfl ?_)
 refine wpAny_bind (wpAny_updateSeq_pair hO2 fun g3 hO3 e3=> ?_)
 replace hO3:IsPair g3 TO x b:=hO3
 replace e3:Heap.SameBut TO g2 g3:=e3
 refine wpAny_bind (wpAny_letGo (wpAny_pure ?_))
 have s1c:S1 (k+1) g3:=lw (D1:=D1) s1b e3 D.o1;have s2c:S2 k g3:=lw (D1:=D2) s2b e3 D.o2;refine wpAny_bind (wpAny_bind (wpAny_onRaise ?_))
 show wpAny _ _ (Builtin.SmallTypes.nextOf (.ref i2) >>= _) _ _ _
 refine wpAny_bind (D2.item k _ _ _ l2 s2c fun y g4 t4 hy s2d e4=>wpAny_pure ?_)
 replace e4:Heap.SameBut i2 g3 g4:=e4
 have s1d:S1 (k+1) g4:=lw (D1:=D1) s1c e4 D.a1;have hO4:IsPair g4 TO x b:=e4.extBut _ _ D.TOi2 hO3;refine wpAny_bind (wpAny_seqItems hO4 rfl ?_)
 refine wpAny_bind (wpAny_updateSeq_pair hO4 fun g5 hO5 e5=> ?_)
 replace hO5:IsPair g5 TO x y:=hO5
 replace e5:Heap.SameBut TO g4 g5:=e5
 refine wpAny_bind (wpAny_letGo (wpAny_pure (wpAny_pure ?_)))
 have s1e:S1 (k+1) g5:=lw (D1:=D1) s1d e5 D.o1;have s2e:S2 (k+1) g5:=lw (D1:=D2) s2d e5 D.o2;refine wpAny_bind (wpAny_seqItems hO5 rfl ?_)
 refine wpAny_bind (wpAny_newTuple ?_)
 have hsz:g5.objs.size=hp.objs.size:=by rw[e5.1,e4.1,e3.1,e2.1,e1.1]
 have hz5:IsZip g5 z TI TO .ellipsis:=e5.extBut _ _ D.TOz.symm (e4.extBut _ _ D.i2z.symm (e3.extBut _ _ D.TOz.symm (e2.extBut _ _ D.i1z.symm hz1)));have hk5:ZK z TO i1 i2 hp g5:=fun c o c1 c2 c3 c4 e=>e5.extBut _ _ c2 (e4.extBut _ _ c4 (e3.extBut _ _ c2 (e2.extBut _ _ c3 (e1.extBut _ _ c1 e))))
 have hzlt:z < g5.objs.size:=Heap.lt_size hz5;show wpAny _ _ (Builtin.SmallTypes.ownedTupleHandOut (.ref z) (.ref g5.objs.size) >>= _) _ _ _
 refine wpAny_bind ?_
 unfold Builtin.SmallTypes.ownedTupleHandOut;have hz6:IsZip (g5.push {cls:= .type "tuple",data:= .seq #[x,y]}) z TI TO .ellipsis:=Heap.get?_push_of_some _ hz5;refine wpAny_bind (wpAny_setField_rec hz6 (by simp) fun g7 hz7 e7=> ?_)
 replace hz7:IsZip g7 z TI TO (rawInt g5.objs.size):=hz7
 refine wpAny_setField_rec hz7 (by simp) fun g8 hz8 e8=> ?_
 replace hz8:IsZip g8 z TI TO (rawInt g5.objs.size):=hz8
 have up:∀c o,c≠z->g5.get? c=some o->g8.get? c=some o:=fun c o c1 e=>e8.extBut _ _ c1 (e7.extBut _ _ c1 (Heap.get?_push_of_some _ e))
 have hT8:IsPair g8 g5.objs.size x y:=e8.extBut _ _ (Nat.ne_of_gt hzlt) (e7.extBut _ _ (Nat.ne_of_gt hzlt) (Heap.get?_push_size _ rfl));rw[hsz] at hz8 hT8;refine wpAny_pure ⟨_,rfl,?_⟩
 show Q (.ref g5.objs.size) _
 rw[hsz];exact hQ x y g8 _ hx hy hz8 (up _ _ D.TOz hO5) (D1.frame _ _ _ s1e fun c hc o e=>up c o (fun q=>D.z1 (q ▸ hc)) e) (D2.frame _ _ _ s2e fun c hc o e=>up c o (fun q=>D.z2 (q ▸ hc)) e) hT8 fun c o c1 c2 c3 c4 e=>up c o c1 (hk5 c o c1 c2 c3 c4 e)
theorem DY {k:Nat}{a b:Value}{Q:PySem.Fin->Shared->Prop}(D1:Draws prog w A i1 fp1 n1 P1 S1) (D2:Draws prog w A i2 fp2 n2 P2 S2) (D:ZA z TI TO i1 i2 fp1 fp2)
  (hz:IsZip s.heap z TI TO .none) (hTI:IsPair s.heap TI (.ref i1) (.ref i2)) (hTO:IsPair s.heap TO a b) (h1:S1 k s.heap) (h2:S2 k s.heap) (hend:k=n1\/(k < n1/\k=n2))
  (hE:∀h' e tk,ZK z TO i1 i2 s.heap h'->(∃ o,h'.get? e=some o/\o.cls= .type "StopIteration")->E (.ref e) {s with heap:=h',toks:=tk}):
  wpAny (model prog w) A (Builtin.«zip.__next__» ⟨[.ref z],[]⟩) Q E s:=by
 obtain⟨hp,g,d,tk₀,os⟩:=s;show wpAny _ _ (field (.ref z) 2 >>= _) _ _ _
 refine wpAny_bind (wpAny_field hz rfl (x:= .bool false) rfl ?_)
 show wpAny _ _ (field (.ref z) 3 >>= _) _ _ _
 refine wpAny_bind (wpAny_field hz rfl (x:= .ref TI) rfl ?_)
 refine wpAny_bind (wpAny_seqItems hTI rfl ?_)
 show wpAny _ _ (Builtin.SmallTypes.ownedTupleIsFree (.ref z) >>= _) _ _ _
 refine wpAny_bind ?_
 unfold Builtin.SmallTypes.ownedTupleIsFree;refine wpAny_bind (wpAny_field hz rfl (x:= .none) rfl (wpAny_pure ?_))
 simp only[if_true]
 refine wpAny_bind (wpAny_rule ?_)
 refine wpAny_bind (wpAny_field hz rfl (x:= .ref TO) rfl ?_)
 refine wpAny_bind (wpAny_setField_rec hz (by simp) fun g1 hz1 e1=> ?_)
 replace hz1:IsZip g1 z TI TO .ellipsis:=hz1
 replace e1:Heap.SameBut z hp g1:=e1
 refine wpAny_bind ?_
 simp only[List.zipIdx_cons,List.zipIdx_nil,List.forIn_cons,List.forIn_nil]
 refine wpAny_bind (wpAny_bind (wpAny_onRaise ?_))
 show wpAny _ _ (Builtin.SmallTypes.nextOf (.ref i1) >>= _) _ _ _
 have s1a:S1 k g1:=lw (D1:=D1) h1 e1 D.z1;have s2a:S2 k g1:=lw (D1:=D2) h2 e1 D.z2;rcases hend with rfl | ⟨l1,rfl⟩
 .refine wpAny_bind (D1.done _ _ _ s1a fun g2 e e2 he=> ?_)
  replace e2:Heap.ExtBut i1 g1 g2:=e2
  obtain⟨oe,hoe,hce⟩:=he;have hz2:IsZip g2 z TI TO .ellipsis:=e2 _ _ D.i1z.symm hz1;have hez:e≠z:=fun x=>by subst x;rw[hz2] at hoe;cases hoe;simp at hce
  exact wpAny_setField_rec hz2 (by simp) fun g3 _ e3=>hE g3 e _ (fun c o c1 _ c3 _ x=>e3.extBut _ _ c1 (e2 _ _ c3 (e1.extBut _ _ c1 x))) ⟨oe,e3.extBut _ _ hez hoe,hce⟩
 .refine wpAny_bind (D1.item k _ _ _ l1 s1a fun x g2 t2 hx s1b e2=>wpAny_pure ?_)
  replace e2:Heap.SameBut i1 g1 g2:=e2
  have s2b:S2 k g2:=lw (D1:=D2) s2a e2 D.a2;have hO2:IsPair g2 TO a b:=e2.extBut _ _ D.TOi1 (e1.extBut _ _ D.TOz hTO);refine wpAny_bind (wpAny_seqItems hO2 rfl ?_)
  refine wpAny_bind (wpAny_updateSeq_pair hO2 fun g3 hO3 e3=> ?_)
  replace e3:Heap.SameBut TO g2 g3:=e3
  refine wpAny_bind (wpAny_letGo (wpAny_pure ?_))
  have s2c:S2 k g3:=lw (D1:=D2) s2b e3 D.o2;refine wpAny_bind (wpAny_bind (wpAny_onRaise ?_))
  show wpAny _ _ (Builtin.SmallTypes.nextOf (.ref i2) >>= _) _ _ _
  refine wpAny_bind (D2.done _ _ _ s2c fun g4 e e4 he=> ?_)
  replace e4:Heap.ExtBut i2 g3 g4:=e4
  obtain⟨oe,hoe,hce⟩:=he;have hz4:IsZip g4 z TI TO .ellipsis:=e4 _ _ D.i2z.symm (e3.extBut _ _ D.TOz.symm (e2.extBut _ _ D.i1z.symm hz1));have hez:e≠z:=fun x=>by subst x;rw[hz4] at hoe;cases hoe;simp at hce
  exact wpAny_setField_rec hz4 (by simp) fun g5 _ e5=>hE g5 e _ (fun c o c1 c2 c3 c4 x=>e5.extBut _ _ c1 (e4 _ _ c4 (e3.extBut _ _ c2 (e2.extBut _ _ c3 (e1.extBut _ _ c1 x))))) ⟨oe,e5.extBut _ _ hez hoe,hce⟩
end
section
variable {X : Cx} {pins : List (Addr × Obj)} {σ : St} {H : Hp} {s : Shared} {h' : Heap}
theorem Inv.turnedN {t':Nat}{ch:List Addr}{p:Addr}{o:HO}(I:Inv X pins Z H s) (k:∀b u,b ∉ ch->s.heap.get? b=some u->h'.get? b=some u) (hc:∀b∈ch,nK X pins H b) (hp:s.heap.objs.size<=p)
  (new:cO X.prog X.w (upd H p o) h' p o):Inv X pins Z (upd H p o) {s with heap:=h',toks:=t'}:=by
 have hf:=I.hok.fresh hp;have nch:∀b u,H b=some u->b ∉ ch:=fun b u e z=>by rw[(hc b z).1] at e;cases e
 refine I.step (g':=s.gens) (d':=s.drawn) (ch:=ch) (fun b hb=>⟨(hc b hb).2.2.2.1,(hc b hb).2.1,(hc b hb).2.2.2.2.1,(hc b hb).2.2.2.2.2⟩) (fun b u _ _ hb e _=>k b u hb e) (fun b u _ _ hb e _=>⟨u.slots,k b u hb e⟩)
  (fun b u hb e n=>by rw[az (Nat.ne_of_lt (Nat.lt_of_lt_of_le (Heap.lt_size e) hp))];exact n) (fun b u hb e=>⟨u,k b u hb e⟩) (fun b xs e=>by rw[az (aB e hf)];exact e) (fun b u v e=>by rw[az (aB e hf)];exact e)
  (fun b ps e=>⟨#[],by rw[az (aB e hf),e];simp⟩) (fun m hm=> ?_) (fun b u e=> ?_) I.bare
 .obtain⟨v,es,ep,ho,r⟩:=hm;exact⟨v,es,ep,k _ v (fun z=>(hc _ z).2.1 rfl) ho,r⟩
 .by_cases hb:b=p
  .subst hb;rw[ad] at e
   cases e
   exact new
  .rw[az hb] at e;refine(I.hok b u e).stay (fun c v hcc q=>k c v ?_ q) (fun c q=>by rw[az (aB q hf)];exact q) fun c xs q=>by rw[az (aB q hf)];exact q
   rcases hcc with z | z
   .rw[z];exact nch b u e
   .exact nch c _ z
theorem Inv.turnedL {t':Nat}{ch:List Addr}(I:Inv X pins Z H s) (k:∀b u,b ∉ ch->s.heap.get? b=some u->h'.get? b=some u) (hc:∀b∈ch,nK X pins H b):Inv X pins Z H {s with heap:=h',toks:=t'}:=by
 have nch:∀b u,H b=some u->b ∉ ch:=fun b u e z=>by rw[(hc b z).1] at e;cases e
 refine I.step (g':=s.gens) (d':=s.drawn) (ch:=ch) (fun b hb=>⟨(hc b hb).2.2.2.1,(hc b hb).2.1,(hc b hb).2.2.2.2.1,(hc b hb).2.2.2.2.2⟩) (fun b u _ _ hb e _=>k b u hb e) (fun b u _ _ hb e _=>⟨u.slots,k b u hb e⟩)
  (fun b u hb e n=>n) (fun b u hb e=>⟨u,k b u hb e⟩) (fun b xs e=>e) (fun b u v e=>e) (fun b ps e=>⟨#[],by rw[e];simp⟩) (fun m hm=> ?_) (fun b u e=> ?_) I.bare
 .obtain⟨v,es,ep,ho,r⟩:=hm;exact⟨v,es,ep,k _ v (fun z=>(hc _ z).2.1 rfl) ho,r⟩
 .refine(I.hok b u e).stay (fun c v hcc q=>k c v ?_ q) (fun c q=>q) fun c xs q=>q
  rcases hcc with z | z
  .rw[z];exact nch b u e
  .exact nch c _ z
end
def Sq (K:Frag) (H:Hp) (b:Bool) (a:Addr) (xs:List V):Prop:=if b=true then SqL K H a xs else SqT K H a xs
def oK (h:Heap) (b:Bool) (a:Addr) (its:Array Value):Prop:=if b=true then h.IsList a its else h.IsTuple a its
def pF (h:Heap) (b:Bool) (q a:Addr) (i:Nat):Prop:=if b=true then h.IsListIter q a i else h.IsTupleIter q a i
def Bw (b:Bool):String:=if b=true then "list_iterator" else "tuple_iterator"
theorem oK.at {h h':Heap}{b:Bool}{a:Addr}{its:Array Value}(x:oK h b a its) (k:∀o,h.get? a=some o->h'.get? a=some o):oK h' b a its:=by
 cases b with
 | true=>exact Heap.IsList.at (show h.IsList a its from x) k
 | false=>exact Heap.IsTuple.at (show h.IsTuple a its from x) k
theorem pF.at {h h':Heap}{b:Bool}{q a:Addr}{i:Nat}(x:pF h b q a i) (k:∀o,h.get? q=some o->h'.get? q=some o):pF h' b q a i:=by
 cases b with
 | true=>exact Heap.IsListIter.at (show h.IsListIter q a i from x) k
 | false=>exact Heap.IsTupleIter.at (show h.IsTupleIter q a i from x) k
theorem pF.obj {h:Heap}{b:Bool}{q a:Addr}{i:Nat}(x:pF h b q a i):∃o,h.get? q=some o/\∀v,o.data≠ .cell v:=by
 cases b with
 | true=>obtain⟨o,e,c,d⟩:=(show h.IsListIter q a i from x);exact⟨o,e,fun v z=>by rw[d] at z;cases z⟩
 | false=>obtain⟨o,e,c,d⟩:=(show h.IsTupleIter q a i from x);exact⟨o,e,fun v z=>by rw[d] at z;cases z⟩
theorem pF.mk {h:Heap}{b:Bool}{q a:Addr}(e:h.get? q=some {cls:= .type (Bw b),data:= .fields #[.ref a,.int 0 0]}):pF h b q a 0:=by
 cases b with
 | true=>exact⟨_,e,rfl,rfl⟩
 | false=>exact⟨_,e,rfl,rfl⟩
theorem oK.lt {h:Heap}{b:Bool}{a:Addr}{its:Array Value}(x:oK h b a its):a < h.objs.size:=by
 cases b with
 | true=>obtain⟨o,e,_⟩:=(show h.IsList a its from x);exact Heap.lt_size e
 | false=>obtain⟨o,e,_⟩:=(show h.IsTuple a its from x);exact Heap.lt_size e
theorem o9 {prog:Program}{w:World}{A:Around}(hh:A.handled=none) (b:Bool) (q a:Addr) (hne:a≠q) (its:Array Value):
  Draws prog w A q [q,a] its.size (fun i v=>its[i]? =some v) (fun i h=>pF h b q a i/\oK h b a its):=by
 cases b with
 | true=>exact Draws.list hh q a hne its
 | false=>exact yM hh q a hne its
section
variable {X : Cx} {pins : List (Addr × Obj)} {σ : St} {H : Hp} {s : Shared}
theorem Inv.sq {b:Bool}{a:Addr}{xs:List V}(I:Inv X pins Z H s) (h:Sq X.K H b a xs):∃its:List Value,aX xs its/\oK s.heap b a its.toArray:=by
 cases b with
 | true=>obtain⟨its,r,p,_⟩:=I.list (show SqL X.K H a xs from h);exact⟨its,r,p.isList⟩
 | false=>obtain⟨its,r,p,_⟩:=I.tuple (show SqT X.K H a xs from h);exact⟨its,r,p⟩
theorem Inv.sq_inj {b:Bool}{a:Addr}{xs ys:List V}(I:Inv X pins Z H s) (h:Sq X.K H b a xs) (h':Sq X.K H b a ys):xs=ys:=by
 cases b with
 | true=>exact I.list_inj (show SqL X.K H a xs from h) h'
 | false=>exact I.tuple_inj (show SqT X.K H a xs from h) h'
end
section
variable {prog : Program} {w : World} {A : Around} {E : Value → Shared → Prop} {s : Shared}
theorem vO {b:Bool}{a:Addr}{its:Array Value}{Q:Value->Shared->Prop}(h:oK s.heap b a its)
  (hQ:Q (.ref s.heap.objs.size) {s with heap:=s.heap.push {cls:= .type (Bw b),data:= .fields #[.ref a,.int 0 0]}}):wpAny (model prog w) A (pyIter (.ref a)) Q E s:=by
 cases b with
 | true=>exact wpAny_pyIter_list (show s.heap.IsList a its from h) hQ
 | false=>exact wpAny_pyIter_tuple (show s.heap.IsTuple a its from h) hQ
end
abbrev zh1 (b:Bool) (h:Heap) (a:Addr):Heap:=h.push {cls:= .type (Bw b),data:= .fields #[.ref a,.int 0 0]}
abbrev zh2 (b c:Bool) (h:Heap) (a d:Addr):Heap:=(zh1 b h a).push {cls:= .type (Bw c),data:= .fields #[.ref d,.int 0 0]}
abbrev zh3 (b c:Bool) (h:Heap) (a d:Addr):Heap:=(zh2 b c h a d).push {cls:= .type "tuple",data:= .seq #[.ref h.objs.size,.ref (zh1 b h a).objs.size]}
abbrev zh4 (b c:Bool) (h:Heap) (a d:Addr):Heap:=(zh3 b c h a d).push {cls:= .type "tuple",data:= .seq #[.none,.none]}
abbrev zh5 (b c:Bool) (h:Heap) (a d:Addr):Heap:=(zh4 b c h a d).push {cls:= .type "zip",data:= .fields #[.none,.bool false,.bool false,.ref (zh2 b c h a d).objs.size,.ref (zh3 b c h a d).objs.size]}
theorem D5 (b c:Bool) (a d:Addr) (xs ys:Array Value):Meets (Builtin.«zip.__new__» ⟨[.type "zip",.ref a,.ref d],[]⟩) (fun _ R s=>oK s.heap b a xs/\oK s.heap c d ys/\R (.ok (.ret (.ref (zh4 b c s.heap a d).objs.size))) {s with heap:=zh5 b c s.heap a d}):=
 .of_wp fun prog w A R s h=>by
  obtain⟨hp,g,dr,tk,os⟩:=s;obtain⟨hl1,hl2,h⟩:=h;have hsub:=sub_zip;have hL1:oK (Shared.heap ⟨hp,g,dr,tk,os⟩) b a xs:=hl1;have hL2:oK (Shared.heap ⟨zh1 b hp a,g,dr,tk,os⟩) c d ys:=oK.at hl2 fun o e=>Heap.get?_push_of_some _ e
  wp_walk using vO hL1,vO hL2
  exact⟨_,rfl,h⟩
theorem Cw {prog:Program}{w:World}{A:Around}{E:Value->Shared->Prop}{s:Shared}{b c:Bool}{a d:Addr}{xs ys:Array Value}{Q:Value->Shared->Prop}(hl1:oK s.heap b a xs) (hl2:oK s.heap c d ys)
  (h:∀h',IsZip h' (s.heap.objs.size+4) (s.heap.objs.size+2) (s.heap.objs.size+3) .none->IsPair h' (s.heap.objs.size+2) (.ref s.heap.objs.size) (.ref (s.heap.objs.size+1))->
   IsPair h' (s.heap.objs.size+3) .none .none->pF h' b s.heap.objs.size a 0->pF h' c (s.heap.objs.size+1) d 0->(∀ e o,s.heap.get? e=some o->h'.get? e=some o)->Q (.ref (s.heap.objs.size+4)) {s with heap:=h'}):
  wpAny (model prog w) A (call (.type "zip") [.ref a,.ref d]) Q E s:=by
 refine callType_new F.called_zip (by decide) (F.typeCall_zip_2 _ _) (F.newCall_zip_2 _ _) (fun obj=>F.args_object_init_3 obj _ _) F.entry_zip_new (D5 b c a d xs ys) ⟨hl1,hl2,?_⟩
 have z1:(zh1 b s.heap a).objs.size=s.heap.objs.size+1:=Heap.size_push ..;have z2:(zh2 b c s.heap a d).objs.size=s.heap.objs.size+2:=by rw[Heap.size_push,z1]
 have z3:(zh3 b c s.heap a d).objs.size=s.heap.objs.size+3:=by rw[Heap.size_push,z2]
 have z4:(zh4 b c s.heap a d).objs.size=s.heap.objs.size+4:=by rw[Heap.size_push,z3]
 have p5:(zh5 b c s.heap a d).get? (zh4 b c s.heap a d).objs.size=some _:=Heap.get?_push_size _ rfl;have p4:(zh5 b c s.heap a d).get? (zh3 b c s.heap a d).objs.size=some _:=Heap.get?_push_of_some _ (Heap.get?_push_size _ rfl);have p3:(zh5 b c s.heap a d).get? (zh2 b c s.heap a d).objs.size=some _:=Heap.get?_push_of_some _ (Heap.get?_push_of_some _ (Heap.get?_push_size _ rfl));have p2:(zh5 b c s.heap a d).get? (zh1 b s.heap a).objs.size=some _:=Heap.get?_push_of_some _ (Heap.get?_push_of_some _ (Heap.get?_push_of_some _ (Heap.get?_push_size _ rfl)));have p1:(zh5 b c s.heap a d).get? s.heap.objs.size=some _:=Heap.get?_push_of_some _ (Heap.get?_push_of_some _ (Heap.get?_push_of_some _ (Heap.get?_push_of_some _ (Heap.get?_push_size _ rfl))));show _/\_
 rw[z2,z3,z4] at p5;rw[z1,z2] at p3;rw[z3] at p4;rw[z1] at p2;rw[z4];exact⟨⟨_,p5,rfl⟩,h _ p5 p3 p4 (pF.mk p1) (pF.mk p2) fun e o x=>Heap.get?_push_of_some _ (Heap.get?_push_of_some _ (Heap.get?_push_of_some _ (Heap.get?_push_of_some _ (Heap.get?_push_of_some _ x))))⟩
def Itz (K : Frag) (b c : Bool) (a d : Addr) : It :=
  ⟨fun i H => ∃ xs ys x y, Sq K H b a xs ∧ Sq K H c d ys ∧ xs[i]? = some x ∧ ys[i]? = some y,
   fun i H v H' => ∃ p x y, H p = none ∧ v = .ref p ∧ H' = upd H p (.tup [x, y]) ∧ (∀ xs, Sq K H b a xs → xs[i]? = some x) ∧ ∀ ys, Sq K H c d ys → ys[i]? = some y,
   fun i H => ∃ xs ys, Sq K H b a xs ∧ Sq K H c d ys ∧ (xs.length = i ∨ (i < xs.length ∧ ys.length = i))⟩
def ZAt (z TI TO i1 i2:Addr) (b c:Bool) (a d:Addr) (i:Nat) (h:Heap):Prop:=IsZip h z TI TO .none/\IsPair h TI (.ref i1) (.ref i2)/\(∃ x y,IsPair h TO x y)/\pF h b i1 a i/\pF h c i2 d i
theorem D7 {P:Program}{w:World}{K:Frag}{elts:List Expr}{tk:Nat}{tp:Pos}{b c:Bool}{a d z TI TO i1 i2:Addr}(D:ZA z TI TO i1 i2 [i1,a] [i2,d]) (h1a:a≠i1) (h2d:d≠i2):
  yx P w K (.Tuple elts tk tp) (Itz K b c a d) [z,TI,TO,i1,i2] z (ZAt z TI TO i1 i2 b c a d) where
 mem:=by simp
 obj:=fun i h st x hx=>by
  obtain⟨h1,h2,⟨_,_,h3⟩,h4,h5⟩:=st;have hx':x=z\/x=TI\/x=TO\/x=i1\/x=i2:=by simpa using hx
  rcases hx' with rfl | rfl | rfl | rfl | rfl
  .exact⟨_,h1,fun v q=>by simp at q⟩
  .exact⟨_,h2,fun v q=>by simp at q⟩
  .exact⟨_,h3,fun v q=>by simp at q⟩
  .exact h4.obj
  .exact h5.obj
 keep:=fun i h h' st k=>by
  obtain⟨h1,h2,⟨u,v,h3⟩,h4,h5⟩:=st;exact⟨k z (by simp) _ h1,k TI (by simp) _ h2,⟨u,v,k TO (by simp) _ h3⟩,h4.at fun o e=>k i1 (by simp) o e,h5.at fun o e=>k i2 (by simp) o e⟩
 item:=by
  intro X hP hw hK hc i pins s Z H E I hf st hg;subst hP hw hK;obtain⟨xs,ys,x,y,q1,q2,e1,e2⟩:=hg;obtain⟨h1,h2,⟨u,v,h3⟩,h4,h5⟩:=st;obtain⟨l1,r1,p1⟩:=I.sq q1;obtain⟨l2,r2,p2⟩:=I.sq q2;have hh:X.A.in1.handled=none:=I.ok.hd hc;have D1:=o9 (prog:=X.prog) (w:=X.w) hh b i1 a h1a l1.toArray;have D2:=o9 (prog:=X.prog) (w:=X.w) hh c i2 d h2d l2.toArray;obtain⟨u1,g1,w1⟩:=r1.get e1;obtain⟨u2,g2,w2⟩:=r2.get e2;have lt1:i < l1.toArray.size:=by have:=(List.getElem?_eq_some_iff.mp g1).1;simpa using this
  have lt2:i < l2.toArray.size:=by have:=(List.getElem?_eq_some_iff.mp g2).1;simpa using this
  have hT:s.TypeIs (.ref z) "zip":=⟨_,h1,rfl⟩;unfold pyNext
  refine wpAny_bind (wpAny_attempt (wpAny_callSpecial?_slot (name:=Str.ofString "__next__") hT F.slot_zip_next (wpAny_call_entry F.slot_zip_next hT F.entry_zip_next
   (B8 D1 D2 D h1 h2 h3 ⟨h4,p1⟩ ⟨h5,p2⟩ lt1 lt2 fun x' y' h' tk' hx hy a1 a2 a3 a4 a5 kz=>wpAny_pure ?_) (F.args_zip_next_1 _))))
  have hx:u1=x':=by have hx:l1.toArray[i]? =some x':=hx;rw[List.getElem?_toArray,g1] at hx;exact Option.some.inj hx
  have hy:u2=y':=by have hy:l2.toArray[i]? =some y':=hy;rw[List.getElem?_toArray,g2] at hy;exact Option.some.inj hy
  subst hx hy;refine⟨_,rfl,wpAny_letOwnedTupleGo_zip a1 fun h'' hz'' hs''=> ?_⟩
  have hs'':Heap.SameBut z h' h'':=hs'';have hlt:z < s.heap.objs.size:=Heap.lt_size h1;have up:∀b o,b≠z->h'.get? b=some o->h''.get? b=some o:=fun b o hb e=>hs''.extBut _ _ hb e
  have kept:∀b o,b ∉ [z,TI,TO,i1,i2]->s.heap.get? b=some o->h''.get? b=some o:=fun b o hb e=>by
   have hb':b≠z/\b≠TI/\b≠TO/\b≠i1/\b≠i2:=by simpa using hb
   exact up b o hb'.1 (kz b o hb'.1 hb'.2.2.1 hb'.2.2.2.1 hb'.2.2.2.2 e)
  refine⟨.ref s.heap.objs.size,upd H s.heap.objs.size (.tup [x,y]),?_,rfl,⟨_,x,y,I.fresh,rfl,rfl,fun zs hz=>by rw[I.sq_inj hz q1];exact e1,fun zs hz=>by rw[I.sq_inj hz q2];exact e2⟩,?_,fun b hb=> ?_⟩
  .refine I.turnedN (t':=tk') (ch:=[z,TI,TO,i1,i2]) kept hf (Nat.le_refl _) ⟨by show 2<=sizeLine;decide,[u1,u2],.cons w1 (.cons w2 .nil),⟨_,up _ _ (Nat.ne_of_gt hlt) a5,rfl,_,rfl⟩⟩
  .exact⟨hz'',up _ _ D.TIz (kz _ _ D.TIz D.TITO D.TIi1 D.TIi2 h2),⟨_,_,up _ _ D.TOz a2⟩,a3.1.at fun o e=>up _ _ D.i1z e,a4.1.at fun o e=>up _ _ D.i2z e⟩
  .have h0:=(hf b hb).1;rw[az]
   .exact h0
   .have hb':b=z\/b=TI\/b=TO\/b=i1\/b=i2:=by simpa using hb
    rcases hb' with rfl | rfl | rfl | rfl | rfl
    .exact Nat.ne_of_lt hlt
    .exact Nat.ne_of_lt (Heap.lt_size h2)
    .exact Nat.ne_of_lt (Heap.lt_size h3)
    .obtain⟨o,e,_⟩:=h4.obj;exact Nat.ne_of_lt (Heap.lt_size e)
    .obtain⟨o,e,_⟩:=h5.obj;exact Nat.ne_of_lt (Heap.lt_size e)
 done:=by
  intro X hP hw hK hc i pins s Z H E I hf st hg;subst hP hw hK;obtain⟨xs,ys,q1,q2,hend⟩:=hg;obtain⟨h1,h2,⟨u,v,h3⟩,h4,h5⟩:=st;obtain⟨l1,r1,p1⟩:=I.sq q1;obtain⟨l2,r2,p2⟩:=I.sq q2;have hh:X.A.in1.handled=none:=I.ok.hd hc;have D1:=o9 (prog:=X.prog) (w:=X.w) hh b i1 a h1a l1.toArray;have D2:=o9 (prog:=X.prog) (w:=X.w) hh c i2 d h2d l2.toArray;have z1:=r1.length;have z2:=r2.length;have he:i=l1.toArray.size\/(i < l1.toArray.size/\i=l2.toArray.size):=by simp only[List.size_toArray];lia
  have hT:s.TypeIs (.ref z) "zip":=⟨_,h1,rfl⟩;unfold pyNext
  refine wpAny_bind (wpAny_attempt (wpAny_callSpecial?_slot (name:=Str.ofString "__next__") hT F.slot_zip_next (wpAny_call_entry F.slot_zip_next hT F.entry_zip_next
   (DY D1 D2 D h1 h2 h3 ⟨h4,p1⟩ ⟨h5,p2⟩ he fun h' e tk' kz hx=> ?_) (F.args_zip_next_1 _))))
  obtain⟨o,ho,hcl⟩:=hx;refine wpAny_bind (wpAny_isInstance (T:="StopIteration") (b:=true) ⟨o,ho,hcl⟩ isSubtype_stop ?_)
  refine wpAny_pure ⟨rfl,I.turnedL (t':=tk') (ch:=[z,TI,TO,i1,i2]) (fun b o hb e=> ?_) hf⟩
  have hb':b≠z/\b≠TI/\b≠TO/\b≠i1/\b≠i2:=by simpa using hb
  exact kz b o hb'.1 hb'.2.2.1 hb'.2.2.2.1 hb'.2.2.2.2 e
 self:=fun A i s Q E st h=>wpAny_pyIter_zip st.1 h
section
variable {X : Cx}
def I0 (K:Frag) (ta:TA):TI:=fun Z H R=>ta Z H fun vs H1=>∃b c a d,vs=[.ref a,.ref d]/\(∃ xs,Sq K H1 b a xs)/\(∃ ys,Sq K H1 c d ys)/\R (Itz K b c a d) H1
theorem An {e1 e2:Expr}{ta:TA}{p pos tp:Pos}{elts:List Expr}{tk:Nat}(hg:Gl X "zip") (hm:X.mg "zip"=none) (ha:PA X [e1,e2] ta) (hs:starEach [e1,e2] X.env=[(false,eval e1 X.env),(false,eval e2 X.env)]:=by rfl) (hs2:starEach [e2] X.env=[(false,eval e2 X.env)]:=by rfl):
  PI X (.Tuple elts tk tp) (.Call (.Name "zip" p) [e1,e2] [] pos) (I0 X.K ta):=by
 intro pins s Z H R I h;refine Call_ (uu I hg hm GK (PyProof.Rows.callWith_type1 (dj (ha pos pins s Z H _ I h) fun us s1 vs H1 I1 r1 q1=> ?_) (by rw[hs,hs2]) (by rw[hs2];rfl)))
 obtain⟨b,c,a,d,e,⟨xs,hx⟩,⟨ys,hy⟩,q⟩:=q1;subst e;obtain⟨u1,u2,rfl,ru1,ru2⟩:=C6 r1
 cases ru1
 cases ru2
 obtain⟨l1,rr1,p1⟩:=I1.sq hx;obtain⟨l2,rr2,p2⟩:=I1.sq hy;have la:=p1.lt;have ld:=p2.lt;refine Cw p1 p2 fun h' z1 z2 z3 z4 z5 kk=>wpAny_pyIter_zip z1 ?_
 generalize hn:s1.heap.objs.size=n at*;have ap:ZA (n+4) (n+2) (n+3) n (n+1) [n,a] [n+1,d]:=by
  refine⟨?_,?_,?_,?_,?_,?_,?_,?_,?_,?_,?_,?_,?_,?_,?_,?_⟩ <;> (try simp only[List.mem_cons,List.not_mem_nil,or_false]) <;> (unfold Addr at *;lia)
 refine⟨n+4,[n+4,n+2,n+3,n,n+1],_,_,H1,rfl,I1.kept (t':=s1.toks) kk,D7 ap (Nat.ne_of_lt la) (Nat.ne_of_lt (Nat.lt_succ_of_lt ld)),⟨z1,z2,⟨_,_,z3⟩,z4,z5⟩,fun b hb=> ?_,q⟩
 have hb':n<=b:=by
  have hb':b=n+4\/b=n+2\/b=n+3\/b=n\/b=n+1:=by simpa using hb
  unfold Addr at*
  lia
 exact I1.fpOk (by rw[hn];exact hb') (I1.hok.fresh (by rw[hn];exact hb'))
end
theorem wt {K:Frag}{b c:Bool}{a d:Addr}{xs ys:List V}{g:TG}{tb:TS}{D:tQ}{Z:St}{H:Hp}(Pv:Nat->St->Hp->Prop) (h0:Pv 0 Z H) (h1:∀i Z H,Pv i Z H->Sq K H b a xs/\Sq K H c d ys)
  (hs:∀i x y p Z H,xs[i]? =some x->ys[i]? =some y->Pv i Z H->H p=none->g (.ref p) Z (upd H p (.tup [x,y])) fun Z2 H2=>tb {D with nx:=Pv (i+1),ct:=Pv (i+1),bk:=D.nx} Z2 H2) (hd:∀Z H,Pv (min xs.length ys.length) Z H->D.nx Z H):
  ∃W:Nat->Nat->St->Hp->Prop,(∃ m,W 0 m Z H)/\∀i m Z H,W i m Z H->
   ((Itz K b c a d).stop i H/\D.nx Z H)\/((Itz K b c a d).go i H/\∃N:St->Hp->Prop,(∀ Z' H',N Z' H'->∃m',m' < m/\W (i+1) m' Z' H')/\∀x H',(Itz K b c a d).yld i H x H'->g x Z H' fun Z2 H2=>tb {D with nx:=N,ct:=N,bk:=D.nx} Z2 H2):=by
 refine⟨fun i m Z H=>m=min xs.length ys.length - i/\i<=min xs.length ys.length/\Pv i Z H,⟨_,rfl,Nat.zero_le _,h0⟩,?_⟩
 rintro i m Z H ⟨rfl,hi,p⟩
 obtain⟨q1,q2⟩:=h1 i Z H p
 by_cases hlt:i < min xs.length ys.length
 .have hx:i < xs.length:=by lia
  have hy:i < ys.length:=by lia
  refine .inr ⟨⟨xs,ys,xs[i],ys[i],q1,q2,by simp [hx],by simp [hy]⟩,Pv (i+1),fun Z' H' p'=>⟨_,?_,rfl,hlt,p'⟩,fun v H' y=> ?_⟩
  .lia
  .obtain⟨r,x,y,hr,rfl,rfl,e1,e2⟩:=y;exact hs i x y r Z H (e1 xs q1) (e2 ys q2) p hr
 .have e:i=min xs.length ys.length:=by lia
  refine .inl ⟨⟨xs,ys,q1,q2,by lia⟩,?_⟩
  subst e;exact hd Z H p
inductive Dt where
 | non | bl (b:Bool) | int (i:Int) | str (x:Str) | tup (l:List Dt) | lst (l:List Dt)
mutual
def Is (K:Frag) (H:Hp):Dt->V->Prop
 | .non,v=>v= .non
 | .bl b,v=>v= .bl b
 | .int i,v=>v= .int i
 | .str x,v=>v= .str x
 | .tup l,v=>∃a xs,v= .ref a/\SqT K H a xs/\Iss K H l xs
 | .lst l,v=>∃a xs,v= .ref a/\SqL K H a xs/\Iss K H l xs
def Iss (K:Frag) (H:Hp):List Dt->List V->Prop
 | [],xs=>xs=[]
 | d::r,xs=>∃x t,xs=x::t/\Is K H d x/\Iss K H r t
end
mutual
def Dt.flat:Dt->Bool
 | .tup l=>Dt.flats l
 | .lst _=>false
 | _=>true
def Dt.flats:List Dt->Bool
 | []=>true
 | d::r=>d.flat && Dt.flats r
end
theorem ay.tup {K:Frag}{H H':Hp}{a:Addr}{xs:List V}(e:ay H H') (h:SqT K H a xs):SqT K H' a xs:=by
 rcases h with(h | ⟨o,h⟩) | h
 .exact .inl (.inl (e _ _ h))
 .exact .inl (.inr ⟨o,e _ _ h⟩)
 .exact .inr h
theorem But.tup {K:Frag}{H H':Hp}{a d:Addr}{xs ys:List V}(e:But d H H') (hd:H d=some (.lst ys)) (h:SqT K H a xs):SqT K H' a xs:=by
 rcases h with(h | ⟨o,h⟩) | h
 .exact .inl (.inl (e _ _ (dn h hd (by intro z;cases z)) h))
 .exact .inl (.inr ⟨o,e _ _ (dn h hd (by intro z;cases z)) h⟩)
 .exact .inr h
section
variable {K : Frag} {g : TG} {te : TE} {t : Nat} {js : List Nat} {σ : St} {H : Hp} {Q : VK} {p : Addr}
theorem o4 {a:Addr}{xs:List V}(Pv:Nat->List V->Hp->Prop) (h0:Pv 0 [] (upd H p (.lst []))) (hl:∀i ys H,Pv i ys H->SqT K H a xs)
  (hs:∀i x ys H (F:List V->Hp->Prop),(∀ ys' H',Pv (i+1) ys' H'->F ys' H')->xs[i]? =some x->Pv i ys H->g x (blk t js Z) H fun Z2 H2=>Wk (blk t js Z) Z2/\te Z2 H2 fun y H3=>H3 p=some (.lst ys)/\ys.length < sizeLine/\F (ys++[y]) (upd H3 p (.lst (ys++[y]))))
  (hd:∀ys H,Pv xs.length ys H->Q (.ref p) H):
  me (Itt K a) g te t js Z p H Q:=by
 refine⟨fun i m ys H=>m=xs.length - i/\i<=xs.length/\Pv i ys H,⟨xs.length,by simp,Nat.zero_le _,h0⟩,?_⟩
 rintro i m ys H ⟨rfl,hi,pv⟩
 have q:=hl i ys H pv
 by_cases hlt:i < xs.length
 .refine .inr ⟨⟨xs,xs[i],q,by simp [hlt]⟩,fun x H' y=> ?_⟩
  obtain⟨e,y⟩:=y;subst e;exact hs i x ys _ (fun ys' H'=>∃m',m' < xs.length - i/\m'=xs.length - (i+1)/\i+1<=xs.length/\Pv (i+1) ys' H') (fun ys' H' z=>⟨_,by lia,rfl,hlt,z⟩) (y xs q) pv
 .have e:i=xs.length:=by lia
  subst e;exact .inl ⟨⟨xs,q,Nat.le_refl _⟩,hd ys H pv⟩
theorem vJ {a:Addr}{xs:List V}(Pv:Nat->List V->Hp->Prop) (h0:Pv 0 [] (upd H p (.lst []))) (hl:∀i ys H,Pv i ys H->SqL K H a xs)
  (hs:∀i x ys H (F:List V->Hp->Prop),(∀ ys' H',Pv (i+1) ys' H'->F ys' H')->xs[i]? =some x->Pv i ys H->g x (blk t js Z) H fun Z2 H2=>Wk (blk t js Z) Z2/\te Z2 H2 fun y H3=>H3 p=some (.lst ys)/\ys.length < sizeLine/\F (ys++[y]) (upd H3 p (.lst (ys++[y]))))
  (hd:∀ys H,Pv xs.length ys H->Q (.ref p) H):
  me (Itl K a) g te t js Z p H Q:=by
 refine⟨fun i m ys H=>m=xs.length - i/\i<=xs.length/\Pv i ys H,⟨xs.length,by simp,Nat.zero_le _,h0⟩,?_⟩
 rintro i m ys H ⟨rfl,hi,pv⟩
 have q:=hl i ys H pv
 by_cases hlt:i < xs.length
 .refine .inr ⟨⟨xs,xs[i],q,by simp [hlt]⟩,fun x H' y=> ?_⟩
  obtain⟨e,y⟩:=y;subst e;exact hs i x ys _ (fun ys' H'=>∃m',m' < xs.length - i/\m'=xs.length - (i+1)/\i+1<=xs.length/\Pv (i+1) ys' H') (fun ys' H' z=>⟨_,by lia,rfl,hlt,z⟩) (y xs q) pv
 .have e:i=xs.length:=by lia
  subst e;exact .inl ⟨⟨xs,q,Nat.le_refl _⟩,hd ys H pv⟩
theorem kX {lo:Int}{n:Nat}(Pv:Nat->List V->Hp->Prop) (h0:Pv 0 [] (upd H p (.lst [])))
  (hs:∀i ys H (F:List V->Hp->Prop),(∀ ys' H',Pv (i+1) ys' H'->F ys' H')->i < n->Pv i ys H->g (.int (lo+i)) (blk t js Z) H fun Z2 H2=>Wk (blk t js Z) Z2/\te Z2 H2 fun y H3=>H3 p=some (.lst ys)/\ys.length < sizeLine/\F (ys++[y]) (upd H3 p (.lst (ys++[y]))))
  (hd:∀ys H,Pv n ys H->Q (.ref p) H):
  me (Itr lo n) g te t js Z p H Q:=by
 refine⟨fun i m ys H=>m=n - i/\i<=n/\Pv i ys H,⟨n,by simp,Nat.zero_le _,h0⟩,?_⟩
 rintro i m ys H ⟨rfl,hi,pv⟩
 by_cases hlt:i < n
 .refine .inr ⟨hlt,fun x H' y=> ?_⟩
  obtain⟨e,y⟩:=y;subst e y;exact hs i ys _ (fun ys' H'=>∃m',m' < n - i/\m'=n - (i+1)/\i+1<=n/\Pv (i+1) ys' H') (fun ys' H' z=>⟨_,by lia,rfl,hlt,z⟩) hlt pv
 .have e:i=n:=by lia
  subst e;exact .inl ⟨Nat.le_refl _,hd ys H pv⟩
end
theorem bk {sc0 scope:Scope}{N0:List Str}(N:List Str) (t:Nat) (js:List Nat) (h1:scope.kind= .function:=by rfl) (h2:∀y∈scope.names,y.2≠NameKind.cell:=by decide +kernel) (h3:∀y∈scope.names,y.2=NameKind.local->scope.names.lookup y.1=some NameKind.local:=by decide +kernel)
  (h4:∀y∈scope.names,y.2=NameKind.free->sc0.names.lookup y.1=some NameKind.cell:=by decide +kernel) (h5:∀x∈N.drop t,scope.names.lookup x=some NameKind.free:=by decide +kernel) (h6:(N.drop t).map some=js.map fun j=>N0[j]? :=by rfl)
  (h7:t<=N.length:=by decide) (h8:N.Nodup:=by decide +kernel):iI sc0 scope N0 N t js:=⟨h1,h2,h3,h4,h5,h6,h7,h8⟩
theorem fh {X:Cx}{k:Nat}{x:Str}{sp:Sp}{p pos:Pos}(h:Has X.prog X.w X.K X.mg X.base k x [] sp) (hr:Room k X.A) (hg:Gl X x) (hdb:(x == ("__debug__":Str))=false:=by decide):
  PE X (.Call (.Name x p) [] [] pos) (fun Z H Q=>sp [] H Q E0):=by
 obtain⟨f,fd,hm,hk,hb,F⟩:=h.ex;exact CZ F hr hg hm hk hb .nil vY hdb
section
variable {X : Cx}
theorem cA {a b v:Int}{j j2:Nat}{p p2 pos:Pos}(e:a^b.toNat=v) (hb:0<=b/\b<=1000000/\a.natAbs < 2^64:=by decide):PE X (.BinOp (.Constant (.int a) j p) .Pow (.Constant (.int b) j2 p2) pos) (tC (.int v)):=fun pins s Z H Q I h=>
 aj Hk aa aa pins s Z H Q I ⟨a,b,rfl,rfl,hb,by dsimp only;rw[e];exact h⟩
theorem iM {a v:Int}{j:Nat}{p pos:Pos}(e: -a=v):PE X (.UnaryOp .USub (.Constant (.int a) j p) pos) (tC (.int v)):=fun pins s Z H Q I h=>Gh DQ aa pins s Z H Q I ⟨a,rfl,by dsimp only;rw[e];exact h⟩
structure aA (p:Prop):Prop where
 out:p
theorem aL {st:Stmt}{t:TS}(h:PS X st t):PS X st (fun D Z H=>aA (t D Z H)):=fun pins s Z H D I hq=>h pins s Z H D I hq.out
end
def e_ (K:Frag) (a:Addr) (xs:List V):Prop:=∃(o:Obj) (its:Array Value) (n:Nat),K.lookup a=some o/\o.cls= .type "tuple"/\o.dict=none/\o.data= .seq its n/\its.size<=sizeLine/\aX xs its.toList
theorem e_.sq {K:Frag}{H:Hp}{a:Addr}{xs:List V}(h:e_ K a xs):SqT K H a xs:=by
 obtain⟨o,its,n,h1,h2,_,h3,h4,h5⟩:=h;exact .inr ⟨o,its,n,h1,h2,h3,h4,h5⟩
theorem e_.ty {K:Frag}{H:Hp}{a:Addr}{xs:List V}(h:e_ K a xs):tyV K "tuple" (.ref a) H:=by
 obtain⟨o,its,n,h1,h2,hd,_⟩:=h;exact .inr (.inl ⟨rfl,o,h1,h2,hd⟩)
theorem d0 {K:Frag}{a:Addr}{xs:List V}{its:Array Value}{n:Nat}{sl:Array (Option Value)}(l:K.lookup a=some ⟨.type "tuple",none,.seq its n,sl⟩) (z:its.size<=sizeLine) (v:aX xs its.toList):e_ K a xs:=⟨_,its,n,l,rfl,rfl,rfl,z,v⟩
theorem lR {α:Type}{x:α}{xs:List α}:atI (x::xs) 0=some x:=a9 (j:=0) rfl
theorem AL {α:Type}{x y:α}{xs:List α}:atI (x::y::xs) 1=some y:=a9 (j:=1) rfl
theorem xV {α:Type}{x y z:α}{xs:List α}:atI (x::y::z::xs) 2=some z:=a9 (j:=2) rfl
theorem FM {α:Type}{x y z u:α}{xs:List α}:atI (x::y::z::u::xs) 3=some u:=a9 (j:=3) rfl
section
variable {K : Frag} {H H' : Hp} {a p : Addr} {o o' : HO} {xs : List V} {d : Dt} {v : V}
theorem ql (hp:H p=none) (h:H a=some o'):upd H p o a=some o':=by rw[az (aB h hp)];exact h
theorem Jp (hp:H p=none) (h:SqT K H a xs):SqT K (upd H p o) a xs:=(af hp o).tup h
theorem iK {H₀:Hp}(hp:H p=none) (h:ay H₀ H):ay H₀ (upd H p o):=h.trans (af hp o)
theorem cX {H₀:Hp}{d:Addr}(hp:H p=none) (h:But d H₀ H):But d H₀ (upd H p o):=h.trans (af hp o).but
theorem eK {H₀:Hp}(hp:H₀ p=none) (h:ay H₀ H):ay H₀ (upd H p o):=fun b u e=>by rw[az (aB e hp)];exact h b u e
end
def zV (x:V):List V->Nat->Option Nat
 | [],_=>none
 | y::r,k=>if eqV y x=true then some k else zV x r (k+1)
theorem yb {x:V}:∀ {xs:List V}{k j:Nat},zV x xs k=some j->k<=j/\jP x xs (j - k)
 | [],_,_,h=>by cases h
 | y::r,k,j,h=>by
  unfold zV at h
  by_cases e:eqV y x=true
  .rw[if_pos e] at h
   cases h
   refine⟨Nat.le_refl _,⟨y,by simp,e⟩,fun m z hm=>absurd hm (by lia)⟩
  .rw[if_neg e] at h;obtain⟨h1,⟨z,h2,h3⟩,h4⟩:=yb h;have hj:j - k=(j - (k+1))+1:=by lia
   refine⟨by lia,⟨z,by rw[hj,List.getElem?_cons_succ];exact h2,h3⟩,fun m z hm hz=> ?_⟩
   cases m with
   | zero=>cases hz;simpa using e
   | succ m=>exact h4 m z (by lia) (by simpa using hz)
theorem Eb {x:V}{xs:List V}{j:Nat}(h:zV x xs 0=some j):jP x xs j:=by
 have q:=(yb h).2
 rwa [Nat.sub_zero] at q
end L2
namespace L2
open PySem
theorem uU {A:Around}{k:Nat}(hr:Room k A):A.units+64 < cLine:=hr.units
end L2
namespace L2
open PySem PySem.Spec PyProof.Rows
@[irreducible] def isTy (t T : String) : Option Bool := JA t T
inductive TyS (K:Frag) (H:Hp):V->String->Prop where
 | non:TyS K H .non "NoneType"
 | bl (x:Bool):TyS K H (.bl x) "bool"
 | int (i:Int):TyS K H (.int i) "int"
 | str (x:Str):TyS K H (.str x) "str"
 | tup {a:Addr}{xs:List V}(e:SqT K H a xs):TyS K H (.ref a) "tuple"
 | lst {a:Addr}{xs:List V}(e:SqL K H a xs):TyS K H (.ref a) "list"
 | dic {a:Addr}(e:rO K H (.ref a) (.type "dict")):TyS K H (.ref a) "dict"
section
variable {X : Cx} {K : Frag}
theorem Bc (e:X.K=K):IxR X (E4 K):=by subst e;exact ai
end
theorem DN {b:Bool}{A B:Prop}(h:b=false) (q:B):if b=true then A else B:=by
 rw[h];exact Ax q
theorem Ir {b:Bool}{A B:Prop}(h:b=true) (q:A):if b=true then A else B:=by
 rw[h];exact wk q
theorem zT {b:Bool}{A B:Prop}(h1:b=true->A) (h2:b=false->B):if b=true then A else B:=by
 cases b with
 | true=>exact wk (h1 rfl)
 | false=>exact Ax (h2 rfl)
def xI:Expr->Option V
 | .Constant (.int i) _ _=>some (.int i)
 | .Constant (.str x) _ _=>some (.str x)
 | .Constant .none _ _=>some .non
 | .Constant (.bool b) _ _=>some (.bl b)
 | _=>none
def sE:List Expr->Option (List V)
 | []=>some []
 | e::r=>match xI e,sE r with
  | some v,some vs=>some (v::vs)
  | _,_=>none
theorem bF {X:Cx}:∀ {es:List Expr}{vs:List V},sE es=some vs->PA X es (fun _ H Q=>Q vs H)
 | [],vs,h=>by
  cases h
  exact cY
 | e::r,vs,h=>by
  unfold sE at h
  cases hv:xI e with
  | none=>rw[hv] at h;cases h
  | some v=>
   cases hr:sE r with
   | none=>rw[hv,hr] at h;cases h
   | some ws=>
    rw[hv,hr] at h;have h:v::ws=vs:=Option.some.inj h;subst h;have ih:=bF (X:=X) hr;have hc:PE X e (tC v):=by
     unfold xI at hv
     split at hv
     .cases hv;exact aa
     .cases hv;exact au
     .cases hv;exact cQ
     .cases hv;exact vj
     .cases hv
    have hs:starEach (e::r) X.env=(false,eval e X.env)::starEach r X.env:=by
     unfold xI at hv
     split at hv <;> first | rfl | cases hv
    intro pos pins s Z H Q I q;exact aN hc ih hs pos pins s Z H Q I q
open PySem PySem.Spec PyProof.Rows
end L2
namespace SpM
open PySem PyProof.Rows
theorem ye:∀n:Nat,0 < n->∃t u,n=(2*u+1)*2^t:=by
 intro n
 induction n using Nat.strongRecOn with
 | ind n ih=>
  intro h
  by_cases h2:n %2=1
  .exact⟨0,n / 2,by lia⟩
  .obtain⟨t,u,e⟩:=ih (n / 2) (by lia) (by lia)
   refine⟨t+1,u,?_⟩
   rw[Nat.pow_succ, <-Nat.mul_assoc, <-e]
   lia
open Classical in
noncomputable def Zn (v:Int):Nat:=if h:v=0 then 32 else(ye v.natAbs (by lia)).choose
theorem Zn_zero:Zn 0=32:=by simp [Zn]
theorem BF {v:Int}(h:v≠0):∃u,v.natAbs=(2*u+1)*2^Zn v:=by
 unfold Zn;rw[dif_neg h];exact(ye v.natAbs (by lia)).choose_spec
theorem Zn_case (v:Int):(v=0/\Zn v=32)\/∃u,v.natAbs=(2*u+1)*2^Zn v:=by
 by_cases h:v=0
 .subst h;exact .inl ⟨rfl,Zn_zero⟩
 .exact .inr (BF h)
theorem pp (z:Nat):(0:Int) < 2^z:=Int.pow_pos (by decide)
theorem AC {a b:Nat}(h:a<=b):(2:Int)^a∣2^b:=by
 obtain⟨c,rfl⟩:=Nat.exists_eq_add_of_le h;rw[Int.pow_add];exact Int.dvd_mul_right _ _
theorem ple {a b:Nat}(h:a<=b):(2:Int)^a<=2^b:=Int.le_of_dvd (pp b) (AC h)
theorem plt {a b:Nat}(h:a < b):(2:Int)^a < 2^b:=by
 have:=ple (show a+1<=b from h);have e:(2:Int)^(a+1)=2^a*2:=Int.pow_succ _ _;have:=pp a
 lia
theorem p32:(2:Int)^32=4294967296:=by decide
theorem Ig {z:Nat}(h:z<=32):(2:Int)^z<=4294967296:=ple h
theorem Ia {z:Nat}(h:z<=32):(2:Int)^z∣4294967296:=AC h
theorem Jr {z:Nat}(h:z<=32) (e:(2:Int)^z=4294967296):z=32:=by
 rcases Nat.lt_or_ge z 32 with c | c
 .have:=plt c;rw[p32] at this
  lia
 .lia
theorem tL (v:Int):(2:Int)^Zn v∣v:=by
 rcases Zn_case v with⟨rfl,_⟩|⟨u,e⟩
 .exact⟨0,by lia⟩
 .have:(2:Int)^Zn v∣(v.natAbs:Int):=by
   rw[e];refine⟨2*(u:Int)+1,?_⟩
   push_cast
   rw[Int.mul_comm]
  exact Int.dvd_natAbs.mp this
theorem dvd_Zn {v:Int}{t:Nat}(h0:v≠0) (h:(2:Int)^t∣v):t<=Zn v:=by
 obtain⟨u,e⟩:=BF h0;have h':2^t∣v.natAbs:=by
  have:=Int.natAbs_dvd_natAbs.mpr h
  rwa [Int.natAbs_pow] at this
 rw[e] at h';rcases Nat.lt_or_ge (Zn v) t with c | c
 .exfalso
  obtain⟨d,rfl⟩:=Nat.exists_eq_add_of_le (show Zn v+1<=t from c);obtain⟨k,hk⟩:=h';have:(2*u+1)*2^Zn v=(2*(2^d*k))*2^Zn v:=by
   rw[hk,Nat.pow_add,Nat.pow_succ]
   simp only[Nat.mul_assoc,Nat.mul_comm,Nat.mul_left_comm]
  have:=Nat.eq_of_mul_eq_mul_right (Nat.pow_pos (show 0 < 2 by decide)) this
  lia
 .exact c
theorem Ib {v:Int}(h:v.natAbs < 2^33):Zn v<=32:=by
 rcases Zn_case v with⟨_,e⟩|⟨u,e⟩
 .lia
 .rcases Nat.lt_or_ge 32 (Zn v) with c | c
  .exfalso
   have:=Nat.pow_le_pow_right (show 2 >0 by decide) (show 33<=Zn v from c)
   have h1:1*2^Zn v<=(2*u+1)*2^Zn v:=Nat.mul_le_mul_right _ (by lia)
   lia
  .exact c
structure Span where
 lo:Int
 hi:Int
 z:Nat
structure Sv (s:Span):Prop where
 l0:0<=s.lo
 lh:s.lo<=s.hi
 hW:s.hi < 4294967296
 zz:s.z<=32
 dl:(2:Int)^s.z∣s.lo
 dh:(2:Int)^s.z∣s.hi
 one:s.lo=s.hi->s.z=Zn s.lo
structure In (v:Int) (s:Span):Prop where
 lo:s.lo<=v
 hi:v<=s.hi
 dv:(2:Int)^s.z∣v
noncomputable def single (v:Int):Span:=⟨v,v,Zn v⟩
noncomputable def settled (lo hi:Int) (z:Nat):Span:=if lo=hi then single lo else⟨lo,hi,z⟩
def whole:Span:=⟨0,4294967295,0⟩
def all (z:Nat):Span:=⟨0,4294967296 - 2^z,z⟩
noncomputable def kept (lo hi:Int) (z:Nat):Span:=if lo < 0\/4294967296<=hi then all z else settled lo hi z
noncomputable def addS (l r:Span):Span:=kept (l.lo+r.lo) (l.hi+r.hi) (min l.z r.z)
noncomputable def subS (l r:Span):Span:=kept (l.lo - r.hi) (l.hi - r.lo) (min l.z r.z)
noncomputable def moreS (s:Span) (n:Int):Span:=kept (s.lo+n) (s.hi+n) (min s.z (Zn n))
noncomputable def andS (l r:Span):Span:=settled 0 (min l.hi r.hi - min l.hi r.hi %2^max l.z r.z) (max l.z r.z)
def jst (h1 h2:Int):Nat->Nat->Nat
 | 0,j=>j
 | k+1,j=>if (2:Int)^j<=h1\/(2:Int)^j<=h2 then jst h1 h2 k (j+1) else j
def jf (h1 h2:Int) (z:Nat):Nat:=jst h1 h2 33 z
noncomputable def orS (l r:Span) (lo:Int):Span:=settled lo (2^jf l.hi r.hi (min l.z r.z) - 2^min l.z r.z) (min l.z r.z)
noncomputable def lessS (l r:Span):Span:=if l.hi < r.lo then single 1 else if r.hi<=l.lo then single 0 else⟨0,1,0⟩
noncomputable def leftS (l r:Span):Span:=if r.lo=r.hi then kept (l.lo*2^(r.lo %32).toNat) (l.hi*2^(r.lo %32).toNat) (min 32 (l.z+(r.lo %32).toNat)) else whole
noncomputable def rightS (l r:Span):Span:=if r.lo=r.hi then settled (l.lo / 2^(r.lo %32).toNat) (l.hi / 2^(r.lo %32).toNat) (l.z - (r.lo %32).toNat) else settled 0 l.hi 0
noncomputable def fitS (k:Nat) (base:Int) (s:Span):Span:=
 if base<=s.lo/\s.hi < base+2^k then s else settled base (base+2^k - 1 - (2^k - 1) %2^min s.z (Zn base)) (min s.z (Zn base))
def aimV (m s:Nat) (v:Int):Int:=v %2^m*8*2^s
noncomputable def aimS (m s:Nat) (x:Span):Span:=if x.lo=x.hi then single (aimV m s x.lo) else settled 0 (aimV m s (2^m - 1)) (s+3)
theorem fP {a b:Nat}{v:Int}(h:(2:Int)^a∣v):(2:Int)^min a b∣v:=Int.dvd_trans (AC (Nat.min_le_left _ _)) h
theorem fi {a b:Nat}{v:Int}(h:(2:Int)^b∣v):(2:Int)^min a b∣v:=Int.dvd_trans (AC (Nat.min_le_right _ _)) h
theorem Sv_single {v:Int}(h0:0<=v) (h1:v < 4294967296):Sv (single v):=
 ⟨h0,Int.le_refl _,h1,Ib (by lia),tL v,tL v,fun _=>rfl⟩
theorem Sv_whole:Sv whole:=⟨by decide,by decide,by decide,by decide,⟨0,by decide⟩,⟨4294967295,by decide⟩,fun h=>by exact absurd h (by decide)⟩
theorem eZ {lo hi:Int}{z:Nat}(l0:0<=lo) (lh:lo<=hi) (hW:hi < 4294967296) (zz:z<=32) (dl:(2:Int)^z∣lo) (dh:(2:Int)^z∣hi):Sv (settled lo hi z):=by
 unfold settled
 split
 .exact Sv_single l0 (by lia)
 .rename_i c
  exact⟨l0,lh,hW,zz,dl,dh,fun e=>absurd e c⟩
theorem GO {z:Nat}(zz:z<=32):Sv (all z):=by
 have h1:=pp z;have h2:=Ig zz;refine⟨Int.le_refl _,?_,?_,zz,⟨0,by show(0:Int)=_;lia⟩,Int.dvd_sub (Ia zz) (Int.dvd_refl _),fun e=> ?_⟩
 .show(0:Int)<=4294967296 - 2^z;lia
 .show(4294967296:Int) - 2^z < _;lia
 .have e':(0:Int)=4294967296 - 2^z:=e;show z=Zn 0
  rw[Zn_zero];exact Jr zz (by lia)
theorem Dw {z:Nat}{a b:Int}(ha:(2:Int)^z∣a) (hb:(2:Int)^z∣b) (h:a < b):a<=b - 2^z:=by
 have:=Int.le_of_dvd (show 0 < b - a by lia) (Int.dvd_sub hb ha)
 lia
theorem Bx {z:Nat}{a b:Int}(ha:(2:Int)^z∣a) (h:a<=b):a<=b - b %2^z:=by
 obtain⟨k,rfl⟩:=ha;have h1:=Int.ediv_le_ediv (pp z) h;rw[Int.mul_ediv_cancel_left _ (by have:=pp z;lia)] at h1
 have h2:=Int.mul_le_mul_of_nonneg_left h1 (Int.le_of_lt (pp z));have h3:=Int.mul_ediv_add_emod b (2^z)
 lia
theorem yE (z:Nat) (b:Int):(2:Int)^z∣b - b %2^z:=by
 have h3:=Int.mul_ediv_add_emod b (2^z);exact⟨b / 2^z,by lia⟩
theorem sG {lo hi:Int}{z:Nat}(lh:lo<=hi) (zz:z<=32) (dl:(2:Int)^z∣lo) (dh:(2:Int)^z∣hi):Sv (kept lo hi z):=by
 unfold kept
 split
 .exact GO zz
 .exact eZ (by lia) lh (by lia) zz dl dh
section
variable {l r : Span} {v w : Int} (hl : Sv l) (hr : Sv r) (iv : In v l) (iw : In w r)
include hl
theorem GZ (hr:Sv r):Sv (addS l r):=
 sG (by have:=hl.lh;have:=hr.lh;lia) (by have:=hl.zz;lia) (Int.dvd_add (fP hl.dl) (fi hr.dl)) (Int.dvd_add (fP hl.dh) (fi hr.dh))
theorem Gv (hr:Sv r):Sv (subS l r):=
 sG (by have:=hl.lh;have:=hr.lh;lia) (by have:=hl.zz;lia) (Int.dvd_sub (fP hl.dl) (fi hr.dh)) (Int.dvd_sub (fP hl.dh) (fi hr.dl))
theorem Sv_more (n:Int):Sv (moreS l n):=
 sG (by have:=hl.lh;lia) (by have:=hl.zz;lia) (Int.dvd_add (fP hl.dl) (fi (tL n))) (Int.dvd_add (fP hl.dh) (fi (tL n)))
include iv
end
theorem G9 {v w:Int}(hv:0<=v) (hw:0<=w):0<=Builtin.bitAnd v w/\Builtin.bitAnd v w<=v/\Builtin.bitAnd v w<=w:=by
 rw[bitAnd_pp hv hw];have h1:= @Nat.and_le_left v.toNat w.toNat;have h2:= @Nat.and_le_right v.toNat w.toNat
 lia
theorem Iv {v w:Int}{j:Nat}(hv:0<=v) (hw:0<=w) (h1:v < 2^j) (h2:w < 2^j):v+w - Builtin.bitAnd v w < 2^j:=by
 rw[bitAnd_pp hv hw];have e:((2^j:Nat):Int)=2^j:=by push_cast;rfl
 have h3:= @Nat.or_lt_two_pow v.toNat w.toNat j (by lia) (by lia)
 have h4:=nat_or_add_and v.toNat w.toNat
 lia
theorem AJ (x y:Int):Builtin.bitXor x y=x+y - 2*Builtin.bitAnd x y:=by
 unfold Builtin.bitXor;rw[bitOr_and]
 lia
theorem yu (h1 h2:Int) (a1:h1 < 4294967296) (a2:h2 < 4294967296):∀(k j:Nat),j+k>=32->j<=32->j<=jst h1 h2 k j/\jst h1 h2 k j<=32/\h1 < 2^jst h1 h2 k j/\h2 < 2^jst h1 h2 k j
 | 0,j,hk,hj=>by
  have:j=32:=by lia
  subst this;exact⟨Nat.le_refl _,Nat.le_refl _,by show h1 < 2^32;rw[p32];exact a1,by show h2 < 2^32;rw[p32];exact a2⟩
 | k+1,j,hk,hj=>by
  unfold jst
  split
  .rename_i c
   have hj':j < 32:=by
    rcases Nat.lt_or_ge j 32 with x | x
    .exact x
    .have:j=32:=by lia
     subst this;rw[p32] at c
     lia
   obtain⟨q1,q2,q3,q4⟩:=yu h1 h2 a1 a2 k (j+1) (by lia) (by lia)
   exact⟨by lia,q2,q3,q4⟩
  .exact⟨Nat.le_refl _,hj,by lia,by lia⟩
theorem E9 {h1 h2:Int}{z:Nat}(a1:h1 < 4294967296) (a2:h2 < 4294967296) (zz:z<=32):z<=jf h1 h2 z/\jf h1 h2 z<=32/\h1 < 2^jf h1 h2 z/\h2 < 2^jf h1 h2 z:=
 yu h1 h2 a1 a2 33 z (by lia) zz
section
variable {l r : Span} {v w : Int} (hl : Sv l) (hr : Sv r)
include hl hr
theorem Gs:Sv (andS l r):=by
 have h1:=hl.l0;have h2:=hl.lh;have h3:=hr.l0;have h4:=hr.lh;have h5:=hl.hW;have h6:=hl.zz;have h7:=hr.zz;have h8:=Int.emod_nonneg (min l.hi r.hi) (show(2:Int)^max l.z r.z≠0 by have:=pp (max l.z r.z);lia)
 refine eZ (Int.le_refl _) ?_ ?_ (by lia) ⟨0,by lia⟩ (yE _ _)
 .exact Bx (z:=max l.z r.z) (a:=0) ⟨0,by lia⟩ (by lia)
 .lia
theorem F3 {lo:Int}(h0:0<=lo) (hd:(2:Int)^min l.z r.z∣lo) (hlo:lo<=l.hi\/lo<=r.hi):Sv (orS l r lo):=by
 have hz:min l.z r.z<=32:=by have:=hl.zz;lia
 obtain⟨j1,j2,j3,j4⟩:=E9 hl.hW hr.hW hz;have h1:=pp (min l.z r.z);have h2:=Ig j2;exact eZ h0 (Dw hd (AC j1) (by lia)) (by lia) hz hd (Int.dvd_sub (AC j1) (Int.dvd_refl _))
end
theorem FK (l r:Span):Sv (lessS l r):=by
 unfold lessS
 split
 .exact Sv_single (by decide) (by decide)
 .split
  .exact Sv_single (by decide) (by decide)
  .exact⟨by decide,by decide,by decide,by decide,⟨0,by decide⟩,⟨1,by decide⟩,fun h=>absurd h (by decide)⟩
theorem zN {z t:Nat}{v:Int}(h:(2:Int)^z∣v):(2:Int)^min 32 (z+t)∣v*2^t:=by
 refine Int.dvd_trans (AC (Nat.min_le_right 32 (z+t))) ?_
 rw[Int.pow_add];exact Int.mul_dvd_mul h (Int.dvd_refl _)
theorem EO {l r:Span}(hl:Sv l):Sv (leftS l r):=by
 unfold leftS
 split
 .exact sG (Int.mul_le_mul_of_nonneg_right hl.lh (Int.le_of_lt (pp _))) (Nat.min_le_left _ _) (zN hl.dl) (zN hl.dh)
 .exact Sv_whole
theorem vo {z t:Nat}{v:Int}(h:(2:Int)^z∣v):(2:Int)^(z - t)∣v / 2^t:=by
 rcases Nat.le_total z t with c | c
 .rw[Nat.sub_eq_zero_of_le c];exact⟨v / 2^t,by rw[Int.pow_zero];lia⟩
 .obtain⟨d,rfl⟩:=Nat.exists_eq_add_of_le c;obtain⟨k,rfl⟩:=h;rw[Nat.add_sub_cancel_left,Int.pow_add,Int.mul_assoc,Int.mul_ediv_cancel_left _ (by have:=pp t;lia)]
  exact Int.dvd_mul_right _ _
theorem Dj {v:Int}(t:Nat) (h:0<=v):v / 2^t<=v:=Int.ediv_le_self _ h
theorem Ex {v:Int}(t:Nat) (h:0<=v):0<=v / 2^t:=Int.ediv_nonneg h (Int.le_of_lt (pp t))
theorem C_ {l r:Span}(hl:Sv l):Sv (rightS l r):=by
 have h1:=hl.l0;have h2:=hl.lh;have h3:=hl.hW;have h4:=hl.zz;unfold rightS
 split
 .have h5:=Dj (r.lo %32).toNat (show 0<=l.hi by lia)
  exact eZ (Ex _ h1) (Int.ediv_le_ediv (pp _) h2) (by lia) (by lia) (vo hl.dl) (vo hl.dh)
 .exact eZ (Int.le_refl _) (by lia) h3 (by lia) ⟨0,by lia⟩ ⟨l.hi,by rw[Int.pow_zero];lia⟩
structure Room (k:Nat) (base:Int):Prop where
 k20:k<=20
 b0:0<=base
 bd:(2:Int)^k∣base
 bW:base+2^k<=4294967296
theorem Sv_fit {k:Nat}{base:Int}{s:Span}(R:Room k base) (h:Sv s):Sv (fitS k base s):=by
 unfold fitS
 split
 .exact h
 .have h1:=R.b0;have h2:=R.bW;have h3:=pp k;have h4:=h.zz;have h5:=yE (min s.z (Zn base)) (2^k - 1);have h6:(0:Int)<=(2^k - 1) - (2^k - 1) %2^min s.z (Zn base):=Bx (z:=min s.z (Zn base)) (a:=0) ⟨0,by lia⟩ (by lia)
  have h7:=Int.emod_nonneg ((2:Int)^k - 1) (show(2:Int)^min s.z (Zn base)≠0 by have:=pp (min s.z (Zn base));lia)
  have hb:(2:Int)^min s.z (Zn base)∣base:=fi (tL base);have e:base+2^k - 1 - (2^k - 1) %2^min s.z (Zn base)=base+((2^k - 1) - (2^k - 1) %2^min s.z (Zn base)):=by lia
  rw[e];exact eZ h1 (by lia) (by lia) (by lia) hb (Int.dvd_add hb h5)
theorem aim_le {m s:Nat}(h:m+s<=7) (v:Int):0<=aimV m s v/\aimV m s v<=aimV m s (2^m - 1)/\aimV m s v < 1024:=by
 have h1:=Int.emod_nonneg v (show(2:Int)^m≠0 by have:=pp m;lia)
 have h2:=Int.emod_lt_of_pos v (pp m);have e:((2:Int)^m - 1) %2^m=2^m - 1:=Int.emod_eq_of_lt (by have:=pp m;lia) (by lia)
 have hp:(2:Int)^m*2^s<=128:=by rw[<- Int.pow_add];exact ple h
 unfold aimV;rw[e];have hs:=pp s;refine⟨?_,?_,?_⟩
 .exact Int.mul_nonneg (by lia) (by lia)
 .exact Int.mul_le_mul_of_nonneg_right (by lia) (by lia)
 .have h3:v %2^m*8*2^s<=(2^m - 1)*8*2^s:=Int.mul_le_mul_of_nonneg_right (by lia) (by lia)
  have h4:((2:Int)^m - 1)*8*2^s=8*(2^m*2^s) - 8*2^s:=by
   rw[Int.mul_comm (2^m - 1) 8,Int.mul_assoc,Int.sub_mul,Int.mul_sub]
   lia
  lia
theorem aim_dvd (m s:Nat) (v:Int):(2:Int)^(s+3)∣aimV m s v:=by
 refine⟨v %2^m,?_⟩
 unfold aimV;rw[Int.pow_add];show _=2^s*8*_
 simp only[Int.mul_assoc,Int.mul_comm,Int.mul_left_comm]
theorem Sv_aim {m s:Nat}(h:m+s<=7) (x:Span):Sv (aimS m s x):=by
 obtain⟨a1,a2,a3⟩:=aim_le h x.lo;obtain⟨b1,b2,b3⟩:=aim_le h (2^m - 1);unfold aimS
 split
 .exact Sv_single a1 (by lia)
 .exact eZ (Int.le_refl _) b1 (by lia) (by lia) ⟨0,by lia⟩ (aim_dvd _ _ _)
inductive Op8 where
 | add | sub | and | or | xor | less | left | right
 deriving DecidableEq
def jv:Op8->Int->Int->Int
 | .add,v,w=>(v+w) %4294967296
 | .sub,v,w=>(v - w) %4294967296
 | .and,v,w=>Builtin.bitAnd v w
 | .or,v,w=>Builtin.bitOr v w
 | .xor,v,w=>Builtin.bitXor v w
 | .less,v,w=>if v < w then 1 else 0
 | .left,v,w=>v*2^(w %32).toNat %4294967296
 | .right,v,w=>v / 2^(w %32).toNat
noncomputable def jS0:Op8->Span->Span->Span
 | .add,l,r=>addS l r
 | .sub,l,r=>subS l r
 | .and,l,r=>andS l r
 | .or,l,r=>orS l r (max l.lo r.lo)
 | .xor,l,r=>orS l r 0
 | .less,l,r=>lessS l r
 | .left,l,r=>leftS l r
 | .right,l,r=>rightS l r
noncomputable def jS (o:Op8) (l r:Span):Span:=
 if o≠ .add/\o≠ .sub/\l.lo=l.hi/\r.lo=r.hi then single (jv o l.lo r.lo) else jS0 o l r
theorem Iw (o:Op8) {v w:Int}(hv:0<=v/\v < 4294967296) (hw:0<=w/\w < 4294967296):0<=jv o v w/\jv o v w < 4294967296:=by
 obtain⟨a0,a1,a2⟩:=G9 hv.1 hw.1;have h3:=Iv (j:=32) hv.1 hw.1 (by rw[p32];lia) (by rw[p32];lia)
 rw[p32] at h3
 cases o
 .show 0<=(v+w) %4294967296/\(v+w) %4294967296 < _;lia
 .show 0<=(v - w) %4294967296/\(v - w) %4294967296 < _;lia
 .show 0<=Builtin.bitAnd v w/\Builtin.bitAnd v w < _;lia
 .show 0<=Builtin.bitOr v w/\Builtin.bitOr v w < _;rw[bitOr_and];lia
 .show 0<=Builtin.bitXor v w/\Builtin.bitXor v w < _;rw[AJ];lia
 .show 0<=(if v < w then(1:Int) else 0)/\(if v < w then(1:Int) else 0) < _;split <;> lia
 .show 0<=v*2^(w %32).toNat %4294967296/\v*2^(w %32).toNat %4294967296 < _;lia
 .show 0<=v / 2^(w %32).toNat/\v / 2^(w %32).toNat < _
  have:=Dj (w %32).toNat hv.1;have:=Ex (w %32).toNat hv.1;lia
theorem Sv_j (o:Op8) {l r:Span}(hl:Sv l) (hr:Sv r):Sv (jS o l r):=by
 have l1:=hl.l0;have l2:=hl.lh;have l3:=hl.hW;have r1:=hr.l0;have r2:=hr.lh;have r3:=hr.hW;unfold jS
 split
 .obtain⟨h1,h2⟩:=Iw o (v:=l.lo) (w:=r.lo) ⟨by lia,by lia⟩ ⟨by lia,by lia⟩
  exact Sv_single h1 h2
 .cases o
  .exact GZ hl hr
  .exact Gv hl hr
  .exact Gs hl hr
  .refine F3 hl hr (by lia) ?_ (by lia)
   rcases Int.le_total l.lo r.lo with c | c
   .rw[Int.max_eq_right c];exact fi hr.dl
   .rw[Int.max_eq_left c];exact fP hl.dl
  .exact F3 hl hr (Int.le_refl _) ⟨0,by lia⟩ (by lia)
  .exact FK l r
  .exact EO hl
  .exact C_ hl
end SpM
namespace L2
open PySem PySem.Spec PyProof.Rows PyProof PySem.SeqAt
section
variable {X : Cx}
def C9 (K:Frag) (neg:Bool):R2:=fun x y H Q=>∃(a b:Addr) (ns ms:List Int),x= .ref a/\y= .ref b/\SqT K H a (ns.map V.int)/\SqT K H b (ms.map V.int)/\Q (.bl (if neg then !decide (ns=ms) else decide (ns=ms))) H
theorem fA (ns:List Int):shaped (.tuple (ns.map PyData.int))=true:=by
 have h1:=W.depthAll_ints ns;have h2:PyData.depth (.tuple (ns.map PyData.int))<=64:=by simp only[PyData.depth];lia
 show(PyData.canLay0 (.tuple (ns.map PyData.int)) && decide (PyData.depth (.tuple (ns.map PyData.int))<=64))=true
 rw[Bool.and_eq_true];exact⟨by simp only[PyData.canLay0];exact W.canLayAll0_ints ns,decide_eq_true h2⟩
theorem gm {h:Heap}{a:Addr}{vs:List Value}{ns:List Int}(hl:h.IsTuple a vs.toArray) (hi:IntsAre vs ns):Reads h (.ref a) (.tuple (ns.map PyData.int)) []:=by
 obtain⟨o,ho,hc,n,hd⟩:=hl;exact Reads.tuple ho hc hd (by simpa using W.readsAll_of_ints hi)
theorem zr (hu:X.A.units+64 < cLine):OpR X (compareOp .Eq) (C9 X.K false):=by
 intro pins s Z H x y v u Q I rx ry h;obtain⟨a,b,ns,ms,rfl,rfl,h1,h2,q⟩:=h
 cases rx
 cases ry
 obtain⟨its,r,pl,_⟩:=I.tuple h1;obtain⟨its2,r2,pl2,_⟩:=I.tuple h2;exact eq_dataH_same (gm pl (cK r)) (gm pl2 (cK r2)) (fA ns) (fA ms) hu (by simp only[noMix];exact W.noMix_ints ns ms) (by simp only[PySem.Spec.same];rw[W.same_ints];exact⟨.bl _,H,I,rfl,q⟩)
def Ik (wi:TI):TI:=fun Z H R=>wi Z H fun J H1=>aA (R J H1)
theorem dB {tg iter:Expr}{wi:TI}(h:PI X tg iter wi):PI X tg iter (Ik wi):=by
 intro pins s Z H R I hw;refine thn (h pins s Z H _ I hw) fun v s1 h1=>thn h1 fun it s2 h2=> ?_
 obtain⟨it',fp,tn,J,H',e1,I1,T1,t0,hf,r⟩:=h2;exact⟨it',fp,tn,J,H',e1,I1,T1,t0,hf,r.out⟩
end
end L2
namespace L2
open PySem PySem.Spec PyProof.Rows
section
variable {X : Cx}
structure dD (P:Program) (w:World) (K:Frag) (mg:Str->Option Value) (base:Heap) (k:Nat) (C:Addr) (m:Str) (ps:List Str) (sp:Sp):Prop where
 ex:∃(f:Addr) (fd:FuncData),Cls K C/\Df K C m f/\gE K fd ps []/\iF P w K mg base CX0 k f fd ps sp
theorem dD.mono {P:Program}{w:World}{K:Frag}{mg:Str->Option Value}{base:Heap}{j k:Nat}{C:Addr}{m:Str}{ps:List Str}{sp:Sp}(h:dD P w K mg base j C m ps sp) (hj:j<=k):dD P w K mg base k C m ps sp:=by
 obtain⟨f,fd,h1,h2,h3,h4⟩:=h.ex;exact⟨f,fd,h1,h2,h3,h4.mono hj⟩
theorem eA {k:Nat}{C:Addr}{m:Str}{ps:List Str}{sp:Sp}{o e:Expr}{es:List Expr}{ta:TE}{t:TA}{apos pos:Pos}{pl:Sem Bool}(h:dD X.prog X.w X.K X.mg X.base k C m ps sp) (hr:Room k X.A) (he:PE X o ta) (ha:PA X (e::es) t)
  (hst:starEach (e::es) X.env=(false,eval e X.env)::starEach es X.env:=by rfl) (hpl:(backTo pos (starEach es X.env)).any (·.1)=false:=by rfl)
  (ht:eval (.Call (.Attribute o m apos) (e::es) [] pos) X.env=(do
   let ov <-eval o X.env
   standAt apos.atName
   let (f,first) <-holding [ov] (getMethod ov m pl)
   callWith pos f first (backTo pos (starEach (e::es) X.env)) (backToKw pos (keywordEach [] X.env))):=by rfl):
  PE X (.Call (.Attribute o m apos) (e::es) [] pos) (BB C m sp [] E0 ta t):=by
 obtain⟨f,fd,c,hm,hb,F⟩:=h.ex;exact Fr (pl:=pl) he c hm F hr hb .nil vY ha hst hpl ht
theorem jD {k:Nat}{C:Addr}{m:Str}{ps:List Str}{sp:Sp}{o:Expr}{ta:TE}{apos pos:Pos}{pl:Sem Bool}(h:dD X.prog X.w X.K X.mg X.base k C m ps sp) (hr:Room k X.A) (he:PE X o ta)
  (ht:eval (.Call (.Attribute o m apos) [] [] pos) X.env=(do
   let ov <-eval o X.env
   standAt apos.atName
   let (f,first) <-holding [ov] (getMethod ov m pl)
   callWith pos f first (backTo pos (starEach [] X.env)) (backToKw pos (keywordEach [] X.env))):=by rfl):
  PE X (.Call (.Attribute o m apos) [] [] pos) (BB C m sp [] E0 ta sP):=by
 obtain⟨f,fd,c,hm,hb,F⟩:=h.ex;exact Do (pl:=pl) he c hm F hr hb .nil vY ht
structure gF (K:Frag) (mg:Str->Option Value) (x:Str) (C:Addr):Prop where
 mg:mg x=some (.ref C)
 cl:Cls K C
 mks:W.makesIn K C=true
 kp:W.keepIn K (.ref C)=true
theorem Ee {k:Nat}{C:Addr}{x:Str}{ps:List Str}{sp:Sp}{e:Expr}{es:List Expr}{t:TA}{p pos:Pos}(c:gF X.K X.mg x C) (h:dD X.prog X.w X.K X.mg X.base k C "__init__" ps sp) (hr:Room (k+1) X.A) (hg:Gl X x)
  (ha:PA X (e::es) t) (hdb:(x == ("__debug__":Str))=false:=by decide) (he:starEach (e::es) X.env=(false,eval e X.env)::starEach es X.env:=by rfl) (hpl:(backTo pos (starEach es X.env)).any (·.1)=false:=by rfl):
  PE X (.Call (.Name x p) (e::es) [] pos) (Bf C sp [] E0 t):=by
 obtain⟨f,fd,_,hm,hb,F⟩:=h.ex;exact FC ⟨c.mks,hm.at_,hm.fn,c.kp⟩ F hr hg c.mg hb .nil vY ha hdb he hpl
structure oX (K:Frag) (C:Addr) (m qual:Str) (st:Stmt) (ps:List Str):Prop where
 ex:∃(f:Addr) (fd:FuncData),Fun K m qual st f fd/\Df K C m f/\gE K fd ps []
theorem oX.has {P:Program}{w:World}{K:Frag}{mg:Str->Option Value}{base:Heap}{k:Nat}{C:Addr}{m qual:Str}{st:Stmt}{N ps:List Str}{sp:Sp}(D:oX K C m qual st ps) (c:Cls K C) (S:aq N ps (ag st)) (len:∀vs H Q E,sp vs H Q E->vs.length=ps.length)
  (hbody:∀(f:Addr) (cdv:Value) (A:Around) (outer:List Env) (s:Shared) (H:Hp) (vs:List V) (Q:VK) (E:XK),Room k (A.deeper (envOfC qual (ag st) s.heap.objs.size f cdv))->sp vs H Q E->
   ∃t,PSs (pC CX0 P w K mg base N qual (ag st) f cdv A outer s H E).nox (dZ st) t/\t {nx:=fun _ H'=>Q .non H',rt:=Q} (start N vs) H):dD P w K mg base (k+1) C m ps sp:=by
 obtain⟨f,fd,F,hm,hb⟩:=D.ex;exact⟨f,fd,c,hm,hb,F.ok S len fun cdv A outer s H vs Q E hr h=>hbody f cdv A outer s H vs Q E hr h⟩
def BdM (x qual:Str) (st:Stmt) (ps:List Str):Prop:=∀(kV doc pm:Value) (an:Option Addr) (cdv ct:Value) (us:List Value),us.length=ps.length->
 bindArgs (W.fnOf x qual (gH st) (dZ st) (ag st) .none kV doc pm an cdv ct) ⟨us,[]⟩=pure (ps.zip us)
theorem fo {K:Frag}{x qual:Str}{st:Stmt}{ps:List Str}{C f:Addr}{od an:Option Addr}{sl:Array (Option Value)}{oc kV dc pm cd ct:Value}(b:BdM x qual st ps)
  (a:W.findIn K (.ref C) x=some (some (.ref f))) (l:K.lookup f=some ⟨oc,od,.func (W.fnOf x qual (gH st) (dZ st) (ag st) .none kV dc pm an cd ct),sl⟩) (c:W.codeIn K cd qual=true) (fn:W.isFn K (.ref f)=true) (k:W.keepIn K (.ref f)=true):
  oX K C x qual st ps:=by
 have F:=AI (st:=st) l c k;exact⟨f,_,F,⟨a,fn,k⟩,F.binds b⟩
theorem By {K:Frag}{h:Heap}{mg:Str->Option Value}{x:Str}{C:Addr}(X:K.In h) (G:h.Ns mainGlobals mg) (a:W.nsIn K mainGlobals x=some (some (.ref C)))
  (pg:W.plainGet K C Str.empty=true) (hd:W.hasDictIn K C=true) (po:W.plainOver K C=true) (sa:W.findIn K (.ref C) "__setattr__"=some (some (.builtin "object.__setattr__")))
  (mk:W.makesIn K C=true) (kp:W.keepIn K (.ref C)=true):gF K mg x C:=⟨W.mg_of X G a,⟨pg,hd,po,sa⟩,mk,kp⟩
def Gg (kvs:List (Key × V)):Prop:=∀kv∈kvs, ∃i:Int,kv.2= .int i
theorem yw:∀ {kvs:List (Key × V)}{k:Key}{v:V},(kvs.map (·.1)).Nodup->(k,v)∈kvs->gI kvs k=some v
 | p::r,k,v,hn,hm=>by
  rw[List.map_cons,List.nodup_cons] at hn;rcases List.mem_cons.mp hm with e | hm
  .subst e;exact iA rfl
  .rw[gj (fun e=>hn.1 (by rw[e];exact List.mem_map_of_mem (f:=(·.1)) hm))]
   exact yw hn.2 hm
theorem Ce {A:Around}{s:Shared}{kvs:List (Key × V)}{kb:List (Key × Value)}(rb:KV kvs kb) (hi:Gg kvs) (hn:(kvs.map (·.1)).Nodup):∀ {l:List (Key × V)}{la:List (Key × Value)},KV l la->(∀ x∈l,x∈kvs)->PySem.W.KeqHits A s kb la true:=by
 intro l la r;unfold KV at r
 induction r with
 | nil=>intro _;exact .nil
 | @cons p q ps qs h t ih=>
  intro hm;obtain⟨i,ei⟩:=hi p (hm p (List.mem_cons_self ..));have hv:gI kvs p.1=some p.2:=yw hn (hm p (List.mem_cons_self ..));have ho:=rb.val p.1;rw[hv,ei] at ho;obtain⟨h1,h2⟩:=h;rw[ei] at h2;obtain⟨tk,hq⟩:=(show ∃tk,q.2=Value.int i tk from h2)
  cases hb:valueAt kb p.1 with
  | none=>rw[hb] at ho;exact ho.elim
  | some y=>
   rw[hb] at ho;obtain⟨tk2,hy⟩:=(show ∃tk,y=Value.int i tk from ho)
   have e:=PySem.W.KeqHits.hit (A:=A) (s:=s) (kb:=kb) (k:=q.1) (v:=q.2) (y:=y) (e:=true) (r:=qs) (b:=true) (by rw[<- h1];exact hb) (by
    rw[hq,hy];have:=SeqAt.EqAt.int_int (A:=A) (s:=s) i tk i tk2;rw[beq_self_eq_true] at this
    exact this) (ih fun x hx=>hm x (List.mem_cons_of_mem _ hx))
   exact e
theorem mS:mG X (.type "tuple") (fun xs H Q=>∃p ys,xs=[V.ref p]/\SqL X.K H p ys/\∀l,H l=none->Q (.ref l) (upd H l (.tup ys))):=by
 intro pins s Z H xs us Q I r h;obtain⟨p,ys,e,h1,q⟩:=h;exact gg pins s Z H xs us Q I r ⟨p,ys,e,.inl ⟨h1,q⟩⟩
end
end L2
namespace L2
open PySem PySem.Spec PyProof.Rows PyProof PySem.SeqAt
section
variable {X : Cx}
theorem zU {s:Str}(ns:List Int) (hs:PyData.strOk s=true):shaped (.tuple (.str s::ns.map PyData.int))=true:=by
 have h1:=W.depthAll_ints ns;have h2:PyData.depth (.tuple (.str s::ns.map PyData.int))<=64:=by simp only[PyData.depth,PyData.depthAll];lia
 show(PyData.canLay0 (.tuple (.str s::ns.map PyData.int)) && decide (PyData.depth (.tuple (.str s::ns.map PyData.int))<=64))=true
 rw[Bool.and_eq_true];exact⟨by simp only[PyData.canLay0,PyData.canLayAll0];simp [W.canLayAll0_ints ns,hs],decide_eq_true h2⟩
theorem BU {h:Heap}{a:Addr}{vs:List Value}{s:Str}{ns:List Int}(hl:h.IsTuple a vs.toArray) (hv:aX (.str s::ns.map V.int) vs):Reads h (.ref a) (.tuple (.str s::ns.map PyData.int)) []:=by
 obtain⟨o,ho,hc,n,hd⟩:=hl
 cases hv with
 | cons r rs=>
  obtain⟨t,rfl⟩:=r;refine Reads.tuple ho hc hd ?_
  have:=ReadsAll.cons (Reads.str (h:=h) s t) (W.readsAll_of_ints (h:=h) (cK rs))
  simpa using this
end
end L2
namespace L2
open PySem PySem.Spec PyProof.Rows PyProof
theorem Hx {K:Frag}{p:Addr}{xs:List V}{i:Int}{v:V}{H:Hp}{Q:VK}(h:SqT K H p xs) (a:atI xs i=some v) (q:Q v H):E4 K (.ref p) (.int i) H Q:=⟨p,xs,i,v,rfl,rfl,h,a,q⟩
end L2
namespace L2
open PySem PySem.Spec PyProof.Rows
theorem cO.there {P:Program}{w:World}{H:Hp}{h:Heap}{a:Addr}{o:HO}(x:cO P w H h a o):∃ob,h.get? a=some ob:=by
 cases o with
 | lst xs=>obtain⟨_,_,_,_,q⟩:=x;exact⟨_,q⟩
 | tup xs=>obtain⟨_,_,_,_,q,_⟩:=x;exact⟨_,q⟩
 | dK kvs=>obtain⟨_,_,_,_,_,_,_,q,_⟩:=x;exact⟨_,q⟩
 | dT kvs=>obtain⟨_,_,_,_,_,_,_,q,_⟩:=x;exact⟨_,q⟩
 | set S n=>obtain⟨_,_,_,_,q,_⟩:=x;exact⟨_,q⟩
 | ins C dx fs=>obtain⟨_,_,_,q,_⟩:=x;exact⟨_,q⟩
 | own y=>exact x
 | xd fs=>obtain⟨_,⟨_,_,_,q,_⟩,_⟩:=x;exact⟨_,q⟩
 | rng lo hi=>obtain⟨_,_,_,q⟩:=x;exact⟨_,q⟩
 | frz ob u=>obtain⟨q,_⟩:=x;exact⟨_,q⟩
 | tbl ps=>exact⟨_,(show h.get? a=some _ from x)⟩
 | met f y=>exact⟨_,(show h.get? a=some _ from x)⟩
 | ext φ=>obtain⟨_,q,_⟩:=x;exact q
structure uX (P:Program) (w:World) (l:List Env) (H:Hp) (s:Shared) (H':Hp) (B h':Heap):Prop where
 un:Un (frs l) [] H H' s.heap h'
 hok:HOk P w H' h'
 st:B.StaysIn h'
 kb:∀b o,s.heap.get? b=some o->H b=none->b ∉ frs l->B.get? b=some o
 hb:∀a u,H' a=some u->∃o,B.get? a=some o
 ab:∀b o,s.heap.get? b=some o->b ∉ frs l->∃o',B.get? b=some o'
 nf:∀b∈frs l, ∃o,h'.get? b=some o/\∀vs,o.data≠ .fields vs
theorem uX.next {P:Program}{w:World}{l:List Env}{H H':Hp}{s:Shared}{B h1 h2:Heap}(F:uX P w l H s H' B h1) (st:B.StaysIn h2) (us:h1.UpToSlots h2):uX P w l H s H' B h2 where
 un:=by
  refine⟨fun b o q n hb _=>st _ _ (F.kb b o q n hb),fun b o q n hb hx=> ?_,F.un.free,fun b o q hx=> ?_,F.un.tups,F.un.frzs,F.un.tbls⟩
  .obtain⟨sl,e⟩:=F.un.slot b o q n hb hx;obtain⟨o2,e2,d⟩:=F.nf b hb;rw[e] at e2
   cases e2
   obtain⟨sl2,e3⟩:=us b _ e d;exact⟨sl2,e3⟩
  .by_cases hb:b∈frs l
   .obtain⟨o2,e2,d⟩:=F.nf b hb;obtain⟨sl2,e3⟩:=us b _ e2 d;exact⟨_,e3⟩
   .obtain⟨o2,e2⟩:=F.ab b o q hb;exact⟨o2,st _ _ e2⟩
 hok:=fun a u e=>(F.hok a u e).stay (fun b ob hb q=>by
  have:∃v,H' b=some v:=by
   rcases hb with rfl | hb
   .exact⟨_,e⟩
   .exact⟨_,hb⟩
  obtain⟨v,hv⟩:=this;obtain⟨o2,e2⟩:=F.hb b v hv;have e3:=F.st _ _ e2;rw[q] at e3
  cases e3
  exact st _ _ e2) (fun _ q=>q) fun _ _ q=>q
 st:=st
 kb:=F.kb
 hb:=F.hb
 ab:=F.ab
 nf:=fun b hb=>by
  obtain⟨o2,e2,d⟩:=F.nf b hb;obtain⟨sl2,e3⟩:=us b _ e2 d;exact⟨_,e3,d⟩
section
variable {X : Cx} {pins : List (Addr × Obj)} {σ : St} {H H' : Hp} {s : Shared} {B h' : Heap}
theorem uX.start (I:Inv X pins Z H s) (k:∀b o,s.heap.get? b=some o->h'.get? b=some o):uX X.prog X.w X.stack H s H (W.hideAll s.heap (frs X.stack)) h' where
 un:=Un.kept k
 hok:=I.hok.kept k
 st:=fun b o q=>k _ _ (W.of_hideAll _ q)
 kb:=fun b o q _ hb=>W.hideAll_get _ q hb
 hb:=fun a u e=>by
  obtain⟨o,q⟩:=(I.hok a u e).there;refine⟨o,W.hideAll_get _ q fun z=> ?_⟩
  rw[I.stkFree a z] at e
  cases e
 ab:=fun b o q hb=>⟨o,W.hideAll_get _ q hb⟩
 nf:=fun b hb=>by
  obtain⟨_,o,ho,d⟩:=I.stack.mem hb;exact⟨o,k _ _ ho,d⟩
theorem uX.pop (F:uX X.prog X.w X.stack H s H' B h') (I:Inv X pins Z H s) (hs:X.stack=X.env::X.outer) (hx:X.ex=[]):uX X.prog X.w X.outer X.H₀ X.s₀ H' B h':=by
 have J:Inv X pins Z H' {s with heap:=h',gens:=s.gens,drawn:=s.drawn,toks:=s.toks}:=I.call (ch:=[]) F.un F.hok I.bare (fun b z=>absurd z (by simp))
 have nx:∀b:Addr,b ∉ X.ex:=fun b z=>by rw[hx] at z;exact absurd z (by simp)
 have nl:∀b o,X.s₀.heap.get? b=some o->b ∉ frs X.outer->b ∉ frs X.stack:=fun b o q hb z=>by
  rcases List.mem_cons.mp (I.stkSub b z) with e | e
  .have h1:=Heap.lt_size q;have h2:=I.ok.above;rw[e] at h1;exact absurd (Nat.lt_of_lt_of_le h1 h2) (Nat.lt_irrefl _)
  .exact hb e
 refine⟨?_,F.hok,F.st,fun b o q n hb=> ?_,F.hb,fun b o q hb=> ?_,fun b hb=> ?_⟩
 .have u:=J.base;rw[hx] at u;exact u
 .exact F.kb b o (I.base.keep b o q n hb (nx b)) (I.base.free b o q n (nx b)) (nl b o q hb)
 .obtain⟨o2,e2⟩:=I.base.there b o q (nx b);exact F.ab b o2 e2 (nl b o q hb)
 .refine F.nf b ?_
  rw[hs];obtain⟨e,he,hf⟩:=List.mem_filterMap.mp hb;exact List.mem_filterMap.mpr ⟨e,List.mem_cons_of_mem _ he,hf⟩
end
def CXL (P:Program) (w:World):CXT:=fun outer H s E e s'=>
 ∃x cls H' B a0,e=Value.ref x/\s'.os=s.os/\AllBare s'.gens/\uX P w outer H s H' B s'.heap/\Heap.FlyingW B outer x cls a0 s'.heap/\E cls none H'
abbrev vbm:List Value:=[.type "ValueError",.type "Exception",.type "BaseException",.type "object"]
structure Cp (K:Frag) (C:Addr):Prop where
 ex:W.excIn K C vbm "ValueError.__new__"=true
theorem Cp.obj {K:Frag}{C:Addr}{h:Heap}(c:Cp K C) (X:K.In h):∃bm N nm q bs hdct sn sub ab col dd k0 k1 k2 k3 k5 mN,
  h.get? C=some (excClassObj nm q C N bs bm hdct sn sub ab col dd k0 k1 k2 k3 k5 "ValueError.__new__")/\h.Ns N mN/\mN "__init__"=none/\OwnTail h vbm bm:=by
 have q:=c.ex;unfold W.excIn at q
 split at q
 case h_2=>cases q
 case h_1 dd cd sl ho=>
  split at q
  case h_2=>cases q
  case h_1 C' bm k0 k1 k2 k3 n k5 hm hs=>
   rw[Bool.and_eq_true,Bool.and_eq_true,Bool.and_eq_true,Bool.and_eq_true,Bool.and_eq_true] at q;obtain⟨⟨⟨⟨⟨q1,q2⟩,q3⟩,q4⟩,q5⟩,q6⟩:=q;have e1:=beq_iff_eq.mp q1;have e2:=beq_iff_eq.mp q2;have e6:=beq_iff_eq.mp q6;subst e1 e2;obtain⟨nm,bs,mro,ns,qn,hd,sn,sub,ab,col,del⟩:=cd;have e3:del=false:=by simpa using q3
   have e7:mro= .ref C'::bm:=hm;subst e3 e7;have e8:sl= #[k0,k1,k2,k3,some (.builtin "ValueError.__new__"),k5]:=by
    apply Array.ext'
    exact hs
   subst e8;exact⟨bm,ns,nm,qn,bs,hd,sn,sub,ab,col,dd,k0,k1,k2,k3,k5,_,X _ _ ho,Heap.Ns.of_isNs (W.isNs_of_in X q5),W.nsMap_none_of_in X q5 e6,W.tail_of_in X q4⟩
section
variable {P : Program} {w : World} {K : Frag} {mg : Str → Option Value} {base : Heap} {N : List Str} {qual : Str} {scope : Scope} {f : Addr} {cd : Value} {A : Around} {outer : List Env} {s₀ : Shared} {H₀ : Hp} {E : XK}
def GH (E:XK) (C:Addr):TS:=fun _ _ H=>E (.ref C) none H
theorem Ck {x:Str}{C:Addr}{np cpos pos:Pos}(c:Cp K C) (hg:Gl (pC (CXL P w) P w K mg base N qual scope f cd A outer s₀ H₀ E) x) (hm:mg x=some (.ref C)) (hdb:(x == ("__debug__":Str))=false:=by decide):
  PS (pC (CXL P w) P w K mg base N qual scope f cd A outer s₀ H₀ E) (.Raise (some (.Call (.Name x np) [] [] cpos)) none pos) (GH E C):=by
 intro pins s Z H D I h;obtain⟨bm,N',nm,q,bs,hdct,sn,sub,ab,col,dd,k0,k1,k2,k3,k5,mN,hC,hN,hni,T⟩:=c.obj I.kIn;refine wpAny_Raise_call_subT (C:=C) (nm:=nm) (q:=q) (N:=N') (bs:=bs) (bm:=bm) (hdct:=hdct) (sn:=sn) (sub:=sub) (ab:=ab) (col:=col) (dd:=dd) (k0:=k0) (k1:=k1) (k2:=k2) (k3:=k3) (k5:=k5)
  F.excBase_ValueError (mN:=mN) (T.hasType rfl) (I.ok.hd rfl) rfl hni (jT I hg hm ⟨rfl,evalArgs_empty ⟨rfl,Nat.zero_le _,hC,hN,T,fun h' e m=> ?_⟩⟩ hdb)
 have F0:=uX.start I m.keeps;refine wpAny_leaves_madeW (base:=W.hideAll s.heap (frs (envOfC qual scope s₀.heap.objs.size f cd::outer))) (h:=s.heap) I.ok.frames rfl (fun b o q=>W.of_hideAll _ q) (W.funFrames_hide I.stack fun env he a ha=>List.mem_filterMap.mpr ⟨env,he,ha⟩) m fun h2 t fl _ _ us=> ?_
 exact⟨e,.ref C,H,_,_,rfl,I.os,I.bare,(F0.next fl.1 us).pop I rfl rfl,fl,h⟩
end
def F8 (CX:CXT) (X:Cx) (Ef:St->XK):Prop:=∀(pins:List (Addr × Obj)) (Z:St) (H:Hp) (s:Shared) (e:Value) (s':Shared),Inv X pins Z H s->CX X.stack H s (Ef Z) e s'->X.xe e s'
section
variable {P : Program} {w : World} {K : Frag} {mg : Str → Option Value} {base : Heap} {N : List Str} {qual : Str} {scope : Scope} {f : Addr} {cd : Value} {A : Around} {outer : List Env} {s₀ : Shared} {H₀ : Hp} {E : XK}
theorem sS:F8 (CXL P w) (pC (CXL P w) P w K mg base N qual scope f cd A outer s₀ H₀ E) (fun _=>E):=by
 rintro pins Z H s e s' I ⟨x,cls,H',B,a0,rfl,os,bare,F,fl,q⟩
 refine wpAny_leaves_onW I.ok.frames rfl fl fun h2 fl2 us=> ?_
 exact⟨x,cls,H',B,a0,rfl,os.trans I.os,bare,(F.next fl2.1 us).pop I rfl rfl,fl2,q⟩
end
structure rT (P:Program) (w:World) (K:Frag) (mg:Str->Option Value) (base:Heap) (k:Nat) (x:Str) (ps:List Str) (sp:Sp):Prop where
 ex:∃(f:Addr) (fd:FuncData),mg x=some (.ref f)/\W.keepIn K (.ref f)=true/\gE K fd ps []/\iF P w K mg base (CXL P w) k f fd ps sp
theorem Def.hasX {P:Program}{w:World}{K:Frag}{mg:Str->Option Value}{base:Heap}{k:Nat}{x:Str}{st:Stmt}{N ps:List Str}{sp:Sp}(D:Def K mg x st ps) (S:aq N ps (ag st)) (len:∀vs H Q E,sp vs H Q E->vs.length=ps.length)
  (hbody:∀(f:Addr) (cdv:Value) (A:Around) (outer:List Env) (s:Shared) (H:Hp) (vs:List V) (Q:VK) (E:XK),Room k (A.deeper (envOfC x (ag st) s.heap.objs.size f cdv))->sp vs H Q E->
   ∃t,PSs (pC (CXL P w) P w K mg base N x (ag st) f cdv A outer s H E) (dZ st) t/\t {nx:=fun _ H'=>Q .non H',rt:=Q} (start N vs) H):rT P w K mg base (k+1) x ps sp:=by
 obtain⟨f,fd,F,hm,hb⟩:=D.ex;obtain⟨oc,od,kV,doc,pm,an,cdv,ct,osl,rfl,lk,hcd⟩:=F.ex;exact⟨f,_,hm,F.kp,hb,Gj lk hcd S len fun A outer s H vs Q E hr h=>hbody f cdv A outer s H vs Q E hr h⟩
theorem rT.mono {P:Program}{w:World}{K:Frag}{mg:Str->Option Value}{base:Heap}{j k:Nat}{x:Str}{ps:List Str}{sp:Sp}(h:rT P w K mg base j x ps sp) (hj:j<=k):rT P w K mg base k x ps sp:=by
 obtain⟨f,fd,h1,h2,h3,h4⟩:=h.ex;exact⟨f,fd,h1,h2,h3,h4.mono hj⟩
theorem oI {X:Cx}{st:Stmt}{t:TS}(h:PS X.nox st t):PS X st t:=fun pins s Z H D I hw=>
 wpAny_mono (h pins s Z H D (I.wish _) hw) (fun _ _ q=>q.unwish) fun _ _ z=>False.elim z
def He (sp:Sp) (Ef:St->XK) (t:TA):TE:=fun Z H Q=>t Z H fun vs H1=>sp vs H1 Q (Ef Z)
section
variable {X : Cx}
theorem zA {k:Nat}{x:Str}{ps:List Str}{sp:Sp}{Ef:St->XK}{e:Expr}{es:List Expr}{t:TA}{p pos:Pos}(h:rT X.prog X.w X.K X.mg X.base k x ps sp) (hr:Room k X.A) (hg:Gl X x) (hc:F8 (CXL X.prog X.w) X Ef)
  (ha:PA X (e::es) t) (hdb:(x == ("__debug__":Str))=false:=by decide) (he:starEach (e::es) X.env=(false,eval e X.env)::starEach es X.env:=by rfl) (hpl:(backTo pos (starEach es X.env)).any (·.1)=false:=by rfl):
  PE X (.Call (.Name x p) (e::es) [] pos) (He sp Ef t):=by
 obtain⟨f,fd,hm,hk,hb,F⟩:=h.ex;intro pins s Z H Q I hh;refine wpAny_Call_Name_kw (jT I hg hm ?_ hdb)
 refine W.callWith_K (h₀:=X.base) I.ok.mod.kin hk (dj (ha pos pins s Z H _ I hh) fun us s1 vs H1 I1 r q=>⟨I1.kIn,?_⟩) he hpl
 have hl:(us++[]).length=ps.length:=by
  rw[List.append_nil, <-r.length];exact F.len _ _ _ _ q
 have hb1:=hb s1 us I1.kIn hl;rw[List.append_nil] at hb1;refine wpAny_call (codeAny_mono (F.run X.A X.stack s1 H1 ⟨us,[]⟩ us vs Q (Ef Z) hr I1.env0 hb1 r q) fun r2 s2 hq=> ?_)
 cases r2 with
 | error e=>exact hc pins Z H1 s1 e s2 I1 hq
 | ok fl=>
  cases fl with
  | ret u=>exact I1.after hq
  | next=>exact False.elim hq
  | brk=>exact False.elim hq
  | cont=>exact False.elim hq
variable {pins : List (Addr × Obj)} {σ : St} {H : Hp} {s : Shared}
end
end L2
namespace L2
open PySem PySem.Spec PyProof.Rows PyProof PySem.SeqAt
theorem wG:∀ {ns:List Int}{its:List Value},aX (ns.map V.int) its->∃ps:List (Int × Tok),its=ps.map (fun p=>Value.int p.1 p.2)/\ps.map (·.1)=ns
 | [],its,r=>by
  cases r
  exact⟨[],rfl,rfl⟩
 | n::ns,its,r=>by
  cases r with
  | cons q r=>
   obtain⟨ps,h1,h2⟩:=wG r;obtain⟨t,e⟩:=q;exact⟨(n,t)::ps,by rw[e,h1];rfl,by rw[<- h2];rfl⟩
theorem rF (ps:List (Int × Tok)):(ps.map (fun p=>Value.int p.1 p.2)).toArray=intItems ps.toArray:=by
 simp [intItems]
section
variable {X : Cx}
theorem D_ (hc:X.calm=true):mG X (.builtin "sum") (fun xs H Q=>∃(p:Addr) (ns:List Int),xs=[.ref p]/\SqL X.K H p (ns.map V.int)/\(∀ j,j < ns.length->InLong (ns.getD j 0)/\InLong (ns.take (j+1)).sum)/\Q (.int ns.sum) H):=by
 intro pins s Z H xs us Q I r h;obtain⟨p,ns,rfl,hq,hf,q⟩:=h;obtain⟨u,rfl,ru⟩:=tK r
 cases ru
 obtain⟨its,rv,pl,hz⟩:=I.list hq;obtain⟨ps,e1,e2⟩:=wG rv;have hl:=pl.isList;rw[e1,rF] at hl;have hlen:ps.length=ns.length:=by rw[<- e2,List.length_map]
 refine sum_intList (I.ok.hd hc) hl (fun j hj=> ?_) fun h' tk t' k=> ?_
 .have hj':j < ns.length:=by simpa [hlen] using hj
  rw[numAt_eq,preSum_eq];have:=hf j hj'
  simp only[e2]
  exact this
 .rw[preSum_eq];have e:((ps.toArray.toList.map (·.1)).take ps.toArray.size).sum=ns.sum:=by
   show((ps.map (·.1)).take ps.length).sum=ns.sum
   rw[e2,hlen,List.take_length]
  rw[e];exact⟨.int ns.sum,H,I.kept (t':=tk) k,⟨_,rfl⟩,q⟩
theorem vS (hc:X.calm=true):mG X (.builtin "max") (fun xs H Q=>∃(p:Addr) (ns:List Int),xs=[.ref p]/\SqL X.K H p (ns.map V.int)/\ns≠[]/\∀m,m∈ns->(∀ n∈ns,n<=m)->Q (.int m) H):=by
 intro pins s Z H xs us Q I r h;obtain⟨p,ns,rfl,hq,hne,q⟩:=h;obtain⟨u,rfl,ru⟩:=tK r
 cases ru
 obtain⟨its,rv,pl,hz⟩:=I.list hq;obtain⟨ps,e1,e2⟩:=wG rv;have hl:=pl.isList;rw[e1,rF] at hl;have hlen:ps.length=ns.length:=by rw[<- e2,List.length_map]
 have h0:0 < ns.length:=List.length_pos_iff.mpr hne;refine max_intList (I.ok.hd hc) hl (by show 0 < ps.length;lia) fun v h' tk hv k=> ?_
 have z:ps.toArray.size=ns.length:=by show ps.length=_;exact hlen
 rw[z] at hv;obtain⟨b1,b2⟩:=argBest_gt (numAt ps.toArray) (ns.length - 1);obtain⟨t,rfl⟩:=intItems_at hv;have nm:∀j,numAt ps.toArray j=ns.getD j 0:=fun j=>by rw[numAt_eq];show(ps.map (·.1)).getD j 0=_;rw[e2]
 rw[nm];rw[nm] at b2;generalize argBest (fun i j=>decide (numAt ps.toArray i >numAt ps.toArray j)) (ns.length - 1)=k0 at*
 have hk0:k0 < ns.length:=by lia
 refine⟨.int (ns.getD k0 0),H,I.kept (t':=tk) k,⟨_,rfl⟩,q _ ?_ fun n hn=> ?_⟩
 .simp [List.getD,List.getElem?_eq_getElem hk0]
 .obtain⟨j,hj,rfl⟩:=List.mem_iff_getElem.mp hn;have:=b2 j (by lia)
  rw[nm] at this
  simpa [List.getD,List.getElem?_eq_getElem hj] using this
end
theorem vU {X:Cx}{k:Nat}{C:Addr}{x:Str}{ps:List Str}{sp:Sp}{p pos:Pos}(c:gF X.K X.mg x C) (h:dD X.prog X.w X.K X.mg X.base k C "__init__" ps sp) (hr:Room (k+1) X.A) (hg:Gl X x)
  (hdb:(x == ("__debug__":Str))=false:=by decide):PE X (.Call (.Name x p) [] [] pos) (Bf C sp [] E0 sP):=by
 obtain⟨f,fd,_,hm,hb,F⟩:=h.ex;exact Db ⟨c.mks,hm.at_,hm.fn,c.kp⟩ F hr hg c.mg hb .nil vY hdb
def Ite (K : Frag) (a : Addr) : It :=
  ⟨fun i H => ∃ xs x, SqL K H a xs ∧ xs[i]? = some x,
   fun i H v H' => ∃ p x, H p = none ∧ v = .ref p ∧ H' = upd H p (.tup [.int i, x]) ∧ ∀ xs, SqL K H a xs → xs[i]? = some x,
   fun i H => ∃ xs, SqL K H a xs ∧ xs.length = i⟩
def EAt (e it a:Addr) (i:Nat) (h:Heap):Prop:=(∃ old,IsEnum h e it i old)/\h.IsListIter it a i
theorem CG {P:Program}{w:World}{K:Frag}{elts:List Expr}{tk:Nat}{tp:Pos}{a e it:Addr}(hei:e≠it) (hai:a≠it) (hae:a≠e):
  yx P w K (.Tuple elts tk tp) (Ite K a) [e,it] e (EAt e it a) where
 mem:=by simp
 obj:=fun i h st x hx=>by
  obtain⟨⟨old,h1⟩,h2⟩:=st;have hx':x=e\/x=it:=by simpa using hx
  rcases hx' with rfl | rfl
  .exact⟨_,h1,fun v q=>by cases q⟩
  .obtain⟨o,ho,hc,hd⟩:=h2;exact⟨o,ho,fun v q=>by rw[hd] at q;cases q⟩
 keep:=fun i h h' st k=>by
  obtain⟨⟨old,h1⟩,⟨o,ho,hr⟩⟩:=st;exact⟨⟨old,k e (by simp) _ h1⟩,⟨o,k it (by simp) _ ho,hr⟩⟩
 item:=by
  intro X hP hw hK hc i pins s Z H E I hf st hg;subst hP hw hK;obtain⟨xs,x,q1,e1⟩:=hg;obtain⟨⟨old,h1⟩,h2⟩:=st;obtain⟨l1,r1,pl,_⟩:=I.list q1;have hh:X.A.in1.handled=none:=I.ok.hd hc;have D1:=Draws.list (prog:=X.prog) (w:=X.w) hh it a hai l1.toArray;obtain⟨u1,g1,w1⟩:=r1.get e1;have lt1:i < l1.toArray.size:=by have:=(List.getElem?_eq_some_iff.mp g1).1;simpa using this
  have helt:e < s.heap.objs.size:=Heap.lt_size h1;have hilt:it < s.heap.objs.size:=by obtain⟨o,ho,_⟩:=h2;exact Heap.lt_size ho
  refine wpAny_pyNext_enum_itemD D1 h1 ⟨h2,pl.isList⟩ lt1 hei (by simp [hei,Ne.symm hae]) fun x' h' tk' hx ho hs hT hsz kk=> ?_
  have hx':u1=x':=by
   have hx:l1.toArray[i]? =some x':=hx;rw[List.getElem?_toArray,g1] at hx;exact Option.some.inj hx
  subst hx';refine⟨_,rfl,wpAny_letOwnedTupleGo_enum ho fun h'' he'' hs''=> ?_⟩
  have hs'':Heap.SameBut e h' h'':=hs'';have up:∀b o,b≠e->h'.get? b=some o->h''.get? b=some o:=fun b o hb z=>hs''.extBut _ _ hb z
  have kept:∀b o,b ∉ [e,it]->s.heap.get? b=some o->h''.get? b=some o:=fun b o hb z=>by
   have hb':b≠e/\b≠it:=by simpa using hb
   exact up b o hb'.1 (kk b o hb'.1 hb'.2 z)
  refine⟨.ref s.heap.objs.size,upd H s.heap.objs.size (.tup [.int i,x]),?_,rfl,⟨_,x,I.fresh,rfl,rfl,fun zs hz=>by rw[I.list_inj hz q1];exact e1⟩,?_,fun b hb=> ?_⟩
  .refine I.turnedN (t':=tk'+1) (ch:=[e,it]) kept hf (Nat.le_refl _) ⟨by show 2<=sizeLine;decide,[.int i tk',u1],.cons ⟨_,rfl⟩ (.cons w1 .nil),⟨_,up _ _ (Nat.ne_of_gt helt) hT,rfl,_,rfl⟩⟩
  .refine⟨⟨_,by simpa using he''⟩,?_⟩
   obtain⟨o,ho2,hr⟩:=hs.1;exact⟨o,up _ _ (Ne.symm hei) ho2,hr⟩
  .have h0:=(hf b hb).1;rw[az]
   .exact h0
   .have hb':b=e\/b=it:=by simpa using hb
    rcases hb' with rfl | rfl
    .exact Nat.ne_of_lt helt
    .exact Nat.ne_of_lt hilt
 done:=by
  intro X hP hw hK hc i pins s Z H E I hf st hg;subst hP hw hK;obtain⟨xs,q1,hend⟩:=hg;obtain⟨⟨old,h1⟩,h2⟩:=st;obtain⟨l1,r1,pl,_⟩:=I.list q1;have hh:X.A.in1.handled=none:=I.ok.hd hc;have D1:=Draws.list (prog:=X.prog) (w:=X.w) hh it a hai l1.toArray;have z1:=r1.length;have hi:i=l1.toArray.size:=by simp only[List.size_toArray];lia
  subst hi;refine wpAny_pyNext_enum_endD D1 h1 ⟨h2,pl.isList⟩ fun h' ke=>⟨rfl,I.turnedL (t':=s.toks) (ch:=[e,it]) (fun b o hb z=> ?_) hf⟩
  have hb':b≠e/\b≠it:=by simpa using hb
  exact ke _ _ hb'.2 z
 self:=fun A i s Q E st h=>by
  obtain⟨⟨old,h1⟩,_⟩:=st;exact wpAny_pyIter_enum h1 h
section
variable {X : Cx}
def HE (K:Frag) (ta:TA):TI:=fun Z H R=>ta Z H fun vs H1=>∃a,vs=[.ref a]/\(∃ xs,SqL K H1 a xs)/\R (Ite K a) H1
theorem Bb {e1:Expr}{ta:TA}{p pos tp:Pos}{elts:List Expr}{tk:Nat}(hg:Gl X "enumerate") (hm:X.mg "enumerate"=none) (ha:PA X [e1] ta) (hs:starEach [e1] X.env=[(false,eval e1 X.env)]:=by rfl):
  PI X (.Tuple elts tk tp) (.Call (.Name "enumerate" p) [e1] [] pos) (HE X.K ta):=by
 intro pins s Z H R I h;refine Call_ (uu I hg hm w_ (PyProof.Rows.callWith_type1 (dj (ha pos pins s Z H _ I h) fun us s1 vs H1 I1 r1 q1=> ?_) (by rw[hs];rfl) (by rfl)))
 obtain⟨a,e,⟨xs,hx⟩,q⟩:=q1;subst e;obtain⟨u1,rfl,ru1⟩:=tK r1
 cases ru1
 obtain⟨l1,rr1,pl,_⟩:=I1.list hx;have la:a < s1.heap.objs.size:=by obtain⟨o,n,z,_⟩:=pl;exact Heap.lt_size z
 refine call_enumerate_list pl.isList fun h' z1 z2 _ kk=>wpAny_pyIter_enum z1 ?_
 generalize hn:s1.heap.objs.size=n at*;refine⟨n+1,[n+1,n],_,_,H1,rfl,I1.kept (t':=s1.toks) kk,CG (Nat.succ_ne_self n) (Nat.ne_of_lt la) (Nat.ne_of_lt (Nat.lt_succ_of_lt la)),⟨⟨_,z1⟩,z2⟩,fun b hb=> ?_,q⟩
 have hb':n<=b:=by
  have hb':b=n+1\/b=n:=by simpa using hb
  unfold Addr at*
  lia
 exact I1.fpOk (by rw[hn];exact hb') (I1.hok.fresh (by rw[hn];exact hb'))
end
theorem yD {K:Frag}{a:Addr}{xs:List V}{g:TG}{tb:TS}{D:tQ}{Z:St}{H:Hp}(Pv:Nat->St->Hp->Prop) (h0:Pv 0 Z H) (h1:∀i Z H,Pv i Z H->SqL K H a xs)
  (hs:∀i x p Z H,xs[i]? =some x->Pv i Z H->H p=none->g (.ref p) Z (upd H p (.tup [.int i,x])) fun Z2 H2=>tb {D with nx:=Pv (i+1),ct:=Pv (i+1),bk:=D.nx} Z2 H2) (hd:∀Z H,Pv xs.length Z H->D.nx Z H):
  ∃W:Nat->Nat->St->Hp->Prop,(∃ m,W 0 m Z H)/\∀i m Z H,W i m Z H->
   ((Ite K a).stop i H/\D.nx Z H)\/((Ite K a).go i H/\∃N:St->Hp->Prop,(∀ Z' H',N Z' H'->∃m',m' < m/\W (i+1) m' Z' H')/\∀x H',(Ite K a).yld i H x H'->g x Z H' fun Z2 H2=>tb {D with nx:=N,ct:=N,bk:=D.nx} Z2 H2):=by
 refine⟨fun i m Z H=>m=xs.length - i/\i<=xs.length/\Pv i Z H,⟨_,rfl,Nat.zero_le _,h0⟩,?_⟩
 rintro i m Z H ⟨rfl,hi,p⟩
 have q1:=h1 i Z H p
 by_cases hlt:i < xs.length
 .refine .inr ⟨⟨xs,xs[i],q1,by simp [hlt]⟩,Pv (i+1),fun Z' H' p'=>⟨_,?_,rfl,hlt,p'⟩,fun v H' y=> ?_⟩
  .lia
  .obtain⟨r,x,hr,rfl,rfl,e1⟩:=y;exact hs i x r Z H (e1 xs q1) p hr
 .have e:i=xs.length:=by lia
  refine .inl ⟨⟨xs,q1,e.symm⟩,?_⟩
  subst e;exact hd Z H p
section
variable {X : Cx}
theorem zL (hu:X.A.units+64 < cLine):OpR X (compareOp .NotEq) (C9 X.K true):=by
 intro pins s Z H x y v u Q I rx ry h;obtain⟨a,b,ns,ms,rfl,rfl,h1,h2,q⟩:=h
 cases rx
 cases ry
 obtain⟨its,r,pl,_⟩:=I.tuple h1;obtain⟨its2,r2,pl2,_⟩:=I.tuple h2;exact ne_dataH_same (gm pl (cK r)) (gm pl2 (cK r2)) (fA ns) (fA ms) hu (by simp only[noMix];exact W.noMix_ints ns ms) (by simp only[PySem.Spec.same];rw[W.same_ints];exact⟨.bl _,H,I,rfl,q⟩)
end
open PySem PySem.Spec PyProof.Rows PyProof PySem.SeqAt
def HZ (kvs:List (Key × V)):Prop:=∀kv∈kvs, ∃i:Int,kv.1= .inl i
theorem zK {P P':Program}{w w':World}{h:Heap}{a:Addr}{vs:List (Key × Value)}(hk:∀kv∈vs, ∃i:Int,kv.1= .inl i) (d:h.DictOf (bq P w) a vs):h.DictOf (bq P' w') a vs:=by
 obtain⟨o,es,ep,h1,h2,h3,h4,h5,h6⟩:=d;have key:∀ {l:List DictEntry}{m:List (Key × Value)},Pairs (bq P w) l m->(∀ kv∈m, ∃i:Int,kv.1= .inl i)->Pairs (bq P' w') l m/\∀e∈l, ∃i:Int,jq (.inl i) e.key=true:=by
  intro l m q
  induction q with
  | nil=>intro _;exact⟨.nil,fun e he=>nomatch he⟩
  | @cons e kv es kvs q1 q2 q3 ih=>
   intro hm;obtain⟨i,hi⟩:=hm kv (.head _);obtain⟨h1,h2⟩:=ih fun x hx=>hm x (.tail _ hx)
   refine⟨.cons q1 q2 h1,fun x hx=> ?_⟩
   rcases List.mem_cons.mp hx with rfl | hx
   .exact⟨i,by rw[<- hi];exact q1⟩
   .exact h2 x hx
 obtain⟨k1,k2⟩:=key h5 hk;refine⟨o,es,ep,h1,h2,h3,fun e he=> ?_,k1,h6⟩
 obtain⟨k,hk1,hk2⟩:=h4 e he;obtain⟨i,hi⟩:=k2 e (Array.mem_toList_iff.mpr he);obtain⟨i',t,e1,e2⟩|⟨x,t,e1,e2⟩:=b_ hk1
 .subst e1;exact⟨.inl i',hk1,hk2⟩
 .obtain⟨j,t2,e3,e4⟩|⟨_,_,e3,_⟩:=b_ hi
  .rw[e2] at e4;cases e4
  .cases e3
theorem Bz {kvs:List (Key × V)}{vs:List (Key × Value)}(r:KV kvs vs) (h:HZ kvs):∀kv∈vs, ∃i:Int,kv.1= .inl i:=by
 unfold KV at r
 induction r with
 | nil=>intro kv hk;exact nomatch hk
 | @cons p q ps qs hq t ih=>
  intro kv hk;rcases List.mem_cons.mp hk with rfl | hk
  .obtain⟨i,hi⟩:=h p (.head _);exact⟨i,by rw[<- hq.1];exact hi⟩
  .exact ih (fun x hx=>h x (.tail _ hx)) kv hk
inductive ie (K:Frag) (H:Hp):Nat->V->V->Prop where
 | int {n:Nat}(i:Int):ie K H n (.int i) (.int i)
 | str {n:Nat}(x:Str):ie K H n (.str x) (.str x)
 | tup {n:Nat}{a b:Addr}{xs ys:List V}:SqT K H a xs->SqT K H b ys->xs.length=ys.length->(∀ (j:Nat) (x y:V),xs[j]? =some x->ys[j]? =some y->ie K H n x y)->ie K H (n+1) (.ref a) (.ref b)
 | lst {n:Nat}{a b:Addr}{xs ys:List V}:SqL K H a xs->SqL K H b ys->xs.length=ys.length->(∀ (j:Nat) (x y:V),xs[j]? =some x->ys[j]? =some y->ie K H n x y)->ie K H (n+1) (.ref a) (.ref b)
 | dct {n:Nat}{p q:Addr}{kvs:List (Key × V)}:Rd H p (.dK kvs)->Rd H q (.dK kvs)->Gg kvs->HZ kvs->ie K H (n+1) (.ref p) (.ref q)
theorem pj:∀n:Nat,(List.range n).all (fun _=>true)=true:=fun n=>by rw[List.all_eq_true];intro _ _;rfl
section
variable {X : Cx} {pins : List (Addr × Obj)} {σ : St} {H : Hp} {s : Shared}
theorem pe {xs ys:List V}{us vs:List Value}{R:V->V->Prop}{E:Value->Value->Prop}(r1:aX xs us) (r2:aX ys vs) (hl:xs.length=ys.length) (h:∀(j:Nat) (x y:V),xs[j]? =some x->ys[j]? =some y->R x y)
  (t:∀x y u v,R x y->bp x u->bp y v->E u v):∀(j:Nat) (h1:j < us.toArray.size) (h2:j < vs.toArray.size),E us.toArray[j] vs.toArray[j]:=by
 intro j h1 h2;have l1:=r1.length;have l2:=r2.length;have j1:j < xs.length:=by simpa [l1] using h1
 have j2:j < ys.length:=by lia
 obtain⟨u,eu,ru⟩:=r1.get (i:=j) (x:=xs[j]) (List.getElem?_eq_getElem j1);obtain⟨v,ev,rv⟩:=r2.get (i:=j) (x:=ys[j]) (List.getElem?_eq_getElem j2);have e1:us.toArray[j]=u:=by
  have:=(List.getElem?_eq_some_iff.mp eu).2
  simpa using this
 have e2:vs.toArray[j]=v:=by
  have:=(List.getElem?_eq_some_iff.mp ev).2
  simpa using this
 rw[e1,e2];exact t _ _ _ _ (h j _ _ (List.getElem?_eq_getElem j1) (List.getElem?_eq_getElem j2)) ru rv
theorem ie.eqAt (I:Inv X pins Z H s) {n:Nat}{x y:V}(h:ie X.K H n x y):∀ {A:Around}{u v:Value},A.units+n < cLine->bp x u->bp y v->EqAt A s u v true:=by
 induction h with
 | int i=>
  rintro A u v hu ⟨t,rfl⟩ ⟨t',rfl⟩
  have:=EqAt.int_int (A:=A) (s:=s) i t i t'
  rwa [beq_self_eq_true] at this
 | str x=>
  rintro A u v hu ⟨t,rfl⟩ ⟨t',rfl⟩
  have:=EqAt.str_str (A:=A) (s:=s) x t x t'
  rwa [beq_self_eq_true] at this
 | @tup n a b xs ys h1 h2 hl _ ih=>
  intro A u v hu ru rv
  cases ru
  cases rv
  by_cases e:a=b
  .subst e;exact EqAt.same _
  obtain⟨us,r1,p1,_⟩:=I.tuple h1;obtain⟨vs,r2,p2,_⟩:=I.tuple h2;refine EqAt.of_refs e ?_
  have:=RcAt.tuples (A:=A) (e:=fun _=>true) p1 p2 (by lia) (pe (E:=fun u v=>EqAt A.in1 s u v true) r1 r2 hl (fun j x y h1 h2=>(⟨j,h1,h2⟩:∃j,xs[j]? =some x/\ys[j]? =some y)) fun x y u v ⟨j,q1,q2⟩ ru rv=>ih j x y q1 q2 (by show A.units+1+n < cLine;lia) ru rv)
  have z:us.toArray.size=vs.toArray.size:=by simp only[List.size_toArray];rw[<- r1.length, <-r2.length];exact hl
  rw[pj,Bool.true_and,z,beq_self_eq_true] at this;exact this
 | @lst n a b xs ys h1 h2 hl _ ih=>
  intro A u v hu ru rv
  cases ru
  cases rv
  by_cases e:a=b
  .subst e;exact EqAt.same _
  obtain⟨us,r1,p1,_⟩:=I.list h1;obtain⟨vs,r2,p2,_⟩:=I.list h2;refine EqAt.of_refs e ?_
  have z:us.toArray.size=vs.toArray.size:=by simp only[List.size_toArray];rw[<- r1.length, <-r2.length];exact hl
  have:=RcAt.lists (A:=A) (e:=fun _=>true) p1.isList p2.isList z (by lia) (pe (E:=fun u v=>EqAt A.in1 s u v true) r1 r2 hl (fun j x y h1 h2=>(⟨j,h1,h2⟩:∃j,xs[j]? =some x/\ys[j]? =some y)) fun x y u v ⟨j,q1,q2⟩ ru rv=>ih j x y q1 q2 (by show A.units+1+n < cLine;lia) ru rv)
  rw[pj] at this;exact this
 | @dct n p q kvs hp hq hi hk=>
  intro A u v hu ru rv
  cases ru
  cases rv
  by_cases e:p=q
  .subst e;exact EqAt.same _
  obtain⟨_,lp,ka,ra,da⟩:=zO I.hok hp;obtain⟨_,lq,kb,rb,db⟩:=zO I.hok hq;have hn:(kvs.map (·.1)).Nodup:=by rw[rb.keys];obtain⟨_,_,_,_,_,_,_,_,hn⟩:=db;exact hn
  refine EqAt.of_refs e fun prog w E Q h=> ?_
  refine W.keq_eq (r:=true) lp lq (zK (P':=prog) (w':=w) (Bz ra hk) da) (zK (P':=prog) (w':=w) (Bz rb hk) db) (by lia) (fun _=>Ce rb hi hn ra fun x hx=>hx) ?_
  rw[<- ra.length, <-rb.length,beq_self_eq_true,Bool.true_and];exact h
def Hl (K:Frag) (r:Bool):R2:=fun x y H Q=>∃(a b:Addr) (xs ys:List V),x= .ref a/\y= .ref b/\SqL K H a xs/\SqL K H b ys/\xs.length=ys.length/\(∀ (j:Nat) (x y:V),xs[j]? =some x->ys[j]? =some y->ie K H 32 x y)/\Q (.bl r) H
theorem qX (hu:X.A.units+64 < cLine):OpR X (compareOp .NotEq) (Hl X.K false):=by
 intro pins s Z H x y v u Q I rx ry h;obtain⟨a,b,xs,ys,rfl,rfl,h1,h2,hl,hs,q⟩:=h
 cases rx
 cases ry
 obtain⟨us,r1,p1,_⟩:=I.list h1;obtain⟨vs,r2,p2,_⟩:=I.list h2;have z:us.toArray.size=vs.toArray.size:=by simp only[List.size_toArray];rw[<- r1.length, <-r2.length];exact hl
 have:=RcNeAt.lists (A:=X.A) (e:=fun _=>true) p1.isList p2.isList z (by lia) (pe (E:=fun u v=>EqAt X.A.in1 s u v true) r1 r2 hl (R:=ie X.K H 32) hs fun x y u v h ru rv=>h.eqAt I (by show X.A.units+1+32 < cLine;lia) ru rv)
 rw[pj] at this;exact this _ _ _ _ ⟨.bl false,H,I,rfl,q⟩
end
open PySem PySem.Spec PyProof.Rows PyProof PySem.SeqAt
open PySem PySem.Spec PyProof.Rows PyProof PySem.SeqAt
open PySem PySem.Spec PyProof.Rows PyProof PySem.SeqAt
theorem AU (l b:Addr) (its its2:Array Value) (n n2:Nat) (dd dd2:Option Addr) (sl sl2:Array (Option Value)) (hc:its.isEmpty=true):
  Meets (Builtin.«tuple.__add__» ⟨[.ref l,.ref b],[]⟩) (fun _ R s=>s.heap.get? l=some {cls:= .type "tuple",dict:=dd,data:= .seq its n,slots:=sl}/\s.heap.get? b=some {cls:= .type "tuple",dict:=dd2,data:= .seq its2 n2,slots:=sl2}/\R (.ok (.ret (Value.ref b))) s):=
 .of_wp fun pr wo ar re sh hy=>by
  obtain⟨hp,g,d,tk,os⟩:=sh;obtain⟨hl,hb,hy⟩:=hy;have f2:=AutoSeq1.sub_tuple_tuple
  wp_walk using wpAny_loadPart' hl,wpAny_loadPart' hb
  exact⟨_,rfl,hy⟩
section
variable {X : Cx}
def Il (K:Frag):R2:=fun x y H Q=>∃a b xs ys,x= .ref a/\y= .ref b/\SqT K H a xs/\SqT K H b ys/\xs.length+ys.length<=sizeLine/\∀t H',ay H H'->SqT K H' t (xs++ys)->Q (.ref t) H'
theorem Bm:OpR X (binaryOp .Add) (Il X.K):=by
 intro pins s Z H x y v u Q I rx ry h;obtain⟨a,b,xs,ys,rfl,rfl,ha,hb,hz,q⟩:=h
 by_cases hx:xs=[]
 .cases rx
  cases ry
  subst hx;obtain⟨its,r1,p1,_⟩:=I.tuple ha;obtain⟨its2,r2,p2,_⟩:=I.tuple hb;obtain⟨⟨cls,dd,data,sl⟩,ho,hc,n,hd⟩:=id p1;obtain⟨⟨cls2,dd2,data2,sl2⟩,ho2,hc2,n2,hd2⟩:=id p2
  simp only at hc hd hc2 hd2
  subst hc hd hc2 hd2;have he:its=[]:=by cases r1;rfl
  refine concat_meets ⟨_,ho,rfl⟩ ⟨_,ho2,rfl⟩ noFill_tuple_add seq_tuple_add PySem.F.slot_tuple_add PySem.F.entry_tuple_add (PySem.F.args_tuple_add_2 _ _) (AU a b its.toArray its2.toArray n n2 dd dd2 sl sl2 (by simp [he])) ⟨ho,ho2,?_⟩
  exact⟨.ref b,H,I,rfl,q b H (ay.refl _) hb⟩
 .refine xt pins s Z H (.ref a) (.ref b) v u Q I rx ry ⟨a,b,xs,ys,rfl,rfl,ha,hb,hx,hz,fun e=> ?_,fun _ p hp=>q p _ (af hp _) (SqT.of ad)⟩
  subst e;exact q a H (ay.refl _) (by rw[List.append_nil];exact ha)
end
end L2
namespace L2
open PySem PySem.Spec PyProof.Rows
structure qB (J:It) (g:TG) (tt:TT) (te:TE) (t:Nat) (js:List Nat) (Z:St) (p:Addr) (H1:Hp) (Q:VK):Prop where
 out:∃W:Nat->Nat->List V->Hp->Prop,(∃ m,W 0 m [] (upd H1 p (.lst [])))/\∀i m ys H,W i m ys H->
  (J.stop i H/\Q (.ref p) H)\/(J.go i H/\∀x H',J.yld i H x H'->g x (blk t js Z) H' fun Z2 H2=>Wk (blk t js Z) Z2/\tt Z2 H2 fun b H3=>match b with
   | true=>te Z2 H3 fun y H4=>H4 p=some (.lst ys)/\ys.length < sizeLine/\∃m',m' < m/\W (i+1) m' (ys++[y]) (upd H4 p (.lst (ys++[y])))
   | false=>∃m',m' < m/\W (i+1) m' ys H3)
def Hf (wi:TI) (g:TG) (tt:TT) (te:TE) (t:Nat) (js:List Nat):TE:=fun Z H Q=>wi Z H fun J H1=>∀p,H1 p=none->qB J g tt te t js Z p H1 Q
theorem yk {prog:Program}{w:World}{A:Around}{R:Result->Shared->Prop}{s:Shared}{elt target iter c:Expr}{scope:Scope}{pos:Pos}{it acc:Value}{env:Env}(I:Nat->Shared->Prop)
  (turn:∀n s,I n s->wpAny (model prog w) A (pyNext it) (fun r s₁=>match r with
   | none=>R (.ok .next) s₁
   | some v=>wpAny (model prog w) A (letOwnedTupleGo target it v) (fun _ s₁'=>wpAny (model prog w) A (assign target env v) (fun _ s₂=>wpAny (model prog w) A (isTrue c env (eval c env)) (fun ok s₃=>if ok=true then wpAny (model prog w) A (eval elt env) (fun x s₄=>
     wpAny (model prog w) A (call (.builtin "list.append") [acc,x]) (fun _ s₅=>∃m,m < n/\I m s₅) (fun _ _=>False) s₄)
     (fun _ _=>False) s₃ else ∃m,m < n/\I m s₃) (fun _ _=>False) s₂) (fun _ _=>False) s₁') (fun _ _=>False) s₁) (fun _ _=>False) s)
  (n:Nat) (h:I n s):
  codeAny (model prog w) A (.compLoop (.ListComp elt [⟨target,iter,[c],0⟩] scope pos) 0 it acc env) R s:=by
 refine codeAny_loop rfl I (fun n s hI=> ?_) n h
 show wpAny _ _ ((compTurn (.ListComp elt [⟨target,iter,[c],0⟩] scope pos) 0 it acc env).onRaise (fun x=>do noteFrame x env;theTreesLotGoes x)) _ _ s
 refine wpAny_noted ?_
 rw[compTurn_list];refine wpAny_bind (wpAny_standAt (wpAny_bind (wpAny_mono (turn n s hI) (fun r s₁ h₁=> ?_) fun _ _ h'=>h'.elim)))
 cases r with
 | none=>exact wpAny_pure h₁
 | some v=>
  refine wpAny_bind (wpAny_mono h₁ (fun _ s₀ h₀'=> ?_) fun _ _ h'=>h'.elim)
  refine wpAny_bind (wpAny_mono h₀' (fun _ s₂ h₂=> ?_) fun _ _ h'=>h'.elim)
  refine wpAny_bind (wpAny_tests_one (wpAny_mono h₂ (fun okb s₃ h₃=> ?_) fun _ _ h'=>h'.elim))
  cases okb with
  | false=>exact wpAny_pure ⟨rfl,h₃⟩
  | true=>exact wpAny_bind (wpAny_bind (wpAny_mono h₃ (fun x s₄ h₄=>wpAny_bind (wpAny_mono h₄ (fun _ s₅ h₅=>wpAny_pure (wpAny_pure ⟨rfl,h₅⟩)) fun _ _ h'=>h'.elim)) fun _ _ h'=>h'.elim))
section
variable {X : Cx}
theorem CD {pins:List (Addr × Obj)}{Z:St}{s2:Shared}{sc0 scope:Scope}{N0 N:List Str}{t:Nat}{js:List Nat}{elt iter tg c:Expr}{pos:Pos}{g:TG}{tt:TT}{te:TE}{J:It}{H2:Hp}{it:Addr}{fp:List Addr}{tn:Nat->Heap->Prop}
  {RR:Value->Addr->Result->Shared->Prop}{Q:V->Hp->Prop}{E:Value->Shared->Prop}(hc:X.calm=true) (hsc:X.env.scope=sc0) (hN0:X.N=N0) (B:iI sc0 scope N0 N t js)
  (hg:∀(C:Addr) (s:Shared) (H:Hp) (fp:List Addr),PG (cxB X scope N C s H fp) tg g) (ht:∀(C:Addr) (s:Shared) (H:Hp) (fp:List Addr),PT (cxB X scope N C s H fp) c tt) (he:∀(C:Addr) (s:Shared) (H:Hp) (fp:List Addr),PE (cxB X scope N C s H fp) elt te)
  (I2:Inv X pins Z H2 s2) (T:yx X.prog X.w X.K tg J fp it tn) (st2:tn 0 s2.heap) (f2:∀b∈fp,nK X pins H2 b)
  (h:∀p,H2 p=none->qB J g tt te t js Z p H2 Q)
  (hRR:∀(s3:Shared) (H3:Hp) (p:Addr) (H':Hp) (s':Shared) (m:Str->Option Value),Inv X pins Z H3 s3->Inv X pins Z H' s'->s'.heap.Ns s3.heap.objs.size m->H' s3.heap.objs.size=none->Q (.ref p) H'->RR (.ref p) s3.heap.objs.size (.ok .next) s'):
  wpAny (model X.prog X.w) X.A (newList []) (fun acc s₃=>wpAny (model X.prog X.w) X.A (newFunctionEnv scope X.env.globals (oF scope.names X.env []) [] X.env.qual none .none (some X.env)) (fun cenv s₄=>
   codeAny (model X.prog X.w) X.A (.compStart (.ListComp elt [⟨tg,iter,[c],0⟩] scope pos) 0 (.ref it) acc {cenv with scope:=relabel scope X.env}) (RR acc cenv.locals) s₄) E s₃) E s2:=by
 refine wpAny_newObj_type ?_ (by show 0<=sizeLine;decide)
 generalize hp:s2.heap.objs.size=p;have hfree:H2 p=none:=by rw[<- hp];exact I2.fresh
 generalize hs3:({s2 with heap:=s2.heap.push {cls:= .type "list",data:= .seq ([]:List Value).toArray}}:Shared)=s3
 have I3:Inv X pins Z (upd H2 p (.lst [])) s3:=by
  rw[<- hs3, <-hp];exact I2.laid (t':=s2.toks) (fun b u e=>Heap.get?_push_of_some _ e) (Nat.le_refl _) ⟨by show 0<=sizeLine;decide,[],0,.nil,Heap.get?_push_size _ rfl⟩
 have old3:∀b o,s2.heap.get? b=some o->s3.heap.get? b=some o:=by
  rw[<- hs3];exact fun b o e=>Heap.get?_push_of_some _ e
 have lt2:∀b∈fp,b < s2.heap.objs.size:=fun b hb=>by
  obtain⟨o,e,_⟩:=T.obj 0 _ st2 b hb;exact Heap.lt_size e
 have f3:∀b∈fp,nK X pins (upd H2 p (.lst [])) b:=fun b hb=>⟨by rw[az (by rw[<- hp];exact Nat.ne_of_lt (lt2 b hb))];exact(f2 b hb).1,(f2 b hb).2⟩
 have lt3:∀b∈fp,b < s3.heap.objs.size:=fun b hb=>by
  obtain⟨o,e,_⟩:=T.obj 0 _ st2 b hb;exact Heap.lt_size (old3 b o e)
 have st3:tn 0 s3.heap:=T.keep _ _ _ st2 fun b _ o e=>old3 b o e
 obtain⟨W,⟨m0,w0⟩,turn⟩:=(h p hfree).out;refine wpAny_newFunctionEnv B.cell (by intro y hy;simp at hy) (fun h₁ hns₁ hsb₁=> ?_) B.kind
 generalize hs4:({s3 with heap:=h₁,toks:=s3.toks+([]:List (Str × Value)).length}:Shared)=s4
 have I4:Inv (cxB X scope N s3.heap.objs.size s3 (upd H2 p (.lst [])) fp) [] (blk t js Z) (upd H2 p (.lst [])) s4:=by
  rw[<- hs4];exact vC I3 hsc hN0 B f3 lt3 hns₁ hsb₁
 have st4:tn 0 s4.heap:=by
  rw[<- hs4];exact T.keep _ _ _ st3 fun b hb o e=>(hsb₁.2 b (Nat.ne_of_lt (lt3 b hb))).trans (Heap.get?_push_of_some _ e)
 have stat:∀ {H':Hp},(∀ b∈fp,H' b=none)->∀b∈fp,nK (cxB X scope N s3.heap.objs.size s3 (upd H2 p (.lst [])) fp) [] H' b:=fun {H'} hn b hb=>by
  refine⟨hn b hb,(I4.ok.exf b hb).1,I4.ok.exfs b hb,.inl hb,fun x c e=>(I4.ok.exf b hb).2 x c e,fun q hq=>absurd (show q∈([]:List (Addr × Obj)) from hq) (by simp)⟩
 have loop:∀s₅:Shared,s₅=s4->codeAny (model X.prog X.w) X.A (.compLoop (.ListComp elt [⟨tg,iter,[c],0⟩] scope pos) 0 (.ref it) (.ref p) (compEnvC scope (oF scope.names X.env []) s3.heap.objs.size X.env)) (RR (.ref p) s3.heap.objs.size) s₅:=by
  rintro s₅ rfl
  refine yk (fun n s'=>∃i ys H',Inv (cxB X scope N s3.heap.objs.size s3 (upd H2 p (.lst [])) fp) [] (blk t js Z) H' s'/\tn i s'.heap/\(∀ b∈fp,H' b=none)/\W i n ys H') ?_ m0 ⟨0,[],_,I4,st4,fun b hb=>(f3 b hb).1,w0⟩
  rintro n s5 ⟨i,ys,H5,I5,st5,fr5,w5⟩
  rcases turn i n ys H5 w5 with⟨stop,qn⟩|⟨go,step⟩
  .refine thn (T.done (cxB X scope N s3.heap.objs.size s3 (upd H2 p (.lst [])) fp) rfl rfl rfl hc i [] s5 _ H5 _ I5 (stat fr5) st5 stop) fun r s6 ⟨hr,I6⟩=> ?_
   subst hr;obtain⟨m6,hn6,_⟩:=I6.loc;exact hRR s3 _ p H5 s6 m6 I3 (vP I3 f3 I6) hn6 I6.free qn
  .refine u7 (T.item (cxB X scope N s3.heap.objs.size s3 (upd H2 p (.lst [])) fp) rfl rfl rfl hc i [] s5 _ H5 _ I5 (stat fr5) st5 go) fun r s6 u hr h6=> ?_
   subst hr;refine thn h6 fun _ s7 ⟨x,H7,I7,r7,y7,st7,fr7⟩=> ?_
   have I7':=I7.pinned (stat fr7) (T.obj _ _ st7);refine thn (hg _ _ _ _ _ s7 _ H7 x u _ I7' r7 (step x H7 y7)) fun _ s8 ⟨Z8,H8,I8,wk8,q8⟩=> ?_
   refine u7 (ht _ _ _ _ _ s8 Z8 H8 _ I8 q8) fun ok s8b H8b I8b q8b=> ?_
   cases ok with
   | false=>
    obtain⟨m',hm,w9⟩:=q8b;refine⟨m',hm,i+1,ys,_,?_,T.keep _ _ _ st7 fun b hb o e=>(I8b.pin (b,o) (List.mem_append_right _ (List.mem_append_right _ (dP hb e)))).1,fun b hb=> ?_,w9⟩
    .exact I8b.unpinned.weak (by rw[I5.len];exact I8b.len.symm) wk8
    .obtain⟨o,e,d⟩:=T.obj _ _ st7 b hb;exact(I8b.pin (b,o) (List.mem_append_right _ (List.mem_append_right _ (dP hb e)))).2.1
   | true=>
   refine thn (he _ _ _ _ _ s8b Z8 H8b _ I8b q8b) fun v9 s9 ⟨y,H9,I9,r9,hp9,hz,m',hm,w9⟩=> ?_
   refine dj (bJ _ s9 Z8 H9 (.ref p) [y] (.ref p) [v9] (fun _ H10=>H10=upd H9 p (.lst (ys++[y]))) I9 rfl (.cons r9 .nil) ⟨p,ys,y,rfl,rfl,hp9,hz,rfl⟩) fun _ s10 _ H10 I10 _ e10=> ?_
   subst e10;refine⟨m',hm,i+1,ys++[y],_,?_,T.keep _ _ _ st7 fun b hb o e=>(I10.pin (b,o) (List.mem_append_right _ (List.mem_append_right _ (dP hb e)))).1,fun b hb=> ?_,w9⟩
   .exact I10.unpinned.weak (by rw[I5.len];exact I10.len.symm) wk8
   .obtain⟨o,e,d⟩:=T.obj _ _ st7 b hb;exact(I10.pin (b,o) (List.mem_append_right _ (List.mem_append_right _ (dP hb e)))).2.1
 exact codeAny_compStart_list (loop _ rfl) (T.self _ 0 _ _ _ st4 (loop _ rfl))
variable {sc0 scope : Scope} {N0 N : List Str} {t : Nat} {js : List Nat} {elt iter tg c : Expr} {pos : Pos} {wi : TI} {g : TG} {tt : TT} {te : TE}
end
end L2
namespace L2
open PySem PySem.Spec PyProof.Rows
theorem rT.has {P:Program}{w:World}{K:Frag}{mg:Str->Option Value}{base:Heap}{k:Nat}{x:Str}{ps:List Str}{sp sp':Sp}(h:rT P w K mg base k x ps sp) (hi:∀vs H Q E,sp' vs H Q E->sp vs H Q E0):Has P w K mg base k x ps sp':=by
 obtain⟨f,fd,h1,h2,h3,F⟩:=h.ex;refine⟨f,fd,h1,h2,h3,fun vs H Q E q=>F.len vs H Q E0 (hi _ _ _ _ q),fun A outer s H args us vs Q E hr he hb hv hs=> ?_⟩
 refine codeAny_mono (F.run A outer s H args us vs Q E0 hr he hb hv (hi _ _ _ _ hs)) fun r s' q=> ?_
 cases r with
 | ok fl=>cases fl <;> exact q
 | error e=>
  obtain⟨_,_,_,_,_,_,_,_,_,_,z⟩:=q;exact z
end L2
namespace L2
open PySem PySem.Spec PyProof.Rows
section
variable {P : Program} {w : World} {H H1 : Hp} {h h1 : Heap} {C e dx d : Addr} {od : Option Addr} {cls : Value} {fl : List (Str × V)} {o : HO} {fs ex : List Addr}
def del (H:Hp) (a:Addr):Hp:=fun b=>if b=a then none else H b
end
end L2
namespace L2
open PySem PySem.Spec PyProof.Rows PyProof PySem.SeqAt
section
variable {prog : Program} {w : World} {K : Type} [DecidableEq K] {knd : HeapKind prog w K} {A : Around} {E : Value → Shared → Prop} {s : Shared}
theorem GJ {nm:String}{a b:Addr}{xs ys:List (K × Addr × Value)}{Q:Bool->Shared->Prop}(ha:(a == sysModules)=false) (hb:(b == sysModules)=false)
  (da:s.heap.DictOfH knd a xs) (db:s.heap.DictOfH knd b ys) (hu:knd.room A) (hk:xs.map (·.1)=ys.map (·.1))
  (hv:∀(i:Nat) (x y:K × Addr × Value),xs[i]? =some x->ys[i]? =some y->EqAt A s x.2.2 y.2.2 true) (h:Q true s):
  wpAny (model prog w) A (Builtin.Dict.samePairs nm a b) Q E s:=by
 obtain⟨oa,es,ep,hoa,_,hda,hea,hka,hna⟩:=da;obtain⟨ob,es',ep',hob,_,hdb,heb,hkb,hnb⟩:=db;have la:=size_of_entries hea;have lb:=size_of_entries heb;have hl:xs.length=ys.length:=by
  have:=congrArg List.length hk
  simpa using this
 have hsz:es.size=es'.size:=by rw[la,lb];exact hl
 unfold Builtin.Dict.samePairs Builtin.Dict.showsAll;rw[if_neg (show ¬(a == sysModules)=true by rw[ha];exact Bool.false_ne_true),if_neg (show ¬(b == sysModules)=true by rw[hb];exact Bool.false_ne_true)]
 refine wpAny_bind (wpAny_pure (wpAny_bind (wpAny_pure (wpAny_bind (wpAny_dictEntries hoa hda ?_)))))
 dsimp only;refine wpAny_bind (wpAny_dictEntries hob hdb ?_)
 rw[if_neg (by rw[hsz];simp)]
 refine wpAny_bind (wpAny_dictEpoch hoa hda (wpAny_bind ?_))
 rw[Std.Legacy.Range.forIn_eq_forIn_range']
 simp only[Std.Legacy.Range.size,Nat.sub_zero,Nat.add_sub_cancel,Nat.div_one]
 refine wpAny_forIn_list _ (fun fk q s'=>s'=s/\q=(none,())/\∃i,fk=List.range' i (es.size - i)/\i<=es.size) _ ?_ ?_ _ _ ⟨rfl,rfl,0,by simp,Nat.zero_le _⟩
 .rintro x fk q s' ⟨rfl,rfl,i,hr,hi⟩
  have hlt:i < es.size:=Nat.lt_of_not_le fun z=>by rw[Nat.sub_eq_zero_of_le z] at hr;cases hr
  have e:es.size - i=(es.size - (i+1))+1:=by lia
  rw[e,List.range'_succ] at hr
  injection hr with h1 h2
  subst h1;have hx:x < xs.length:=by lia
  have hy:x < ys.length:=by lia
  have ea:es[x]? =some (entryOfKey knd xs[x]):=by rw[entry_at hea,List.getElem?_eq_getElem hx];rfl
  refine wpAny_bind (wpAny_dictEntries hoa hda ?_)
  rw[ea];show wpAny _ _ (holding [Value.ref xs[x].2.1,xs[x].2.2] _ >>= _) _ _ _
  have key:xs[x].1=ys[x].1:=by
   have e1:(xs.map (·.1))[x]? =some xs[x].1:=by rw[List.getElem?_map,List.getElem?_eq_getElem hx];rfl
   rw[hk,List.getElem?_map,List.getElem?_eq_getElem hy] at e1;exact(Option.some.inj e1).symm
  have fnd:∀j p,ys[j]? =some (xs[x].1,p)->j=x:=fun j p hj=>idxH_unique hnb (p:=p) (q:=ys[x].2) hj (by rw[List.getElem?_eq_getElem hy,key])
  refine wpAny_bind (wpAny_holding (wpAny_bind (wpAny_dictFind_heap hu (hka _ (List.getElem_mem hx)) hob hdb heb hkb hnb (fun no=> ?_) (fun j p hj=> ?_))))
  .exact absurd (show ys[x]? =some (xs[x].1,ys[x].2) by rw[List.getElem?_eq_getElem hy,key]) (no x ys[x].2)
  .obtain rfl:j=x:=fnd j p hj;have eb:es'[j]? =some (entryOfKey knd ys[j]):=by rw[entry_at heb,List.getElem?_eq_getElem hy];rfl
   refine wpAny_bind (wpAny_dictEntries hob hdb ?_)
   rw[eb];refine wpAny_holding (hv j xs[j] ys[j] (List.getElem?_eq_getElem hx) (List.getElem?_eq_getElem hy) prog w _ _ ?_)
   show wpAny _ _ (if (!true)=true then _ else _) _ _ _
   rw[if_neg (by decide)]
   refine wpAny_bind (wpAny_dictEpoch hoa hda ?_)
   rw[if_neg (by simp)]
   exact wpAny_pure ⟨rfl,rfl,j+1,h2,hlt⟩
 .rintro q s' ⟨rfl,rfl,i,hr,hi⟩
  exact wpAny_pure h
theorem GV {a b:Addr}{xs ys:List (K × Addr × Value)}{Q:Value->Shared->Prop}(ha:(a == sysModules)=false) (hb:(b == sysModules)=false)
  (da:s.heap.DictOfH knd a xs) (db:s.heap.DictOfH knd b ys) (hu:A.units < cLine) (hr:knd.room A.in1) (hk:xs.map (·.1)=ys.map (·.1))
  (hv:∀(i:Nat) (x y:K × Addr × Value),xs[i]? =some x->ys[i]? =some y->EqAt A.in1 s x.2.2 y.2.2 true) (h:Q (.bool true) s):
  wpAny (model prog w) A (compareOp .Eq (.ref a) (.ref b)) Q E s:=by
 refine wpAny_richCompare_same_room (op:= .Eq) da.typeIs db.typeIs PySem.F.slot_dict_eq (wpAny_call_entry PySem.F.slot_dict_eq da.typeIs PySem.F.entry_dict_eq ?_ (PySem.F.args_dict_eq_2 _ _)) hu
 show wpAny _ _ (Builtin.Dict.dictSlotArgs "__eq__" ⟨[.ref a,.ref b],[]⟩ >>= _) _ _ s
 refine wpAny_bind ?_
 unfold Builtin.Dict.dictSlotArgs;refine wpAny_bind (wpAny_notOrdered_dict da.typeIs (wpAny_pure ?_))
 refine wpAny_bind (wpAny_isInstance (T:="dict") db.typeIs PySem.F.sub_dict_dict ?_)
 simp only[Bool.not_true,Bool.false_eq_true,if_false]
 refine wpAny_bind (wpAny_pure (wpAny_bind (wpAny_pure (wpAny_bind (GJ ha hb da db hr hk hv ?_)))))
 exact wpAny_pure ⟨_,rfl,(fun x=>nomatch x),by simpa using h⟩
end
def Ez (kvs:List (List Key × V)):Prop:=∀kv∈kvs, ∀k∈kv.1, ∃i:Int,k= .inl i
theorem DX {P P':Program}{w w':World}{ks:List Key}{vs:List Value}(h:ItemsAre (bq P w) ks vs):ItemsAre (bq P' w') ks vs:=by
 induction h with
 | nil=>exact .nil
 | cons q _ ih=>exact .cons q ih
theorem vy {P P':Program}{w w':World}{h:Heap}{a:Addr}{xs:List (List Key × Addr × Value)}(hk:∀x∈xs, ∀k∈x.1, ∃i:Int,k= .inl i) (d:h.DictOfH (tupleKind (bq P w)) a xs):h.DictOfH (tupleKind (bq P' w')) a xs:=by
 obtain⟨o,es,ep,h1,h2,h3,h4,h5,h6⟩:=d;refine⟨o,es,ep,h1,h2,h3,?_,fun x hx=> ?_,h6⟩
 .rw[h4];refine List.map_congr_left fun x hx=> ?_
  have e:x.1.map (bq P w).hash=x.1.map (bq P' w').hash:=List.map_congr_left fun k hk'=>by
   obtain⟨i,rfl⟩:=hk x hx k hk'
   rfl
  show(⟨reduceHash (Builtin.Tuple.tupleHashOf (x.1.map (bq P w).hash)),.ref x.2.1,x.2.2⟩:DictEntry)=⟨reduceHash (Builtin.Tuple.tupleHashOf (x.1.map (bq P' w').hash)),.ref x.2.1,x.2.2⟩
  rw[e]
 .obtain⟨o',its,n,q1,q2,q3,q4⟩:=h5 x hx;exact⟨o',its,n,q1,q2,q3,DX q4⟩
def Bh (kvs:List (List Key × V)):Prop:=∀kv∈kvs, ∃v:Int,kv.2= .int v
section
variable {X : Cx} {pins : List (Addr × Obj)} {σ : St} {H : Hp} {s : Shared}
theorem KT.keys {H:Hp}:∀ {kvs:List (List Key × V)}{xs:List (List Key × Addr × Value)},KT H kvs xs->xs.map (·.1)=kvs.map (·.1)
 | [],[],_=>rfl
 | p::_,q::_,.cons h t=>by
  show q.1::_=p.1::_
  rw[h.1];exact congrArg _ (KT.keys t)
theorem KT.at {H:Hp}:∀ {kvs:List (List Key × V)}{xs:List (List Key × Addr × Value)},KT H kvs xs->∀ {i:Nat}{x:List Key × Addr × Value},xs[i]? =some x->∃kv,kvs[i]? =some kv/\kv.1=x.1/\bp kv.2 x.2.2
 | [],[],_,i,x,e=>by simp at e
 | p::_,q::_,.cons h t,i,x,e=>by
  cases i with
  | zero=>
   obtain rfl:q=x:=by simpa using e
   exact⟨p,rfl,h.1,h.2.2⟩
  | succ i=>exact KT.at t (by simpa using e)
theorem EK (I:Inv X pins Z H s) {p q:Addr}{kvs:List (List Key × V)}(hp:Rd H p (.dT kvs)) (hq:Rd H q (.dT kvs)) (hk:Ez kvs) (hi:Bh kvs) {A:Around}(hu:A.units+2 < cLine):EqAt A s (.ref p) (.ref q) true:=by
 by_cases e:p=q
 .subst e;exact EqAt.same _
 obtain⟨_,lp,xs,rx,dx⟩:=vt I.hok hp;obtain⟨_,lq,ys,ry,dy⟩:=vt I.hok hq;refine EqAt.of_refs e fun prog w E Q h=> ?_
 have ik:∀ {zs:List (List Key × Addr × Value)},KT H kvs zs->∀x∈zs, ∀k∈x.1, ∃i:Int,k= .inl i:=fun r x hx k hkx=>by
  obtain⟨i,hix⟩:=List.getElem?_of_mem hx;obtain⟨kv,e1,e2,_⟩:=r.at hix;exact hk kv (List.mem_of_getElem? e1) k (by rw[e2];exact hkx)
 refine GV lp lq (vy (P':=prog) (w':=w) (ik rx) dx) (vy (P':=prog) (w':=w) (ik ry) dy) (by lia) (show A.units+1 < cLine by lia) (by rw[rx.keys,ry.keys]) (fun i x y hx hy=> ?_) h
 obtain⟨kv,e1,_,r1⟩:=rx.at hx;obtain⟨kv',e2,_,r2⟩:=ry.at hy;obtain rfl:kv=kv':=Option.some.inj (e1.symm.trans e2);obtain⟨v,ev⟩:=hi kv (List.mem_of_getElem? e1);rw[ev] at r1 r2;obtain⟨t,et⟩:=r1;obtain⟨t',et'⟩:=r2;rw[et,et'];have:=EqAt.int_int (A:=A.in1) (s:=s) v t v t'
 rwa [beq_self_eq_true] at this
def zj (K:Frag) (H:Hp) (x y:V):Prop:=ie K H 31 x y\/∃p q kvs,x= .ref p/\y= .ref q/\Rd H p (.dT kvs)/\Rd H q (.dT kvs)/\Ez kvs/\Bh kvs
theorem zj.eqAt (I:Inv X pins Z H s) {x y:V}(h:zj X.K H x y) {A:Around}{u v:Value}(hu:A.units+31 < cLine) (ru:bp x u) (rv:bp y v):EqAt A s u v true:=by
 rcases h with h | ⟨p,q,kvs,rfl,rfl,hp,hq,hk,hi⟩
 .exact h.eqAt I hu ru rv
 .cases ru
  cases rv
  exact EK I hp hq hk hi (by lia)
def Gu (K:Frag) (r:Bool):R2:=fun x y H Q=>∃(a b:Addr) (xs ys:List V),x= .ref a/\y= .ref b/\SqT K H a xs/\SqT K H b ys/\xs.length=ys.length/\(∀ (j:Nat) (x y:V),xs[j]? =some x->ys[j]? =some y->zj K H x y)/\Q (.bl r) H
theorem rz (hu:X.A.units+64 < cLine):OpR X (compareOp .NotEq) (Gu X.K false):=by
 intro pins s Z H x y v u Q I rx ry h;obtain⟨a,b,xs,ys,rfl,rfl,h1,h2,hl,hs,q⟩:=h
 cases rx
 cases ry
 obtain⟨us,r1,p1,_⟩:=I.tuple h1;obtain⟨vs,r2,p2,_⟩:=I.tuple h2;have:=RcNeAt.tuples (A:=X.A) (e:=fun _=>true) p1 p2 (by lia) (pe (E:=fun u v=>EqAt X.A.in1 s u v true) r1 r2 hl (R:=zj X.K H) hs fun x y u v h ru rv=>h.eqAt I (by show X.A.units+1+31 < cLine;lia) ru rv)
 have z:us.toArray.size=vs.toArray.size:=by simp only[List.size_toArray];rw[<- r1.length, <-r2.length];exact hl
 rw[pj,Bool.true_and,z,beq_self_eq_true] at this;exact this X.prog X.w _ _ ⟨.bl false,H,I,rfl,q⟩
end
open PySem PySem.Spec PyProof.Rows PyProof PySem.SeqAt
def nQ (h:Heap) (d:Addr) (es:Array DictEntry) (ep:Nat):Prop:=∃o,h.get? d=some o/\o.ExactDict/\o.data= .dict es ep
theorem nQ.typeIs {s:Shared}{d:Addr}{es:Array DictEntry}{ep:Nat}(x:nQ s.heap d es ep):s.TypeIs (.ref d) "dict":=let ⟨o,ho,hc,_⟩:=x;⟨o,ho,hc.1⟩
theorem nQ.keep {h h':Heap}{d:Addr}{es:Array DictEntry}{ep:Nat}(x:nQ h d es ep) (k:∀o,h.get? d=some o->h'.get? d=some o):nQ h' d es ep:=let ⟨o,ho,r⟩:=x;⟨o,k o ho,r⟩
open PySem PySem.Spec PyProof.Rows PyProof PySem.SeqAt
section
variable {prog : Program} {w : World}
theorem B_ (d:Addr):
  MeetsIn prog w (Builtin.«dict.clear» ⟨[.ref d],[]⟩) (fun _ R s=>∃es ep,nQ s.heap d es ep/\es.size<=sizeLine/\
   ∀h',nQ h' d #[] (ep+1)->Heap.SameBut d s.heap h'->R (.ok (.ret .none)) {s with heap:=h'}):=
 .of_wp fun A R s ⟨es,ep,hm,hes,h⟩=>by
  obtain⟨o,ho,hc,hdat⟩:=id hm;unfold Builtin.«dict.clear»;refine wpAny_bind ?_
  unfold Builtin.Dict.noArgs;refine wpAny_bind (wpAny_notOrdered_dict hm.typeIs ?_)
  show wpAny _ _ (pure d) _ _ s
  refine wpAny_pure (wpAny_bind (wpAny_dictEntries ho hdat (wpAny_bind ?_)))
  unfold bearsInstanceDictMark;refine wpAny_bind (wpAny_load ho (wpAny_pure ?_))
  refine wpAny_bind (wpAny_updateDictKeys (hz:=hes) ho hdat ?_)
  have hnew:nQ (s.heap.update d (Obj.mapDictKeys fun _=> #[])) d #[] (ep+1):=
   ⟨_,Heap.get?_update_self _ ho (Obj.isFreed_of_dict (Obj.data_mapDictKeys hdat _)),hc.mapDictKeys _,Obj.data_mapDictKeys hdat _⟩
  split
  .exact wpAny_bind (wpAny_letGo (wpAny_pure ⟨.none,rfl,h _ hnew (Heap.SameBut.update ..)⟩))
  .exact wpAny_bind (wpAny_pure (wpAny_pure ⟨.none,rfl,h _ hnew (Heap.SameBut.update ..)⟩))
end
def Fk:V->List V->Hp->VK->Prop:=fun x vs H Q=>∃a kvs,x= .ref a/\vs=[]/\H a=some (.dT kvs)/\Q .non (upd H a (.dT []))
theorem CC {X:Cx}:MtM X "dict.clear" Fk:=by
 intro pins s Z H x vs v us Q I rx rv h;obtain⟨a,kvs,rfl,rfl,ha,q⟩:=h
 cases rx
 have hus:=rv.zero;subst hus;obtain⟨z,hd,xs,r,o,es,ep,h1,h2,h3,h4,h5⟩:=(show cO X.prog X.w H s.heap a (.dT kvs) from I.hok a _ ha);have raw:nQ s.heap a es ep:=⟨o,h1,h2,h3⟩;have hes:es.size<=sizeLine:=by
  have e1:es.toList.length=xs.length:=by rw[h4,List.length_map]
  have e2:=r.length;rw[Array.length_toList] at e1
  lia
 refine call_meetsIn PySem.F.slot_dict_clear raw.typeIs PySem.F.entry_dict_clear (PySem.F.args_dict_clear_1 _) (B_ a) ⟨es,ep,raw,hes,fun h' raw' hs=> ?_⟩
 obtain⟨o',g1,g2,g3⟩:=raw';exact⟨.non,_,xr (t':=s.toks) (ob:= .dT []) I (by rw[ha];exact True.intro) hs ⟨o',g1⟩ (show _/\_ from⟨Nat.zero_le _,hd,[],.nil,o', #[],ep+1,g1,g2,g3,rfl,List.nodup_nil⟩),rfl,q⟩
end L2
namespace L2
open PySem PySem.Spec PyProof.Rows PyProof PySem.SeqAt
section
variable {X : Cx} {sc0 scope : Scope} {N0 N : List Str} {t : Nat} {js : List Nat} {elt iter tg c : Expr} {pos : Pos} {wi : TI} {g : TG} {tt : TT} {te : TE}
theorem C0 (hc:X.calm=true) (hsc:X.env.scope=sc0) (hN0:X.N=N0) (B:iI sc0 scope N0 N t js) (hi:PI X tg iter wi) (hg:∀(C:Addr) (s:Shared) (H:Hp) (fp:List Addr),PG (cxB X scope N C s H fp) tg g)
  (ht:∀(C:Addr) (s:Shared) (H:Hp) (fp:List Addr),PT (cxB X scope N C s H fp) c tt) (he:∀(C:Addr) (s:Shared) (H:Hp) (fp:List Addr),PE (cxB X scope N C s H fp) elt te) (hs:∀x,foldedSetIterable iter X.env x=pure x:=by intro _;rfl):PE X (.ListComp elt [⟨tg,iter,[c],0⟩] scope pos) (Hf wi g tt te t js):=by
 intro pins s Z H Q I h;rw[eval_ListComp];refine wpAny_comprehension_free (use:=none) rfl hs (ji (pD I hsc B)) B.kind B.names (thn (hi pins s Z H _ I h) fun v s1 h1=>thn h1 fun itv s2 h2=> ?_)
 obtain⟨it,fp,tn,J,H2,e,I2,T,st2,f2,hJ⟩:=h2;subst e;refine CD (RR:=fun acc C=>compPost (model X.prog X.w) X.A X.xe none (EP X pins Z Q) acc C) (Q:=Q) hc hsc hN0 B hg ht he I2 T st2 f2 hJ ?_
 intro s3 H3 p H' s' m I3 I' hn hfree q;exact⟨m,hn,fun h' hs'=>⟨.ref p,H',sY I3 I' rfl hfree hs',rfl,q⟩⟩
end
section
variable {K : Frag} {g : TG} {tt : TT} {te : TE} {t : Nat} {js : List Nat} {σ : St} {H : Hp} {Q : VK} {p : Addr}
theorem AF {a:Addr}{xs:List V}(Pv:Nat->List V->Hp->Prop) (h0:Pv 0 [] (upd H p (.lst []))) (hl:∀i ys H,Pv i ys H->SqL K H a xs)
  (hs:∀i x ys H (F:List V->Hp->Prop),(∀ ys' H',Pv (i+1) ys' H'->F ys' H')->xs[i]? =some x->Pv i ys H->g x (blk t js Z) H fun Z2 H2=>Wk (blk t js Z) Z2/\tt Z2 H2 fun b H3=>match b with
   | true=>te Z2 H3 fun y H4=>H4 p=some (.lst ys)/\ys.length < sizeLine/\F (ys++[y]) (upd H4 p (.lst (ys++[y])))
   | false=>F ys H3)
  (hd:∀ys H,Pv xs.length ys H->Q (.ref p) H):
  qB (Itl K a) g tt te t js Z p H Q:=by
 refine⟨fun i m ys H=>m=xs.length - i/\i<=xs.length/\Pv i ys H,⟨xs.length,by simp,Nat.zero_le _,h0⟩,?_⟩
 rintro i m ys H ⟨rfl,hi,pv⟩
 have q:=hl i ys H pv
 by_cases hlt:i < xs.length
 .refine .inr ⟨⟨xs,xs[i],q,by simp [hlt]⟩,fun x H' y=> ?_⟩
  obtain⟨e,y⟩:=y;subst e;exact hs i x ys _ (fun ys' H'=>∃m',m' < xs.length - i/\m'=xs.length - (i+1)/\i+1<=xs.length/\Pv (i+1) ys' H') (fun ys' H' z=>⟨_,by lia,rfl,hlt,z⟩) (y xs q) pv
 .have e:i=xs.length:=by lia
  subst e;exact .inl ⟨⟨xs,q,Nat.le_refl _⟩,hd ys H pv⟩
end
open PySem PySem.Spec PyProof.Rows PyProof PySem.SeqAt
open PySem PySem.Spec PyProof.Rows PyProof PySem.SeqAt
section
variable {X : Cx}
def FV (K:Frag) (neg:Bool):R2:=fun x y H Q=>(x= .non/\∃(b:Addr) (ms:List Int),y= .ref b/\SqT K H b (ms.map V.int)/\Q (.bl neg) H)\/C9 K neg x y H Q
theorem yH (hu:X.A.units+64 < cLine):OpR X (compareOp .Eq) (FV X.K false):=by
 intro pins s Z H x y v u Q I rx ry h;rcases h with⟨rfl,b,ms,rfl,h2,q⟩ | h
 .cases rx
  cases ry
  obtain⟨its2,r2,pl2,_⟩:=I.tuple h2;exact eq_dataH_same (Reads.none (h:=s.heap)) (gm pl2 (cK r2)) rfl (fA ms) hu (by simp only[noMix]) (by simp only[PySem.Spec.same];exact⟨.bl _,H,I,rfl,q⟩)
 .exact zr hu pins s Z H x y v u Q I rx ry h
end
open PySem PySem.Spec PyProof.Rows PyProof PySem.SeqAt
theorem ex0 {α:Type}:∀us:List α,us.length=0->us=[]
 | [],_=>rfl
theorem ex1 {α:Type}:∀us:List α,us.length=1->∃a,us=[a]
 | [a],_=>⟨a,rfl⟩
theorem ex2 {α:Type}:∀us:List α,us.length=2->∃a b,us=[a,b]
 | [a,b],_=>⟨a,b,rfl⟩
theorem ex3 {α:Type}:∀us:List α,us.length=3->∃a b c,us=[a,b,c]
 | [a,b,c],_=>⟨a,b,c,rfl⟩
theorem ex4 {α:Type}:∀us:List α,us.length=4->∃a b c d,us=[a,b,c,d]
 | [a,b,c,d],_=>⟨a,b,c,d,rfl⟩
theorem ex5 {α:Type}:∀us:List α,us.length=5->∃a b c d e,us=[a,b,c,d,e]
 | [a,b,c,d,e],_=>⟨a,b,c,d,e,rfl⟩
theorem ex6 {α:Type}:∀us:List α,us.length=6->∃a b c d e f,us=[a,b,c,d,e,f]
 | [a,b,c,d,e,f],_=>⟨a,b,c,d,e,f,rfl⟩
open PySem PySem.Spec PyProof.Rows PyProof PySem.SeqAt
end L2
namespace L2
open PySem
theorem Jt {a b:Sort _}{P:a->b->Prop}(k l) (h:P k l):∃k l,P k l:=⟨k,l,h⟩
theorem Jl {a b c:Sort _}{P:a->b->c->Prop}(k l m) (h:P k l m):∃k l m,P k l m:=⟨k,l,m,h⟩
theorem IX {a b c d:Sort _}{P:a->b->c->d->Prop}(k l m n) (h:P k l m n):∃k l m n,P k l m n:=⟨k,l,m,n,h⟩
theorem Jd {a b c d e:Sort _}{P:a->b->c->d->e->Prop}(k l m n o) (h:P k l m n o):∃k l m n o,P k l m n o:=⟨k,l,m,n,o,h⟩
theorem Jy {a b c d e f:Sort _}{P:a->b->c->d->e->f->Prop}(k l m n o p) (h:P k l m n o p):∃k l m n o p,P k l m n o p:=⟨k,l,m,n,o,p,h⟩
theorem Jm {a b c d e f g:Sort _}{P:a->b->c->d->e->f->g->Prop}(k l m n o p q) (h:P k l m n o p q):∃k l m n o p q,P k l m n o p q:=⟨k,l,m,n,o,p,q,h⟩
theorem Jx {a b c d e f g h:Sort _}{P:a->b->c->d->e->f->g->h->Prop}(k l m n o p q r) (h:P k l m n o p q r):∃k l m n o p q r,P k l m n o p q r:=⟨k,l,m,n,o,p,q,r,h⟩
theorem Jv {a b c d e f g h i:Sort _}{P:a->b->c->d->e->f->g->h->i->Prop}(k l m n o p q r s) (h:P k l m n o p q r s):∃k l m n o p q r s,P k l m n o p q r s:=⟨k,l,m,n,o,p,q,r,s,h⟩
theorem Hy {a b c d e f g h i j:Sort _}{P:a->b->c->d->e->f->g->h->i->j->Prop}(k l m n o p q r s t) (h:P k l m n o p q r s t):∃k l m n o p q r s t,P k l m n o p q r s t:=⟨k,l,m,n,o,p,q,r,s,t,h⟩
theorem e11 {a:Sort _}{A B:a->Prop}(x) (h:A x) (q:B x):∃x,A x/\B x:=⟨x,h,q⟩
theorem e22 {a b:Sort _}{A C B:a->b->Prop}(x y) (h:A x y) (i:C x y) (q:B x y):∃x y,A x y/\C x y/\B x y:=⟨x,y,h,i,q⟩
theorem e44 {a b c d:Sort _}{A C D E B:a->b->c->d->Prop}(x y z w) (h:A x y z w) (i:C x y z w) (j:D x y z w) (k:E x y z w) (q:B x y z w):∃x y z w,A x y z w/\C x y z w/\D x y z w/\E x y z w/\B x y z w:=⟨x,y,z,w,h,i,j,k,q⟩
theorem Gz {i:Nat}{Z:St}{H:Hp}{Q:VK}{v:V}(h:Z[i]? =some (some v)) (q:Q v H):Hj i Z H Q:=⟨v,h,q⟩
@[irreducible] def Nx (X : St → Hp → Prop) : St → Hp → Prop := X
structure NxH (A X:St->Hp->Prop):Prop where
 out:∀Z H,A Z H->Nx X Z H
theorem HS {t u:TS}{D:tQ}{Z:St}{H:Hp}(h:∀X:St->Hp->Prop,NxH (u D) X->t ⟨Nx X,D.rt,D.bk,D.ct⟩ Z H):HY t u D Z H:=by
 have e:Nx (u D)=u D:=by unfold Nx;rfl
 have:=h (u D) ⟨fun _ _ h=>by rw[e];exact h⟩
 rw[e] at this;exact this
theorem NxH.st {A X:St->Hp->Prop}{Z:St}{H:Hp}(r:NxH A X) (h:A Z H):Nx X Z H:=r.out _ _ h
theorem aY {P:Program}{w:World}{K:Frag}{mg:Str->Option Value}{base:Heap}{N:List Str}{q:Str}{sc:Scope}{f:Addr}{cd:Value}{A:Around}{o:List Env}{s:Shared}{H:Hp}{E:XK}:(pC CX0 P w K mg base N q sc f cd A o s H E).nox.K=K:=rfl
theorem Hd {P:Program}{w:World}{K:Frag}{mg:Str->Option Value}{base:Heap}{N:List Str}{q:Str}{sc:Scope}{f:Addr}{cd:Value}{A:Around}{o:List Env}{s:Shared}{H:Hp}{E:XK}{CX:CXT}:(pC CX P w K mg base N q sc f cd A o s H E).K=K:=rfl
theorem aJ {N P:List Str}{sc:Scope}(h:N.Nodup/\(∀ x∈P,sc.names.lookup x=some .local\/sc.names.lookup x=some .cell)/\∀y∈sc.names,y.2≠ .free:=by decide +kernel) (a:sc.kind= .function:=by rfl) (b:sc.isCoroutine=false:=by rfl) (c:sc.isGenerator=false:=by rfl) (d:N.take P.length=P:=by rfl):aq N P sc:=⟨a,b,c,h.1,d,h.2.1,h.2.2⟩
section
variable {X : Cx}
theorem psS (i:Nat) {x:Str}{e:Expr}{te:TE}{pos pos':Pos}(hN:X.N.Nodup) (he:PE X e te) (hi:X.N[i]? =some x:=by rfl) (hx:Loc X.env.scope x:=by first | (left;rfl) | (right;rfl)) (hs:swapsWith e (some (.Name x pos')) pos.line X.env=pure false:=by rfl) (hf:X.fn x=true\/X.env.scope.names.lookup x=some .local:=by first | exact .inl rfl | exact .inr rfl | assumption):PS X (.Assign [.Name x pos'] e pos) (Fb te (zd i)):=Ha hN hi hx he hs hf
theorem pcH {j k:Nat}{x:Str}{ps:List Str}{sp:Sp}{e:Expr}{es:List Expr}{t:TA}{p pos:Pos}(h:Has X.prog X.w X.K X.mg X.base j x ps sp) (hr:Room k X.A) (ha:PA X (e::es) t) (hj:j<=k:=by omega) (hg:Gl X x:=by rfl) (hdb:(x == ("__debug__":Str))=false:=by decide) (he:starEach (e::es) X.env=(false,eval e X.env)::starEach es X.env:=by rfl) (hpl:(backTo pos (starEach es X.env)).any (·.1)=false:=by rfl):PE X (.Call (.Name x p) (e::es) [] pos) (yn sp [] E0 t):=DM (h.mono hj) hr hg ha hdb he hpl
theorem pX {a b:Expr}{ta tb:TE}{pos:Pos}{r:R2}(hr:IxR X r) (ha:PE X a ta) (hb:PE X b tb) (hs:BK b:=by intro _ _;rfl):PE X (.Subscript a b pos) (tOp r ta tb):=Ey hr ha hb hs
theorem pcE {a b:Expr}{ta tb:TE}{pos:Pos}{op:CmpOp}{r:R2}(ho:OpR X (compareOp op) r) (ha:PE X a ta) (hb:PE X b tb) (hm:behindInMarks op b=false:=by exact AW _):PE X (.Compare a [op] [b] pos) (tOp r ta tb):=EM ho ha hb hm
theorem pcT {a b:Expr}{ta tb:TE}{pos:Pos}{op:CmpOp}{r:R2}(ho:OpR X (compareOp op) r) (ha:PE X a ta) (hb:PE X b tb) (hm:behindInMarks op b=false:=by exact AW _):PT X (.Compare a [op] [b] pos) (F1 (tOp r ta tb)):=nA ho ha hb hm
theorem pa1 {e0:Expr}{t0:TE}(h0:PE X e0 t0) (s0:starEach [e0] X.env=(false,eval e0 X.env)::starEach [] X.env:=by rfl):PA X [e0] (fC t0 sP):=aN h0 cY s0
theorem pa2 {e0 e1:Expr}{t0 t1:TE}(h0:PE X e0 t0) (h1:PE X e1 t1) (s0:starEach [e0,e1] X.env=(false,eval e0 X.env)::starEach [e1] X.env:=by rfl) (s1:starEach [e1] X.env=(false,eval e1 X.env)::starEach [] X.env:=by rfl):PA X [e0,e1] (fC t0 (fC t1 sP)):=aN h0 (aN h1 cY s1) s0
theorem pa3 {e0 e1 e2:Expr}{t0 t1 t2:TE}(h0:PE X e0 t0) (h1:PE X e1 t1) (h2:PE X e2 t2) (s0:starEach [e0,e1,e2] X.env=(false,eval e0 X.env)::starEach [e1,e2] X.env:=by rfl) (s1:starEach [e1,e2] X.env=(false,eval e1 X.env)::starEach [e2] X.env:=by rfl) (s2:starEach [e2] X.env=(false,eval e2 X.env)::starEach [] X.env:=by rfl):PA X [e0,e1,e2] (fC t0 (fC t1 (fC t2 sP))):=aN h0 (aN h1 (aN h2 cY s2) s1) s0
theorem pa4 {e0 e1 e2 e3:Expr}{t0 t1 t2 t3:TE}(h0:PE X e0 t0) (h1:PE X e1 t1) (h2:PE X e2 t2) (h3:PE X e3 t3) (s0:starEach [e0,e1,e2,e3] X.env=(false,eval e0 X.env)::starEach [e1,e2,e3] X.env:=by rfl) (s1:starEach [e1,e2,e3] X.env=(false,eval e1 X.env)::starEach [e2,e3] X.env:=by rfl) (s2:starEach [e2,e3] X.env=(false,eval e2 X.env)::starEach [e3] X.env:=by rfl) (s3:starEach [e3] X.env=(false,eval e3 X.env)::starEach [] X.env:=by rfl):PA X [e0,e1,e2,e3] (fC t0 (fC t1 (fC t2 (fC t3 sP)))):=aN h0 (aN h1 (aN h2 (aN h3 cY s3) s2) s1) s0
theorem pa5 {e0 e1 e2 e3 e4:Expr}{t0 t1 t2 t3 t4:TE}(h0:PE X e0 t0) (h1:PE X e1 t1) (h2:PE X e2 t2) (h3:PE X e3 t3) (h4:PE X e4 t4) (s0:starEach [e0,e1,e2,e3,e4] X.env=(false,eval e0 X.env)::starEach [e1,e2,e3,e4] X.env:=by rfl) (s1:starEach [e1,e2,e3,e4] X.env=(false,eval e1 X.env)::starEach [e2,e3,e4] X.env:=by rfl) (s2:starEach [e2,e3,e4] X.env=(false,eval e2 X.env)::starEach [e3,e4] X.env:=by rfl) (s3:starEach [e3,e4] X.env=(false,eval e3 X.env)::starEach [e4] X.env:=by rfl) (s4:starEach [e4] X.env=(false,eval e4 X.env)::starEach [] X.env:=by rfl):PA X [e0,e1,e2,e3,e4] (fC t0 (fC t1 (fC t2 (fC t3 (fC t4 sP))))):=aN h0 (aN h1 (aN h2 (aN h3 (aN h4 cY s4) s3) s2) s1) s0
end
end L2
namespace L2
open PySem PySem.Spec PyProof.Rows PyProof PySem.SeqAt
section
variable {X : Cx}
def Iz (K:Frag):R2:=fun x y H Q=>∃(a b:Addr) (s t:Str) (ns ms:List Int),x= .ref a/\y= .ref b/\SqT K H a (.str s::ns.map V.int)/\SqT K H b (.str t::ms.map V.int)/\PyData.strOk s=true/\PyData.strOk t=true/\Q (.bl (!(decide (s=t) && decide (ns=ms)))) H
theorem CP (hu:X.A.units+64 < cLine):OpR X (compareOp .NotEq) (Iz X.K):=by
 intro pins s Z H x y v u Q I rx ry h;obtain⟨a,b,sx,tx,ns,ms,rfl,rfl,h1,h2,o1,o2,q⟩:=h
 cases rx
 cases ry
 obtain⟨its,r,pl,_⟩:=I.tuple h1;obtain⟨its2,r2,pl2,_⟩:=I.tuple h2;have d2:=BU pl2 r2;have d1:=BU pl r;have hs:same (.tuple (.str sx::ns.map PyData.int)) (.tuple (.str tx::ms.map PyData.int))=(decide (sx=tx) && decide (ns=ms)):=by
  have:=W.same_ints ns ms
  by_cases e:sx=tx
  .simp only[same,sameAll,e]
   rw[this]
   simp
  .simp [same,sameAll,e]
 have hm:noMix (.tuple (.str sx::ns.map PyData.int)) (.tuple (.str tx::ms.map PyData.int))=true:=by
  have:=W.noMix_ints ns ms
  simp [noMix,noMixAll,this]
 exact ne_dataH_same d1 d2 (zU _ o1) (zU _ o2) hu hm (by rw[hs];exact⟨.bl _,H,I,rfl,q⟩)
end
open PySem PySem.Spec PyProof.Rows PyProof PySem.SeqAt
section
variable {prog : Program} {w : World} {A : Around} {E : Value → Shared → Prop} {s : Shared} {it d v : Addr} {i ep : Nat} {es : Array DictEntry}
theorem HA {Q:Value->Shared->Prop}(hd:(d == sysModules)=false) (hm:nQ s.heap d es ep)
  (hQ:Q (.ref s.heap.objs.size) {s with heap:=s.heap.push {cls:= .type "dict_keyiterator",data:= .fields #[.ref d,.int 0 0,.int es.size 0,.int ep 0]}}):wpAny (model prog w) A (pyIter (.ref d)) Q E s:=by
 have hT:=hm.typeIs;obtain⟨o,ho,_,hdat⟩:=hm;have ns:¬(d == sysModules)=true:=by rw[hd];exact Bool.false_ne_true
 refine wpAny_pyIter_slot hT F.slot_dict_iter (wpAny_call_entry F.slot_dict_iter hT F.entry_dict_iter ?_ (F.args_dict_iter_1 _))
 unfold Builtin.«dict.__iter__»;refine wpAny_bind ?_
 unfold Builtin.Dict.dictSlotNone;refine wpAny_bind (wpAny_notOrdered_dict hT ?_)
 show wpAny _ _ (pure (Value.ref d)) _ _ s
 refine wpAny_pure ?_
 show wpAny _ _ (Builtin.Dict.showsAll d >>= _) _ _ s
 unfold Builtin.Dict.showsAll;rw[if_neg ns];refine wpAny_bind (wpAny_pure (wpAny_bind (wpAny_dictEntries ho hdat (wpAny_bind (wpAny_dictEpoch ho hdat ?_)))))
 refine wpAny_bind (wpAny_newObj_type (wpAny_pure ⟨_,rfl,"dict_keyiterator",_,⟨_,Heap.get?_push_size _ rfl,rfl⟩,F.slot_dict_keyiterator_next.lookup,?_⟩))
 simpa [rawInt] using hQ
theorem H_ {Q:Option Value->Shared->Prop}(hit:s.heap.IsKeyIter it d i es.size ep) (hm:nQ s.heap d es ep) (hi:i < es.size)
  (hQ:∀h',h'.IsKeyIter it d (i+1) es.size ep->Heap.SameBut it s.heap h'->Q (some es[i].key) {s with heap:=h'}):wpAny (model prog w) A (pyNext (.ref it)) Q E s:=by
 obtain⟨o,ho,hc,hd⟩:=id hit;obtain⟨od,hod,_,hdd⟩:=hm;have own:Builtin.Dict_items.ownsTuple "dict_keyiterator"=false:=by decide
 unfold pyNext
 refine wpAny_bind (wpAny_attempt (wpAny_callSpecial?_slot (name:=Str.ofString "__next__") hit.typeIs F.slot_dict_keyiterator_next
  (wpAny_call_entry F.slot_dict_keyiterator_next hit.typeIs F.entry_dict_keyiterator_next ?_ (F.args_dict_keyiterator_next_1 _))))
 refine wpAny_bind (wpAny_pure (wpAny_bind (wpAny_bind ?_)))
 first | refine wpAny_bind (wpAny_typeNameOfWhole_keyiter hit.typeIs (wpAny_pure ?_)) | refine wpAny_bind (wpAny_typeNameOf_keyiter hit.typeIs (wpAny_pure ?_))
 refine wpAny_bind (wpAny_fieldsOf ho hd ?_)
 simp only[own,Bool.false_eq_true,if_false]
 show wpAny _ _ (if (Value.ref d == Value.none)=true then _ else _) _ _ s
 rw[if_neg (show ¬((Value.ref d == Value.none)=true) from Bool.false_ne_true)];refine wpAny_bind (wpAny_pure (wpAny_bind (wpAny_dictEntries hod hdd ?_)))
 rw[if_neg (by simp)]
 refine wpAny_bind (wpAny_pure (wpAny_bind (wpAny_dictEpoch hod hdd ?_)))
 rw[if_neg (by simp)]
 refine wpAny_pure ?_
 simp only[show ¬((i:Int) < 0) from by lia,if_false,Int.toNat_natCast,Array.getElem?_eq_getElem hi]
 refine wpAny_bind ?_
 first | refine wpAny_bind (wpAny_typeNameOfWhole_keyiter hit.typeIs (wpAny_pure ?_)) | refine wpAny_bind (wpAny_typeNameOf_keyiter hit.typeIs (wpAny_pure ?_))
 refine wpAny_bind (wpAny_isOneOf_keyiter hit.typeIs ?_)
 show wpAny _ _ (setField (.ref it) 1 (rawInt ((i:Int)+1)) >>= _) _ _ s
 refine wpAny_bind (wpAny_setField ho hd (by simp) ?_)
 obtain⟨h2,e2⟩:∃h2,h2=s.heap.update it (Obj.mapFields (·.setIfInBounds 1 (rawInt ((i:Int)+1)))):=⟨_,rfl⟩;have hit2:h2.IsKeyIter it d (i+1) es.size ep:=by
  rw[e2];exact⟨_,Heap.get?_update_self _ ho (Obj.isFreed_of_fields (Obj.data_mapFields hd _)),(Obj.cls_mapFields ..).trans hc,by rw[Obj.data_mapFields hd];simp [rawInt]⟩
 have sb:Heap.SameBut it s.heap h2:=by rw[e2];exact Heap.SameBut.update ..
 rw[<- e2];refine wpAny_bind (wpAny_holding (wpAny_bind (wpAny_isOneOf_keyiter (s:={s with heap:=h2}) hit2.typeIs ?_)))
 show wpAny _ _ (pure es[i].key) _ _ _
 exact wpAny_pure (wpAny_pure ⟨_,rfl,wpAny_pure (hQ _ hit2 sb)⟩)
theorem Jc {Q:Option Value->Shared->Prop}(hh:A.handled=none) (hit:s.heap.IsKeyIter it d es.size es.size ep) (hm:nQ s.heap d es ep)
  (hQ:∀h',Heap.ExtBut it s.heap h'->Q none {s with heap:=h'}):wpAny (model prog w) A (pyNext (.ref it)) Q E s:=by
 obtain⟨o,ho,hc,hd⟩:=id hit;obtain⟨od,hod,_,hdd⟩:=hm;have own:Builtin.Dict_items.ownsTuple "dict_keyiterator"=false:=by decide
 unfold pyNext
 refine wpAny_bind (wpAny_attempt (wpAny_callSpecial?_slot (name:=Str.ofString "__next__") hit.typeIs F.slot_dict_keyiterator_next
  (wpAny_call_entry F.slot_dict_keyiterator_next hit.typeIs F.entry_dict_keyiterator_next ?_ (F.args_dict_keyiterator_next_1 _))))
 refine wpAny_bind (wpAny_pure (wpAny_bind (wpAny_bind ?_)))
 first | refine wpAny_bind (wpAny_typeNameOfWhole_keyiter hit.typeIs (wpAny_pure ?_)) | refine wpAny_bind (wpAny_typeNameOf_keyiter hit.typeIs (wpAny_pure ?_))
 refine wpAny_bind (wpAny_fieldsOf ho hd ?_)
 simp only[own,Bool.false_eq_true,if_false]
 show wpAny _ _ (if (Value.ref d == Value.none)=true then _ else _) _ _ s
 rw[if_neg (show ¬((Value.ref d == Value.none)=true) from Bool.false_ne_true)];refine wpAny_bind (wpAny_pure (wpAny_bind (wpAny_dictEntries hod hdd ?_)))
 rw[if_neg (by simp)]
 refine wpAny_bind (wpAny_pure (wpAny_bind (wpAny_dictEpoch hod hdd ?_)))
 rw[if_neg (by simp)]
 refine wpAny_pure ?_
 simp only[show ¬((es.size:Int) < 0) from by lia,if_false,Int.toNat_natCast,Array.getElem?_eq_none (Nat.le_refl es.size)]
 refine wpAny_bind ?_
 first | refine wpAny_bind (wpAny_typeNameOfWhole_keyiter hit.typeIs (wpAny_pure ?_)) | refine wpAny_bind (wpAny_typeNameOf_keyiter hit.typeIs (wpAny_pure ?_))
 show wpAny _ _ (setField (.ref it) 0 .none >>= _) _ _ s
 refine wpAny_bind (wpAny_setField ho hd (by simp) ?_)
 show wpAny _ _ (newExc (.type "StopIteration") [] >>= _) _ _ _
 refine wpAny_bind ?_
 simp only[newExc,newTuple]
 refine wpAny_bind (wpAny_newObj_type ?_ (by size_fits))
 refine wpAny_bind (m:=firstArgMember _ _) (wpAny_of_eq (a:=Value.none) (by first | rfl | (simp only[firstArgMember];rfl)) ?_)
 refine wpAny_newObj_type ?_ (by size_fits)
 simp only[raiseNew]
 refine wpAny_bind (wpAny_handled ?_)
 rw[show A.in1.handled=none from hh];refine wpAny_bind (wpAny_pure (wpAny_throw ?_))
 refine wpAny_bind (wpAny_isInstance (T:="StopIteration") (b:=true) ⟨_,Heap.get?_push_size _ rfl,rfl⟩ isSubtype_stop ?_)
 exact wpAny_pure (hQ _ (((Heap.SameBut.update ..).extBut.push _).push _))
theorem Hc (hh:A.handled=none) (I d:Addr) (hne:d≠I) (es:Array DictEntry) (ep:Nat):
  Walks prog w A I [I,d] [I] es.size (fun i v=>∃h:i < es.size,v=es[i].key) (fun i h=>h.IsKeyIter I d i es.size ep/\nQ h d es ep) where
 sub:=fun b hb=>by simp at hb;simp [hb]
 frame:=fun _ _ _ st hk=>⟨let ⟨o,ho,r⟩:=st.1;⟨o,hk I (by simp) o ho,r⟩,st.2.keep fun o e=>hk d (by simp) o e⟩
 item:=fun i s Q E hi st hQ=>H_ st.1 st.2 hi fun h' hit' hs'=>hQ _ h' s.toks ⟨hi,rfl⟩ ⟨hit',st.2.keep fun o e=>hs'.extBut d o hne e⟩ fun b o hb e=>hs'.extBut b o (fun h=>hb (by simp [h])) e
 done:=fun s Q E st hQ=>Jc hh st.1 st.2 fun h' he'=>hQ h' s.toks fun b o hb e=>he' b o (fun h=>hb (by simp [h])) e
 self:=fun _ _ _ _ st hQ=>wpAny_pyIter_keyiter st.1 hQ
end
open PySem PySem.Spec PyProof.Rows PyProof PySem.SeqAt
end L2
namespace L2
open PySem PySem.Spec PyProof.Rows PyProof PySem.SeqAt PySem.W
theorem F_:∀f n r:Nat,r<=1->minRun' f n r<=n+r
 | 0,n,r,_=>Nat.le_of_eq rfl
 | f+1,n,r,h=>by
  rw[minRun'_succ]
  by_cases c:n < 64
  .rw[if_pos c];exact Nat.le_refl _
  .rw[if_neg c];have:=F_ f (n / 2) (max r (n %2)) (by omega)
   omega
theorem Bt {cmp:Nat->Nat->(Bool->Shared->Prop)->Shared->Prop}{p:Array Nat}{G:Nat->Shared->Prop}{s:Shared}:∀f n,(∀ i,n<=i->i < n+f->∀C:Bool->Shared->Prop,C false s->cmp (p.getD i 0) (p.getD (i - 1) 0) C s)->G (n+f) s->(kas_asc p f n).kasWp cmp G s
 | 0,_,_,h=>h
 | f+1,n,hc,h=>hc n (Nat.le_refl _) (by lia) _ (Bt f (n+1) (fun i a b=>hc i (by lia) (by lia)) (by rw[show n+1+f=n+(f+1) by lia];exact h))
section
variable {prog : Program} {w : World} {A : Around} {E : Value → Shared → Prop} {s : Shared}
theorem Di {κ:SortKind}{it:Array Keyed}{n:Nat}{Q:Unit->SortSt->Shared->Prop}(h2:2<=n) (hc:∀i,1<=i->i < n->∀C:Bool->Shared->Prop,C false s->kas_cmp prog w A κ it i (i - 1) C s)
  (h:∀st',arrOf st'=(List.toArray (List.range n)).map (kas_item it)->failedOf st'=none->Q () st' s):kasC (model prog w) A E sortRuns' Q (kas_st κ it (List.toArray (List.range n))) s:=by
 obtain⟨r,rfl⟩:∃r,n=r+2:=⟨n - 2,by lia⟩
 have z0:(List.toArray (List.range (r+2))).size=r+2:=by simp
 have z1:(arrOf (kas_st κ it (List.toArray (List.range (r+2))))).size=r+2:=by
  show((List.toArray (List.range (r+2))).map (kas_item it)).size=_
  rw[Array.size_map,z0]
 have zm:minRun' (r+2) (r+2) 0<=r+2:=F_ _ _ 0 (by decide)
 rw[sortRuns'_eq];refine kasC_bind (kasC_get ?_)
 dsimp only
 simp only[z1]
 generalize minRun' (r+2) (r+2) 0=mr at zm;have cnt:(kas_count (r+2) (List.toArray (List.range (r+2)))).kasWp (kas_cmp prog w A κ it) (fun q s'=>q=(r+2,List.toArray (List.range (r+2)))/\s'=s) s:=by
  unfold kas_count;rw[KasT.kasWp_bind];have gd:∀i,i < r+2->(List.toArray (List.range (r+2))).getD i 0=i:=fun i hi=>by simp [Array.getD,hi]
  refine Bt (r+2 - 1) 1 (fun i a b C hC=> ?_) ?_
  .rw[gd i (by lia),gd (i - 1) (by lia)]
   exact hc i a (by lia) C hC
  .rw[show 1+(r+2 - 1)=r+2 by lia,if_pos (beq_self_eq_true _)]
   exact⟨rfl,rfl⟩
 refine kasC_bind (kasC_range ?_)
 show kasC _ _ _ (forIn (0::1::List.range' 2 r) _ _) _ _ _
 refine kasC_cons ?_
 dsimp only;rw[if_neg (by lia)]
 refine kasC_bind (kas_count_ (by lia) (by rw[z0];exact Nat.le_refl _) (fun m p' s' _ _ _ g=> ?_) cnt)
 obtain⟨g1,rfl⟩:=g;obtain⟨rfl,rfl⟩:=Prod.mk.inj g1;dsimp only;rw[if_neg (by lia)]
 refine kasC_bind (kasC_get ?_)
 rw[show(pendingOf (kas_st κ it (List.toArray (List.range (r+2))))).back? =none from rfl];dsimp only;refine kasC_bind (kasC_modify (kasC_pure (kasC_cons ?_)))
 dsimp only;rw[if_pos (by lia)]
 refine kasC_pure ?_
 dsimp only;refine kasC_bind (kasC_range (kasC_cons (kasC_bind (kasC_get ?_))))
 rw[if_pos (show(pendingOf (setPending (kas_st κ it (List.toArray (List.range (r+2)))) ((pendingOf (kas_st κ it (List.toArray (List.range (r+2))))).push (0,r+2,0)))).size<=1 from Nat.le_refl 1)];refine kasC_pure ?_
 dsimp only;exact kasC_pure (h _ rfl rfl)
end
def Pr (h:Heap) (v:Value) (p:Int × Int):Prop:=∃b o t u n,v= .ref b/\h.get? b=some o/\o.cls= .type "tuple"/\o.data= .seq #[.int p.1 t,.int p.2 u] n
theorem Pr.keep {h h':Heap}{v:Value}{p:Int × Int}(x:Pr h v p) (k:∀b o,o.cls= .type "tuple"->h.get? b=some o->h'.get? b=some o):Pr h' v p:=by
 obtain⟨b,o,t,u,n,e,ho,hc,hd⟩:=x;exact⟨b,o,t,u,n,e,k _ _ hc ho,hc,hd⟩
def LtP (p q:Int × Int):Prop:=p.1 < q.1\/(p.1=q.1/\p.2 < q.2)
def uM (ps:List (Int × Int)):Prop:=∀i p q,ps[i]? =some p->ps[i+1]? =some q->LtP p q
section
variable {prog : Program} {w : World} {A : Around} {E : Value → Shared → Prop} {s : Shared}
theorem Ix {x y:Value}{p q:Int × Int}{C:Bool->Shared->Prop}(hx:Pr s.heap x p) (hy:Pr s.heap y q) (h:LtP q p) (hC:C false s):wpAny (model prog w) A (keyLt' (tuples' true) x y) C E s:=by
 obtain⟨a,o,t,u,n,rfl,ho,hc,hd⟩:=hx;obtain⟨b,o2,t2,u2,n2,rfl,ho2,hc2,hd2⟩:=hy;refine kat_lt ho hd ho2 hd2 (kat_cons (wpAny_eqBool_int ?_))
 by_cases e:p.1=q.1
 .rw[show(p.1 == q.1)=true from beq_iff_eq.mpr e];refine kat_yes (kat_cons (wpAny_eqBool_int ?_))
  rcases h with h | ⟨_,h⟩
  .lia
  .rw[show(p.2 == q.2)=false from beq_eq_false_iff_ne.mpr (by lia)]
   refine kat_no (kat_one _ _ (PyProof.Rows.lt_int ?_))
   show C (decide (p.2 < q.2)) s
   rw[decide_eq_false (by lia)]
   exact hC
 .rw[show(p.1 == q.1)=false from beq_eq_false_iff_ne.mpr e];refine kat_no (oneLt_int ?_)
  rcases h with h | ⟨h,_⟩
  .rw[decide_eq_false (by lia)]
   exact hC
  .exact absurd h.symm e
theorem BG {h:Heap}:∀ {vs:List Value}{ps:List (Int × Int)},Paired (fun v p=>Pr h v p) vs ps->∃fs,KatTups h vs fs/\fs.length=vs.length/\∀f∈fs, ∃i t,f=Value.int i t
 | _,_,.nil=>⟨[],True.intro,rfl,fun f hf=>by cases hf⟩
 | _,_,.cons x r=>by
  obtain⟨fs,h1,h2,h3⟩:=BG r;obtain⟨b,o,t,u,n,rfl,ho,hc,hd⟩:=x;refine⟨_::fs,KatTups.cons ho hc hd rfl h1,by rw[List.length_cons,List.length_cons,h2],fun f hf=> ?_⟩
  rcases List.mem_cons.mp hf with rfl | hf
  .exact⟨_,_,rfl⟩
  .exact h3 f hf
theorem AX {h:Heap}:∀ {vs:List Value}{ps:List (Int × Int)},Paired (fun v p=>Pr h v p) vs ps->∀ {i:Nat}{p:Int × Int},ps[i]? =some p->Pr h (vs.getD i Value.none) p
 | _,_,.nil,i,p,e=>by simp at e
 | _,_,.cons x r,0,p,e=>by cases e;exact x
 | _,_,.cons x r,i+1,p,e=>AX r (i:=i) e
theorem tR {h h':Heap}(k:∀b o,o.cls= .type "tuple"->h.get? b=some o->h'.get? b=some o):∀ {vs:List Value}{ps:List (Int × Int)},Paired (fun v p=>Pr h v p) vs ps->Paired (fun v p=>Pr h' v p) vs ps
 | _,_,.nil=> .nil
 | _,_,.cons x r=> .cons (x.keep k) (tR k r)
theorem xo {h:Heap}:∀ {vs:List Value}{ps:List (Int × Int)},Paired (fun v p=>Pr h v p) vs ps->vs.length=ps.length
 | _,_,.nil=>rfl
 | _,_,.cons x r=>congrArg (· +1) (xo r)
theorem B0 {a:Addr}{vs:List Value}{ps:List (Int × Int)}{n:Nat}{P:PySem.Fin->Shared->Prop}(ho:s.heap.get? a=some (seqObj "list" vs.toArray n)) (hp:Paired (fun v p=>Pr s.heap v p) vs ps) (ha:uM ps) (hz:vs.length<=1000)
  (h:∀h' c,(∀ b o,b≠a->s.heap.get? b=some o->h'.get? b=some o)->h'.get? a=some (seqObj "list" vs.toArray c)->P (.done (.ret .none)) {s with heap:=h'}):wpAny (model prog w) A (Builtin.«list.sort» ⟨[.ref a],[]⟩) P E s:=by
 obtain⟨h1,e1⟩:∃h1,h1=s.heap.update a (Obj.mapSeq fun _=>(#[]:Array Value)):=⟨_,rfl⟩
 obtain⟨c1,ho1⟩:∃c1,h1.get? a=some (seqObj "list" #[] c1):=by rw[e1];exact⟨_,get?_update_seq ho fun _=> #[]⟩
 have sb1:Heap.SameBut a s.heap h1:=by rw[e1];exact Heap.SameBut.update ..
 have hs:sizeLine=16777216:=sizeLine_eq;obtain⟨h2,e2⟩:∃h2,h2=(h1.push (seqObj "tuple" vs.toArray 0)).push (seqObj "list" #[] 0):=⟨_,rfl⟩;have k2:∀b o,h1.get? b=some o->h2.get? b=some o:=fun b o q=>by rw[e2];exact Heap.get?_push_of_some _ (Heap.get?_push_of_some _ q)
 have nt:∀b o,o.cls= .type "tuple"->s.heap.get? b=some o->b≠a:=fun b o c q z=>by
  rw[z,ho] at q
  cases q
  exact absurd (show Value.type "list"=Value.type "tuple" from c) (by decide)
 have hp2:Paired (fun v p=>Pr h2 v p) vs ps:=tR (fun b o c q=>k2 b o ((sb1.2 b (nt b o c q)).trans q)) hp
 rw[list_sort_plain];refine wpAny_bind (listItems_at ho rfl (wpAny_bind (listUpdate_at ho rfl ?_ (by rw[List.size_toArray];lia) (Nat.zero_le _))))
 rw[<- e1];refine wpAny_bind (seqEpoch_at (s:={s with heap:=h1}) ho1 rfl (wpAny_bind (wpAny_newTuple ?_ (by show vs.length<=_;lia))))
 refine wpAny_bind (wpAny_newList ?_ (Nat.zero_le _))
 refine wpAny_holding ?_
 show wpAny (model prog w) A _ P E {s with heap:=(h1.push (seqObj "tuple" vs.toArray 0)).push (seqObj "list" #[] 0)}
 rw[<- e2];obtain⟨c2,ho3⟩:∃c2,(h2.update a (Obj.mapSeq fun _=>vs.toArray)).get? a=some (seqObj "list" vs.toArray c2):=⟨_,get?_update_seq (k2 _ _ ho1) fun _=>vs.toArray⟩
 have end_:P (.done (.ret .none)) {s with heap:=h2.update a (Obj.mapSeq fun _=>vs.toArray)}:=h _ c2 (fun b o z q=>((Heap.SameBut.update h2 a _).2 b z).trans (k2 b o ((sb1.2 b z).trans q))) ho3
 dsimp only
 by_cases h0:vs.toArray.size < 2
 .rw[if_pos h0,if_pos h0];refine wpAny_bind (wpAny_pure ?_)
  rw[StateT.run_pure];have h3:(vs.toArray.zip vs.toArray).map (·.2)=vs.toArray:=by
   apply Array.ext
   .simp
   .intro i a1 a2
    simp
  refine wpAny_bind (wpAny_pure ?_)
  dsimp only;refine wpAny_bind (seqEpoch_at (s:={s with heap:=h2}) (k2 _ _ ho1) rfl (wpAny_bind (listUpdate_at (s:={s with heap:=h2}) (k2 _ _ ho1) rfl ?_ (Nat.zero_le _) (by rw[h3,List.size_toArray];lia))))
  rw[h3]
  simp only[bne_self_eq_false,Bool.false_eq_true,if_false]
  exact wpAny_pure end_
 .rw[if_neg h0,if_neg h0];rw[List.size_toArray] at h0;obtain⟨fs,t1,t2,t3⟩:=BG hp2;refine wpAny_bind (kat_kind (s:={s with heap:=h2}) (T:=Value.type "int") t1 (by lia) (fun v hv=> ?_) rfl ?_)
  .obtain⟨i,t,rfl⟩:=t3 v hv;exact Looks.of_pure rfl
  .have est:SortSt.mk' (tuples' true) (vs.toArray.zip vs.toArray) #[] 7 none=kas_st (tuples' true) (vs.toArray.zip vs.toArray) (List.toArray (List.range vs.length)):=by
    have e:=kas_range (vs.toArray.zip vs.toArray);rw[show(vs.toArray.zip vs.toArray).size=vs.length by simp] at e
    show _=SortSt.mk' (tuples' true) ((List.toArray (List.range vs.length)).map (kas_item (vs.toArray.zip vs.toArray))) #[] 7 none
    rw[e]
   have hl:=xo hp2;refine wpAny_bind ?_
   show wpAny (model prog w) A (sortRuns'.run (SortSt.mk' (tuples' true) (vs.toArray.zip vs.toArray) #[] 7 none)) _ E _
   rw[est];refine wpAny_mono (show wpAny _ _ _ (fun r s'=>(arrOf r.2=(List.toArray (List.range vs.length)).map (kas_item (vs.toArray.zip vs.toArray))/\failedOf r.2=none)/\s'={s with heap:=h2}) _ _ from Di (s:={s with heap:=h2}) (n:=vs.length) (Q:=fun _ st s'=>(arrOf st=_/\failedOf st=none)/\s'=_) (by lia) (fun i i1 i2 C hC=> ?_) (fun st a1 a2=>⟨⟨a1,a2⟩,rfl⟩)) (fun r s' h5=> ?_) fun _ _ x=>x
   .unfold kas_cmp;rw[kat_item rfl,kat_item rfl];have g1:ps[i]? =some ps[i]:=List.getElem?_eq_getElem (by lia)
    have g0:ps[i - 1]? =some ps[i - 1]:=List.getElem?_eq_getElem (by lia)
    refine Ix (s:={s with heap:=h2}) (AX hp2 g1) (AX hp2 g0) (ha (i - 1) _ _ g0 ?_) hC
    rw[show i - 1+1=i by lia]
    exact g1
   .obtain⟨⟨a1,a2⟩,rfl⟩:=h5;have h3:(arrOf r.2).map (·.2)=vs.toArray:=by
     rw[kat_snds rfl a1];apply Array.ext
     .simp
     .intro i b1 b2
      simp at b2
      simp [b2]
    refine wpAny_bind (seqEpoch_at (s:={s with heap:=h2}) (k2 _ _ ho1) rfl (wpAny_bind (listUpdate_at (s:={s with heap:=h2}) (k2 _ _ ho1) rfl ?_ (Nat.zero_le _) (by rw[h3,List.size_toArray];lia))))
    rw[h3,a2]
    simp only[bne_self_eq_false,Bool.false_eq_true,if_false]
    exact wpAny_pure end_
end
section
variable {prog : Program} {w : World} {A : Around} {E : Value → Shared → Prop} {s : Shared}
theorem IZ {d:Addr}{es:Array DictEntry}{ep:Nat}(hd:(d == sysModules)=false):KdlSrc prog w "dict" d d es.size (fun i v=>∃h:i < es.size,v=es[i].key) (fun h=>nQ h d es ep) where
 type:=fun _ hm=>hm.typeIs
 there:=fun _ hm=>⟨let ⟨_,ho,_⟩:=hm;Heap.lt_size ho,let ⟨_,ho,_⟩:=hm;Heap.lt_size ho⟩
 keep:=fun _ _ hm hk=>hm.keep fun o e=>hk d (.inl rfl) o e
 notList:=by decide
 notTuple:=by decide
 hint:=fun _ _ _ _ hm hq=>kdl_hint_dict hm.typeIs hq
 iter:=fun _ _ hh hm=>⟨_,_,(fun _ _ hq=>HA hd hm hq),Hc hh _ d (Nat.ne_of_lt (let ⟨_,ho,_⟩:=hm;Heap.lt_size ho)) es ep,⟨⟨_,Heap.get?_push_size _ rfl,rfl,rfl⟩,hm.keep fun o e=>Heap.get?_push_of_some _ e⟩⟩
theorem AB {d:Addr}{es:Array DictEntry}{ep:Nat}{ps:List (Int × Int)}{Q:Value->Shared->Prop}(hd:(d == sysModules)=false) (hh:A.handled=none) (hm:nQ s.heap d es ep) (hp:Paired (fun v p=>Pr s.heap v p) (es.toList.map (·.key)) ps) (ha:uM ps) (hz:es.size<=1000)
  (h:∀(h1 h':Heap) tk c,(∀ b o,s.heap.get? b=some o->h1.get? b=some o)->(∀ b o,h1.get? b=some o->h'.get? b=some o)->h'.get? h1.objs.size=some (seqObj "list" (es.toList.map (·.key)).toArray c)->Q (.ref h1.objs.size) {s with heap:=h',toks:=tk}):wpAny (model prog w) A (call (.builtin "sorted") [.ref d]) Q E s:=by
 have hs:sizeLine=16777216:=sizeLine_eq;refine Calls.call_function_entry kind_sorted plain_sorted entry_sorted (args_sorted1 _) ?_
 unfold Builtin.«sorted»;refine wpAny_bind (m:=checkCount "sorted" 1 1 _) (wpAny_pure (wpAny_bind (kdu_collect (A:=A.in1) (IZ (es:=es) (ep:=ep) hd) hh hm (by lia) fun h1 tk acc k1 it=> ?_)))
 have ea:acc.toList=es.toList.map (·.key):=by
  apply List.ext_getElem?
  intro j;rw[Array.getElem?_toList,List.getElem?_map,Array.getElem?_toList]
  by_cases c:j < acc.size
  .obtain⟨c2,q⟩:=it.2 j acc[j] (Array.getElem?_eq_getElem c);rw[Array.getElem?_eq_getElem c,Array.getElem?_eq_getElem c2,q]
   rfl
  .rw[Array.getElem?_eq_none (by lia),Array.getElem?_eq_none (by have:=it.1;lia)]
   rfl
 rw[ea];have hl:(es.toList.map (·.key)).length<=1000:=by rw[List.length_map,Array.length_toList];exact hz
 generalize es.toList.map (·.key)=vs at*;refine wpAny_bind (wpAny_newList ?_ (by lia))
 have hoL:(h1.push (seqObj "list" vs.toArray 0)).get? h1.objs.size=some (seqObj "list" vs.toArray 0):=Heap.get?_push_size _ rfl;have k2:∀b o,s.heap.get? b=some o->(h1.push (seqObj "list" vs.toArray 0)).get? b=some o:=fun b o q=>Heap.get?_push_of_some _ (k1 b o q)
 show wpAny _ _ _ _ _ {s with heap:=h1.push (seqObj "list" vs.toArray 0),toks:=tk}
 refine wpAny_bind (wpAny_holding (wpAny_call_entry slot_list_sort ⟨_,hoL,rfl⟩ entry_list_sort ?_ (args_list_sort _)))
 refine B0 (s:={s with heap:=h1.push (seqObj "list" vs.toArray 0),toks:=tk}) hoL (tR (fun b o _ q=>k2 b o q) hp) ha hl fun h' c k3 q=> ?_
 exact⟨_,rfl,wpAny_pure ⟨_,rfl,h h1 h' tk c k1 (fun b o e=>k3 b o (Nat.ne_of_lt (Heap.lt_size e)) (Heap.get?_push_of_some _ e)) q⟩⟩
end
section
variable {X : Cx}
theorem vD:∀bs:List Addr,aX (bs.map V.ref) (bs.map Value.ref)
 | []=> .nil
 | b::r=> .cons rfl (vD r)
def kP (p:Int × Int):List Key:=[.inl p.1,.inl p.2]
theorem HB {pins:List (Addr × Obj)}{Z:St}{H:Hp}{s:Shared}(I:Inv X pins Z H s) {a:Addr}{kvs:List (List Key × V)}{ps:List (Int × Int)}(h:Rd H a (.dT kvs)) (hk:kvs.map (·.1)=ps.map kP):(a == sysModules)=false/\∃es ep bs,nQ s.heap a es ep/\es.toList.map (·.key)=bs.map Value.ref/\Paired (fun v p=>Pr s.heap v p) (es.toList.map (·.key)) ps/\Paired (fun b p=>H b=some (.tup [.int p.1,.int p.2])) bs ps:=by
 obtain⟨z,y,xs,r,o,es,ep,h1,h2,h3,h4,_⟩:=vt I.hok h;refine⟨y,es,ep,xs.map (·.2.1),⟨o,h1,h2,h3⟩,?_,?_⟩
 .rw[h4,List.map_map,List.map_map];exact List.map_congr_left fun x _=>rfl
 .rw[h4,List.map_map];have key:∀ {l:List (List Key × V)}{m:List (List Key × Addr × Value)}{ps:List (Int × Int)},KT H l m->l.map (·.1)=ps.map kP->Paired (fun v p=>Pr s.heap v p) (m.map ((fun e:DictEntry=>e.key) ∘ entryOfKey (tupleKind (bq X.prog X.w)))) ps/\Paired (fun b p=>H b=some (.tup [.int p.1,.int p.2])) (m.map (·.2.1)) ps:=by
   intro l m ps q
   induction q generalizing ps with
   | nil=>intro e;cases ps with
    | nil=>exact⟨.nil,.nil⟩
    | cons _ _=>cases e
   | @cons p q l' m' q1 _ ih=>
    intro e
    cases ps with
    | nil=>cases e
    | cons p0 ps=>
     obtain⟨e1,e2⟩:=List.cons.inj e;obtain⟨i1,i2⟩:=ih e2;have ht:H q.2.1=some (.tup [.int p0.1,.int p0.2]):=by
      rw[q1.2.1];have e1:p.1=kP p0:=e1;rw[e1]
      rfl
     refine⟨.cons ?_ i1,.cons ht i2⟩
     obtain⟨_,its,rv,ot,hot,hc,n,hd⟩:=(show cO X.prog X.w H s.heap q.2.1 (.tup [.int p0.1,.int p0.2]) from I.hok _ _ ht)
     cases rv with
     | cons r1 rv=>cases rv with
      | cons r2 rv=>
       cases rv
       obtain⟨t,rfl⟩:=r1;obtain⟨u,rfl⟩:=r2;exact⟨q.2.1,ot,t,u,n,rfl,hot,hc,hd⟩
  exact key r hk
theorem wI (hc:X.calm=true):mG X (.builtin "sorted") (fun xs H Q=>∃d kvs ps,xs=[.ref d]/\Rd H d (.dT kvs)/\kvs.map (·.1)=ps.map kP/\uM ps/\kvs.length<=1000/\∀l bs,H l=none->Paired (fun b p=>H b=some (.tup [.int p.1,.int p.2])) bs ps->Q (.ref l) (upd H l (.lst (bs.map V.ref)))):=by
 intro pins s Z H xs us Q I r h;obtain⟨d,kvs,ps,rfl,hd,hk,ha,hz,q⟩:=h;obtain⟨u,rfl,rx⟩:=tK r
 cases rx
 obtain⟨y,es,ep,bs,rd,e1,p1,p2⟩:=HB I hd hk;have hl:es.size<=1000:=by
  have h1:=xo p1;have h2:=congrArg List.length hk
  simp only[List.length_map,Array.length_toList] at h1 h2
  lia
 have hl2:bs.length=es.size:=by
  have:=congrArg List.length e1
  simp only[List.length_map,Array.length_toList] at this
  lia
 refine AB y (I.ok.hd hc) rd p1 ha hl fun h1 h' tk c k1 k2 e=> ?_
 rw[e1] at e;have I1:Inv X pins Z H {s with heap:=h1,toks:=tk}:=I.kept k1
 have hs:sizeLine=16777216:=sizeLine_eq;exact⟨.ref h1.objs.size,_,I1.laid (t':=tk) k2 (Nat.le_refl _) (show cO X.prog X.w _ h' _ (.lst (bs.map V.ref)) from⟨by rw[List.length_map];lia,_,c,vD bs,e⟩),rfl,q _ bs (I1.hok.fresh (Nat.le_refl _)) p2⟩
end
end L2
set_option compiler.extract_closed false
namespace My
open PySem L2
local macro_rules | `(tactic| walk_at "sq") => `(tactic| first | assumption | exact ad | exact SqT.of ad | exact SqL.of ad | exact SqT.of (by assumption) | exact SqL.of (by assumption) | exact e_.sq (by assumption) | exact e_.ty (by assumption) | (apply ql; (focus assumption); walk_at "sq") | (apply Jp; (focus assumption); walk_at "sq") | (apply iK; (focus assumption); walk_at "sq") | (apply ay.tup; (focus assumption); walk_at "sq") | (apply ay.seq; (focus assumption); walk_at "sq") | (apply ay.is; (focus assumption); walk_at "sq"))
local macro_rules | `(tactic| walk_at "c") => `(tactic| first | exact rfl | assumption | exact lR | exact AL | exact xV | exact FM | exact Wk.none Wk.refl | walk_at "ty" | exact Nat.le_of_ble_eq_true rfl | decide | ((fail_if_success intro _); lia) | omega | exact And.intro (by decide) (by decide) | exact Or.inl ⟨by decide, by decide⟩ | exact Or.inr ⟨by decide, by decide⟩ | exact Or.inl ⟨by omega, by omega⟩ | exact Or.inr ⟨by omega, by omega⟩ | exact ⟨by omega, by omega, by first | decide | omega⟩ | exact ⟨by omega, by omega⟩ | walk_at "sq" | (apply Exists.intro; walk_at "sq"; done) | (apply Or.inl; walk_at "sq"; done) | (apply Or.inr; walk_at "sq"; done))
local macro_rules | `(tactic| walk_at "g") => `(tactic| first | ((with_reducible apply HS); intro _ _; walk_at "g") | (apply Gz; (focus (exact rfl)); walk_at "g") | (apply e44; (focus (walk_at "c"; done)); (focus (walk_at "c"; done)); (focus (walk_at "c"; done)); (focus (walk_at "c"; done)); walk_at "g") | (apply e22; (focus (walk_at "c"; done)); (focus (walk_at "c"; done)); walk_at "g") | (apply e11; (focus (walk_at "c"; done)); walk_at "g") | (apply Hy; walk_at "g") | (apply Jv; walk_at "g") | (apply Jx; walk_at "g") | (apply Jm; walk_at "g") | (apply Jy; walk_at "g") | (apply Jd; walk_at "g") | (apply IX; walk_at "g") | (apply Jl; walk_at "g") | (apply Jt; walk_at "g") | (apply Exists.intro; walk_at "g") | (apply And.intro; (focus (walk_at "c"; done)); walk_at "g") | (apply NxH.st; (focus assumption); walk_at "g") | skip)
local macro_rules | `(tactic| walk_at "ty") => `(tactic| first | exact TyS.int _ | exact TyS.str _ | exact TyS.non | exact TyS.bl _ | (apply TyS.tup; walk_at "sq"; done) | (apply TyS.lst; walk_at "sq"; done))
local macro_rules | `(tactic| walk_at "wd") => `(tactic| repeat (first | (apply d3; (focus (decide)); walk_at "g") | (apply Dm; (focus (decide)); walk_at "g")))
local macro_rules | `(tactic| walk_at "n") => `(tactic| first | (apply NxH.st; (focus assumption)) | skip)
section
variable {P : Program} {w : World} {K : Frag} {mg : Str → Option Value} {base : Heap}
abbrev lx:List Str:=["bits"]
abbrev mE:List Str:=["v","bits"]
abbrev nN:List Str:=["v"]
abbrev Ea:List Str:=["field","number"]
abbrev EA:List Str:=["field","word"]
abbrev cy:List Str:=["instruction"]
abbrev C1:List Str:=["word"]
abbrev zF:List Str:=["code","at"]
abbrev DE:List Str:=["sort","b","c"]
abbrev C4:List Str:=["plan","b"]
abbrev zb:List Str:=["z"]
abbrev rh:List Str:=["span"]
abbrev fK:List Str:=["lo","hi","z"]
abbrev cC:List Str:=["left","right"]
abbrev zI:List Str:=["left","right","lo"]
abbrev zJ:List Str:=["sort","left","right"]
abbrev yt:List Str:=["span","n"]
abbrev nS:List Str:=["plan","span"]
abbrev gn:List Str:=["plan","instruction","spans"]
abbrev zi:List Str:=["place","count"]
abbrev ya:List Str:=["span","count"]
abbrev yc:List Str:=["instruction","at"]
abbrev zu:List Str:=["plan","count","instruction","spans"]
abbrev yz:List Str:=["plan","code","at","spans"]
abbrev pV:List Str:=["plan","code"]
abbrev dQ:List Str:=["self"]
abbrev lv:List Str:=["self","group"]
abbrev lQ:List Str:=["self","instruction"]
abbrev lU:List Str:=["count"]
abbrev nU:List Str:=["block"]
abbrev zx:List Str:=["instruction","size"]
abbrev zh:List Str:=["block","size"]
abbrev yy:List Str:=["blocks","size"]
abbrev wb:List Str:=["blocks","room","gates"]
abbrev rg:List Str:=["guest","room","gates"]
abbrev x8:List Str:=["self","room"]
abbrev Ad:List Str:=["self","instruction","group"]
abbrev yK:List Str:=["self","member"]
abbrev yi:List Str:=["block","room"]
abbrev yg:List Str:=["_law_script","_law_k"]
abbrev o5:List Str:=["_law_deal_here","_law_many"]
abbrev Bo:List Str:=["_law_deal_here"]
abbrev nT:List Str:=["_law_deal_here","_law_room_here"]
abbrev Eo:List Str:=["_law_deal_here","_law_room_here","_law_gates","_law_blocks_here"]
abbrev EC:List Str:=["_law_script","_law_deal_here","_law_room_here","_law_gates"]
abbrev zq:List Str:=["_law_code","_law_at_here"]
abbrev Dc:List Str:=["_law_plan","_law_code","_law_told","_law_at_here","_law_instruction"]
abbrev z_:List Str:=["_law_group_here"]
abbrev yO:List Str:=["_law_code","_law_at_here","_law_many"]
abbrev DL:List Str:=["_law_plan","_law_code","_law_told","_law_block_here","_law_begin","_law_places"]
abbrev C3:List Str:=["_law_guest_here","_law_plan","_law_ends"]
abbrev Du:List Str:=["_law_guest_here","_law_plan","_law_code","_law_told","_law_places","_law_made"]
abbrev F4:List Str:=["_law_script"]
def top (i:Nat):Stmt:=PySem.Challenge.pw_fencemask_k81_masks_left_out.main.body.getD i (.Pass ⟨0,0,0,0⟩)
abbrev h_:Stmt:=top 1
theorem eJ:aq ["bits","power","step"] lx (ag h_):=aJ
theorem rW:Bd "power_of_two" h_ lx:=by intro _ _ _ _ _ _ u l;obtain⟨_,rfl⟩:=ex1 u l;rfl
abbrev Ah:Stmt:=top 2
theorem EZ:aq ["v","bits"] mE (ag Ah):=aJ
theorem Fc:Bd "rest" Ah mE:=by intro _ _ _ _ _ _ u l;obtain⟨_,_,rfl⟩:=ex2 u l;rfl
abbrev xM:Stmt:=top 3
theorem lN:aq ["v","count","left"] nN (ag xM):=aJ
theorem DV:Bd "zeros" xM nN:=by intro _ _ _ _ _ _ u l;obtain⟨_,rfl⟩:=ex1 u l;rfl
abbrev ue:Stmt:=top 4
theorem B5:aq ["v","bits"] mE (ag ue):=aJ
theorem B7:Bd "signed" ue mE:=by intro _ _ _ _ _ _ u l;obtain⟨_,_,rfl⟩:=ex2 u l;rfl
abbrev kA:Stmt:=top 12
theorem ve:aq ["field","number"] Ea (ag kA):=aJ
theorem uG:Bd "field_bits" kA Ea:=by intro _ _ _ _ _ _ u l;obtain⟨_,_,rfl⟩:=ex2 u l;rfl
abbrev ig:Stmt:=top 13
theorem r6:aq ["field","word"] EA (ag ig):=aJ
theorem sj:Bd "field_number" ig EA:=by intro _ _ _ _ _ _ u l;obtain⟨_,_,rfl⟩:=ex2 u l;rfl
abbrev jV:Stmt:=top 14
theorem dq:aq ["instruction","sort","word","field","number"] cy (ag jV):=aJ
theorem vg:Bd "first_word" jV cy:=by intro _ _ _ _ _ _ u l;obtain⟨_,rfl⟩:=ex1 u l;rfl
abbrev oQ:Stmt:=top 15
theorem Af:aq ["instruction"] cy (ag oQ):=aJ
theorem yZ:Bd "words_of" oQ cy:=by intro _ _ _ _ _ _ u l;obtain⟨_,rfl⟩:=ex1 u l;rfl
abbrev lE:Stmt:=top 16
theorem wT:aq ["instruction"] cy (ag lE):=aJ
theorem xR:Bd "length_of" lE cy:=by intro _ _ _ _ _ _ u l;obtain⟨_,rfl⟩:=ex1 u l;rfl
abbrev ck:Stmt:=top 17
theorem bG:aq ["word","number","sort","numbers","instruction"] C1 (ag ck):=aJ
theorem jt:Bd "one_word_instruction" ck C1:=by intro _ _ _ _ _ _ u l;obtain⟨_,rfl⟩:=ex1 u l;rfl
abbrev fY:Stmt:=top 18
theorem iS:aq ["code","at","instruction"] zF (ag fY):=aJ
theorem o7:Bd "instruction_at" fY zF:=by intro _ _ _ _ _ _ u l;obtain⟨_,_,rfl⟩:=ex2 u l;rfl
abbrev oG:Stmt:=top 22
theorem yN:aq ["instruction"] cy (ag oG):=aJ
theorem yU:Bd "made_box" oG cy:=by intro _ _ _ _ _ _ u l;obtain⟨_,rfl⟩:=ex1 u l;rfl
abbrev hU:Stmt:=top 23
theorem lu:aq ["sort","b","c","power"] DE (ag hU):=aJ
theorem rN:Bd "joined_value" hU DE:=by intro _ _ _ _ _ _ u l;obtain⟨_,_,_,rfl⟩:=ex3 u l;rfl
abbrev mI:Stmt:=top 24
theorem wQ:aq ["plan","b"] C4 (ag mI):=aJ
theorem xm:Bd "aim_value" mI C4:=by intro _ _ _ _ _ _ u l;obtain⟨_,_,rfl⟩:=ex2 u l;rfl
abbrev kq:Stmt:=top 26
theorem vh:aq [] [] (ag kq):=aJ
theorem uH:Bd "whole_span" kq []:=by intro _ _ _ _ _ _ u l;obtain rfl:=ex0 u l;rfl
abbrev fW:Stmt:=top 27
theorem pQ:aq ["z"] zb (ag fW):=aJ
theorem pT:Bd "multiples_span" fW zb:=by intro _ _ _ _ _ _ u l;obtain⟨_,rfl⟩:=ex1 u l;rfl
abbrev ug:Stmt:=top 28
theorem B6:aq ["v"] nN (ag ug):=aJ
theorem CF:Bd "single" ug nN:=by intro _ _ _ _ _ _ u l;obtain⟨_,rfl⟩:=ex1 u l;rfl
abbrev lG:Stmt:=top 29
theorem wM:aq ["span"] rh (ag lG):=aJ
theorem wl:Bd "is_single" lG rh:=by intro _ _ _ _ _ _ u l;obtain⟨_,rfl⟩:=ex1 u l;rfl
abbrev gY:Stmt:=top 30
theorem rL:aq ["lo","hi","z"] fK (ag gY):=aJ
theorem rY:Bd "settled_span" gY fK:=by intro _ _ _ _ _ _ u l;obtain⟨_,_,_,rfl⟩:=ex3 u l;rfl
abbrev m4:Stmt:=top 31
theorem wD:aq ["lo","hi","z"] fK (ag m4):=aJ
theorem xk:Bd "kept_span" m4 fK:=by intro _ _ _ _ _ _ u l;obtain⟨_,_,_,rfl⟩:=ex3 u l;rfl
abbrev oU:Stmt:=top 32
theorem zB:aq ["left","right"] cC (ag oU):=aJ
theorem zG:Bd "add_span" oU cC:=by intro _ _ _ _ _ _ u l;obtain⟨_,_,rfl⟩:=ex2 u l;rfl
abbrev oM:Stmt:=top 33
theorem yR:aq ["left","right"] cC (ag oM):=aJ
theorem Aa:Bd "sub_span" oM cC:=by intro _ _ _ _ _ _ u l;obtain⟨_,_,rfl⟩:=ex2 u l;rfl
abbrev oi:Stmt:=top 34
theorem nh:aq ["left","right","z","hi"] cC (ag oi):=aJ
theorem zt:Bd "and_span" oi cC:=by intro _ _ _ _ _ _ u l;obtain⟨_,_,rfl⟩:=ex2 u l;rfl
abbrev qh:Stmt:=top 35
theorem jZ:aq ["left","right","lo","z","power"] zI (ag qh):=aJ
theorem A4:Bd "or_span" qh zI:=by intro _ _ _ _ _ _ u l;obtain⟨_,_,_,rfl⟩:=ex3 u l;rfl
abbrev mj:Stmt:=top 36
theorem wv:aq ["left","right"] cC (ag mj):=aJ
theorem xw:Bd "less_span" mj cC:=by intro _ _ _ _ _ _ u l;obtain⟨_,_,rfl⟩:=ex2 u l;rfl
abbrev nv:Stmt:=top 37
theorem ku:aq ["left","right","t","power"] cC (ag nv):=aJ
theorem xQ:Bd "left_span" nv cC:=by intro _ _ _ _ _ _ u l;obtain⟨_,_,rfl⟩:=ex2 u l;rfl
abbrev kH:Stmt:=top 38
theorem jc:aq ["left","right","t","power"] cC (ag kH):=aJ
theorem uN:Bd "right_span" kH cC:=by intro _ _ _ _ _ _ u l;obtain⟨_,_,rfl⟩:=ex2 u l;rfl
abbrev iW:Stmt:=top 39
theorem sO:aq ["sort","left","right"] zJ (ag iW):=aJ
theorem tW:Bd "joined_span" iW zJ:=by intro _ _ _ _ _ _ u l;obtain⟨_,_,_,rfl⟩:=ex3 u l;rfl
abbrev lP:Stmt:=top 40
theorem xa:aq ["span","n"] yt (ag lP):=aJ
theorem wA:Bd "more_span" lP yt:=by intro _ _ _ _ _ _ u l;obtain⟨_,_,rfl⟩:=ex2 u l;rfl
abbrev om:Stmt:=top 41
theorem iQ:aq ["plan","span","base","size","z"] nS (ag om):=aJ
theorem y9:Bd "fit_span" om nS:=by intro _ _ _ _ _ _ u l;obtain⟨_,_,rfl⟩:=ex2 u l;rfl
abbrev oB:Stmt:=top 42
theorem rC:aq ["plan","span","last_block"] nS (ag oB):=aJ
theorem yT:Bd "aim_span" oB nS:=by intro _ _ _ _ _ _ u l;obtain⟨_,_,rfl⟩:=ex2 u l;rfl
abbrev je:Stmt:=top 44
theorem uf:aq [] [] (ag je):=aJ
theorem sJ:Bd "first_spans" je []:=by intro _ _ _ _ _ _ u l;obtain rfl:=ex0 u l;rfl
abbrev nw:Stmt:=top 45
theorem kT:aq ["plan","instruction","spans","sort","b"] gn (ag nw):=aJ
theorem wF:Bd "made_span" nw gn:=by intro _ _ _ _ _ _ u l;obtain⟨_,_,_,rfl⟩:=ex3 u l;rfl
abbrev hX:Stmt:=top 46
theorem lg:aq ["plan","instruction","spans","box"] gn (ag hX):=aJ
theorem r_:Bd "spans_behind" hX gn:=by intro _ _ _ _ _ _ u l;obtain⟨_,_,_,rfl⟩:=ex3 u l;rfl
abbrev gz:Stmt:=top 47
theorem dY:aq ["plan","instruction","spans","span","n","base"] gn (ag gz):=aJ
theorem qu:Bd "may_reach_out" gz gn:=by intro _ _ _ _ _ _ u l;obtain⟨_,_,_,rfl⟩:=ex3 u l;rfl
abbrev gT:Stmt:=top 48
theorem si:aq ["place","count"] zi (ag gT):=aJ
theorem r8:Bd "is_no_target" gT zi:=by intro _ _ _ _ _ _ u l;obtain⟨_,_,rfl⟩:=ex2 u l;rfl
abbrev mX:Stmt:=top 49
theorem xG:aq ["span","count"] ya (ag mX):=aJ
theorem xN:Bd "is_no_way" mX ya:=by intro _ _ _ _ _ _ u l;obtain⟨_,_,rfl⟩:=ex2 u l;rfl
abbrev kG:Stmt:=top 50
theorem uW:aq ["instruction","at"] yc (ag kG):=aJ
theorem uL:Bd "is_no_word" kG yc:=by intro _ _ _ _ _ _ u l;obtain⟨_,_,rfl⟩:=ex2 u l;rfl
abbrev oN:Stmt:=top 51
theorem rc:aq ["plan","count","instruction","spans","sort"] zu (ag oN):=aJ
theorem yQ:Bd "fault_of" oN zu:=by intro _ _ _ _ _ _ u l;obtain⟨_,_,_,_,rfl⟩:=ex4 u l;rfl
abbrev dF:Stmt:=top 52
theorem dz:aq ["plan","code","at","spans","instruction","why"] yz (ag dF):=aJ
theorem lB:Bd "instruction_let_by" dF yz:=by intro _ _ _ _ _ _ u l;obtain⟨_,_,_,_,rfl⟩:=ex4 u l;rfl
abbrev iY:Stmt:=top 53
theorem bZ:aq ["plan","code","told","spans","sort","instruction"] pV (ag iY):=aJ
theorem ud:Bd "spans_ahead" iY pV:=by intro _ _ _ _ _ _ u l;obtain⟨_,_,rfl⟩:=ex2 u l;rfl
abbrev xc:Stmt:=top 54
theorem Dx:aq ["plan","code"] pV (ag xc):=aJ
theorem D9:Bd "check" xc pV:=by intro _ _ _ _ _ _ u l;obtain⟨_,_,rfl⟩:=ex2 u l;rfl
abbrev dN:Stmt:=fE (top 56) 0
theorem lz:aq ["self"] dQ (ag dN):=aJ
theorem ly:BdM "__init__" "LaidBlock.__init__" dN dQ:=by intro _ _ _ _ _ _ u l;obtain⟨_,rfl⟩:=ex1 u l;rfl
abbrev dG (K:Frag) (C:Addr):Prop:=oX K C "__init__" "LaidBlock.__init__" dN dQ
abbrev cJ:Stmt:=fE (top 56) 1
theorem iD:aq ["self"] dQ (ag cJ):=aJ
theorem iE:BdM "is_at_bundle" "LaidBlock.is_at_bundle" cJ dQ:=by intro _ _ _ _ _ _ u l;obtain⟨_,rfl⟩:=ex1 u l;rfl
abbrev cL (K:Frag) (C:Addr):Prop:=oX K C "is_at_bundle" "LaidBlock.is_at_bundle" cJ dQ
abbrev cB:Stmt:=fE (top 56) 2
theorem kN:aq ["self","group"] lv (ag cB):=aJ
theorem kD:BdM "has_space" "LaidBlock.has_space" cB lv:=by intro _ _ _ _ _ _ u l;obtain⟨_,_,rfl⟩:=ex2 u l;rfl
abbrev dw (K:Frag) (C:Addr):Prop:=oX K C "has_space" "LaidBlock.has_space" cB lv
abbrev f9:Stmt:=fE (top 56) 3
theorem pM:aq ["self","instruction"] lQ (ag f9):=aJ
theorem pf:BdM "take" "LaidBlock.take" f9 lQ:=by intro _ _ _ _ _ _ u l;obtain⟨_,_,rfl⟩:=ex2 u l;rfl
abbrev f6 (K:Frag) (C:Addr):Prop:=oX K C "take" "LaidBlock.take" f9 lQ
abbrev cV:Stmt:=fE (top 56) 4
theorem ff:aq ["self","group","instruction"] lv (ag cV):=aJ
theorem jB:BdM "take_group" "LaidBlock.take_group" cV lv:=by intro _ _ _ _ _ _ u l;obtain⟨_,_,rfl⟩:=ex2 u l;rfl
abbrev de (K:Frag) (C:Addr):Prop:=oX K C "take_group" "LaidBlock.take_group" cV lv
abbrev cP:Stmt:=fE (top 56) 5
theorem jd:aq ["self"] dQ (ag cP):=aJ
theorem jj:BdM "fill_bundle" "LaidBlock.fill_bundle" cP dQ:=by intro _ _ _ _ _ _ u l;obtain⟨_,rfl⟩:=ex1 u l;rfl
abbrev cM (K:Frag) (C:Addr):Prop:=oX K C "fill_bundle" "LaidBlock.fill_bundle" cP dQ
abbrev kR:Stmt:=top 57
theorem jm:aq ["count","bits"] lU (ag kR):=aJ
theorem uK:Bd "least_bits" kR lU:=by intro _ _ _ _ _ _ u l;obtain⟨_,rfl⟩:=ex1 u l;rfl
abbrev jW:Stmt:=top 58
theorem vb:aq ["block"] nU (ag jW):=aJ
theorem uO:Bd "bundles_of" jW nU:=by intro _ _ _ _ _ _ u l;obtain⟨_,rfl⟩:=ex1 u l;rfl
abbrev tS:Stmt:=top 59
theorem Cv:aq ["instruction","size"] zx (ag tS):=aJ
theorem Cs:Bd "placed" tS zx:=by intro _ _ _ _ _ _ u l;obtain⟨_,_,rfl⟩:=ex2 u l;rfl
abbrev xO:Stmt:=top 60
theorem CO:aq ["count"] lU (ag xO):=aJ
theorem Dd:Bd "stops" xO lU:=by intro _ _ _ _ _ _ u l;obtain⟨_,rfl⟩:=ex1 u l;rfl
abbrev jk:Stmt:=top 61
theorem io:aq ["block","size","words","instruction"] zh (ag jk):=aJ
theorem s_:Bd "block_words" jk zh:=by intro _ _ _ _ _ _ u l;obtain⟨_,_,rfl⟩:=ex2 u l;rfl
abbrev lS:Stmt:=top 62
theorem dS:aq ["blocks","size","places","number","block","at","begin"] yy (ag lS):=aJ
theorem xv:Bd "places_of" lS yy:=by intro _ _ _ _ _ _ u l;obtain⟨_,_,rfl⟩:=ex2 u l;rfl
abbrev dX:Stmt:=top 63
theorem ce:aq ["blocks","room","gates","m","s","size","code","block"] wb (ag dX):=aJ
theorem qc:Bd "code_of_blocks" dX wb:=by intro _ _ _ _ _ _ u l;obtain⟨_,_,_,rfl⟩:=ex3 u l;rfl
abbrev lI:Stmt:=top 65
theorem w4:aq ["instruction"] cy (ag lI):=aJ
theorem wE:Bd "is_access" lI cy:=by intro _ _ _ _ _ _ u l;obtain⟨_,rfl⟩:=ex1 u l;rfl
abbrev fR:Stmt:=top 66
theorem pK:aq ["instruction"] cy (ag fR):=aJ
theorem ph:Bd "access_by_mask" fR cy:=by intro _ _ _ _ _ _ u l;obtain⟨_,rfl⟩:=ex1 u l;rfl
abbrev gR:Stmt:=top 67
theorem bD:aq ["instruction","b","n"] cy (ag gR):=aJ
theorem sw:Bd "masked_group" gR cy:=by intro _ _ _ _ _ _ u l;obtain⟨_,rfl⟩:=ex1 u l;rfl
abbrev gS:Stmt:=top 68
theorem eF:aq ["block","laid","instruction","group"] nU (ag gS):=aJ
theorem sg:Bd "masked_block" gS nU:=by intro _ _ _ _ _ _ u l;obtain⟨_,rfl⟩:=ex1 u l;rfl
abbrev xz:Stmt:=top 69
theorem EN:aq ["guest","room","gates"] rg (ag xz):=aJ
theorem E5:Bd "make" xz rg:=by intro _ _ _ _ _ _ u l;obtain⟨_,_,_,rfl⟩:=ex3 u l;rfl
abbrev fO:Stmt:=fE (top 71) 0
theorem pq:aq ["self","room"] x8 (ag fO):=aJ
theorem pU:BdM "__init__" "Known.__init__" fO x8:=by intro _ _ _ _ _ _ u l;obtain⟨_,_,rfl⟩:=ex2 u l;rfl
abbrev ga (K:Frag) (C:Addr):Prop:=oX K C "__init__" "Known.__init__" fO x8
abbrev il:Stmt:=fE (top 71) 1
theorem rM:aq ["self"] dQ (ag il):=aJ
theorem rR:BdM "forget" "Known.forget" il dQ:=by intro _ _ _ _ _ _ u l;obtain⟨_,rfl⟩:=ex1 u l;rfl
abbrev iu (K:Frag) (C:Addr):Prop:=oX K C "forget" "Known.forget" il dQ
abbrev eM:Stmt:=fE (top 71) 2
theorem nO:aq ["self","instruction"] lQ (ag eM):=aJ
theorem nM:BdM "thin_group" "Known.thin_group" eM lQ:=by intro _ _ _ _ _ _ u l;obtain⟨_,_,rfl⟩:=ex2 u l;rfl
abbrev eO (K:Frag) (C:Addr):Prop:=oX K C "thin_group" "Known.thin_group" eM lQ
abbrev d9:Stmt:=fE (top 71) 3
theorem gp:aq ["self","instruction","group","member"] Ad (ag d9):=aJ
theorem ma:BdM "learn_group" "Known.learn_group" d9 Ad:=by intro _ _ _ _ _ _ u l;obtain⟨_,_,_,rfl⟩:=ex3 u l;rfl
abbrev d_ (K:Frag) (C:Addr):Prop:=oX K C "learn_group" "Known.learn_group" d9 Ad
abbrev eU:Stmt:=fE (top 71) 4
theorem gC:aq ["self","member","box"] yK (ag eU):=aJ
theorem nL:BdM "is_lost_by" "Known.is_lost_by" eU yK:=by intro _ _ _ _ _ _ u l;obtain⟨_,_,rfl⟩:=ex2 u l;rfl
abbrev e9 (K:Frag) (C:Addr):Prop:=oX K C "is_lost_by" "Known.is_lost_by" eU yK
abbrev gw:Stmt:=top 72
theorem cN:aq ["block","room","laid","known","instruction","group"] yi (ag gw):=aJ
theorem qD:Bd "thinned_block" gw yi:=by intro _ _ _ _ _ _ u l;obtain⟨_,_,rfl⟩:=ex2 u l;rfl
abbrev wx:Stmt:=top 73
theorem Fa:aq ["guest","room","gates"] rg (ag wx):=aJ
theorem FE:Bd "thin" wx rg:=by intro _ _ _ _ _ _ u l;obtain⟨_,_,_,rfl⟩:=ex3 u l;rfl
abbrev mK:Stmt:=top 75
theorem fw:aq ["_law_script","_law_k","_law_seed","_law_number"] yg (ag mK):=aJ
theorem xg:Bd "_law_deal" mK yg:=by intro _ _ _ _ _ _ u l;obtain⟨_,_,rfl⟩:=ex2 u l;rfl
abbrev mW:Stmt:=top 76
theorem fq:aq ["_law_deal_here","_law_many","_law_number","_law_high","_law_low"] o5 (ag mW):=aJ
theorem wY:Bd "_law_draw" mW o5:=by intro _ _ _ _ _ _ u l;obtain⟨_,_,rfl⟩:=ex2 u l;rfl
abbrev mw:Stmt:=top 77
theorem p_:aq ["_law_deal_here","_law_k"] Bo (ag mw):=aJ
theorem wP:Bd "_law_room" mw Bo:=by intro _ _ _ _ _ _ u l;obtain⟨_,rfl⟩:=ex1 u l;rfl
abbrev kf:Stmt:=top 78
theorem og:aq ["_law_deal_here","_law_room_here","_law_form"] nT (ag kf):=aJ
theorem uI:Bd "_law_value" kf nT:=by intro _ _ _ _ _ _ u l;obtain⟨_,_,rfl⟩:=ex2 u l;rfl
abbrev jX:Stmt:=top 79
theorem bM:aq ["_law_deal_here","_law_room_here","_law_a","_law_j","_law_d","_law_cut","_law_v","_law_n","_law_moved","_law_last"] nT (ag jX):=aJ
theorem uP:Bd "_law_table" jX nT:=by intro _ _ _ _ _ _ u l;obtain⟨_,_,rfl⟩:=ex2 u l;rfl
abbrev ng:Stmt:=top 80
theorem bC:aq ["_law_deal_here","_law_room_here","_law_gates","_law_blocks_here","_law_rows_here","_law_b","_law_n","_law_k","_law_form","_law_a","_law_sort","_law_ends"] Eo (ag ng):=aJ
theorem xf:Bd "_law_rows" ng Eo:=by intro _ _ _ _ _ _ u l;obtain⟨_,_,_,_,rfl⟩:=ex4 u l;rfl
abbrev gG:Stmt:=top 81
theorem nW:aq ["_law_script","_law_deal_here","_law_room_here","_law_gates","_law_blocks_here"] EC (ag gG):=aJ
theorem uJ:Bd "_law_guest" gG EC:=by intro _ _ _ _ _ _ u l;obtain⟨_,_,_,_,rfl⟩:=ex4 u l;rfl
abbrev m9:Stmt:=top 82
theorem br:aq ["_law_code","_law_at_here","_law_held_here","_law_made","_law_here","_law_instruction","_law_sort","_law_before"] zq (ag m9):=aJ
theorem ww:Bd "_law_held" m9 zq:=by intro _ _ _ _ _ _ u l;obtain⟨_,_,rfl⟩:=ex2 u l;rfl
abbrev kM:Stmt:=top 83
theorem cs:aq ["_law_plan","_law_code","_law_told","_law_at_here","_law_instruction","_law_sort","_law_a","_law_b","_law_n","_law_low","_law_high","_law_z"] Dc (ag kM):=aJ
theorem uF:Bd "_law_group" kM Dc:=by intro _ _ _ _ _ _ u l;obtain⟨_,_,_,_,_,rfl⟩:=ex5 u l;rfl
abbrev iP:Stmt:=top 84
theorem w6:aq ["_law_group_here"] z_ (ag iP):=aJ
theorem xl:Bd "_law_size" iP z_:=by intro _ _ _ _ _ _ u l;obtain⟨_,rfl⟩:=ex1 u l;rfl
abbrev qO:Stmt:=top 85
theorem hZ:aq ["_law_code","_law_at_here","_law_many","_law_found","_law_k","_law_instruction"] yO (ag qO):=aJ
theorem AV:Bd "_law_at" qO yO:=by intro _ _ _ _ _ _ u l;obtain⟨_,_,_,rfl⟩:=ex3 u l;rfl
abbrev kQ:Stmt:=top 86
theorem cr:aq ["_law_plan","_law_code","_law_told","_law_block_here","_law_begin","_law_places","_law_at_here","_law_instruction","_law_place","_law_group_here"] DL (ag kQ):=aJ
theorem uS:Bd "_law_block" kQ DL:=by intro _ _ _ _ _ _ u l;obtain⟨_,_,_,_,_,_,rfl⟩:=ex6 u l;rfl
abbrev gO:Stmt:=top 87
theorem nZ:aq ["_law_guest_here","_law_plan","_law_ends","_law_many"] C3 (ag gO):=aJ
theorem u5:Bd "_law_least" gO C3:=by intro _ _ _ _ _ _ u l;obtain⟨_,_,_,rfl⟩:=ex3 u l;rfl
abbrev eC:Stmt:=top 88
theorem bO:aq ["_law_guest_here","_law_plan","_law_code","_law_told","_law_places","_law_made","_law_ends","_law_stretch","_law_i","_law_own","_law_theirs","_law_end","_law_at_here","_law_other"] Du (ag eC):=aJ
theorem sT:Bd "_law_blocks" eC Du:=by intro _ _ _ _ _ _ u l;obtain⟨_,_,_,_,_,_,rfl⟩:=ex6 u l;rfl
abbrev Ba:Stmt:=top 89
theorem eP:aq ["_law_script","_law_deal_here","_law_room_here","_law_gates","_law_guest_here","_law_plan","_law_code","_law_places","_law_made","_law_names","_law_i","_law_again","_law_ends","_law_behind"] F4 (ag Ba):=aJ
theorem Hm:Bd "law" Ba F4:=by intro _ _ _ _ _ _ u l;obtain⟨_,rfl⟩:=ex1 u l;rfl
structure bX (K:Frag) (C:Addr):Prop where
 instructions:W.findIn K (.ref C) "instructions"=some none
 begins:W.findIn K (.ref C) "begins"=some none
 length:W.findIn K (.ref C) "length"=some none
structure kO (K:Frag) (C:Addr):Prop where
 plan:W.findIn K (.ref C) "plan"=some none
 spans:W.findIn K (.ref C) "spans"=some none
 fitted:W.findIn K (.ref C) "fitted"=some none
section
variable (K) (mg)
abbrev lT:=Def K mg "power_of_two" h_ lx
abbrev DB:=Def K mg "rest" Ah mE
abbrev BC:=Def K mg "zeros" xM nN
abbrev zw:=Def K mg "signed" ue mE
abbrev o3:=Def K mg "field_bits" kA Ea
abbrev mL:=Def K mg "field_number" ig EA
abbrev pL:=Def K mg "first_word" jV cy
abbrev uv:=Def K mg "words_of" oQ cy
abbrev rq:=Def K mg "length_of" lE cy
abbrev fD:=Def K mg "one_word_instruction" ck C1
abbrev jK:=Def K mg "instruction_at" fY zF
abbrev tE:=Def K mg "made_box" oG cy
abbrev lO:=Def K mg "joined_value" hU DE
abbrev rJ:=Def K mg "aim_value" mI C4
abbrev pR:=Def K mg "whole_span" kq []
abbrev jC:=Def K mg "multiples_span" fW zb
abbrev zn:=Def K mg "single" ug nN
abbrev qR:=Def K mg "is_single" lG rh
abbrev mZ:=Def K mg "settled_span" gY fK
abbrev qV:=Def K mg "kept_span" m4 fK
abbrev sK:=Def K mg "add_span" oU cC
abbrev tV:=Def K mg "sub_span" oM cC
abbrev tF:=Def K mg "and_span" oi cC
abbrev vw:=Def K mg "or_span" qh zI
abbrev qU:=Def K mg "less_span" mj cC
abbrev rA:=Def K mg "left_span" nv cC
abbrev pz:=Def K mg "right_span" kH cC
abbrev nV:=Def K mg "joined_span" iW zJ
abbrev q9:=Def K mg "more_span" lP yt
abbrev sM:=Def K mg "fit_span" om nS
abbrev tY:=Def K mg "aim_span" oB nS
abbrev nY:=Def K mg "first_spans" je []
abbrev rn:=Def K mg "made_span" nw gn
abbrev m_:=Def K mg "spans_behind" hX gn
abbrev ll:=Def K mg "may_reach_out" gz gn
abbrev mU:=Def K mg "is_no_target" gT zi
abbrev rH:=Def K mg "is_no_way" mX ya
abbrev qe:=Def K mg "is_no_word" kG yc
abbrev tq:=Def K mg "fault_of" oN zu
abbrev gr:=Def K mg "instruction_let_by" dF yz
abbrev nX:=Def K mg "spans_ahead" iY pV
abbrev BM:=Def K mg "check" xc pV
abbrev pZ:=Def K mg "least_bits" kR lU
abbrev pS:=Def K mg "bundles_of" jW nU
abbrev yB:=Def K mg "placed" tS zx
abbrev BQ:=Def K mg "stops" xO lU
abbrev n_:=Def K mg "block_words" jk zh
abbrev qT:=Def K mg "places_of" lS yy
abbrev jJ:=Def K mg "code_of_blocks" dX wb
abbrev rB:=Def K mg "is_access" lI cy
abbrev ju:=Def K mg "access_by_mask" fR cy
abbrev mP:=Def K mg "masked_group" gR cy
abbrev l_:=Def K mg "masked_block" gS nU
abbrev D0:=Def K mg "make" xz rg
abbrev lj:=Def K mg "thinned_block" gw yi
abbrev Dy:=Def K mg "thin" wx rg
abbrev rE:=Def K mg "_law_deal" mK yg
abbrev rD:=Def K mg "_law_draw" mW o5
abbrev q_:=Def K mg "_law_room" mw Bo
abbrev pE:=Def K mg "_law_value" kf nT
abbrev pB:=Def K mg "_law_table" jX nT
abbrev qS:=Def K mg "_law_rows" ng Eo
abbrev oY:=Def K mg "_law_guest" gG EC
abbrev qY:=Def K mg "_law_held" m9 zq
abbrev pN:=Def K mg "_law_group" kM Dc
abbrev rf:=Def K mg "_law_size" iP z_
abbrev vG:=Def K mg "_law_at" qO yO
abbrev oW:=Def K mg "_law_block" kQ DL
abbrev qd:=Def K mg "_law_least" gO C3
abbrev oh:=Def K mg "_law_blocks" eC Du
end
def iq:Sp:=fun vs H Q _=>∃n:Nat,vs=[.int n]/\n<=64/\Q (.int (2^n)) H
def kh:Sp:=fun vs H Q _=>∃(v:Int) (n:Nat),vs=[.int v,.int n]/\n<=64/\Q (.int (v %2^n)) H
def yG:Sp:=fun vs H Q _=>∃(v:Int) (n:Nat),vs=[.int v,.int ((n:Int)+1)]/\n<=63/\Q (.int (if v < 2^n then v else v - 2^(n+1))) H
theorem su (B:Bi mg) (D:lT K mg):Has P w K mg base 1 "power_of_two" lx iq:=by
 refine D.has eJ (fun vs H Q E h=> ?_) (fun f cdv A outer s H vs Q E hr h=> ?_)
 .obtain⟨n,rfl,_⟩:=h
  rfl
 obtain⟨n,rfl,hn,q⟩:=h
 refine⟨_,(ac (psS 1 eJ.nd aa)
   (ac (aL (d8 PassesOwn.never (by rfl) (dU (by rfl) B.range (pa1 (pv 0))) (aP (i:=2) eJ.nd (by rfl) (by left;rfl)) (ae (psS 1 eJ.nd (aj bz (pv 1) aa)))))
   (ae (ah (pv 1))))),?_⟩
 try dsimp only[aY]
 refine⟨_,rfl,n,rfl,by lia,by lia,jz (fun i Z H'=>H'=H/\∃st,Z=[some (.int n),some (.int (2^i)),st]) ⟨rfl,none,rfl⟩ ?_ ?_⟩
 .rintro i Z H' hi ⟨rfl,st,rfl⟩
  exact⟨_,rfl,_,_,rfl,rfl,.inr ⟨by decide,by decide⟩,rfl,_,rfl⟩
 .rintro Z H' ⟨rfl,st,rfl⟩
  exact⟨_,rfl,q⟩
theorem E7 (B:Bi mg) (D:DB K mg) (ak:Has P w K mg base 1 "power_of_two" lx iq):Has P w K mg base 2 "rest" mE kh:=by
 refine D.has EZ (fun vs H Q E h=> ?_) (fun f cdv A outer s H vs Q E hr h=> ?_)
 .obtain⟨v,n,rfl,_⟩:=h
  rfl
 obtain⟨v,n,rfl,hn,q⟩:=h;refine⟨_,(ae (ah (aj cD (pv 0) (pcH ak hr (pa1 (pv 1)))))),?_⟩
 try dsimp only[aY]
 exact⟨_,rfl,_,rfl,n,rfl,hn,_,_,rfl,rfl,Int.pow_pos (by decide),q⟩
theorem CB (B:Bi mg) (D:zw K mg) (ak:Has P w K mg base 1 "power_of_two" lx iq):Has P w K mg base 2 "signed" mE yG:=by
 refine D.has B5 (fun vs H Q E h=> ?_) (fun f cdv A outer s H vs Q E hr h=> ?_)
 .obtain⟨v,n,rfl,_⟩:=h
  rfl
 obtain⟨v,n,rfl,hn,q⟩:=h
 refine⟨_,(ac (ax (pcT gD (pv 0) (pcH ak hr (pa1 (aj a_ (pv 1) aa)))) (ae (ah (pv 0))) al)
   (ae (ah (aj a_ (pv 0) (pcH ak hr (pa1 (pv 1))))))),?_⟩
 try dsimp only[aY]
 refine⟨_,rfl,_,rfl,_,_,rfl,rfl,n,(by show[V.int ((n:Int)+1 - 1)]=[V.int n];rw[Int.add_sub_cancel]),by lia,_,_,rfl,rfl,_,rfl,?_⟩
 refine aV (fun c=> ?_) (fun c=> ?_)
 .rw[if_pos c] at q;exact⟨_,rfl,q⟩
 .rw[if_neg c] at q;exact⟨_,rfl,_,rfl,n+1,rfl,by lia,_,_,rfl,rfl,q⟩
def sB:Sp:=fun vs H Q _=>∃v:Int,vs=[.int v]/\Q (.int (SpM.Zn v:Nat)) H
theorem CV (B:Bi mg) (D:BC K mg):Has P w K mg base 1 "zeros" nN sB:=by
 refine D.has lN (fun vs H Q E h=> ?_) (fun f cdv A outer s H vs Q E hr h=> ?_)
 .obtain⟨v,rfl,_⟩:=h
  rfl
 obtain⟨v,rfl,q⟩:=h;have hv:=SpM.Zn_case v;generalize SpM.Zn v=t at q hv
 refine⟨_,(ac (ax (pcT aG (pv 0) aa) (ae (ah aa)) al)
   (ac (psS 1 lN.nd aa)
   (ac (psS 2 lN.nd (aF zf (by rfl) B.abs Ed (pa1 (pv 0))))
   (ac (aL (gW PassesOwn.never (pcT aG (aj cD (pv 2) aa) aa) (ac (psS 2 lN.nd (aj dH (pv 2) aa))
   (ae (psS 1 lN.nd (aj aO (pv 1) aa))))))
   (ae (ah (pv 1))))))),?_⟩
 try dsimp only[aY]
 refine⟨_,rfl,rfl,_,rfl,?_⟩
 refine aV (fun c=> ?_) (fun c=> ?_)
 .have c':v=0:=by injection c
  rcases hv with⟨_,rfl⟩|⟨u,e⟩
  .exact q
  .rw[c'] at e;have:=Nat.mul_pos (show 0 < 2*u+1 by lia) (Nat.pow_pos (n:=t) (show 0 < 2 by decide))
   simp only[Int.natAbs_zero] at e
   lia
 .have c':v≠0:=fun z=>c (by rw[z])
  rcases hv with⟨e,_⟩|⟨u,e⟩
  .exact absurd e c'
  refine⟨_,rfl,v,rfl,?_⟩
  refine⟨fun m Z H'=>H'=H/\m<=t/\Z=[some (.int v),some (.int ((t:Int) - m)),some (.int ((2*u+1)*2^m))],⟨t,rfl,Nat.le_refl t,?_⟩,?_⟩
  .have e1:(if v < 0 then -v else v)=(2*(u:Int)+1)*2^t:=by
    have:((v.natAbs:Nat):Int)=(2*(u:Int)+1)*2^t:=by rw[e];push_cast;rfl
    rw[<- this]
    split <;> lia
   show[some (V.int v),some (.int 0),some (.int (if v < 0 then -v else v))]=_
   rw[e1,Int.sub_self]
  .rintro m Z H' ⟨rfl,hm,rfl⟩
   refine⟨_,rfl,_,_,rfl,rfl,(by decide:(0:Int) < 2),rfl,_,rfl,?_⟩
   refine aV (fun c=> ?_) (fun c=> ?_)
   .have c1:((2*(u:Int)+1)*2^m) %2=0:=by injection c
    cases m with
    | zero=>rw[Int.pow_zero,Int.mul_one] at c1;lia
    | succ m=>
     walk_at "n";refine⟨fun Z' H1=>H1=H'/\Z'=[some (.int v),some (.int ((t:Int) - m)),some (.int ((2*u+1)*2^m))],fun Z' H1 h=>⟨m,Nat.lt_succ_self m,h.1,by lia,h.2⟩,?_⟩
     refine⟨_,rfl,_,_,rfl,rfl,⟨by decide,by decide⟩,_,rfl,_,_,rfl,rfl,rfl,?_⟩
     have e2:(2*(u:Int)+1)*2^(m+1) / 2=(2*u+1)*2^m:=by
      rw[Int.pow_succ, <-Int.mul_assoc,Int.mul_ediv_cancel _ (by decide)]
     have e3:(t:Int) - ((m+1:Nat):Int)+1=t - m:=by lia
     show[some (V.int v),some (.int ((t:Int) - ((m+1:Nat):Int)+1)),some (.int ((2*(u:Int)+1)*2^(m+1) / 2))]=_
     rw[e2,e3]
   .cases m with
    | zero=>
     refine⟨_,rfl,?_⟩
     have e4:(t:Int) - ((0:Nat):Int)=t:=by lia
     rw[e4];exact q
    | succ m=>
     exfalso
     apply c
     show V.int (((2*(u:Int)+1)*2^(m+1)) %2)=V.int 0
     rw[Int.pow_succ, <-Int.mul_assoc,Int.mul_emod_left]
def qP:List Str:=["stop","put","add","sub","and","or","xor","less","left","right","more","load","store","jump","jumpif","through","fit","aim","gate"]
def Fh:List (List Str):=[[],["a"],["a","b","c"],["a","b","c"],["a","b","c"],["a","b","c"],["a","b","c"],["a","b","c"],["a","b","c"],["a","b","c"],["a","b","move"],["a","b","move"],["a","b","move"],["n"],["a","n"],["b"],["a","b"],["a","b"],["n"]]
def aI (k:Nat):Str:=qP.getD k ""
def aQ (k:Nat):List Str:=Fh.getD k []
def Bv (f:Str) (n:Int):Int:=if f="a" then n*16777216 else if f="b" then n*2097152 else if f="c" then n*262144 else n %262144
def fj (f:Str) (w:Int):Int:=if f="a" then w / 16777216 %8 else if f="b" then w / 2097152 %8 else if f="c" then w / 262144 %8 else if f="move" then(if w %262144 < 131072 then w %262144 else w %262144 - 262144) else w %262144
def Fq (acc:Int) (p:Str × Int):Int:=acc+Bv p.1 p.2
def cu (k:Nat) (ns:List Int):Int:=((aQ k).zip ns).foldl Fq (k*134217728)
def aE (k:Nat) (ns:List Int):List V:= .str (aI k)::ns.map V.int
structure Tb (K:Frag) (mg:Str->Option Value) (prm:Params):Prop where
 sorts:∃a,mg "SORTS"=some (.ref a)/\e_ K a (qP.map V.str)
 fields:∃a kvs,mg "FIELDS"=some (.ref a)/\SqD prm K a kvs/\∀k,k < 19->∃b,kvs.lookup (aI k)=some (.ref b)/\e_ K b ((aQ k).map V.str)
def HL:Sp:=fun vs H Q _=>∃(f:Str) (n:Int),vs=[.str f,.int n]/\Q (.int (Bv f n)) H
def Ip:Sp:=fun vs H Q _=>∃(f:Str) (n:Int),vs=[.str f,.int n]/\Q (.int (fj f n)) H
def Gq (K:Frag):Sp:=fun vs H Q _=>∃(a:Addr) (k:Nat) (ns:List Int),vs=[.ref a]/\k < 19/\SqT K H a (aE k ns)/\∀H',ay H H'->Q (.int (cu k ns)) H'
theorem vd (B:Bi mg) (D:o3 K mg) (bE:Has P w K mg base 2 "rest" mE kh):Has P w K mg base 3 "field_bits" Ea HL:=by
 refine D.has ve (fun vs H Q E h=> ?_) (fun f cdv A outer s H vs Q E hr h=> ?_)
 .obtain⟨f,n,rfl,_⟩:=h
  rfl
 obtain⟨fl,n,rfl,q⟩:=h;unfold Bv at q
 refine⟨_,(ac (ax (pcT aG (pv 0) au) (ae (ah (aj bz (pv 1) (cA (v:=16777216) (by rfl))))) al)
   (ac (ax (pcT aG (pv 0) au) (ae (ah (aj bz (pv 1) (cA (v:=2097152) (by rfl))))) al)
   (ac (ax (pcT aG (pv 0) au) (ae (ah (aj bz (pv 1) (cA (v:=262144) (by rfl))))) al)
   (ae (ah (pcH bE hr (pa2 (pv 1) aa))))))),?_⟩
 try dsimp only[aY]
 walk_at "g";refine aV (fun c=> ?_) (fun c=> ?_)
 .have c':fl="a":=by injection c
  rw[if_pos c'] at q;walk_at "g";exact q
 have c':¬fl="a":=fun z=>c (by rw[z])
 rw[if_neg c'] at q;walk_at "g";refine aV (fun c=> ?_) (fun c=> ?_)
 .have c':fl="b":=by injection c
  rw[if_pos c'] at q;walk_at "g";exact q
 have c':¬fl="b":=fun z=>c (by rw[z])
 rw[if_neg c'] at q;walk_at "g";refine aV (fun c=> ?_) (fun c=> ?_)
 .have c':fl="c":=by injection c
  rw[if_pos c'] at q;walk_at "g";exact q
 have c':¬fl="c":=fun z=>c (by rw[z])
 rw[if_neg c'] at q;walk_at "g";exact q
theorem rS (B:Bi mg) (D:mL K mg) (bE:Has P w K mg base 2 "rest" mE kh) (tO:Has P w K mg base 2 "signed" mE yG):Has P w K mg base 3 "field_number" EA Ip:=by
 refine D.has r6 (fun vs H Q E h=> ?_) (fun f cdv A outer s H vs Q E hr h=> ?_)
 .obtain⟨f,n,rfl,_⟩:=h
  rfl
 obtain⟨fl,n,rfl,q⟩:=h;unfold fj at q
 refine⟨_,(ac (ax (pcT aG (pv 0) au) (ae (ah (pcH bE hr (pa2 (aj dH (pv 1) (cA (v:=16777216) (by rfl))) aa)))) al)
   (ac (ax (pcT aG (pv 0) au) (ae (ah (pcH bE hr (pa2 (aj dH (pv 1) (cA (v:=2097152) (by rfl))) aa)))) al)
   (ac (ax (pcT aG (pv 0) au) (ae (ah (pcH bE hr (pa2 (aj dH (pv 1) (cA (v:=262144) (by rfl))) aa)))) al)
   (ac (ax (pcT aG (pv 0) au) (ae (ah (pcH tO hr (pa2 (pcH bE hr (pa2 (pv 1) aa)) aa)))) al)
   (ae (ah (pcH bE hr (pa2 (pv 1) aa)))))))),?_⟩
 try dsimp only[aY]
 walk_at "g";refine aV (fun c=> ?_) (fun c=> ?_)
 .have c':fl="a":=by injection c
  rw[if_pos c'] at q;walk_at "g";exact q
 have c':¬fl="a":=fun z=>c (by rw[z])
 rw[if_neg c'] at q;walk_at "g";refine aV (fun c=> ?_) (fun c=> ?_)
 .have c':fl="b":=by injection c
  rw[if_pos c'] at q;walk_at "g";exact q
 have c':¬fl="b":=fun z=>c (by rw[z])
 rw[if_neg c'] at q;walk_at "g";refine aV (fun c=> ?_) (fun c=> ?_)
 .have c':fl="c":=by injection c
  rw[if_pos c'] at q;walk_at "g";exact q
 have c':¬fl="c":=fun z=>c (by rw[z])
 rw[if_neg c'] at q;walk_at "g";refine aV (fun c=> ?_) (fun c=> ?_)
 .have c':fl="move":=by injection c
  rw[if_pos c'] at q;walk_at "g";exact q
 have c':¬fl="move":=fun z=>c (by rw[z])
 rw[if_neg c'] at q;walk_at "g";exact q
theorem Cr {fs:List Str}{ns:List Int}{i:Nat}{f:Str}{n a:Int}(h1:fs[i]? =some f) (h2:ns[i]? =some n):((fs.zip ns).take (i+1)).foldl Fq a=((fs.zip ns).take i).foldl Fq a+Bv f n:=by
 have e:(fs.zip ns)[i]? =some (f,n):=by rw[List.getElem?_zip_eq_some];exact⟨h1,h2⟩
 rw[List.take_succ,e,List.foldl_append]
 rfl
theorem bv {α β:Type}{g:α->β}{l:List α}{i:Nat}{y:β}(h:(l.map g)[i]? =some y):∃x,l[i]? =some x/\g x=y:=by
 rw[List.getElem?_map] at h
 cases e:l[i]? with
 | none=>rw[e] at h;cases h
 | some x=>rw[e] at h;exact⟨x,rfl,by cases h;rfl⟩
theorem AQ:∀k,k < 19->zV (.str (aI k)) (qP.map V.str) 0=some k:=by decide +kernel
theorem JB (x:V) (xs:List V):fZ (x::xs) (some 1) none=xs:=by
 unfold fZ
 simp [HT.sIx]
theorem Gp {x:V}{xs:List V}{B:Prop}:¬(HT.sIx (x::xs).length 0 (some 1)=0/\B):=by
 rintro⟨h,_⟩
 simp [HT.sIx] at h
theorem uQ (B:Bi mg) (T:Tb K mg w.params) (D:pL K mg) (kW:Has P w K mg base 3 "field_bits" Ea HL):Has P w K mg base 4 "first_word" cy (Gq K):=by
 obtain⟨sD,sF,Fs⟩:=T.sorts;obtain⟨tz,kvs,sN,CS,t_F⟩:=T.fields;refine D.has dq (fun vs H Q E h=> ?_) (fun f cdv A outer s H vs Q E hr h=> ?_)
 .obtain⟨a,k,ns,rfl,_⟩:=h
  rfl
 obtain⟨a,k,ns,rfl,hk,ha,q⟩:=h;obtain⟨b,e_b,t_b⟩:=t_F k hk
 refine⟨_,(ac (psS 1 dq.nd (pX ai (pv 0) aa))
   (ac (psS 2 dq.nd (aj bz (fe PySem.F.plainAttrs_tuple PySem.F.slot_tuple_index PySem.F.type_tuple_index Cq (kB (v:= .ref sD) (by rfl) sF (by rfl)) (pa1 (pv 1))) (cA (v:=134217728) (by rfl))))
   (ac (aL (d8 PassesOwn.never (by rfl) (An (by rfl) B.zip (pa2 (Ey F7 (kB (v:= .ref tz) (by rfl) sN (by rfl)) (pv 1) (by intro _ _;rfl)) (dm iT (pv 0) (dW aa) fz))) (lL (n:=2) (by rfl) (bQ (aP (i:=3) dq.nd (by rfl) (by left;rfl)) (bQ (aP (i:=4) dq.nd (by rfl) (by left;rfl)) iL))) (ae (psS 2 dq.nd (aj aO (pv 2) (pcH kW hr (pa2 (pv 3) (pv 4))))))))
   (ae (ah (pv 2)))))),?_⟩
 try dsimp only[aY]
 walk_at "g";refine⟨Eb (AQ k hk),?_⟩
 walk_at "g";refine⟨?_⟩
 walk_at "g";refine⟨Gp,fun p hp=> ?_⟩
 have hc:fZ (aE k ns) (some 1) none=ns.map V.int:=JB _ _;refine⟨false,false,b,p,rfl,⟨_,t_b.sq⟩,⟨_,SqT.of ad⟩,?_⟩
 rw[hc];refine wt (xs:=(aQ k).map V.str) (ys:=ns.map V.int) (fun i Z H'=>aA (ay (upd H p (.tup (ns.map V.int))) H'/\∃x y,Z=[some (.ref a),some (.str (aI k)),some (.int ((((aQ k).zip ns).take i).foldl Fq (k*134217728))),x,y])) ⟨ay.refl _,_,_,rfl⟩ ?_ ?_ ?_
 .rintro i Z H' ⟨hs,x,y,rfl⟩
  exact⟨t_b.sq,hs.tup (SqT.of ad)⟩
 .rintro i x y r Z H' hx hy ⟨hs,u,v,rfl⟩ hr'
  obtain⟨fx,ex,rfl⟩:=bv hx;obtain⟨ny,ey,rfl⟩:=bv hy;walk_at "g";rw[Cr ex ey];exact⟨iK hr' hs,_,_,rfl⟩
 .rintro Z H' ⟨hs,x,y,rfl⟩
  walk_at "g";have hl:((aQ k).zip ns).take (min ((aQ k).map V.str).length (ns.map V.int).length)=(aQ k).zip ns:=by
   rw[List.length_map,List.length_map, <-List.length_zip,List.take_length]
  rw[hl];exact q _ ((af hp _).trans hs)
def du (k:Nat) (ns:List Int):List Int:=if k=1 then[cu k ns,ns.getD 1 0] else[cu k ns]
theorem jG:∀k,k < 19->(V.str (aI k)=V.str "put"↔k=1):=by decide +kernel
theorem IG {k:Nat}{ns:List Int}(h:2<=ns.length):atI (aE k ns) 2=some (.int (ns.getD 1 0)):=by
 match ns,h with
 | x::y::r,_=>exact xV
 | [_],h=>exact absurd h (by simp)
 | [],h=>exact absurd h (by simp)
def Gy (K:Frag):Sp:=fun vs H Q _=>∃(a:Addr) (k:Nat) (ns:List Int),vs=[.ref a]/\k < 19/\(k=1->2<=ns.length)/\SqT K H a (aE k ns)/\∀p H',H p=none->H' p=some (.lst ((du k ns).map V.int))->ay H H'->Q (.ref p) H'
def Aq (K:Frag):Sp:=fun vs H Q _=>∃(a:Addr) (k:Nat) (ns:List Int),vs=[.ref a]/\k < 19/\SqT K H a (aE k ns)/\Q (.int (if k=1 then 2 else 1)) H
theorem yq (B:Bi mg) (D:uv K mg) (di:Has P w K mg base 4 "first_word" cy (Gq K)):Has P w K mg base 5 "words_of" cy (Gy K):=by
 refine D.has Af (fun vs H Q E h=> ?_) (fun f cdv A outer s H vs Q E hr h=> ?_)
 .obtain⟨a,k,ns,rfl,_⟩:=h
  rfl
 obtain⟨a,k,ns,rfl,hk,h2,ha,q⟩:=h;unfold du at q
 refine⟨_,(ac (ax (pcT aG (pX ai (pv 0) aa) au) (ae (ah (aT (pa2 (pcH di hr (pa1 (pv 0))) (pX ai (pv 0) aa))))) al)
   (ae (ah (aT (pa1 (pcH di hr (pa1 (pv 0)))))))),?_⟩
 try dsimp only[aY]
 walk_at "g";refine aV (fun c=> ?_) (fun c=> ?_)
 .have c':=(jG k hk).mp c;rw[if_pos c'] at q;walk_at "g";intro H1 s1;walk_at "g";refine⟨IG (h2 c'),?_⟩
  walk_at "g";intro p hp;exact q p _ (s1.free hp) ad (iK hp s1)
 .have c':¬k=1:=fun z=>c ((jG k hk).mpr z)
  rw[if_neg c'] at q;walk_at "g";intro H1 s1;walk_at "g";intro p hp;exact q p _ (s1.free hp) ad (iK hp s1)
theorem xB (B:Bi mg) (D:rq K mg):Has P w K mg base 1 "length_of" cy (Aq K):=by
 refine D.has wT (fun vs H Q E h=> ?_) (fun f cdv A outer s H vs Q E hr h=> ?_)
 .obtain⟨a,k,ns,rfl,_⟩:=h
  rfl
 obtain⟨a,k,ns,rfl,hk,ha,q⟩:=h;refine⟨_,(ae (ah (x9 (pcT aG (pX ai (pv 0) aa) au) aa aa))),?_⟩
 try dsimp only[aY]
 walk_at "g";refine aV (fun c=> ?_) (fun c=> ?_)
 .rw[if_pos ((jG k hk).mp c)] at q;exact q
 .rw[if_neg fun z=>c ((jG k hk).mpr z)] at q
  exact q
def owi (wd:Int):Option (Nat × List Int):=
 if 19<=wd / 134217728 then none else if cu (wd / 134217728).toNat ((aQ (wd / 134217728).toNat).map fun f=>fj f wd)=wd then some ((wd / 134217728).toNat,(aQ (wd / 134217728).toNat).map fun f=>fj f wd) else none
def F2 (K:Frag) (H:Hp):Option (Nat × List Int)->V->Prop
 | none,v=>v= .non
 | some (k,ns),v=>∃a,v= .ref a/\SqT K H a (aE k ns)
def FT (K:Frag):Sp:=fun vs H Q _=>∃wd:Int,vs=[.int wd]/\0<=wd/\∀v H',ay H H'->F2 K H' (owi wd) v->Q v H'
theorem Fu {k:Nat}(hk:k < 19):atI (qP.map V.str) (k:Int)=some (.str (aI k)):=by
 refine a9 ?_
 have:∀k,k < 19->(qP.map V.str)[k]? =some (.str (aI k)):=by decide +kernel
 exact this k hk
theorem uE {α β:Type}{g:α->β}{l:List α}{i:Nat}{x:α}(h:l[i]? =some x):(l.take (i+1)).map g=(l.take i).map g++[g x]:=by
 rw[List.take_succ,h,List.map_append]
 rfl
theorem tZ (k:Nat):(aQ k).length<=3:=by
 by_cases hk:k < 19
 .have:∀k,k < 19->(aQ k).length<=3:=by decide +kernel
  exact this k hk
 .unfold aQ;rw[List.getD_eq_getElem?_getD,List.getElem?_eq_none (by show 19<=k;lia)]
  exact Nat.zero_le _
theorem jr (B:Bi mg) (T:Tb K mg w.params) (D:fD K mg) (di:Has P w K mg base 4 "first_word" cy (Gq K)) (ix:Has P w K mg base 3 "field_number" EA Ip):
  Has P w K mg base 5 "one_word_instruction" C1 (FT K):=by
 obtain⟨sD,sF,Fs⟩:=T.sorts;obtain⟨tz,kvs,sN,CS,t_F⟩:=T.fields;refine D.has bG (fun vs H Q E h=> ?_) (fun f cdv A outer s H vs Q E hr h=> ?_)
 .obtain⟨wd,rfl,_⟩:=h
  rfl
 obtain⟨wd,rfl,h0,q⟩:=h
 refine⟨_,(ac (psS 1 bG.nd (aj dH (pv 0) (cA (v:=134217728) (by rfl))))
   (ac (aL (bn (ax (PW.pt (gk (pcT gD (pv 1) aa) (d5 (pcT n8 (pv 1) (aF aC (by rfl) B.len bT (pa1 (kB (v:= .ref sD) (by rfl) sF (by rfl)))))))) (ae (ah cQ)) al)))
   (ac (psS 2 bG.nd (pX ai (kB (v:= .ref sD) (by rfl) sF (by rfl)) (pv 1)))
   (ac (xX (i:=3) (by rfl) (by rfl) (by rfl) (bk (sc0:=ag ck) (N0:=["word","number","sort","numbers","instruction"]) ["field","word"] 1 [0]) bG.nd (by rfl) (by left;rfl) (lK (Ey F7 (kB (v:= .ref tz) (by rfl) sN (by rfl)) (pv 2) (by intro _ _;rfl))) (fun _ _ _ _=>(aP (i:=0) (show List.Nodup (["field","word"]:List Str) by decide) (by rfl) (by left;rfl))) (fun _ _ _ _=>(pcH ix hr (pa2 (pv 0) (pv 1)))))
   (ac (psS 4 bG.nd (jA gg (by rfl) B.tuple mT (pa1 (aj tI (aT (pa1 (pv 2))) (pv 3)))))
   (ac (ax (pcT vA (pcH di hr (pa1 (pv 4))) (pv 0)) (ae (ah cQ)) al)
   (ae (ah (pv 4))))))))),?_⟩
 try dsimp only[aY]
 unfold owi at q;walk_at "g";refine⟨fun Z' H'=>aA (H'=H/\wd / 134217728 < 19/\Z'=[some (.int wd),some (.int (wd / 134217728)),none,none,none]),?_,?_⟩
 .walk_at "g";refine d3 (by lia) ?_
  walk_at "g";refine aV (fun c=> ?_) (fun c=> ?_)
  .have c':19<=wd / 134217728:=c;rw[if_pos c'] at q;exact q _ _ (ay.refl H) rfl
  .exact⟨rfl,by have c':¬19<=wd / 134217728:=c;lia,rfl⟩
 rintro Z1 H1 ⟨rfl,h19,rfl⟩
 rw[if_neg (by lia)] at q
 obtain⟨k,ek⟩:∃k:Nat,wd / 134217728=k:=⟨(wd / 134217728).toNat,by lia⟩
 rw[ek,Int.toNat_natCast] at q;rw[ek];have hk:k < 19:=by lia
 obtain⟨b,e_b,t_b⟩:=t_F k hk;walk_at "g";refine⟨Fu hk,?_⟩
 walk_at "g"
 first | refine⟨⟨_,t_b.sq⟩,?_⟩ | skip
 intro p hp;refine o4 (xs:=(aQ k).map V.str) (fun i ys H'=>aA (i<=3/\ys=((aQ k).take i).map (fun f=>V.int (fj f wd))/\H' p=some (.lst ys)/\ay H1 H')) ⟨by lia,rfl,ad,af hp _⟩ (fun _ _ _ _=>t_b.sq) ?_ ?_
 .rintro i x ys H2 F hF hx ⟨hi,rfl,hp2,s2⟩
  obtain⟨fx,ex,rfl⟩:=bv hx;have hi2:i < (aQ k).length:=(List.getElem?_eq_some_iff.mp ex).1;have hl3:=tZ k;walk_at "g";refine⟨?_,hF _ _ ⟨by lia,?_,ad,eK hp s2⟩⟩
  .rw[List.length_map,List.length_take];exact Nat.lt_of_le_of_lt (Nat.min_le_left _ _) (Nat.lt_of_le_of_lt hi (by decide))
  .rw[uE ex]
 rintro ys H2 ⟨_,rfl,hp2,s2⟩
 rw[List.length_map,List.take_length] at hp2;walk_at "g";intro l hl;walk_at "g";have hlen:[V.str (aI k)].length+((aQ k).map fun f=>V.int (fj f wd)).length<=sizeLine:=by
  have:=tZ k;rw[List.length_map];exact Nat.le_trans (show 1+(aQ k).length<=4 by lia) (by decide)
 refine⟨hlen,fun r hr2=> ?_⟩
 refine⟨_,_,rfl,.inl ⟨SqL.of ad,fun t ht=> ?_⟩⟩
 have hv:[V.str (aI k)]++(aQ k).map (fun f=>V.int (fj f wd))=aE k ((aQ k).map fun f=>fj f wd):=by
  unfold aE;rw[List.map_map]
  rfl
 rw[hv];rw[hv] at ht;have s3:ay H1 (upd (upd (upd H2 l (.lst [V.str (aI k)])) r (.lst (aE k ((aQ k).map fun f=>fj f wd)))) t (.tup (aE k ((aQ k).map fun f=>fj f wd)))):=iK ht (iK hr2 (iK hl s2))
 walk_at "g";intro H3 s4;walk_at "g";refine HF (fun c=> ?_) (fun c=> ?_)
 .have c':¬cu k ((aQ k).map fun f=>fj f wd)=wd:=fun z=>by rw[z] at c;simp at c
  rw[if_neg c'] at q;exact q _ _ (s3.trans s4) rfl
 .have c':cu k ((aQ k).map fun f=>fj f wd)=wd:=by simpa using c
  rw[if_pos c'] at q;walk_at "g";exact q _ _ (s3.trans s4) ⟨t,rfl,s4.tup (SqT.of ad)⟩
def jL (ws:List Int) (i:Int):Option (Nat × List Int):=
 if i < 0 then none else match ws[i.toNat]? with
  | none=>none
  | some wd=>match owi wd with
   | none=>none
   | some (k,ns)=>if k=1 then(match ws[i.toNat+1]? with | none=>none | some v=>some (1,[ns.getD 0 0,v])) else some (k,ns)
def EF (K:Frag):Sp:=fun vs H Q _=>∃(a:Addr) (ws:List Int) (i:Int),vs=[.ref a,.int i]/\SqL K H a (ws.map V.int)/\(∀ x∈ws,0<=x)/\∀v H',ay H H'->F2 K H' (jL ws i) v->Q v H'
theorem EQ {wd:Int}{ns:List Int}(h:owi wd=some (1,ns)):∃x,ns=[x]:=by
 unfold owi at h
 split at h
 .cases h
 .split at h
  .have h:=Option.some.inj h;have h1:(wd / 134217728).toNat=1:=congrArg Prod.fst h;have h2:=congrArg Prod.snd h;dsimp only at h2;rw[h1] at h2;exact⟨_,h2.symm⟩
  .cases h
theorem CU {wd:Int}{k:Nat}{ns:List Int}(h0:0<=wd) (h:owi wd=some (k,ns)):k < 19:=by
 unfold owi at h
 split at h
 .cases h
 .split at h
  .have h:=Option.some.inj h;have h1:(wd / 134217728).toNat=k:=congrArg Prod.fst h
   lia
  .cases h
theorem pJ (B:Bi mg) (D:jK K mg) (c_:Has P w K mg base 5 "one_word_instruction" C1 (FT K)):Has P w K mg base 6 "instruction_at" zF (EF K):=by
 refine D.has iS (fun vs H Q E h=> ?_) (fun f cdv A outer s H vs Q E hr h=> ?_)
 .obtain⟨a,ws,i,rfl,_⟩:=h
  rfl
 obtain⟨a,ws,i,rfl,ha,hw,q⟩:=h
 refine⟨_,(ac (aL (bn (ax (PW.pt (gk (pcT gD (pv 1) aa) (d5 (pcT n8 (pv 1) (aF aC (by rfl) B.len bT (pa1 (pv 0))))))) (ae (ah cQ)) al)))
   (ac (psS 2 iS.nd (pcH c_ hr (pa1 (pX bP (pv 0) (pv 1)))))
   (ac (aL (bn (ax (PW.pt (gk (mB (qK (pv 2))) (d5 (pcT vA (pX ai (pv 2) aa) au)))) (ae (ah (pv 2))) al)))
   (ac (ax (pcT aG (aj aO (pv 1) aa) (aF aC (by rfl) B.len bT (pa1 (pv 0)))) (ae (ah cQ)) al)
   (ae (ah (aw (pa3 au (pX ai (pv 2) aa) (pX bP (pv 0) (aj aO (pv 1) aa)))))))))),?_⟩
 try dsimp only[aY]
 unfold jL at q;walk_at "n";refine⟨fun Z' H'=>aA (H'=H/\0<=i/\i < ws.length/\Z'=[some (.ref a),some (.int i),none]),?_,?_⟩
 .walk_at "g";refine aV (fun c=> ?_) (fun c=> ?_)
  .have c':i < 0:=c;rw[if_pos c'] at q;exact wk (q _ _ (ay.refl H) rfl)
  have c':¬i < 0:=c;rw[if_neg c'] at q;walk_at "g";refine aV (fun c=> ?_) (fun c=> ?_)
  .have c2:(((ws.map V.int).length:Nat):Int)<=i:=c;rw[List.length_map] at c2;rw[List.getElem?_eq_none (by lia)] at q
   exact q _ _ (ay.refl H) rfl
  .have c2:¬(((ws.map V.int).length:Nat):Int)<=i:=c;rw[List.length_map] at c2;exact⟨rfl,by lia,by lia,rfl⟩
 rintro Z1 H1 ⟨rfl,hi0,hi1,rfl⟩
 rw[if_neg (by lia)] at q
 obtain⟨j,rfl⟩:∃j:Nat,i=j:=Int.eq_ofNat_of_zero_le (by first | assumption | lia)
 rw[Int.toNat_natCast] at q;have hj:j < ws.length:=by lia
 rw[List.getElem?_eq_getElem hj] at q;dsimp only at q;have hg:atI (ws.map V.int) (j:Int)=some (.int ws[j]):=a9 (by rw[List.getElem?_map,List.getElem?_eq_getElem hj];rfl)
 have hw0:=hw _ (List.getElem_mem hj);walk_at "g";intro v H2 s2 hv
 cases ho:owi ws[j] with
 | none=>
  rw[ho] at q hv
  cases hv
  walk_at "g";refine⟨fun _ _=>aA False,?_,fun _ _ z=>z.out.elim⟩
  walk_at "g";exact q _ _ s2 rfl
 | some kn=>
  obtain⟨k,ns⟩:=kn;rw[ho] at q hv;have hk:=CU hw0 ho;obtain⟨p,rfl,hp⟩:=hv;dsimp only at q;walk_at "g";refine⟨fun Z' H'=>aA (H'=H2/\k=1/\Z'=[some (.ref a),some (.int j),some (.ref p)]),?_,?_⟩
  .walk_at "g";refine HF (fun c=> ?_) (fun c=> ?_)
   .have c':¬k=1:=fun z=>by rw[decide_eq_true ((jG k hk).mpr z)] at c;cases c
    rw[if_neg c'] at q;walk_at "g";exact q _ _ s2 ⟨p,rfl,hp⟩
   .have c':k=1:=(jG k hk).mp (by simpa using c)
    exact⟨rfl,c',rfl⟩
  rintro Z2 H3 ⟨rfl,rfl,rfl⟩
  obtain⟨x,rfl⟩:=EQ ho;rw[if_pos rfl] at q;walk_at "g";refine aV (fun c=> ?_) (fun c=> ?_)
  .have c':(j:Int)+1=(((ws.map V.int).length:Nat):Int):=by injection c
   rw[List.length_map] at c';rw[List.getElem?_eq_none (by lia)] at q
   exact q _ _ s2 rfl
  .have c':¬(j:Int)+1=(((ws.map V.int).length:Nat):Int):=fun z=>c (congrArg V.int z)
   rw[List.length_map] at c';have hj2:j+1 < ws.length:=by lia
   rw[List.getElem?_eq_getElem hj2] at q;have hg2:atI (ws.map V.int) ((j:Int)+1)=some (.int ws[j+1]):=a9 (j:=j+1) (by rw[List.getElem?_map,List.getElem?_eq_getElem hj2];rfl)
   walk_at "g";intro r hr2;exact q _ _ (iK hr2 s2) ⟨r,rfl,SqT.of ad⟩
def aM (bx mo:Int) (k:Nat) (ns:List Int):Prop:=
 (k=0/\ns=[])\/(k=1/\∃a v,ns=[a,v]/\0<=a/\a < bx/\0<=v/\v < 4294967296)\/(2<=k/\k<=9/\∃a b c,ns=[a,b,c]/\0<=a/\a < bx/\0<=b/\b < bx/\0<=c/\c < bx)\/
 (10<=k/\k<=12/\∃a b n,ns=[a,b,n]/\0<=a/\a < bx/\0<=b/\b < bx/\ -131072<=n/\n < 131072)\/((k=13\/k=18)/\∃n,ns=[n]/\0<=n/\n < mo)\/(k=14/\∃a n,ns=[a,n]/\0<=a/\a < bx/\0<=n/\n < mo)\/
 (k=15/\∃b,ns=[b]/\0<=b/\b < bx)\/((k=16\/k=17)/\∃a b,ns=[a,b]/\0<=a/\a < bx/\0<=b/\b < bx)
theorem BH:∀k,k < 19->∀j,j < 19->k≠j->¬V.str (aI k)=V.str (aI j):=by decide +kernel
theorem IL (w:Int):0<=fj "a" w/\fj "a" w < 8:=by
 have e:fj "a" w=w / 16777216 %8:=rfl
 lia
theorem IW (w:Int):0<=fj "b" w/\fj "b" w < 8:=by
 have e:fj "b" w=w / 2097152 %8:=rfl
 lia
theorem Jw (w:Int):0<=fj "c" w/\fj "c" w < 8:=by
 have e:fj "c" w=w / 262144 %8:=rfl
 lia
theorem Jn (w:Int):0<=fj "n" w/\fj "n" w < 262144:=by
 have e:fj "n" w=w %262144:=rfl
 lia
theorem IN (w:Int): -131072<=fj "move" w/\fj "move" w < 131072:=by
 have e:fj "move" w=if w %262144 < 131072 then w %262144 else w %262144 - 262144:=rfl
 rw[e]
 split <;> lia
theorem y8 {ws:List Int}{i:Int}{k:Nat}{ns:List Int}(hw:∀x∈ws,0<=x/\x < 4294967296) (h:jL ws i=some (k,ns)):aM 8 262144 k ns:=by
 unfold jL at h
 split at h
 .cases h
 .split at h
  .cases h
  .rename_i wd hwd
   split at h
   .cases h
   .rename_i k' ns' ho
    have w0:=(hw wd (List.mem_of_getElem? hwd)).1;have hk:=CU w0 ho;have hns:ns'=(aQ k').map fun f=>fj f wd:=by
     unfold owi at ho
     split at ho
     .cases ho
     .split at ho
      .have e:=Option.some.inj ho;have e1:=congrArg Prod.fst e;have e2:=congrArg Prod.snd e;dsimp only at e1 e2;rw[<- e1, <-e2]
      .cases ho
    have fa:=IL wd;have fb:=IW wd;have fc:=Jw wd;have fn:=Jn wd;have fm:=IN wd
    by_cases h1:k'=1
    .rw[if_pos h1] at h;subst h1
     split at h
     .cases h
     .rename_i v hv
      cases h
      have e:ns'=[fj "a" wd]:=hns;have v2:=hw v (List.mem_of_getElem? hv);exact .inr (.inl ⟨rfl,_,_,rfl,by rw[e];exact fa.1,by rw[e];exact fa.2,v2.1,v2.2⟩)
    .rw[if_neg h1] at h
     cases h
     obtain rfl | rfl | rfl | rfl | rfl | rfl | rfl | rfl | rfl | rfl | rfl | rfl | rfl | rfl | rfl | rfl | rfl | rfl:k=0\/k=2\/k=3\/k=4\/k=5\/k=6\/k=7\/k=8\/k=9\/k=10\/k=11\/k=12\/k=13\/k=14\/k=15\/k=16\/k=17\/k=18:=(show ∀k < 19, ¬k=1->k=0\/k=2\/k=3\/k=4\/k=5\/k=6\/k=7\/k=8\/k=9\/k=10\/k=11\/k=12\/k=13\/k=14\/k=15\/k=16\/k=17\/k=18 by set_option synthInstance.maxSize 4000 in decide) k hk (by assumption)
     .exact .inl ⟨rfl,hns⟩
     iterate 8 exact .inr (.inr (.inl ⟨by decide,by decide,_,_,_,hns,fa.1,fa.2,fb.1,fb.2,fc.1,fc.2⟩))
     iterate 3 exact .inr (.inr (.inr (.inl ⟨by decide,by decide,_,_,_,hns,fa.1,fa.2,fb.1,fb.2,fm.1,fm.2⟩)))
     .exact .inr (.inr (.inr (.inr (.inl ⟨.inl rfl,_,hns,fn.1,fn.2⟩))))
     .exact .inr (.inr (.inr (.inr (.inr (.inl ⟨rfl,_,_,hns,fa.1,fa.2,fn.1,fn.2⟩)))))
     .exact .inr (.inr (.inr (.inr (.inr (.inr (.inl ⟨rfl,_,hns,fb.1,fb.2⟩))))))
     .exact .inr (.inr (.inr (.inr (.inr (.inr (.inr ⟨.inl rfl,_,_,hns,fa.1,fa.2,fb.1,fb.2⟩))))))
     .exact .inr (.inr (.inr (.inr (.inr (.inr (.inr ⟨.inr rfl,_,_,hns,fa.1,fa.2,fb.1,fb.2⟩))))))
     .exact .inr (.inr (.inr (.inr (.inl ⟨.inr rfl,_,hns,fn.1,fn.2⟩))))
abbrev Tr (H:Hp) (a:Addr) (s:SpM.Span):Prop:=H a=some (.tup [.int s.lo,.int s.hi,.int s.z])
def oq:Sp:=fun vs H Q _=>∃(lo hi:Int) (z:Nat),vs=[.int lo,.int hi,.int z]/\∀p H',ay H H'->Tr H' p (SpM.settled lo hi z)->Q (.ref p) H'
theorem AG {lo hi:Int}{z:Nat}(h:lo=hi):SpM.settled lo hi z=SpM.single lo:=if_pos h
theorem AK {lo hi:Int}{z:Nat}(h:lo≠hi):SpM.settled lo hi z=⟨lo,hi,z⟩:=if_neg h
theorem pG (a b:Nat):(if (b:Int) < (a:Int) then(b:Int) else(a:Int))=((min a b:Nat):Int):=by split <;> lia
theorem E1 (a b:Nat):(if (b:Int) >(a:Int) then(b:Int) else(a:Int))=((max a b:Nat):Int):=by split <;> lia
theorem ET (a b:Int):(if b < a then b else a)=min a b:=by split <;> lia
theorem E3 (a b:Int):(if b >a then b else a)=max a b:=by split <;> lia
theorem yS {lo hi:Int}{z:Nat}(h:lo < 0\/4294967296<=hi):SpM.kept lo hi z=SpM.all z:=if_pos h
theorem E6 {lo hi:Int}{z:Nat}(h:¬(lo < 0\/4294967296<=hi)):SpM.kept lo hi z=SpM.settled lo hi z:=if_neg h
def pO:Sp:=fun vs H Q _=>vs=[]/\∀p H',ay H H'->Tr H' p SpM.whole->Q (.ref p) H'
def DA:Sp:=fun vs H Q _=>∃z:Nat,vs=[.int z]/\z<=32/\∀p H',ay H H'->Tr H' p (SpM.all z)->Q (.ref p) H'
def jw:Sp:=fun vs H Q _=>∃v:Int,vs=[.int v]/\∀p H',ay H H'->Tr H' p (SpM.single v)->Q (.ref p) H'
def Ag (K:Frag):Sp:=fun vs H Q _=>∃(a:Addr) (s:SpM.Span),vs=[.ref a]/\Tr H a s/\Q (.bl (decide (s.lo=s.hi))) H
def tj:Sp:=fun vs H Q _=>∃(lo hi:Int) (z:Nat),vs=[.int lo,.int hi,.int z]/\z<=32/\∀p H',ay H H'->Tr H' p (SpM.kept lo hi z)->Q (.ref p) H'
def k_ (g:SpM.Span->SpM.Span->SpM.Span):Sp:=fun vs H Q _=>∃(a b:Addr) (l r:SpM.Span),vs=[.ref a,.ref b]/\Tr H a l/\Tr H b r/\SpM.Sv l/\SpM.Sv r/\∀p H',ay H H'->Tr H' p (g l r)->Q (.ref p) H'
theorem uT (B:Bi mg) (D:pR K mg):Has P w K mg base 1 "whole_span" [] pO:=by
 refine D.has vh (fun vs H Q E h=> ?_) (fun f cdv A outer s H vs Q E hr h=> ?_)
 .obtain⟨rfl,_⟩:=h
  rfl
 obtain⟨rfl,q⟩:=h;refine⟨_,(ae (ah (aw (pa3 aa (aj a_ (cA (v:=4294967296) (by rfl)) aa) aa)))),?_⟩
 try dsimp only[aY]
 walk_at "g";intro p hp;exact q p _ (af hp _) ad
theorem pW (B:Bi mg) (D:jC K mg) (ak:Has P w K mg base 1 "power_of_two" lx iq):Has P w K mg base 2 "multiples_span" zb DA:=by
 refine D.has pQ (fun vs H Q E h=> ?_) (fun f cdv A outer s H vs Q E hr h=> ?_)
 .obtain⟨z,rfl,_⟩:=h
  rfl
 obtain⟨z,rfl,hz,q⟩:=h;refine⟨_,(ae (ah (aw (pa3 aa (aj a_ (cA (v:=4294967296) (by rfl)) (pcH ak hr (pa1 (pv 0)))) (pv 0))))),?_⟩
 try dsimp only[aY]
 walk_at "g";intro p hp;exact q p _ (af hp _) ad
theorem Ca (B:Bi mg) (D:zn K mg) (gK:Has P w K mg base 1 "zeros" nN sB):Has P w K mg base 2 "single" nN jw:=by
 refine D.has B6 (fun vs H Q E h=> ?_) (fun f cdv A outer s H vs Q E hr h=> ?_)
 .obtain⟨v,rfl,_⟩:=h
  rfl
 obtain⟨v,rfl,q⟩:=h;refine⟨_,(ae (ah (aw (pa3 (pv 0) (pv 0) (pcH gK hr (pa1 (pv 0))))))),?_⟩
 try dsimp only[aY]
 walk_at "g";intro p hp;exact q p _ (af hp _) ad
theorem wp (B:Bi mg) (D:qR K mg):Has P w K mg base 1 "is_single" rh (Ag K):=by
 refine D.has wM (fun vs H Q E h=> ?_) (fun f cdv A outer s H vs Q E hr h=> ?_)
 .obtain⟨a,sp,rfl,_⟩:=h
  rfl
 obtain⟨a,sp,rfl,ht,q⟩:=h;refine⟨_,(ae (ah (pcE aG (pX ai (pv 0) aa) (pX ai (pv 0) aa)))),?_⟩
 try dsimp only[aY]
 walk_at "g";have e:decide (V.int sp.lo=V.int sp.hi)=decide (sp.lo=sp.hi):=by
  by_cases h:sp.lo=sp.hi
  .rw[decide_eq_true h,h,decide_eq_true rfl]
  .rw[decide_eq_false h,decide_eq_false (fun z=>h (by injection z))]
 rw[<- e] at q;exact q
theorem sr (B:Bi mg) (D:mZ K mg) (cj:Has P w K mg base 2 "single" nN jw):Has P w K mg base 3 "settled_span" fK oq:=by
 refine D.has rL (fun vs H Q E h=> ?_) (fun f cdv A outer s H vs Q E hr h=> ?_)
 .obtain⟨lo,hi,z,rfl,_⟩:=h
  rfl
 obtain⟨lo,hi,z,rfl,q⟩:=h
 refine⟨_,(ac (ax (pcT aG (pv 0) (pv 1)) (ae (ah (pcH cj hr (pa1 (pv 0))))) al)
   (ae (ah (aw (pa3 (pv 0) (pv 1) (pv 2)))))),?_⟩
 try dsimp only[aY]
 walk_at "g";refine aV (fun c=> ?_) (fun c=> ?_)
 .have c':lo=hi:=by injection c
  walk_at "g";intro p H1 s1 t1;exact q p _ s1 (by rw[AG c'];exact t1)
 .have c':lo≠hi:=fun z=>c (by rw[z])
  walk_at "g";intro p hp;exact q p _ (af hp _) (by rw[AK c'];exact ad)
theorem wU (B:Bi mg) (D:qV K mg) (fX:Has P w K mg base 2 "multiples_span" zb DA) (aK:Has P w K mg base 3 "settled_span" fK oq):Has P w K mg base 4 "kept_span" fK tj:=by
 refine D.has wD (fun vs H Q E h=> ?_) (fun f cdv A outer s H vs Q E hr h=> ?_)
 .obtain⟨lo,hi,z,rfl,_⟩:=h
  rfl
 obtain⟨lo,hi,z,rfl,hz,q⟩:=h
 refine⟨_,(ac (aL (bn (ax (PW.pt (gk (pcT gD (pv 0) aa) (d5 (pcT n8 (pv 1) (cA (v:=4294967296) (by rfl)))))) (ae (ah (pcH fX hr (pa1 (pv 2))))) al)))
   (ae (ah (pcH aK hr (pa3 (pv 0) (pv 1) (pv 2)))))),?_⟩
 try dsimp only[aY]
 walk_at "n";refine⟨fun Z' H'=>aA (H'=H/\Z'=[some (.int lo),some (.int hi),some (.int z)]/\¬(lo < 0\/4294967296<=hi)),?_,?_⟩
 .walk_at "g";refine aV (fun c1=> ?_) (fun c1=> ?_)
  .apply wk
   walk_at "g";intro p H1 s1 t1;exact q p _ s1 (by rw[yS (Or.inl c1)];exact t1)
  .walk_at "g";refine aV (fun c2=> ?_) (fun c2=> ?_)
   .walk_at "g";intro p H1 s1 t1;exact q p _ s1 (by rw[yS (Or.inr c2)];exact t1)
   .exact⟨rfl,rfl,fun h=>h.elim c1 c2⟩
 .rintro Z1 H1 ⟨rfl,rfl,hc⟩
  walk_at "g";intro p H2 s1 t1;exact q p _ s1 (by rw[E6 hc];exact t1)
theorem yd (B:Bi mg) (D:sK K mg) (bR:Has P w K mg base 4 "kept_span" fK tj):Has P w K mg base 5 "add_span" cC (k_ SpM.addS):=by
 refine D.has zB (fun vs H Q E h=> ?_) (fun f cdv A outer s H vs Q E hr h=> ?_)
 .obtain⟨a,b,l,r,rfl,_⟩:=h
  rfl
 obtain⟨a,b,l,r,rfl,ha,hb,vl,vr,q⟩:=h;refine⟨_,(ae (ah (pcH bR hr (pa3 (aj aO (pX ai (pv 0) aa) (pX ai (pv 1) aa)) (aj aO (pX ai (pv 0) aa) (pX ai (pv 1) aa)) (aF (fg (by rfl)) (by rfl) B.min mY (pa2 (pX ai (pv 0) aa) (pX ai (pv 1) aa))))))),?_⟩
 try dsimp only[aY]
 have hz:min l.z r.z<=32:=by have:=vl.zz;lia
 walk_at "g";dsimp only;rw[pG];walk_at "g";exact q
theorem y_ (B:Bi mg) (D:tV K mg) (bR:Has P w K mg base 4 "kept_span" fK tj):Has P w K mg base 5 "sub_span" cC (k_ SpM.subS):=by
 refine D.has yR (fun vs H Q E h=> ?_) (fun f cdv A outer s H vs Q E hr h=> ?_)
 .obtain⟨a,b,l,r,rfl,_⟩:=h
  rfl
 obtain⟨a,b,l,r,rfl,ha,hb,vl,vr,q⟩:=h;refine⟨_,(ae (ah (pcH bR hr (pa3 (aj a_ (pX ai (pv 0) aa) (pX ai (pv 1) aa)) (aj a_ (pX ai (pv 0) aa) (pX ai (pv 1) aa)) (aF (fg (by rfl)) (by rfl) B.min mY (pa2 (pX ai (pv 0) aa) (pX ai (pv 1) aa))))))),?_⟩
 try dsimp only[aY]
 have hz:min l.z r.z<=32:=by have:=vl.zz;lia
 walk_at "g";dsimp only;rw[pG];walk_at "g";exact q
theorem t5 (x:Int):x %2^5=(((x %32).toNat:Nat):Int):=by show x %32=_;lia
theorem zM (x:Int):(x %32).toNat<=64:=by lia
theorem F9 (x:Int):(x %32).toNat<=31:=by lia
theorem tJ {t:Nat}(h:t<=31): -(2^64) < (2:Int)^t/\(2:Int)^t < 2^64:=by
 have h1:=SpM.pp t;have h2:=SpM.ple (show t<=32 by lia)
 rw[SpM.p32] at h2
 lia
theorem BI {t:Nat}(h:t<=64):BV 0 ((2:Int)^t):=⟨SpM.pp t,SpM.ple (by lia)⟩
def nm8:SpM.Op8->Str
 | .add=>"add" | .sub=>"sub" | .and=>"and" | .or=>"or" | .xor=>"xor" | .less=>"less" | .left=>"left" | .right=>"right"
def Hw:Sp:=fun vs H Q _=>∃(o:SpM.Op8) (b c:Int),vs=[.str (nm8 o),.int b,.int c]/\Q (.int (SpM.jv o b c)) H
def IJ:Sp:=fun vs H Q _=>∃(a b:Addr) (lo:Int) (l r:SpM.Span),vs=[.ref a,.ref b,.int lo]/\Tr H a l/\Tr H b r/\SpM.Sv l/\SpM.Sv r/\∀p H',ay H H'->Tr H' p (SpM.orS l r lo)->Q (.ref p) H'
def Ij:Sp:=fun vs H Q _=>∃(o:SpM.Op8) (a b:Addr) (l r:SpM.Span),vs=[.str (nm8 o),.ref a,.ref b]/\Tr H a l/\Tr H b r/\SpM.Sv l/\SpM.Sv r/\∀p H',ay H H'->Tr H' p (SpM.jS o l r)->Q (.ref p) H'
def DU:Sp:=fun vs H Q _=>∃(a:Addr) (n:Int) (l:SpM.Span),vs=[.ref a,.int n]/\Tr H a l/\SpM.Sv l/\∀p H',ay H H'->Tr H' p (SpM.moreS l n)->Q (.ref p) H'
theorem rV (B:Bi mg) (D:lO K mg) (ak:Has P w K mg base 1 "power_of_two" lx iq) (bE:Has P w K mg base 2 "rest" mE kh):Has P w K mg base 3 "joined_value" DE Hw:=by
 refine D.has lu (fun vs H Q E h=> ?_) (fun f cdv A outer s H vs Q E hr h=> ?_)
 .obtain⟨o,b,c,rfl,_⟩:=h
  rfl
 obtain⟨o,b,c,rfl,q⟩:=h
 refine⟨_,(ac (ax (pcT aG (pv 0) au) (ae (ah (pcH bE hr (pa2 (aj aO (pv 1) (pv 2)) aa)))) al)
   (ac (ax (pcT aG (pv 0) au) (ae (ah (pcH bE hr (pa2 (aj a_ (pv 1) (pv 2)) aa)))) al)
   (ac (ax (pcT aG (pv 0) au) (ae (ah (aj GU (pv 1) (pv 2)))) al)
   (ac (ax (pcT aG (pv 0) au) (ae (ah (aj ID (pv 1) (pv 2)))) al)
   (ac (ax (pcT aG (pv 0) au) (ae (ah (aj Hn (pv 1) (pv 2)))) al)
   (ac (ax (pcT aG (pv 0) au) (ae (ah (x9 (pcT gD (pv 1) (pv 2)) aa aa))) al)
   (ac (psS 3 lu.nd (pcH ak hr (pa1 (pcH bE hr (pa2 (pv 2) aa)))))
   (ac (ax (pcT aG (pv 0) au) (ae (ah (pcH bE hr (pa2 (aj bz (pv 1) (pv 3)) aa)))) al)
   (ae (ah (aj dH (pv 1) (pv 3)))))))))))),?_⟩
 try dsimp only[aY]
 have hp:=tJ (F9 c);have hd:=BI (zM c);have h5:=zM c
 cases o
 all_goals dsimp only[nm8]
 .walk_at "g";walk_at "wd";exact q
 .walk_at "g";walk_at "wd";exact q
 .walk_at "g";walk_at "wd";exact q
 .walk_at "g";walk_at "wd";exact q
 .walk_at "g";walk_at "wd";exact q
 .walk_at "g";walk_at "wd";refine aV (fun cc=> ?_) (fun cc=> ?_)
  .have e:SpM.jv .less b c=1:=if_pos cc;rw[e] at q;exact q
  .have e:SpM.jv .less b c=0:=if_neg cc;rw[e] at q;exact q
 .walk_at "g";walk_at "wd";rw[t5];walk_at "g";walk_at "wd";exact q
 .walk_at "g";walk_at "wd";rw[t5];walk_at "g";walk_at "wd";exact q
theorem ym (B:Bi mg) (D:tF K mg) (bE:Has P w K mg base 2 "rest" mE kh) (aK:Has P w K mg base 3 "settled_span" fK oq):Has P w K mg base 4 "and_span" cC (k_ SpM.andS):=by
 refine D.has nh (fun vs H Q E h=> ?_) (fun f cdv A outer s H vs Q E hr h=> ?_)
 .obtain⟨a,b,l,r,rfl,_⟩:=h
  rfl
 obtain⟨a,b,l,r,rfl,ha,hb,vl,vr,q⟩:=h
 refine⟨_,(ac (psS 2 nh.nd (aF (qC (by rfl)) (by rfl) B.max ur (pa2 (pX ai (pv 0) aa) (pX ai (pv 1) aa))))
   (ac (psS 3 nh.nd (aF (fg (by rfl)) (by rfl) B.min mY (pa2 (pX ai (pv 0) aa) (pX ai (pv 1) aa))))
   (ae (ah (pcH aK hr (pa3 aa (aj a_ (pv 3) (pcH bE hr (pa2 (pv 3) (pv 2)))) (pv 2))))))),?_⟩
 try dsimp only[aY]
 have hz:max l.z r.z<=64:=by have:=vl.zz;have:=vr.zz;lia
 walk_at "g";rw[E1,ET];walk_at "g";exact q
theorem AH (B:Bi mg) (D:vw K mg) (ak:Has P w K mg base 1 "power_of_two" lx iq) (aK:Has P w K mg base 3 "settled_span" fK oq):Has P w K mg base 4 "or_span" zI IJ:=by
 refine D.has jZ (fun vs H Q E h=> ?_) (fun f cdv A outer s H vs Q E hr h=> ?_)
 .obtain⟨a,b,lo,l,r,rfl,_⟩:=h
  rfl
 obtain⟨a,b,lo,l,r,rfl,ha,hb,vl,vr,q⟩:=h
 refine⟨_,(ac (psS 3 jZ.nd (aF (fg (by rfl)) (by rfl) B.min mY (pa2 (pX ai (pv 0) aa) (pX ai (pv 1) aa))))
   (ac (psS 4 jZ.nd (pcH ak hr (pa1 (pv 3))))
   (ac (aL (gW PassesOwn.never (PW.pt (gk (pcT n8 (pX ai (pv 0) aa) (pv 4)) (d5 (pcT n8 (pX ai (pv 1) aa) (pv 4))))) (ae (psS 4 jZ.nd (aj bz (pv 4) aa)))))
   (ae (ah (pcH aK hr (pa3 (pv 2) (aj a_ (pv 4) (pcH ak hr (pa1 (pv 3)))) (pv 3)))))))),?_⟩
 try dsimp only[aY]
 have hz:min l.z r.z<=64:=by have:=vl.zz;lia
 have hz2:min l.z r.z<=32:=by have:=vl.zz;lia
 have w1:=vl.hW;have w2:=vr.hW;walk_at "g";rw[pG];walk_at "g";refine⟨fun m Z H'=>H'=H/\∃j,j+m=min l.z r.z+33/\SpM.jf l.hi r.hi (min l.z r.z)=SpM.jst l.hi r.hi m j/\Z=[some (.ref a),some (.ref b),some (.int lo),some (.int (min l.z r.z:Nat)),some (.int (2^j))],⟨33,rfl,_,rfl,rfl,rfl⟩,?_⟩
 rintro m Z H' ⟨rfl,j,hj,hf,rfl⟩
 have big:m=0->(4294967296:Int) < 2^j:=fun h=>by
  have:=SpM.plt (show 32 < j by lia)
  rw[SpM.p32] at this;exact this
 have next:((2:Int)^j<=l.hi\/(2:Int)^j<=r.hi)->∃m',m=m'+1/\SpM.jf l.hi r.hi (min l.z r.z)=SpM.jst l.hi r.hi m' (j+1):=fun hc=>by
  cases m with
  | zero=>have:=big rfl;lia
  | succ m'=>
   refine⟨m',rfl,?_⟩
   rw[hf];show(if _ then _ else _)=_
   rw[if_pos hc]
 have stop:¬((2:Int)^j<=l.hi\/(2:Int)^j<=r.hi)->SpM.jf l.hi r.hi (min l.z r.z)=j:=fun hc=>by
  rw[hf]
  cases m with
  | zero=>rfl
  | succ m'=>
   show(if _ then _ else _)=_
   rw[if_neg hc]
 have turn:((2:Int)^j<=l.hi\/(2:Int)^j<=r.hi)->∃m',m' < m/\(m'=m - 1)/\SpM.jf l.hi r.hi (min l.z r.z)=SpM.jst l.hi r.hi m' (j+1):=fun hc=>by
  obtain⟨m',e,h⟩:=next hc;exact⟨m',by lia,by lia,h⟩
 have e2:(2:Int)^j*2=2^(j+1):=(Int.pow_succ _ _).symm;walk_at "g";refine aV (fun c1=> ?_) (fun c1=> ?_)
 .obtain⟨m',h1,h2,h3⟩:=turn (Or.inl c1);apply wk
  walk_at "n";refine⟨fun Z' H2=>aA (H2=H'/\Z'=[some (.ref a),some (.ref b),some (.int lo),some (.int (min l.z r.z:Nat)),some (.int (2^(j+1)))]),fun Z' H2 h=>⟨m',h1,h.out.1,j+1,by lia,h3,h.out.2⟩,?_⟩
  walk_at "g";dsimp only;rw[e2];exact⟨rfl,rfl⟩
 .walk_at "g";refine aV (fun c2=> ?_) (fun c2=> ?_)
  .obtain⟨m',h1,h2,h3⟩:=turn (Or.inr c2);walk_at "n";refine⟨fun Z' H2=>aA (H2=H'/\Z'=[some (.ref a),some (.ref b),some (.int lo),some (.int (min l.z r.z:Nat)),some (.int (2^(j+1)))]),fun Z' H2 h=>⟨m',h1,h.out.1,j+1,by lia,h3,h.out.2⟩,?_⟩
   walk_at "g";dsimp only;rw[e2];exact⟨rfl,rfl⟩
  .have e3:=stop (fun h=>h.elim c1 c2)
   walk_at "g";unfold SpM.orS at q;rw[e3] at q;exact q
theorem xq (B:Bi mg) (D:qU K mg) (cj:Has P w K mg base 2 "single" nN jw):Has P w K mg base 3 "less_span" cC (k_ SpM.lessS):=by
 refine D.has wv (fun vs H Q E h=> ?_) (fun f cdv A outer s H vs Q E hr h=> ?_)
 .obtain⟨a,b,l,r,rfl,_⟩:=h
  rfl
 obtain⟨a,b,l,r,rfl,ha,hb,vl,vr,q⟩:=h
 refine⟨_,(ac (ax (pcT gD (pX ai (pv 0) aa) (pX ai (pv 1) aa)) (ae (ah (pcH cj hr (pa1 aa)))) al)
   (ac (ax (pcT n8 (pX ai (pv 0) aa) (pX ai (pv 1) aa)) (ae (ah (pcH cj hr (pa1 aa)))) al)
   (ae (ah (aw (bF (by rfl))))))),?_⟩
 try dsimp only[aY]
 unfold SpM.lessS at q;walk_at "g";refine aV (fun c1=> ?_) (fun c1=> ?_)
 .rw[if_pos c1] at q;walk_at "g";exact q
 .rw[if_neg c1] at q;walk_at "g";refine aV (fun c2=> ?_) (fun c2=> ?_)
  .rw[if_pos c2] at q;walk_at "g";exact q
  .rw[if_neg c2] at q;walk_at "g";intro p hp;exact q p _ (af hp _) ad
theorem xE (B:Bi mg) (D:rA K mg) (bK:Has P w K mg base 1 "is_single" rh (Ag K)) (bB:Has P w K mg base 1 "whole_span" [] pO) (bE:Has P w K mg base 2 "rest" mE kh) (ak:Has P w K mg base 1 "power_of_two" lx iq)
  (bR:Has P w K mg base 4 "kept_span" fK tj):Has P w K mg base 5 "left_span" cC (k_ SpM.leftS):=by
 refine D.has ku (fun vs H Q E h=> ?_) (fun f cdv A outer s H vs Q E hr h=> ?_)
 .obtain⟨a,b,l,r,rfl,_⟩:=h
  rfl
 obtain⟨a,b,l,r,rfl,ha,hb,vl,vr,q⟩:=h
 refine⟨_,(ac (ax (gx (cI (pcH bK hr (pa1 (pv 1))))) (ae (ah (fh (bB.mono (by omega)) hr (by rfl)))) al)
   (ac (psS 2 ku.nd (pcH bE hr (pa2 (pX ai (pv 1) aa) aa)))
   (ac (psS 3 ku.nd (pcH ak hr (pa1 (pv 2))))
   (ae (ah (pcH bR hr (pa3 (aj bz (pX ai (pv 0) aa) (pv 3)) (aj bz (pX ai (pv 0) aa) (pv 3)) (aF (fg (by rfl)) (by rfl) B.min mY (pa2 aa (aj aO (pX ai (pv 0) aa) (pv 2))))))))))),?_⟩
 try dsimp only[aY]
 have hp:=tJ (F9 r.lo);have h5:=zM r.lo;have hz:min 32 (l.z+(r.lo %32).toNat)<=32:=by lia
 unfold SpM.leftS at q;walk_at "g"
 by_cases c:r.lo=r.hi
 .rw[if_pos c] at q;rw[decide_eq_true c];walk_at "g";rw[t5];walk_at "g";have e:(if ((l.z:Int)+((r.lo %32).toNat:Nat)) < 32 then((l.z:Int)+((r.lo %32).toNat:Nat)) else 32)=((min 32 (l.z+(r.lo %32).toNat):Nat):Int):=by split <;> lia
  rw[e];walk_at "g";exact q
 .rw[if_neg c] at q;rw[decide_eq_false c];walk_at "g";exact q
theorem u9 (B:Bi mg) (D:pz K mg) (bK:Has P w K mg base 1 "is_single" rh (Ag K)) (bE:Has P w K mg base 2 "rest" mE kh) (ak:Has P w K mg base 1 "power_of_two" lx iq)
  (aK:Has P w K mg base 3 "settled_span" fK oq):Has P w K mg base 4 "right_span" cC (k_ SpM.rightS):=by
 refine D.has jc (fun vs H Q E h=> ?_) (fun f cdv A outer s H vs Q E hr h=> ?_)
 .obtain⟨a,b,l,r,rfl,_⟩:=h
  rfl
 obtain⟨a,b,l,r,rfl,ha,hb,vl,vr,q⟩:=h
 refine⟨_,(ac (ax (gx (cI (pcH bK hr (pa1 (pv 1))))) (ae (ah (pcH aK hr (pa3 aa (pX ai (pv 0) aa) aa)))) al)
   (ac (psS 2 jc.nd (pcH bE hr (pa2 (pX ai (pv 1) aa) aa)))
   (ac (psS 3 jc.nd (pcH ak hr (pa1 (pv 2))))
   (ae (ah (pcH aK hr (pa3 (aj dH (pX ai (pv 0) aa) (pv 3)) (aj dH (pX ai (pv 0) aa) (pv 3)) (aF (qC (by rfl)) (by rfl) B.max ur (pa2 aa (aj a_ (pX ai (pv 0) aa) (pv 2))))))))))),?_⟩
 try dsimp only[aY]
 have hd:=BI (zM r.lo);have h5:=zM r.lo;unfold SpM.rightS at q;walk_at "g"
 by_cases c:r.lo=r.hi
 .rw[if_pos c] at q;rw[decide_eq_true c];walk_at "g";rw[t5];walk_at "g";have e:(if ((l.z:Int) - ((r.lo %32).toNat:Nat)) >0 then((l.z:Int) - ((r.lo %32).toNat:Nat)) else 0)=((l.z - (r.lo %32).toNat:Nat):Int):=by split <;> lia
  rw[e];walk_at "g";exact q
 .rw[if_neg c] at q;rw[decide_eq_false c];walk_at "g";exact q
theorem tT (B:Bi mg) (D:nV K mg) (cj:Has P w K mg base 2 "single" nN jw) (bK:Has P w K mg base 1 "is_single" rh (Ag K)) (hG:Has P w K mg base 3 "joined_value" DE Hw)
  (oP:Has P w K mg base 5 "add_span" cC (k_ SpM.addS)) (ou:Has P w K mg base 5 "sub_span" cC (k_ SpM.subS)) (oH:Has P w K mg base 4 "and_span" cC (k_ SpM.andS)) (nC:Has P w K mg base 4 "or_span" zI IJ)
  (m5:Has P w K mg base 3 "less_span" cC (k_ SpM.lessS)) (nq:Has P w K mg base 5 "left_span" cC (k_ SpM.leftS)) (j8:Has P w K mg base 4 "right_span" cC (k_ SpM.rightS)):Has P w K mg base 6 "joined_span" zJ Ij:=by
 refine D.has sO (fun vs H Q E h=> ?_) (fun f cdv A outer s H vs Q E hr h=> ?_)
 .obtain⟨o,a,b,l,r,rfl,_⟩:=h
  rfl
 obtain⟨o,a,b,l,r,rfl,ha,hb,vl,vr,q⟩:=h
 refine⟨_,(ac (ax (pcT aG (pv 0) au) (ae (ah (pcH oP hr (pa2 (pv 1) (pv 2))))) al)
   (ac (ax (pcT aG (pv 0) au) (ae (ah (pcH ou hr (pa2 (pv 1) (pv 2))))) al)
   (ac (aL (bn (ax (PW.pt (iy (cI (pcH bK hr (pa1 (pv 1)))) (fr (cI (pcH bK hr (pa1 (pv 2))))))) (ae (ah (pcH cj hr (pa1 (pcH hG hr (pa3 (pv 0) (pX ai (pv 1) aa) (pX ai (pv 2) aa))))))) al)))
   (ac (ax (pcT aG (pv 0) au) (ae (ah (pcH oH hr (pa2 (pv 1) (pv 2))))) al)
   (ac (ax (pcT aG (pv 0) au) (ae (ah (pcH nC hr (pa3 (pv 1) (pv 2) (aF (qC (by rfl)) (by rfl) B.max ur (pa2 (pX ai (pv 1) aa) (pX ai (pv 2) aa))))))) al)
   (ac (ax (pcT aG (pv 0) au) (ae (ah (pcH nC hr (pa3 (pv 1) (pv 2) aa)))) al)
   (ac (ax (pcT aG (pv 0) au) (ae (ah (pcH m5 hr (pa2 (pv 1) (pv 2))))) al)
   (ac (ax (pcT aG (pv 0) au) (ae (ah (pcH nq hr (pa2 (pv 1) (pv 2))))) al)
   (ae (ah (pcH j8 hr (pa2 (pv 1) (pv 2))))))))))))),?_⟩
 try dsimp only[aY]
 by_cases h1:o= .add
 .subst h1;have e:SpM.jS .add l r=SpM.addS l r:=if_neg (fun h=>h.1 rfl)
  rw[e] at q;dsimp only[nm8];walk_at "g";walk_at "wd";exact q
 by_cases h2:o= .sub
 .subst h2;have e:SpM.jS .sub l r=SpM.subS l r:=if_neg (fun h=>h.2.1 rfl)
  rw[e] at q;dsimp only[nm8];walk_at "g";walk_at "wd";exact q
 have n1:V.str (nm8 o)≠V.str "add":=by cases o <;> first | exact absurd rfl h1 | (dsimp only[nm8];decide)
 have n2:V.str (nm8 o)≠V.str "sub":=by cases o <;> first | exact absurd rfl h2 | (dsimp only[nm8];decide)
 walk_at "g";refine d3 n1 ?_
 walk_at "g";refine d3 n2 ?_
 walk_at "n";refine⟨fun Z' H'=>aA (H'=H/\Z'=[some (.str (nm8 o)),some (.ref a),some (.ref b)]/\SpM.jS o l r=SpM.jS0 o l r),?_,?_⟩
 .walk_at "g";refine aV (fun c1=> ?_) (fun c1=> ?_)
  .walk_at "g";refine aV (fun c2=> ?_) (fun c2=> ?_)
   .have e:SpM.jS o l r=SpM.single (SpM.jv o l.lo r.lo):=if_pos ⟨h1,h2,c1,c2⟩;rw[e] at q;walk_at "g";exact q
   .exact⟨rfl,rfl,if_neg (fun h=>c2 h.2.2.2)⟩
  .exact Ax ⟨rfl,rfl,if_neg (fun h=>c1 h.2.2.1)⟩
 rintro Z1 H1 ⟨rfl,rfl,e⟩
 rw[e] at q;clear n1 n2 e
 cases o
 .exact absurd rfl h1
 .exact absurd rfl h2
 all_goals dsimp only[nm8]
 all_goals walk_at "g"
 all_goals walk_at "wd"
 .exact q
 .rw[E3];walk_at "g";exact q
 .exact q
 .exact q
 .exact q
 .exact q
theorem xJ (B:Bi mg) (D:q9 K mg) (gK:Has P w K mg base 1 "zeros" nN sB) (bR:Has P w K mg base 4 "kept_span" fK tj):Has P w K mg base 5 "more_span" yt DU:=by
 refine D.has xa (fun vs H Q E h=> ?_) (fun f cdv A outer s H vs Q E hr h=> ?_)
 .obtain⟨a,n,l,rfl,_⟩:=h
  rfl
 obtain⟨a,n,l,rfl,ha,vl,q⟩:=h;refine⟨_,(ae (ah (pcH bR hr (pa3 (aj aO (pX ai (pv 0) aa) (pv 1)) (aj aO (pX ai (pv 0) aa) (pv 1)) (aF (fg (by rfl)) (by rfl) B.min mY (pa2 (pX ai (pv 0) aa) (pcH gK hr (pa1 (pv 1))))))))),?_⟩
 try dsimp only[aY]
 have hz:min l.z (SpM.Zn n)<=32:=by have:=vl.zz;lia
 walk_at "g";rw[pG];walk_at "g";exact q
structure Pl (H:Hp) (a:Addr) (k:Nat) (b:Int) (m s:Nat) (g:Int):Prop where
 at_:H a=some (.tup [.int k,.int b,.int m,.int s,.int g])
 room:SpM.Room k b
 ms:m+s<=7
def DD:Sp:=fun vs H Q _=>∃(a:Addr) (k:Nat) (b:Int) (m s:Nat) (g v:Int),vs=[.ref a,.int v]/\Pl H a k b m s g/\Q (.int (SpM.aimV m s v)) H
def FP:Sp:=fun vs H Q _=>∃(a:Addr) (k:Nat) (b:Int) (m s:Nat) (g:Int) (c:Addr) (l:SpM.Span),vs=[.ref a,.ref c]/\Pl H a k b m s g/\Tr H c l/\SpM.Sv l/\∀p H',ay H H'->Tr H' p (SpM.fitS k b l)->Q (.ref p) H'
def Ge:Sp:=fun vs H Q _=>∃(a:Addr) (k:Nat) (b:Int) (m s:Nat) (g:Int) (c:Addr) (l:SpM.Span),vs=[.ref a,.ref c]/\Pl H a k b m s g/\Tr H c l/\SpM.Sv l/\∀p H',ay H H'->Tr H' p (SpM.aimS m s l)->Q (.ref p) H'
theorem Pl.mv {H H':Hp}{a:Addr}{k:Nat}{b:Int}{m s:Nat}{g:Int}(p:Pl H a k b m s g) (e:ay H H'):Pl H' a k b m s g:=⟨e _ _ p.at_,p.room,p.ms⟩
theorem wB (B:Bi mg) (D:rJ K mg) (ak:Has P w K mg base 1 "power_of_two" lx iq) (bE:Has P w K mg base 2 "rest" mE kh):Has P w K mg base 3 "aim_value" C4 DD:=by
 refine D.has wQ (fun vs H Q E h=> ?_) (fun f cdv A outer s H vs Q E hr h=> ?_)
 .obtain⟨a,k,b,m,s,g,v,rfl,_⟩:=h
  rfl
 obtain⟨a,k,b,m,sx,g,v,rfl,pl,q⟩:=h;have hat:=pl.at_;have hms:=pl.ms;have h2:=tJ (t:=sx) (by lia)
 refine⟨_,(ae (ah (aj bz (aj bz (pcH bE hr (pa2 (pv 1) (pX ai (pv 0) aa))) aa) (pcH ak hr (pa1 (pX ai (pv 0) aa)))))),?_⟩
 try dsimp only[aY]
 walk_at "g";exact q
theorem x6 (B:Bi mg) (D:sM K mg) (ak:Has P w K mg base 1 "power_of_two" lx iq) (bE:Has P w K mg base 2 "rest" mE kh) (gK:Has P w K mg base 1 "zeros" nN sB)
  (aK:Has P w K mg base 3 "settled_span" fK oq):Has P w K mg base 4 "fit_span" nS FP:=by
 refine D.has iQ (fun vs H Q E h=> ?_) (fun f cdv A outer s H vs Q E hr h=> ?_)
 .obtain⟨a,k,b,m,s,g,c,l,rfl,_⟩:=h
  rfl
 obtain⟨a,k,b,m,sx,g,c,l,rfl,pl,hc,vl,q⟩:=h;have hat:=pl.at_;have hk:=pl.room.k20;have hz:min l.z (SpM.Zn b)<=64:=by have:=vl.zz;lia
 refine⟨_,(ac (psS 2 iQ.nd (pX ai (pv 0) aa))
   (ac (psS 3 iQ.nd (pcH ak hr (pa1 (pX ai (pv 0) aa))))
   (ac (aL (bn (ax (PW.pt (iy (pcT Dq (pv 2) (pX ai (pv 1) aa)) (fr (pcT gD (pX ai (pv 1) aa) (aj aO (pv 2) (pv 3)))))) (ae (ah (pv 1))) al)))
   (ac (psS 4 iQ.nd (aF (fg (by rfl)) (by rfl) B.min mY (pa2 (pX ai (pv 1) aa) (pcH gK hr (pa1 (pv 2))))))
   (ae (ah (pcH aK hr (pa3 (pv 2) (aj a_ (aj a_ (aj aO (pv 2) (pv 3)) aa) (pcH bE hr (pa2 (aj a_ (pv 3) aa) (pv 4)))) (pv 4))))))))),?_⟩
 try dsimp only[aY]
 unfold SpM.fitS at q;walk_at "g";refine⟨fun Z' H'=>aA (H'=H/\Z'=[some (.ref a),some (.ref c),some (.int b),some (.int (2^k)),none]/\¬(b<=l.lo/\l.hi < b+2^k)),?_,?_⟩
 .walk_at "g";refine aV (fun c1=> ?_) (fun c1=> ?_)
  .walk_at "g";refine aV (fun c2=> ?_) (fun c2=> ?_)
   .rw[if_pos ⟨c1,c2⟩] at q;walk_at "g";exact q _ _ (ay.refl _) hc
   .exact⟨rfl,rfl,fun h=>c2 h.2⟩
  .exact Ax ⟨rfl,rfl,fun h=>c1 h.1⟩
 rintro Z1 H1 ⟨rfl,rfl,e⟩
 rw[if_neg e] at q;walk_at "g";rw[pG];walk_at "g";exact q
theorem yJ (B:Bi mg) (D:tY K mg) (ak:Has P w K mg base 1 "power_of_two" lx iq) (cj:Has P w K mg base 2 "single" nN jw) (bK:Has P w K mg base 1 "is_single" rh (Ag K)) (iH:Has P w K mg base 3 "aim_value" C4 DD)
  (aK:Has P w K mg base 3 "settled_span" fK oq):Has P w K mg base 4 "aim_span" nS Ge:=by
 refine D.has rC (fun vs H Q E h=> ?_) (fun f cdv A outer s H vs Q E hr h=> ?_)
 .obtain⟨a,k,b,m,s,g,c,l,rfl,_⟩:=h
  rfl
 obtain⟨a,k,b,m,sx,g,c,l,rfl,pl,hc,vl,q⟩:=h;have hat:=pl.at_;have hms:=pl.ms;have hm:m<=64:=by lia
 refine⟨_,(ac (ax (cI (pcH bK hr (pa1 (pv 1)))) (ae (ah (pcH cj hr (pa1 (pcH iH hr (pa2 (pv 0) (pX ai (pv 1) aa))))))) al)
   (ac (psS 2 rC.nd (aj a_ (pcH ak hr (pa1 (pX ai (pv 0) aa))) aa))
   (ae (ah (pcH aK hr (pa3 aa (pcH iH hr (pa2 (pv 0) (pv 2))) (aj aO (pX ai (pv 0) aa) aa))))))),?_⟩
 try dsimp only[aY]
 unfold SpM.aimS at q;walk_at "g";refine aV (fun c1=> ?_) (fun c1=> ?_)
 .rw[if_pos c1] at q;walk_at "g";exact q
 .rw[if_neg c1] at q;walk_at "g";exact q
def SpA (H:Hp):List Addr->List SpM.Span->Prop
 | [],[]=>True
 | a::as,s::ss=>Tr H a s/\SpA H as ss
 | _,_=>False
theorem SpA.mono {H H':Hp}(h1:∀a xs,H a=some (.tup xs)->H' a=some (.tup xs)):∀ {as:List Addr}{ss:List SpM.Span},SpA H as ss->SpA H' as ss
 | [],[],_=>True.intro
 | _::_,_::_,h=>⟨h1 _ _ h.1,SpA.mono h1 h.2⟩
 | [],_::_,h=>h.elim
 | _::_,[],h=>h.elim
theorem SpA.same {H H':Hp}(e:ay H H') {as:List Addr}{ss:List SpM.Span}(h:SpA H as ss):SpA H' as ss:=h.mono (fun _ _ z=>e _ _ z)
theorem SpA.len {H:Hp}:∀ {as:List Addr}{ss:List SpM.Span},SpA H as ss->as.length=ss.length
 | [],[],_=>rfl
 | _::_,_::_,h=>congrArg (· +1) (SpA.len h.2)
 | [],_::_,h=>h.elim
 | _::_,[],h=>h.elim
theorem SpA.app {H:Hp}{bs:List Addr}{ts:List SpM.Span}(hb:SpA H bs ts):∀ {as:List Addr}{ss:List SpM.Span},SpA H as ss->SpA H (as++bs) (ss++ts)
 | [],[],_=>hb
 | _::_,_::_,h=>⟨h.1,SpA.app hb h.2⟩
 | [],_::_,h=>h.elim
 | _::_,[],h=>h.elim
theorem SpA.take {H:Hp}:∀(n:Nat) {as:List Addr}{ss:List SpM.Span},SpA H as ss->SpA H (as.take n) (ss.take n)
 | 0,_,_,_=>True.intro
 | n+1,[],[],_=>True.intro
 | n+1,_::_,_::_,h=>⟨h.1,SpA.take n h.2⟩
 | n+1,[],_::_,h=>h.elim
 | n+1,_::_,[],h=>h.elim
theorem SpA.drop {H:Hp}:∀(n:Nat) {as:List Addr}{ss:List SpM.Span},SpA H as ss->SpA H (as.drop n) (ss.drop n)
 | 0,_,_,h=>h
 | n+1,[],[],_=>True.intro
 | n+1,_::_,_::_,h=>SpA.drop n h.2
 | n+1,[],_::_,h=>h.elim
 | n+1,_::_,[],h=>h.elim
theorem SpA.get {H:Hp}:∀ {as:List Addr}{ss:List SpM.Span},SpA H as ss->∀(j:Nat) s,ss[j]? =some s->∃a,as[j]? =some a/\Tr H a s
 | [],[],_=>fun j kn e=>by cases j <;> cases e
 | t::_,p::_,h=>fun j kn e=>by
  cases j with
  | zero=>
   have e':p=kn:=Option.some.inj e;subst e';exact⟨t,rfl,h.1⟩
  | succ j=>exact SpA.get h.2 j kn e
 | [],_::_,h=>h.elim
 | _::_,[],h=>h.elim
theorem SpA.rep {H:Hp}{a:Addr}{s:SpM.Span}(h:Tr H a s):∀n,SpA H (List.replicate n a) (List.replicate n s)
 | 0=>True.intro
 | n+1=>by
  rw[List.replicate_succ,List.replicate_succ];exact⟨h,SpA.rep h n⟩
structure Sp8 (sp:List SpM.Span):Prop where
 len:sp.length=8
 sv:∀s∈sp,SpM.Sv s
def spG (sp:List SpM.Span) (i:Int):SpM.Span:=sp.getD i.toNat SpM.whole
theorem Sp8.at {sp:List SpM.Span}(h:Sp8 sp) {i:Int}(h0:0<=i) (h1:i < 8):sp[i.toNat]? =some (spG sp i)/\SpM.Sv (spG sp i):=by
 have hk:i.toNat < sp.length:=by rw[h.len];lia
 have e:spG sp i=sp[i.toNat]:=by unfold spG;rw[List.getD_eq_getElem?_getD,List.getElem?_eq_getElem hk];rfl
 rw[e];exact⟨List.getElem?_eq_getElem hk,h.sv _ (List.getElem_mem hk)⟩
def SpT (K:Frag) (H:Hp) (a:Addr) (sp:List SpM.Span):Prop:=∃as,SqT K H a (as.map V.ref)/\SpA H as sp
theorem SpT.same {H H':Hp}(e:ay H H') {a:Addr}{sp:List SpM.Span}(h:SpT K H a sp):SpT K H' a sp:=let ⟨as,h1,h2⟩:=h;⟨as,e.tup h1,h2.same e⟩
theorem SpT.at {H:Hp}{a:Addr}{sp:List SpM.Span}{as:List Addr}(h:SpA H as sp) (h8:Sp8 sp) {i:Int}(h0:0<=i) (h1:i < 8):∃b,atI (as.map V.ref) i=some (.ref b)/\Tr H b (spG sp i)/\SpM.Sv (spG sp i):=by
 obtain⟨e1,e2⟩:=h8.at h0 h1;obtain⟨b,e3,e4⟩:=h.get _ _ e1;refine⟨b,?_,e4,e2⟩
 have ek:i=((i.toNat:Nat):Int):=by lia
 have q:atI (as.map V.ref) ((i.toNat:Nat):Int)=some (.ref b):=a9 (by rw[List.getElem?_map,e3];rfl)
 rw[<- ek] at q;exact q
def mk8 (k:Nat):Prop:=(1<=k/\k<=11)\/k=16\/k=17
instance {k:Nat}:Decidable (mk8 k):=inferInstanceAs (Decidable (_\/_))
def Hq:Nat->SpM.Op8
 | 2=> .add | 3=> .sub | 4=> .and | 5=> .or | 6=> .xor | 7=> .less | 8=> .left | _=> .right
theorem HW:∀k,2<=k->k<=9->aI k=nm8 (Hq k):=by
 intro k h1 h2;obtain rfl | rfl | rfl | rfl | rfl | rfl | rfl | rfl:k=2\/k=3\/k=4\/k=5\/k=6\/k=7\/k=8\/k=9:=by lia
 all_goals rfl
noncomputable def fM (pk:Nat) (pb:Int) (pm ps:Nat) (k:Nat) (ns:List Int) (sp:List SpM.Span):SpM.Span:=
 if k=1 then SpM.single (ns.getD 1 0) else if k=11 then SpM.whole else if k=10 then SpM.moreS (spG sp (ns.getD 1 0)) (ns.getD 2 0) else if k=16 then SpM.fitS pk pb (spG sp (ns.getD 1 0)) else if k=17 then SpM.aimS pm ps (spG sp (ns.getD 1 0))
 else SpM.jS (Hq k) (spG sp (ns.getD 1 0)) (spG sp (ns.getD 2 0))
noncomputable def dE (pk:Nat) (pb:Int) (pm ps:Nat) (k:Nat) (ns:List Int) (sp:List SpM.Span):List SpM.Span:=
 if k=18 then List.replicate 7 SpM.whole++[spG sp 7] else if mk8 k then sp.set (ns.getD 0 0).toNat (fM pk pb pm ps k ns sp) else sp
def lF (pk:Nat) (pb:Int) (ns:List Int) (sp:List SpM.Span):Prop:=(spG sp (ns.getD 1 0)).lo+ns.getD 2 0 < pb\/pb+2^pk<=(spG sp (ns.getD 1 0)).hi+ns.getD 2 0
instance {pk:Nat}{pb:Int}{ns:List Int}{sp:List SpM.Span}:Decidable (lF pk pb ns sp):=inferInstanceAs (Decidable (_\/_))
def tgt (k:Nat) (ns:List Int):Int:=if k=13 then ns.getD 0 0 else ns.getD 1 0
def cq (pk:Nat) (pb pg:Int) (total:Int) (k:Nat) (ns:List Int) (sp:List SpM.Span):Option Str:=
 if mk8 k/\ns.getD 0 0=7 then some "host" else if (k=11\/k=12)/\lF pk pb ns sp then some "beyond" else if (k=13\/k=14)/\(tgt k ns %8≠0\/total<=tgt k ns) then some "target"
 else if k=15/\(total<=(spG sp (ns.getD 0 0)).hi\/(spG sp (ns.getD 0 0)).z < 3) then some "way" else if k=18/\pg<=ns.getD 0 0 then some "gate" else none
theorem sne {k j:Nat}(hk:k < 19) (hj:j < 19) (h:k≠j):V.str (aI k)≠V.str (aI j):=BH k hk j hj h
theorem seq {k j:Nat}(hk:k < 19) (hj:j < 19) (h:V.str (aI k)=V.str (aI j)):k=j:=by
 by_cases e:k=j
 .exact e
 .exact absurd h (BH k hk j hj e)
theorem aM.lt {nb mo:Int}{k:Nat}{ns:List Int}(h:aM nb mo k ns):k < 19:=by
 rcases h with⟨rfl,rfl⟩|⟨rfl,x,v,rfl,x0,x1,v0,v1⟩|⟨h1,h2,x,y,z,rfl,x0,x1,y0,y1,z0,z1⟩|⟨h1,h2,x,y,z,rfl,x0,x1,y0,y1,z0,z1⟩|⟨hk,z,rfl,z0,z1⟩|⟨rfl,x,z,rfl,x0,x1,z0,z1⟩|⟨rfl,y,rfl,y0,y1⟩|⟨hk,x,y,rfl,x0,x1,y0,y1⟩
 all_goals lia
theorem CJ {pk:Nat}{pb:Int}{pm ps k:Nat}{ns:List Int}{sp:List SpM.Span}(hR:SpM.Room pk pb) (hms:pm+ps<=7) (hv:aM 8 262144 k ns) (hm:mk8 k) (h8:Sp8 sp):SpM.Sv (fM pk pb pm ps k ns sp):=by
 unfold mk8 at hm;unfold fM;rcases hv with⟨rfl,rfl⟩|⟨rfl,x,v,rfl,x0,x1,v0,v1⟩|⟨h1,h2,x,y,z,rfl,x0,x1,y0,y1,z0,z1⟩|⟨h1,h2,x,y,z,rfl,x0,x1,y0,y1,z0,z1⟩|⟨hk,z,rfl,z0,z1⟩|⟨rfl,x,z,rfl,x0,x1,z0,z1⟩|⟨rfl,y,rfl,y0,y1⟩|⟨hk,x,y,rfl,x0,x1,y0,y1⟩
 .lia
 .exact SpM.Sv_single v0 v1
 .rw[if_neg (by lia),if_neg (by lia),if_neg (by lia),if_neg (by lia),if_neg (by lia)]
  exact SpM.Sv_j _ (h8.at y0 y1).2 (h8.at z0 z1).2
 .obtain rfl | rfl:k=10\/k=11:=by lia
  .exact SpM.Sv_more (h8.at y0 y1).2 _
  .exact SpM.Sv_whole
 .lia
 .lia
 .lia
 .rcases hk with rfl | rfl
  .exact SpM.Sv_fit hR (h8.at y0 y1).2
  .exact SpM.Sv_aim hms _
theorem Sp8.set {sp:List SpM.Span}(h:Sp8 sp) {i:Nat}{s:SpM.Span}(hs:SpM.Sv s):Sp8 (sp.set i s):=
 ⟨by rw[List.length_set];exact h.len,fun x hx=>by
  rcases List.mem_or_eq_of_mem_set hx with hx | hx
  .exact h.sv x hx
  .subst hx;exact hs⟩
theorem qH {pk:Nat}{pb:Int}{pm ps k:Nat}{ns:List Int}{sp:List SpM.Span}(hR:SpM.Room pk pb) (hms:pm+ps<=7) (hv:aM 8 262144 k ns) (h8:Sp8 sp):Sp8 (dE pk pb pm ps k ns sp):=by
 unfold dE
 split
 .refine⟨rfl,fun s hs=> ?_⟩
  rcases List.mem_append.mp hs with hs | hs
  .rw[List.eq_of_mem_replicate hs];exact SpM.Sv_whole
  .have:s=spG sp 7:=by simpa using hs
   rw[this];exact(h8.at (by decide) (by decide)).2
 .split
  .exact h8.set (CJ hR hms hv (by assumption) h8)
  .exact h8
theorem GD {xs:List V}{n:Nat}:fZ xs none (some (n:Int))=xs.take n:=by
 unfold fZ;have e1:HT.sIx xs.length 0 none=0:=rfl;rw[e1,HT.sIx_nat]
 simp only[List.drop_zero,Nat.sub_zero]
 rw[<- List.take_eq_take_min]
theorem De {xs:List V}{n:Nat}:fZ xs (some (n:Int)) none=xs.drop n:=by
 unfold fZ;have e1:HT.sIx xs.length xs.length none=xs.length:=rfl;rw[e1,HT.sIx_nat]
 by_cases h:n<=xs.length
 .rw[Nat.min_eq_left h];exact List.take_of_length_le (by rw[List.length_drop];exact Nat.le_refl _)
 .rw[Nat.min_eq_right (by lia),List.drop_eq_nil_of_le (Nat.le_refl _),List.drop_eq_nil_of_le (by lia)]
  exact List.take_nil
structure Tb2 (K:Frag) (mg:Str->Option Value):Prop where
 none_:∃a,mg "MAKING_NONE"=some (.ref a)/\e_ K a [.str "stop",.str "store",.str "jump",.str "jumpif",.str "through",.str "gate"]
 last:∃a,mg "LAST_SORTS"=some (.ref a)/\e_ K a [.str "stop",.str "jump",.str "through"]
theorem BD:∀k,k < 19->inV (.str (aI k)) [.str "stop",.str "store",.str "jump",.str "jumpif",.str "through",.str "gate"]=decide (¬ mk8 k):=by decide +kernel
theorem Ff:∀k,k < 19->inV (.str (aI k)) [.str "stop",.str "jump",.str "through"]=decide (k=0\/k=13\/k=15):=by decide +kernel
theorem qF {k:Nat}{ns:List Int}(h:aM 8 262144 k ns) (hm:mk8 k):∃x r,ns=x::r/\0<=x/\x < 8:=by
 unfold mk8 at hm;rcases h with⟨rfl,rfl⟩|⟨rfl,x,v,rfl,x0,x1,v0,v1⟩|⟨h1,h2,x,y,z,rfl,x0,x1,y0,y1,z0,z1⟩|⟨h1,h2,x,y,z,rfl,x0,x1,y0,y1,z0,z1⟩|⟨hk,z,rfl,z0,z1⟩|⟨rfl,x,z,rfl,x0,x1,z0,z1⟩|⟨rfl,y,rfl,y0,y1⟩|⟨hk,x,y,rfl,x0,x1,y0,y1⟩
 all_goals first | lia | exact⟨_,_,rfl,x0,x1⟩
def EW (K:Frag):Sp:=fun vs H Q _=>∃(a:Addr) (k:Nat) (ns:List Int),vs=[.ref a]/\aM 8 262144 k ns/\SqT K H a (aE k ns)/\(mk8 k->Q (.int (ns.getD 0 0)) H)/\(¬ mk8 k->Q .non H)
theorem Ac (B:Bi mg) (T2:Tb2 K mg) (D:tE K mg):Has P w K mg base 1 "made_box" cy (EW K):=by
 obtain⟨u4,u_,EJ⟩:=T2.none_;refine D.has yN (fun vs H Q E h=> ?_) (fun f cdv A outer s H vs Q E hr h=> ?_)
 .obtain⟨a,k,ns,rfl,_⟩:=h
  rfl
 obtain⟨a,k,ns,rfl,hv,ha,q1,q2⟩:=h;have hk:=hv.lt;have i0:atI (aE k ns) 0=some (.str (aI k)):=lR
 refine⟨_,(ac (ax (nA v_ (pX ai (pv 0) aa) (kB (v:= .ref u4) (by rfl) u_ (by rfl)) (by rfl)) (ae (ah cQ)) al)
   (ae (ah (pX ai (pv 0) aa)))),?_⟩
 try dsimp only[aY]
 walk_at "g";refine zT (fun c=> ?_) (fun c=> ?_)
 .have hm:¬mk8 k:=of_decide_eq_true ((BD k hk).symm.trans c);walk_at "g";exact q2 hm
 .have hm:mk8 k:=by
   have:=of_decide_eq_false ((BD k hk).symm.trans c);exact Classical.not_not.mp this
  obtain⟨x,r,rfl,_⟩:=qF hv hm;have i1:atI (aE k (x::r)) 1=some (.int x):=AL;walk_at "g";exact q1 hm
def EY (K:Frag):Sp:=fun vs H Q _=>vs=[]/\∀p H',ay H H'->SpT K H' p (List.replicate 8 SpM.whole)->Q (.ref p) H'
theorem ua (B:Bi mg) (D:nY K mg) (bB:Has P w K mg base 1 "whole_span" [] pO):Has P w K mg base 2 "first_spans" [] (EY K):=by
 refine D.has uf (fun vs H Q E h=> ?_) (fun f cdv A outer s H vs Q E hr h=> ?_)
 .obtain⟨rfl,_⟩:=h
  rfl
 obtain⟨rfl,q⟩:=h;refine⟨_,(ae (ah (jA gg (by rfl) B.tuple mT (pa1 (aj tw (aT (pa1 (fh (bB.mono (by omega)) hr (by rfl)))) aa))))),?_⟩
 try dsimp only[aY]
 walk_at "g";intro p1 H1 s1 t1;walk_at "g";intro p2 hp2;have s2:=s1.trans (af hp2 (.lst [.ref p1]));have l2:upd H1 p2 (.lst [.ref p1]) p2=some (.lst [.ref p1]):=ad;have t2:Tr (upd H1 p2 (.lst [.ref p1])) p1 SpM.whole:=ql hp2 t1;generalize upd H1 p2 (.lst [.ref p1])=H2 at*;walk_at "g";intro p3 hp3;have e8:(List.replicate (8:Int).toNat [V.ref p1]).flatten=(List.replicate 8 p1).map V.ref:=rfl;rw[e8];have s3:=s2.trans (af hp3 (.lst ((List.replicate 8 p1).map V.ref)));have l3:upd H2 p3 (.lst ((List.replicate 8 p1).map V.ref)) p3=some (.lst ((List.replicate 8 p1).map V.ref)):=ad;have t3:Tr (upd H2 p3 (.lst ((List.replicate 8 p1).map V.ref))) p1 SpM.whole:=ql hp3 t2;generalize upd H2 p3 (.lst ((List.replicate 8 p1).map V.ref))=H3 at*;walk_at "g";refine .inl ⟨SqL.of l3,fun p4 hp4=> ?_⟩
 exact q p4 _ (s3.trans (af hp4 _)) ⟨_,SqT.of ad,SpA.rep (ql hp4 t3) 8⟩
def HU (K:Frag):Sp:=fun vs H Q _=>∃(pl a sa:Addr) (k:Nat) (ns:List Int) (sp:List SpM.Span) (pk:Nat) (pb:Int) (pm ps:Nat) (pg:Int),vs=[.ref pl,.ref a,.ref sa]/\Pl H pl pk pb pm ps pg/\aM 8 262144 k ns/\mk8 k/\SqT K H a (aE k ns)/\SpT K H sa sp/\Sp8 sp/\
 ∀p H',ay H H'->Tr H' p (fM pk pb pm ps k ns sp)->Q (.ref p) H'
theorem wm (B:Bi mg) (D:rn K mg) (cj:Has P w K mg base 2 "single" nN jw) (bB:Has P w K mg base 1 "whole_span" [] pO) (mD:Has P w K mg base 5 "more_span" yt DU) (oA:Has P w K mg base 4 "fit_span" nS FP)
  (oR:Has P w K mg base 4 "aim_span" nS Ge) (iX:Has P w K mg base 6 "joined_span" zJ Ij):Has P w K mg base 7 "made_span" gn (HU K):=by
 refine D.has kT (fun vs H Q E h=> ?_) (fun f cdv A outer s H vs Q E hr h=> ?_)
 .obtain⟨pl,a,sa,k,ns,sp,pk,pb,pm,ps,pg,rfl,_⟩:=h
  rfl
 obtain⟨pl,a,sa,k,ns,sp,pk,pb,pm,ps,pg,rfl,hpl,hv,hm,ha,⟨as,hsa,hsp⟩,h8,q⟩:=h;have i0:atI (aE k ns) 0=some (.str (aI k)):=lR;have hk19:=hv.lt
 refine⟨_,(ac (psS 3 kT.nd (pX ai (pv 1) aa))
   (ac (ax (pcT aG (pv 3) au) (ae (ah (pcH cj hr (pa1 (pX ai (pv 1) aa))))) al)
   (ac (ax (pcT aG (pv 3) au) (ae (ah (fh (bB.mono (by omega)) hr (by rfl)))) al)
   (ac (psS 4 kT.nd (pX ai (pv 2) (pX ai (pv 1) aa)))
   (ac (ax (pcT aG (pv 3) au) (ae (ah (pcH mD hr (pa2 (pv 4) (pX ai (pv 1) aa))))) al)
   (ac (ax (pcT aG (pv 3) au) (ae (ah (pcH oA hr (pa2 (pv 0) (pv 4))))) al)
   (ac (ax (pcT aG (pv 3) au) (ae (ah (pcH oR hr (pa2 (pv 0) (pv 4))))) al)
   (ae (ah (pcH iX hr (pa3 (pv 3) (pv 4) (pX ai (pv 2) (pX ai (pv 1) aa))))))))))))),?_⟩
 try dsimp only[aY]
 unfold mk8 at hm;rcases hv with⟨rfl,rfl⟩|⟨rfl,x,v,rfl,x0,x1,v0,v1⟩|⟨h1,h2,x,y,z,rfl,x0,x1,y0,y1,z0,z1⟩|⟨h1,h2,x,y,z,rfl,x0,x1,y0,y1,z0,z1⟩|⟨hk,z,rfl,z0,z1⟩|⟨rfl,x,z,rfl,x0,x1,z0,z1⟩|⟨rfl,y,rfl,y0,y1⟩|⟨hk,x,y,rfl,x0,x1,y0,y1⟩
 .lia
 .have i2:atI (aE 1 [x,v]) 2=some (.int v):=xV;walk_at "g";walk_at "wd";exact q
 .obtain⟨b1,e1,t1,v1⟩:=SpT.at (a:=sa) hsp h8 y0 y1;obtain⟨b2,e2,t2,v2⟩:=SpT.at (a:=sa) hsp h8 z0 z1;have i2:atI (aE k [x,y,z]) 2=some (.int y):=xV;have i3:atI (aE k [x,y,z]) 3=some (.int z):=FM;have e:fM pk pb pm ps k [x,y,z] sp=SpM.jS (Hq k) (spG sp y) (spG sp z):=by
   unfold fM;rw[if_neg (by lia),if_neg (by lia),if_neg (by lia),if_neg (by lia),if_neg (by lia)]
   rfl
  rw[e] at q;have es:=HW k h1 h2;walk_at "g";refine d3 (sne hk19 (j:=1) (by decide) (by lia)) ?_
  walk_at "g";refine d3 (sne hk19 (j:=11) (by decide) (by lia)) ?_
  walk_at "g";refine d3 (sne hk19 (j:=10) (by decide) (by lia)) ?_
  walk_at "g";refine d3 (sne hk19 (j:=16) (by decide) (by lia)) ?_
  walk_at "g";refine d3 (sne hk19 (j:=17) (by decide) (by lia)) ?_
  walk_at "g";rw[es];walk_at "g";exact q
 .obtain⟨b1,e1,t1,v1⟩:=SpT.at (a:=sa) hsp h8 y0 y1;obtain rfl | rfl:k=10\/k=11:=by lia
  .have i2:atI (aE 10 [x,y,z]) 2=some (.int y):=xV;have i3:atI (aE 10 [x,y,z]) 3=some (.int z):=FM;walk_at "g";walk_at "wd";exact q
  .walk_at "g";walk_at "wd";exact q
 .lia
 .lia
 .lia
 .obtain⟨b1,e1,t1,v1⟩:=SpT.at (a:=sa) hsp h8 y0 y1;rcases hk with rfl | rfl
  .have i2:atI (aE 16 [x,y]) 2=some (.int y):=xV;walk_at "g";walk_at "wd";exact q
  .have i2:atI (aE 17 [x,y]) 2=some (.int y):=xV;walk_at "g";walk_at "wd";exact q
def G0 (K:Frag):Sp:=fun vs H Q _=>∃(pl a sa:Addr) (k:Nat) (ns:List Int) (sp:List SpM.Span) (pk:Nat) (pb:Int) (pm ps:Nat) (pg:Int),vs=[.ref pl,.ref a,.ref sa]/\Pl H pl pk pb pm ps pg/\aM 8 262144 k ns/\SqT K H a (aE k ns)/\SpT K H sa sp/\Sp8 sp/\
 ∀p H',ay H H'->SpT K H' p (dE pk pb pm ps k ns sp)->Q (.ref p) H'
theorem jl {α:Type}{xs:List α}{i:Nat}{x:α}(h:i < xs.length):xs.take i++[x]++xs.drop (i+1)=xs.set i x:=by
 rw[List.set_eq_take_append_cons_drop,if_pos h,List.append_assoc]
 rfl
theorem rP (B:Bi mg) (D:m_ K mg) (bB:Has P w K mg base 1 "whole_span" [] pO) (cZ:Has P w K mg base 1 "made_box" cy (EW K)) (mM:Has P w K mg base 7 "made_span" gn (HU K)):
  Has P w K mg base 8 "spans_behind" gn (G0 K):=by
 refine D.has lg (fun vs H Q E h=> ?_) (fun f cdv A outer s H vs Q E hr h=> ?_)
 .obtain⟨pl,a,sa,k,ns,sp,pk,pb,pm,ps,pg,rfl,_⟩:=h
  rfl
 obtain⟨pl,a,sa,k,ns,sp,pk,pb,pm,ps,pg,rfl,hpl,hv,ha,hst,h8,q⟩:=h;obtain⟨as,hsa,hsp⟩:=hst;have i0:atI (aE k ns) 0=some (.str (aI k)):=lR;have hk19:=hv.lt;have hal:as.length=8:=by rw[hsp.len];exact h8.len
 refine⟨_,(ac (ax (pcT aG (pX ai (pv 1) aa) au) (ae (ah (jA gg (by rfl) B.tuple mT (pa1 (aj tI (aj tw (aT (pa1 (fh (bB.mono (by omega)) hr (by rfl)))) aa) (aT (pa1 (pX ai (pv 2) aa)))))))) al)
   (ac (psS 3 lg.nd (pcH cZ hr (pa1 (pv 1))))
   (ac (ax (mB (qK (pv 3))) (ae (ah (pv 2))) al)
   (ae (ah (aj Bm (aj Bm (dm iT (pv 2) fz (dW (pv 3))) (aw (pa1 (pcH mM hr (pa3 (pv 0) (pv 1) (pv 2)))))) (dm iT (pv 2) (dW (aj aO (pv 3) aa)) fz))))))),?_⟩
 try dsimp only[aY]
 walk_at "g";refine aV (fun c1=> ?_) (fun c1=> ?_)
 .obtain rfl:=seq hk19 (j:=18) (by decide) c1
  have eb:dE pk pb pm ps 18 ns sp=List.replicate 7 SpM.whole++[spG sp 7]:=if_pos rfl;rw[eb] at q;walk_at "g";intro p1 H1 s1 t1;walk_at "g";intro p2 hp2;have s2:=s1.trans (af hp2 (.lst [.ref p1]));have l2:upd H1 p2 (.lst [.ref p1]) p2=some (.lst [.ref p1]):=ad;have t2:Tr (upd H1 p2 (.lst [.ref p1])) p1 SpM.whole:=ql hp2 t1;generalize upd H1 p2 (.lst [.ref p1])=H2 at*;walk_at "g";intro p3 hp3;have e7:(List.replicate (7:Int).toNat [V.ref p1]).flatten=(List.replicate 7 p1).map V.ref:=rfl;rw[e7];have s3:=s2.trans (af hp3 (.lst ((List.replicate 7 p1).map V.ref)));have l3:upd H2 p3 (.lst ((List.replicate 7 p1).map V.ref)) p3=some (.lst ((List.replicate 7 p1).map V.ref)):=ad;have t3:Tr (upd H2 p3 (.lst ((List.replicate 7 p1).map V.ref))) p1 SpM.whole:=ql hp3 t2;generalize upd H2 p3 (.lst ((List.replicate 7 p1).map V.ref))=H3 at*;have sa3:=s3.tup hsa;obtain⟨b7,e7',t7,_⟩:=SpT.at (a:=sa) (hsp.same s3) h8 (i:=7) (by decide) (by decide)
  walk_at "g";intro p4 hp4;have s4:=s3.trans (af hp4 (.lst [.ref b7]));have l4:upd H3 p4 (.lst [.ref b7]) p4=some (.lst [.ref b7]):=ad;have l34:=ql (o:= .lst [.ref b7]) hp4 l3;have t4:Tr (upd H3 p4 (.lst [.ref b7])) p1 SpM.whole:=ql hp4 t3;have t74:Tr (upd H3 p4 (.lst [.ref b7])) b7 (spG sp 7):=ql hp4 t7;generalize upd H3 p4 (.lst [.ref b7])=H4 at*;have hz4:((List.replicate 7 p1).map V.ref).length+[V.ref b7].length<=sizeLine:=Nat.le_trans (show 8<=100 by decide) (by decide)
  walk_at "g";intro p5 hp5;have e5:(List.replicate 7 p1).map V.ref++[V.ref b7]=(List.replicate 7 p1++[b7]).map V.ref:=by rw[List.map_append];rfl
  rw[e5];have s5:=s4.trans (af hp5 (.lst ((List.replicate 7 p1++[b7]).map V.ref)));have l5:upd H4 p5 (.lst ((List.replicate 7 p1++[b7]).map V.ref)) p5=some (.lst ((List.replicate 7 p1++[b7]).map V.ref)):=ad;have t5:Tr (upd H4 p5 (.lst ((List.replicate 7 p1++[b7]).map V.ref))) p1 SpM.whole:=ql hp5 t4;have t75:Tr (upd H4 p5 (.lst ((List.replicate 7 p1++[b7]).map V.ref))) b7 (spG sp 7):=ql hp5 t74;generalize upd H4 p5 (.lst ((List.replicate 7 p1++[b7]).map V.ref))=H5 at*;walk_at "g";refine .inl ⟨SqL.of l5,fun p6 hp6=> ?_⟩
  exact q p6 _ (s5.trans (af hp6 _)) ⟨_,SqT.of ad,SpA.app (show SpA _ [b7] [spG sp 7] from⟨ql hp6 t75,True.intro⟩) (SpA.rep (ql hp6 t5) 7)⟩
 have k18:k≠18:=fun e=>c1 (by rw[e];rfl)
 by_cases hm:mk8 k
 .have eb:dE pk pb pm ps k ns sp=sp.set (ns.getD 0 0).toNat (fM pk pb pm ps k ns sp):=by
   unfold dE;rw[if_neg k18,if_pos hm]
  rw[eb] at q;obtain⟨x,r,ens,x0,x1⟩:=qF hv hm;have ex:ns.getD 0 0=x:=by rw[ens];rfl
  have hst:SpT K H sa sp:=⟨as,hsa,hsp⟩;walk_at "g";refine⟨fun _=> ?_,fun z=>absurd hm z⟩
  rw[ex] at q ⊢;obtain⟨xn,rfl⟩:∃n:Nat,x=n:=Int.eq_ofNat_of_zero_le (by first | assumption | lia)
  rw[Int.toNat_natCast] at q;walk_at "g";refine⟨(fun z=>by have:=z.2;rw[List.length_map,hal,HT.sIx_nat] at this;lia),fun p1 hp1=> ?_⟩
  have ec:fZ (as.map V.ref) none (some (xn:Int))=(as.take xn).map V.ref:=by rw[GD,List.map_take]
  rw[ec];have s1:=af hp1 (.tup ((as.take xn).map V.ref));have t1:SqT K (upd H p1 (.tup ((as.take xn).map V.ref))) p1 ((as.take xn).map V.ref):=SqT.of ad;generalize upd H p1 (.tup ((as.take xn).map V.ref))=H1 at*;have pl1:=hpl.mv s1;have ha1:=s1.tup ha;have st1:=hst.same s1;walk_at "g";intro p2 H2 s2 t2;walk_at "g";intro p3 hp3;have s3:=af hp3 (.tup [.ref p2]);have t3:SqT K (upd H2 p3 (.tup [.ref p2])) p3 [.ref p2]:=SqT.of ad;generalize upd H2 p3 (.tup [.ref p2])=H3 at*;have t13:=s3.tup (s2.tup t1);have hz3:((as.take xn).map V.ref).length+[V.ref p2].length<=sizeLine:=Nat.le_trans (show _<=100 by rw[List.length_map,List.length_take];simp only[List.length_cons,List.length_nil];lia) (by decide)
  walk_at "g";intro p4 H4 s4 t4;have S4:=((s1.trans s2).trans s3).trans s4;have sa4:=S4.tup hsa;walk_at "g";refine⟨(fun z=>by have:=z.1;rw[List.length_map,hal] at this;have e:HT.sIx 8 0 (some ((xn:Int)+1))=min (xn+1) 8:=HT.sIx_nat 8 0 (xn+1);rw[e] at this;lia),fun p5 hp5=> ?_⟩
  have ed:fZ (as.map V.ref) (some ((xn:Int)+1)) none=(as.drop (xn+1)).map V.ref:=by
   have:=De (xs:=as.map V.ref) (n:=xn+1);rw[<- List.map_drop] at this;exact this
  rw[ed];have s5:=af hp5 (.tup ((as.drop (xn+1)).map V.ref));have t5:SqT K (upd H4 p5 (.tup ((as.drop (xn+1)).map V.ref))) p5 ((as.drop (xn+1)).map V.ref):=SqT.of ad;generalize upd H4 p5 (.tup ((as.drop (xn+1)).map V.ref))=H5 at*;have t45:=s5.tup t4;have hz5:((as.take xn).map V.ref++[V.ref p2]).length+((as.drop (xn+1)).map V.ref).length<=sizeLine:=Nat.le_trans (show _<=100 by rw[List.length_append,List.length_map,List.length_take,List.length_map,List.length_drop];simp only[List.length_cons,List.length_nil];lia) (by decide)
  walk_at "g";intro p6 H6 s6 t6;have S6:=(S4.trans s5).trans s6;refine q p6 H6 S6 ⟨as.set xn p2,?_,?_⟩
  .have e:(as.take xn).map V.ref++[V.ref p2]++(as.drop (xn+1)).map V.ref=(as.set xn p2).map V.ref:=by
    rw[<- jl (x:=p2) (show xn < as.length by lia),List.map_append,List.map_append]
    rfl
   rw[e] at t6;exact t6
  .rw[<- jl (x:=p2) (show xn < as.length by lia), <-jl (x:=fM pk pb pm ps k ns sp) (show xn < sp.length by rw[h8.len];lia)]
   exact SpA.app (SpA.drop _ (hsp.same S6)) (SpA.app (show SpA H6 [p2] [fM pk pb pm ps k ns sp] from⟨((s3.trans s4).trans (s5.trans s6)) _ _ t2,True.intro⟩) (SpA.take _ (hsp.same S6)))
 .have eb:dE pk pb pm ps k ns sp=sp:=by
   unfold dE;rw[if_neg k18,if_neg hm]
  rw[eb] at q;walk_at "g";refine⟨fun z=>absurd z hm,fun _=> ?_⟩
  walk_at "g";exact q sa H (ay.refl _) ⟨as,hsa,hsp⟩
def Et (K:Frag):Sp:=fun vs H Q _=>∃(pl a sa:Addr) (k:Nat) (ns:List Int) (sp:List SpM.Span) (pk:Nat) (pb:Int) (pm ps:Nat) (pg:Int),vs=[.ref pl,.ref a,.ref sa]/\Pl H pl pk pb pm ps pg/\aM 8 262144 k ns/\(k=11\/k=12)/\SqT K H a (aE k ns)/\SpT K H sa sp/\Sp8 sp/\Q (.bl (decide (lF pk pb ns sp))) H
theorem qg (B:Bi mg) (D:ll K mg) (ak:Has P w K mg base 1 "power_of_two" lx iq):Has P w K mg base 2 "may_reach_out" gn (Et K):=by
 refine D.has dY (fun vs H Q E h=> ?_) (fun f cdv A outer s H vs Q E hr h=> ?_)
 .obtain⟨pl,a,sa,k,ns,sp,pk,pb,pm,ps,pg,rfl,_⟩:=h
  rfl
 obtain⟨pl,a,sa,k,ns,sp,pk,pb,pm,ps,pg,rfl,hpl,hv,hk,ha,⟨as,hsa,hsp⟩,h8,q⟩:=h;obtain⟨x,y,z,rfl,x0,x1,y0,y1,z0,z1⟩:∃x y z,ns=[x,y,z]/\0<=x/\x < 8/\0<=y/\y < 8/\ -131072<=z/\z < 131072:=by
  rcases hv with⟨rfl,rfl⟩|⟨rfl,x,v,rfl,x0,x1,v0,v1⟩|⟨h1,h2,x,y,z,rfl,x0,x1,y0,y1,z0,z1⟩|⟨h1,h2,x,y,z,rfl,x0,x1,y0,y1,z0,z1⟩|⟨hk,z,rfl,z0,z1⟩|⟨rfl,x,z,rfl,x0,x1,z0,z1⟩|⟨rfl,y,rfl,y0,y1⟩|⟨hk,x,y,rfl,x0,x1,y0,y1⟩
  all_goals first | lia | exact⟨x,y,z,rfl,x0,x1,y0,y1,z0,z1⟩
 obtain⟨b1,e1,t1,v1⟩:=SpT.at (a:=sa) hsp h8 y0 y1;have hat:=hpl.at_;have hk20:=hpl.room.k20;have p0:atI [V.int pk,V.int pb,V.int pm,V.int ps,V.int pg] 0=some (.int pk):=a9 (j:=0) rfl;have p1:atI [V.int pk,V.int pb,V.int pm,V.int ps,V.int pg] 1=some (.int pb):=a9 (j:=1) rfl;have i2:atI (aE k [x,y,z]) 2=some (.int y):=xV;have i3:atI (aE k [x,y,z]) 3=some (.int z):=FM;have j0:atI [V.int (spG sp y).lo,V.int (spG sp y).hi,V.int (spG sp y).z] 0=some (.int (spG sp y).lo):=lR;have j1:atI [V.int (spG sp y).lo,V.int (spG sp y).hi,V.int (spG sp y).z] 1=some (.int (spG sp y).hi):=AL;have q':Q (.bl (decide ((spG sp y).lo+z < pb\/pb+2^pk<=(spG sp y).hi+z))) H:=q;clear q;have q:=q';clear q'
 refine⟨_,(ac (psS 3 dY.nd (pX ai (pv 2) (pX ai (pv 1) aa)))
   (ac (psS 4 dY.nd (pX ai (pv 1) aa))
   (ac (psS 5 dY.nd (pX ai (pv 0) aa))
   (ae (ah (pH (pcE gD (aj aO (pX ai (pv 3) aa) (pv 4)) (pv 5)) (iZ (pcE n8 (aj aO (pX ai (pv 3) aa) (pv 4)) (aj aO (pv 5) (pcH ak hr (pa1 (pX ai (pv 0) aa)))))))))))),?_⟩
 try dsimp only[aY]
 walk_at "g"
 by_cases c:(spG sp y).lo+z < pb
 .rw[decide_eq_true (p:=(spG sp y).lo+z < pb\/_) (.inl c)] at q;rw[decide_eq_true c];walk_at "g";exact q
 .have e:decide ((spG sp y).lo+z < pb\/pb+2^pk<=(spG sp y).hi+z)=decide (pb+2^pk<=(spG sp y).hi+z):=decide_eq_decide.mpr ⟨fun h=>h.resolve_left c,.inr⟩
  rw[e] at q;rw[decide_eq_false c];walk_at "g";exact q
def Ih:Sp:=fun vs H Q _=>∃p c:Int,vs=[.int p,.int c]/\Q (.bl (decide (p %8≠0\/c<=p))) H
theorem sk (B:Bi mg) (D:mU K mg):Has P w K mg base 1 "is_no_target" zi Ih:=by
 refine D.has si (fun vs H Q E h=> ?_) (fun f cdv A outer s H vs Q E hr h=> ?_)
 .obtain⟨p,c,rfl,_⟩:=h
  rfl
 obtain⟨p,c,rfl,q⟩:=h;refine⟨_,(ae (ah (pH (pcE vA (aj cD (pv 0) aa) aa) (iZ (pcE n8 (pv 0) (pv 1)))))),?_⟩
 try dsimp only[aY]
 walk_at "g"
 by_cases h:p %8=0
 .have e:decide (p %8≠0\/c<=p)=decide (c<=p):=decide_eq_decide.mpr ⟨fun z=>z.resolve_left (fun n=>n h),.inr⟩
  rw[e] at q;have e2:(!decide (V.int (p %8)=V.int 0))=false:=by rw[h];rfl
  rw[e2];walk_at "g";exact q
 .rw[decide_eq_true (p:=p %8≠0\/c<=p) (.inl h)] at q;have e2:(!decide (V.int (p %8)=V.int 0))=true:=by rw[decide_eq_false (fun z=>h (by injection z))];rfl
  rw[e2];walk_at "g";exact q
def IC:Sp:=fun vs H Q _=>∃(a:Addr) (s:SpM.Span) (c:Int),vs=[.ref a,.int c]/\Tr H a s/\Q (.bl (decide (c<=s.hi\/s.z < 3))) H
theorem xU (B:Bi mg) (D:rH K mg):Has P w K mg base 1 "is_no_way" ya IC:=by
 refine D.has xG (fun vs H Q E h=> ?_) (fun f cdv A outer s H vs Q E hr h=> ?_)
 .obtain⟨a,s,c,rfl,_⟩:=h
  rfl
 obtain⟨a,sp,c,rfl,ht,q⟩:=h;have j1:atI [V.int sp.lo,V.int sp.hi,V.int sp.z] 1=some (.int sp.hi):=AL;have j2:atI [V.int sp.lo,V.int sp.hi,V.int sp.z] 2=some (.int sp.z):=xV;refine⟨_,(ae (ah (pH (pcE n8 (pX ai (pv 0) aa) (pv 1)) (iZ (pcE gD (pX ai (pv 0) aa) aa))))),?_⟩
 try dsimp only[aY]
 walk_at "g"
 by_cases h:c<=sp.hi
 .rw[decide_eq_true (p:=c<=sp.hi\/sp.z < 3) (.inl h)] at q;rw[decide_eq_true h];walk_at "g";exact q
 .have e:decide (c<=sp.hi\/sp.z < 3)=decide ((sp.z:Int) < 3):=decide_eq_decide.mpr ⟨fun z=>by have:=z.resolve_left h;lia,fun z=> .inr (by lia)⟩
  rw[e] at q;rw[decide_eq_false h];walk_at "g";exact q
def Gi (K:Frag):Sp:=fun vs H Q _=>∃(a:Addr) (k:Nat) (ns:List Int) (at_:Int),vs=[.ref a,.int at_]/\k < 19/\SqT K H a (aE k ns)/\Q (.bl (decide (8 < at_ %8+(if k=1 then 2 else 1)))) H
theorem uB (B:Bi mg) (D:qe K mg) (aU:Has P w K mg base 1 "length_of" cy (Aq K)):Has P w K mg base 2 "is_no_word" yc (Gi K):=by
 refine D.has uW (fun vs H Q E h=> ?_) (fun f cdv A outer s H vs Q E hr h=> ?_)
 .obtain⟨a,k,ns,at_,rfl,_⟩:=h
  rfl
 obtain⟨a,k,ns,at_,rfl,hk,ha,q⟩:=h;refine⟨_,(ae (ah (pH (Er (qK (pv 0))) (iZ (pcE lf (aj aO (aj cD (pv 1) aa) (pcH aU hr (pa1 (pv 0)))) aa))))),?_⟩
 try dsimp only[aY]
 walk_at "g";exact q
def fV:Option Str->V
 | none=> .non
 | some x=> .str x
def Br (K:Frag):Sp:=fun vs H Q _=>∃(pl a sa:Addr) (c:Int) (k:Nat) (ns:List Int) (sp:List SpM.Span) (pk:Nat) (pb:Int) (pm ps:Nat) (pg:Int),vs=[.ref pl,.int c,.ref a,.ref sa]/\Pl H pl pk pb pm ps pg/\aM 8 262144 k ns/\SqT K H a (aE k ns)/\SpT K H sa sp/\Sp8 sp/\Q (fV (cq pk pb pg c k ns sp)) H
theorem yV (B:Bi mg) (D:tq K mg) (cZ:Has P w K mg base 1 "made_box" cy (EW K)) (cE:Has P w K mg base 2 "may_reach_out" gn (Et K)) (g_:Has P w K mg base 1 "is_no_target" zi Ih)
  (mq:Has P w K mg base 1 "is_no_way" ya IC):Has P w K mg base 3 "fault_of" zu (Br K):=by
 refine D.has rc (fun vs H Q E h=> ?_) (fun f cdv A outer s H vs Q E hr h=> ?_)
 .obtain⟨pl,a,sa,c,k,ns,sp,pk,pb,pm,ps,pg,rfl,_⟩:=h
  rfl
 obtain⟨pl,a,sa,c,k,ns,sp,pk,pb,pm,ps,pg,rfl,hpl,hv,ha,hst,h8,q⟩:=h;obtain⟨as,hsa,hsp⟩:=id hst;have i0:atI (aE k ns) 0=some (.str (aI k)):=lR;have hk19:=hv.lt
 refine⟨_,(ac (psS 4 rc.nd (pX ai (pv 2) aa))
   (ac (aL (bn (ax (pcT aG (pcH cZ hr (pa1 (pv 2))) aa) (ae (ah au)) al)))
   (ac (aL (bn (ax (PW.pt (iy (PW.pt (gk (pcT aG (pv 4) au) (d5 (pcT aG (pv 4) au)))) (fr (cI (pcH cE hr (pa3 (pv 0) (pv 2) (pv 3))))))) (ae (ah au)) al)))
   (ac (aL (bn (ax (PW.pt (iy (PW.pt (gk (pcT aG (pv 4) au) (d5 (pcT aG (pv 4) au)))) (fr (cI (pcH g_ hr (pa2 (pX ai (pv 2) (iM (v:= -1) (by rfl))) (pv 1))))))) (ae (ah au)) al)))
   (ac (aL (bn (ax (PW.pt (iy (pcT aG (pv 4) au) (fr (cI (pcH mq hr (pa2 (pX ai (pv 3) (pX ai (pv 2) aa)) (pv 1))))))) (ae (ah au)) al)))
   (ac (aL (bn (ax (PW.pt (iy (pcT aG (pv 4) au) (fr (pcT n8 (pX ai (pv 2) aa) (pX ai (pv 0) aa))))) (ae (ah au)) al)))
   (ae (ah cQ)))))))),?_⟩
 try dsimp only[aY]
 walk_at "g";refine⟨fun Z' H'=>aA (H=H'/\Z'=[some (.ref pl),some (.int c),some (.ref a),some (.ref sa),some (.str (aI k))]/\¬(mk8 k/\ns.getD 0 0=7)),?_,?_⟩
 .walk_at "g";refine⟨fun hm=> ?_,fun hm=> ?_⟩
  .walk_at "g";refine aV (fun c7=> ?_) (fun c7=> ?_)
   .have e:cq pk pb pg c k ns sp=some ("host":Str):=if_pos ⟨hm,by injection c7⟩
    rw[e] at q;walk_at "g";exact q
   .exact aA.mk ⟨rfl,rfl,fun z=>c7 (by rw[z.2])⟩
  .walk_at "g";refine d3 (fun z=>by cases z) ?_
   exact aA.mk ⟨rfl,rfl,fun z=>hm z.1⟩
 rintro Z1 H1 ⟨rfl,rfl,n1⟩
 walk_at "n";refine⟨fun Z' H'=>aA (H=H'/\Z'=[some (.ref pl),some (.int c),some (.ref a),some (.ref sa),some (.str (aI k))]/\¬((k=11\/k=12)/\lF pk pb ns sp)),?_,?_⟩
 .by_cases k11:k=11\/k=12
  .have ho:∀b:Bool,b=decide (lF pk pb ns sp)->b=true->Q (.str "beyond") H:=fun b e1 e2=>by
    have hz:lF pk pb ns sp:=of_decide_eq_true (e1.symm.trans e2);have e:cq pk pb pg c k ns sp=some ("beyond":Str):=by
     unfold cq;rw[if_neg n1,if_pos ⟨k11,hz⟩]
    rw[e] at q;exact q
   have hn:∀b:Bool,b=decide (lF pk pb ns sp)->¬b=true->¬((k=11\/k=12)/\lF pk pb ns sp):=fun b e1 e2 z=>e2 (e1.trans (decide_eq_true z.2))
   generalize hb:decide (lF pk pb ns sp)=bb at*;have k11':=k11;rcases k11 with rfl | rfl
   .walk_at "g";walk_at "wd";rw[hb];refine zT (fun cb=> ?_) (fun cb=> ?_)
    .walk_at "g";exact ho bb rfl cb
    .exact aA.mk ⟨rfl,rfl,hn bb rfl (by rw[cb];decide)⟩
   .walk_at "g";walk_at "wd";rw[hb];refine zT (fun cb=> ?_) (fun cb=> ?_)
    .walk_at "g";exact ho bb rfl cb
    .exact aA.mk ⟨rfl,rfl,hn bb rfl (by rw[cb];decide)⟩
  .walk_at "g";refine d3 (sne hk19 (j:=11) (by decide) (fun e=>k11 (.inl e))) ?_
   walk_at "g";refine d3 (sne hk19 (j:=12) (by decide) (fun e=>k11 (.inr e))) ?_
   exact aA.mk ⟨rfl,rfl,fun z=>k11 z.1⟩
 rintro Z2 H2 ⟨rfl,rfl,n2⟩
 walk_at "n";refine⟨fun Z' H'=>aA (H=H'/\Z'=[some (.ref pl),some (.int c),some (.ref a),some (.ref sa),some (.str (aI k))]/\¬((k=13\/k=14)/\(tgt k ns %8≠0\/c<=tgt k ns))),?_,?_⟩
 .by_cases kj:k=13\/k=14
  .have ho:∀b:Bool,b=decide (tgt k ns %8≠0\/c<=tgt k ns)->b=true->Q (.str "target") H:=fun b e1 e2=>by
    have hz:=of_decide_eq_true (e1.symm.trans e2);have e:cq pk pb pg c k ns sp=some ("target":Str):=by
     unfold cq;rw[if_neg n1,if_neg n2,if_pos ⟨kj,hz⟩]
    rw[e] at q;exact q
   have hn:∀b:Bool,b=decide (tgt k ns %8≠0\/c<=tgt k ns)->¬b=true->¬((k=13\/k=14)/\(tgt k ns %8≠0\/c<=tgt k ns)):=fun b e1 e2 z=>e2 (e1.trans (decide_eq_true z.2))
   have hl:atI (aE k ns) (-1)=some (.int (tgt k ns)):=by
    rcases hv with⟨rfl,rfl⟩|⟨rfl,x,v,rfl,x0,x1,v0,v1⟩|⟨h1,h2,x,y,z,rfl,x0,x1,y0,y1,z0,z1⟩|⟨h1,h2,x,y,z,rfl,x0,x1,y0,y1,z0,z1⟩|⟨hk,z,rfl,z0,z1⟩|⟨rfl,x,z,rfl,x0,x1,z0,z1⟩|⟨rfl,y,rfl,y0,y1⟩|⟨hk,x,y,rfl,x0,x1,y0,y1⟩
    .lia
    .lia
    .lia
    .lia
    .obtain rfl:k=13:=by lia
     rfl
    .rfl
    .lia
    .lia
   generalize hb:decide (tgt k ns %8≠0\/c<=tgt k ns)=bb at*;rcases kj with rfl | rfl
   .walk_at "g";walk_at "wd";rw[hb];refine zT (fun cb=> ?_) (fun cb=> ?_)
    .walk_at "g";exact ho bb rfl cb
    .exact aA.mk ⟨rfl,rfl,hn bb rfl (by rw[cb];decide)⟩
   .walk_at "g";walk_at "wd";rw[hb];refine zT (fun cb=> ?_) (fun cb=> ?_)
    .walk_at "g";exact ho bb rfl cb
    .exact aA.mk ⟨rfl,rfl,hn bb rfl (by rw[cb];decide)⟩
  .walk_at "g";refine d3 (sne hk19 (j:=13) (by decide) (fun e=>kj (.inl e))) ?_
   walk_at "g";refine d3 (sne hk19 (j:=14) (by decide) (fun e=>kj (.inr e))) ?_
   exact aA.mk ⟨rfl,rfl,fun z=>kj z.1⟩
 rintro Z3 H3 ⟨rfl,rfl,n3⟩
 walk_at "n";refine⟨fun Z' H'=>aA (H=H'/\Z'=[some (.ref pl),some (.int c),some (.ref a),some (.ref sa),some (.str (aI k))]/\¬(k=15/\(c<=(spG sp (ns.getD 0 0)).hi\/(spG sp (ns.getD 0 0)).z < 3))),?_,?_⟩
 .by_cases kt:k=15
  .subst kt;obtain⟨y,rfl,y0,y1⟩:∃y,ns=[y]/\0<=y/\y < 8:=by
    rcases hv with⟨e,rfl⟩|⟨e,x,v,rfl,x0,x1,v0,v1⟩|⟨h1,h2,x,y,z,rfl,x0,x1,y0,y1,z0,z1⟩|⟨h1,h2,x,y,z,rfl,x0,x1,y0,y1,z0,z1⟩|⟨hk,z,rfl,z0,z1⟩|⟨e,x,z,rfl,x0,x1,z0,z1⟩|⟨e,y,rfl,y0,y1⟩|⟨hk,x,y,rfl,x0,x1,y0,y1⟩
    all_goals first | lia | exact⟨_,rfl,y0,y1⟩
   have ho:∀b:Bool,b=decide (c<=(spG sp y).hi\/(spG sp y).z < 3)->b=true->Q (.str "way") H:=fun b e1 e2=>by
    have hz:=of_decide_eq_true (e1.symm.trans e2);have e:cq pk pb pg c 15 [y] sp=some ("way":Str):=by
     unfold cq;rw[if_neg n1,if_neg n2,if_neg n3,if_pos ⟨rfl,hz⟩]
    rw[e] at q;exact q
   have hn:∀b:Bool,b=decide (c<=(spG sp y).hi\/(spG sp y).z < 3)->¬b=true->¬((15:Nat)=15/\(c<=(spG sp ([y].getD 0 0)).hi\/(spG sp ([y].getD 0 0)).z < 3)):=fun b e1 e2 z=>e2 (e1.trans (decide_eq_true z.2))
   obtain⟨b1,e1,t1,v1⟩:=SpT.at (a:=sa) hsp h8 y0 y1;have i1:atI (aE 15 [y]) 1=some (.int y):=AL;generalize hb:decide (c<=(spG sp y).hi\/(spG sp y).z < 3)=bb at*;walk_at "g";walk_at "wd";rw[hb];refine zT (fun cb=> ?_) (fun cb=> ?_)
   .walk_at "g";exact ho bb rfl cb
   .exact aA.mk ⟨rfl,rfl,hn bb rfl (by rw[cb];decide)⟩
  .walk_at "g";refine d3 (sne hk19 (j:=15) (by decide) kt) ?_
   exact aA.mk ⟨rfl,rfl,fun z=>kt z.1⟩
 rintro Z4 H4 ⟨rfl,rfl,n4⟩
 walk_at "n";refine⟨fun Z' H'=>aA (H=H'/\Z'=[some (.ref pl),some (.int c),some (.ref a),some (.ref sa),some (.str (aI k))]/\¬(k=18/\pg<=ns.getD 0 0)),?_,?_⟩
 .by_cases kg:k=18
  .subst kg;obtain⟨y,rfl⟩:∃y,ns=[y]:=by
    rcases hv with⟨e,rfl⟩|⟨e,x,v,rfl,x0,x1,v0,v1⟩|⟨h1,h2,x,y,z,rfl,x0,x1,y0,y1,z0,z1⟩|⟨h1,h2,x,y,z,rfl,x0,x1,y0,y1,z0,z1⟩|⟨hk,z,rfl,z0,z1⟩|⟨e,x,z,rfl,x0,x1,z0,z1⟩|⟨e,y,rfl,y0,y1⟩|⟨hk,x,y,rfl,x0,x1,y0,y1⟩
    all_goals first | lia | exact⟨_,rfl⟩
   have i1:atI (aE 18 [y]) 1=some (.int y):=AL;have hat:=hpl.at_;have p4:atI [V.int pk,V.int pb,V.int pm,V.int ps,V.int pg] 4=some (.int pg):=a9 (j:=4) rfl;walk_at "g";walk_at "wd";refine aV (fun cg=> ?_) (fun cg=> ?_)
   .have e:cq pk pb pg c 18 [y] sp=some ("gate":Str):=by
     unfold cq;rw[if_neg n1,if_neg n2,if_neg n3,if_neg n4,if_pos ⟨rfl,cg⟩]
    rw[e] at q;walk_at "g";exact q
   .exact aA.mk ⟨rfl,rfl,fun z=>cg z.2⟩
  .walk_at "g";refine d3 (sne hk19 (j:=18) (by decide) kg) ?_
   exact aA.mk ⟨rfl,rfl,fun z=>kg z.1⟩
 rintro Z5 H5 ⟨rfl,rfl,n5⟩
 have e:cq pk pb pg c k ns sp=none:=by
  unfold cq;rw[if_neg n1,if_neg n2,if_neg n3,if_neg n4,if_neg n5]
 rw[e] at q;walk_at "g";exact q
def FR (K:Frag):Sp:=fun vs H Q _=>∃(pl cd sa:Addr) (at_:Int) (k:Nat) (ns ws:List Int) (sp:List SpM.Span) (pk:Nat) (pb:Int) (pm ps:Nat) (pg:Int),vs=[.ref pl,.ref cd,.int at_,.ref sa]/\Pl H pl pk pb pm ps pg/\SqL K H cd (ws.map V.int)/\(∀ y∈ws,0<=y/\y < 4294967296)/\jL ws at_=some (k,ns)/\at_ %8+(if k=1 then 2 else 1)<=8/\SpT K H sa sp/\Sp8 sp/\cq pk pb pg ws.length k ns sp=none/\
 ∀p H',ay H H'->SqT K H' p (aE k ns)->Q (.ref p) H'
theorem lA (B:Bi mg) (D:gr K mg) (aS:Has P w K mg base 6 "instruction_at" zF (EF K)) (jQ:Has P w K mg base 2 "is_no_word" yc (Gi K)) (oV:Has P w K mg base 3 "fault_of" zu (Br K)):
  Has P w K mg base 7 "instruction_let_by" yz (FR K):=by
 refine D.has dz (fun vs H Q E h=> ?_) (fun f cdv A outer s H vs Q E hr h=> ?_)
 .obtain⟨pl,cd,sa,at_,k,ns,ws,sp,pk,pb,pm,ps,pg,rfl,_⟩:=h
  rfl
 obtain⟨pl,cd,sa,at_,k,ns,ws,sp,pk,pb,pm,ps,pg,rfl,hpl,hcd,hwr,hins,hlen,hst,h8,hf,q⟩:=h;have hwn:∀y∈ws,0<=y:=fun y hy=>(hwr y hy).1
 have hval:=y8 hwr hins;have hk19:=hval.lt
 refine⟨_,(ac (psS 4 dz.nd (pcH aS hr (pa2 (pv 1) (pv 2))))
   (ac (ax (cI (pcH jQ hr (pa2 (pv 4) (pv 2)))) (ae pI) al)
   (ac (psS 5 dz.nd (pcH oV hr (pa4 (pv 0) (aF aC (by rfl) B.len bT (pa1 (pv 1))) (pv 4) (pv 3))))
   (ac (ax (mB (sA (pv 5))) (ae pI) al)
   (ae (ah (pv 4))))))),?_⟩
 try dsimp only[aY]
 walk_at "g";intro v H1 s1 hi;rw[hins] at hi;obtain⟨ia,rfl,hia⟩:=hi;have pl1:=hpl.mv s1;have cd1:=s1.seq hcd;have st1:=hst.same s1;walk_at "g";refine DN (decide_eq_false (by lia)) ?_
 walk_at "g";have el:(((ws.map V.int).length:Nat):Int)=((ws.length:Nat):Int):=by rw[List.length_map]
 rw[el,hf];walk_at "g";exact q ia H1 s1 hia
theorem D8:∀k,k < 19->2<=k->k<=9->aQ k=(["a","b","c"]:List Str):=by decide +kernel
theorem EH:∀k,k < 19->10<=k->k<=12->aQ k=(["a","b","move"]:List Str):=by decide +kernel
theorem Gf:∀k,k < 19->16<=k->k<=17->aQ k=(["a","b"]:List Str):=by decide +kernel
theorem D4 {k:Nat}{a b c:Int}(h1:2<=k) (h2:k<=9):cu k [a,b,c]=k*134217728+a*16777216+b*2097152+c*262144:=by
 unfold cu;rw[D8 k (by lia) h1 h2]
 rfl
theorem Dk {k:Nat}{a b n:Int}(h1:10<=k) (h2:k<=12):cu k [a,b,n]=k*134217728+a*16777216+b*2097152+n %262144:=by
 unfold cu;rw[EH k (by lia) h1 h2]
 rfl
theorem Gd {k:Nat}{a b:Int}(h1:16<=k) (h2:k<=17):cu k [a,b]=k*134217728+a*16777216+b*2097152:=by
 unfold cu;rw[Gf k (by lia) h1 h2]
 rfl
theorem mV {wd:Int}{k:Nat}{ns:List Int}(hk:wd / 134217728=k) (h19:k < 19) (hn:(aQ k).map (fun x=>fj x wd)=ns) (hw:cu k ns=wd):owi wd=some (k,ns):=by
 unfold owi;rw[hk,if_neg (by lia),Int.toNat_natCast,hn,if_pos hw]
theorem wc {k:Nat}{ns:List Int}(h:aM 8 262144 k ns):0<=cu k ns/\owi (cu k ns)=some (k,if k=1 then ns.take 1 else ns):=by
 rcases h with⟨rfl,rfl⟩|⟨rfl,a,v,rfl,a0,a1,v0,v1⟩|⟨h1,h2,a,b,c,rfl,a0,a1,b0,b1,c0,c1⟩|⟨h1,h2,a,b,n,rfl,a0,a1,b0,b1,n0,n1⟩|⟨hk,n,rfl,n0,n1⟩|⟨rfl,a,n,rfl,a0,a1,n0,n1⟩|⟨rfl,b,rfl,b0,b1⟩|⟨hk,a,b,rfl,a0,a1,b0,b1⟩
 .exact⟨by decide,mV (k:=0) (by decide) (by decide) rfl rfl⟩
 .have e:cu 1 [a,v]=134217728+a*16777216:=rfl;rw[e,if_pos rfl];clear e;refine⟨by lia,mV (k:=1) (by lia) (by decide) ?_ rfl⟩
  show[(134217728+a*16777216) / 16777216 %8]=[a]
  rw[show(134217728+a*16777216) / 16777216 %8=a by lia]
 .have e:=D4 (a:=a) (b:=b) (c:=c) h1 h2;rw[if_neg (by lia)]
  refine⟨by rw[e];clear e;lia,mV (by rw[e];clear e;lia) (by lia) ?_ rfl⟩
  rw[D8 k (by lia) h1 h2,e]
  clear e;show[(k*134217728+a*16777216+b*2097152+c*262144) / 16777216 %8,(k*134217728+a*16777216+b*2097152+c*262144) / 2097152 %8,(k*134217728+a*16777216+b*2097152+c*262144) / 262144 %8]=[a,b,c]
  rw[show(k*134217728+a*16777216+b*2097152+c*262144) / 16777216 %8=a by lia,show(k*134217728+a*16777216+b*2097152+c*262144) / 2097152 %8=b by lia,show(k*134217728+a*16777216+b*2097152+c*262144) / 262144 %8=c by lia]
 .have e:=Dk (a:=a) (b:=b) (n:=n) h1 h2;rw[if_neg (by lia)]
  refine⟨by rw[e];clear e;lia,mV (by rw[e];clear e;lia) (by lia) ?_ rfl⟩
  rw[EH k (by lia) h1 h2,e]
  clear e;generalize hx:(k:Int)*134217728+a*16777216+b*2097152+n %262144=x;show[x / 16777216 %8,x / 2097152 %8,if x %262144 < 131072 then x %262144 else x %262144 - 262144]=[a,b,n]
  have h3:(if x %262144 < 131072 then x %262144 else x %262144 - 262144)=n:=by split <;> lia
  rw[h3,show x / 16777216 %8=a by lia,show x / 2097152 %8=b by lia]
 .have e:cu k [n]=k*134217728+n %262144:=by rcases hk with rfl | rfl <;> rfl
  rw[if_neg (by lia)]
  refine⟨by rw[e];clear e;lia,mV (by rw[e];clear e;lia) (by lia) ?_ rfl⟩
  have ef:aQ k=(["n"]:List Str):=by rcases hk with rfl | rfl <;> rfl
  rw[ef,e];clear e;show[(k*134217728+n %262144) %262144]=[n]
  rw[show(k*134217728+n %262144) %262144=n by lia]
 .have e:cu 14 [a,n]=14*134217728+a*16777216+n %262144:=rfl;rw[if_neg (by lia)]
  refine⟨by rw[e];clear e;lia,mV (by rw[e];clear e;lia) (by lia) ?_ rfl⟩
  rw[e];clear e;show[(14*134217728+a*16777216+n %262144) / 16777216 %8,(14*134217728+a*16777216+n %262144) %262144]=[a,n]
  rw[show(14*134217728+a*16777216+n %262144) / 16777216 %8=a by lia,show(14*134217728+a*16777216+n %262144) %262144=n by lia]
 .have e:cu 15 [b]=15*134217728+b*2097152:=rfl;rw[if_neg (by lia)]
  refine⟨by rw[e];clear e;lia,mV (by rw[e];clear e;lia) (by lia) ?_ rfl⟩
  rw[e];clear e;show[(15*134217728+b*2097152) / 2097152 %8]=[b]
  rw[show(15*134217728+b*2097152) / 2097152 %8=b by lia]
 .have e:=Gd (k:=k) (a:=a) (b:=b) (by lia) (by lia)
  rw[if_neg (by lia)]
  refine⟨by rw[e];clear e;lia,mV (by rw[e];clear e;lia) (by lia) ?_ rfl⟩
  rw[Gf k (by lia) (by lia) (by lia),e]
  clear e;show[(k*134217728+a*16777216+b*2097152) / 16777216 %8,(k*134217728+a*16777216+b*2097152) / 2097152 %8]=[a,b]
  rw[show(k*134217728+a*16777216+b*2097152) / 16777216 %8=a by lia,show(k*134217728+a*16777216+b*2097152) / 2097152 %8=b by lia]
theorem vF {A Bs:List Int}{k:Nat}{ns:List Int}(h:aM 8 262144 k ns):jL (A++du k ns++Bs) (A.length:Nat)=some (k,ns):=by
 obtain⟨h0,ho⟩:=wc h;have hw:du k ns=if k=1 then[cu k ns,ns.getD 1 0] else[cu k ns]:=rfl
 unfold jL;rw[if_neg (by lia),Int.toNat_natCast]
 by_cases k1:k=1
 .subst k1;rw[hw,if_pos rfl];have e1:(A++[cu 1 ns,ns.getD 1 0]++Bs)[A.length]? =some (cu 1 ns):=by
   rw[List.append_assoc,List.getElem?_append_right (Nat.le_refl _),Nat.sub_self]
   rfl
  have e2:(A++[cu 1 ns,ns.getD 1 0]++Bs)[A.length+1]? =some (ns.getD 1 0):=by
   rw[List.append_assoc,List.getElem?_append_right (by lia)]
   have:A.length+1 - A.length=1:=by lia
   rw[this]
   rfl
  rw[e1];dsimp only;rw[ho,if_pos rfl];obtain⟨a,v,rfl⟩:∃a v,ns=[a,v]:=by
   rcases h with⟨e,rfl⟩|⟨e,x,v,rfl,x0,x1,v0,v1⟩|⟨h1,h2,x,y,z,rfl,x0,x1,y0,y1,z0,z1⟩|⟨h1,h2,x,y,z,rfl,x0,x1,y0,y1,z0,z1⟩|⟨hk,z,rfl,z0,z1⟩|⟨e,x,z,rfl,x0,x1,z0,z1⟩|⟨e,y,rfl,y0,y1⟩|⟨hk,x,y,rfl,x0,x1,y0,y1⟩
   all_goals first | lia | exact⟨_,_,rfl⟩
  dsimp only;rw[if_pos rfl,e2]
  rfl
 .rw[hw,if_neg k1];have e1:(A++[cu k ns]++Bs)[A.length]? =some (cu k ns):=by
   rw[List.append_assoc,List.getElem?_append_right (Nat.le_refl _),Nat.sub_self]
   rfl
  rw[e1];dsimp only;rw[ho,if_neg k1];dsimp only;rw[if_neg k1]
def bw (k:Nat):Nat:=if k=1 then 2 else 1
def av (is:List (Nat × List Int)):List Int:=is.flatMap (fun kn=>du kn.1 kn.2)
theorem oz (k:Nat) (ns:List Int):(du k ns).length=bw k:=by
 unfold du bw
 split <;> rfl
theorem Cu {k:Nat}{ns:List Int}(h:aM 8 262144 k ns):∀y∈du k ns,0<=y/\y < 4294967296:=by
 have one:cu k ns < 4294967296/\(k=1->0<=ns.getD 1 0/\ns.getD 1 0 < 4294967296):=by
  rcases h with⟨rfl,rfl⟩|⟨rfl,x,v,rfl,x0,x1,v0,v1⟩|⟨h1,h2,x,y,z,rfl,x0,x1,y0,y1,z0,z1⟩|⟨h1,h2,x,y,z,rfl,x0,x1,y0,y1,z0,z1⟩|⟨hk,z,rfl,z0,z1⟩|⟨rfl,x,z,rfl,x0,x1,z0,z1⟩|⟨rfl,y,rfl,y0,y1⟩|⟨hk,x,y,rfl,x0,x1,y0,y1⟩
  .exact⟨by decide,fun z=>by lia⟩
  .refine⟨?_,fun _=>⟨v0,v1⟩⟩
   have e:cu 1 [x,v]=134217728+x*16777216:=rfl;rw[e]
   lia
  .rw[D4 h1 h2];exact⟨by lia,fun z=>by lia⟩
  .rw[Dk h1 h2];exact⟨by lia,fun z=>by lia⟩
  .rcases hk with rfl | rfl
   .have e:cu 13 [z]=13*134217728+z %262144:=rfl;rw[e];exact⟨by lia,fun z=>by lia⟩
   .have e:cu 18 [z]=18*134217728+z %262144:=rfl;rw[e];exact⟨by lia,fun z=>by lia⟩
  .have e:cu 14 [x,z]=14*134217728+x*16777216+z %262144:=rfl;rw[e];exact⟨by lia,fun z=>by lia⟩
  .have e:cu 15 [y]=15*134217728+y*2097152:=rfl;rw[e];exact⟨by lia,fun z=>by lia⟩
  .rw[Gd (by lia) (by lia)]
   exact⟨by lia,fun z=>by lia⟩
 have h0:=(wc h).1;intro y hy;unfold du at hy
 split at hy
 .rename_i k1
  simp only[List.mem_cons,List.not_mem_nil,or_false] at hy
  rcases hy with rfl | rfl
  .exact⟨h0,one.1⟩
  .exact one.2 k1
 .simp only[List.mem_cons,List.not_mem_nil,or_false] at hy
  subst hy;exact⟨h0,one.1⟩
def w8:List SpM.Span:=List.replicate 8 SpM.whole
theorem xZ:Sp8 w8:=⟨rfl,fun s hs=>by rw[List.eq_of_mem_replicate hs];exact SpM.Sv_whole⟩
def bg (at_:Nat) (sp:List SpM.Span):List SpM.Span:=if at_ %8=0 then w8 else sp
theorem hV {at_:Nat}{sp:List SpM.Span}(h:Sp8 sp):Sp8 (bg at_ sp):=by
 unfold bg
 split
 .exact xZ
 .exact h
structure Pn where
 pk:Nat
 pb:Int
 pm:Nat
 ps:Nat
 pg:Int
noncomputable def fL (x:Pn):Nat->List SpM.Span->List (Nat × List Int)->List (Option (List SpM.Span))
 | _,_,[]=>[]
 | at_,sp,kn::r=>some (bg at_ sp)::((if kn.1=1 then[none] else[])++fL x (at_+bw kn.1) (dE x.pk x.pb x.pm x.ps kn.1 kn.2 (bg at_ sp)) r)
def okC (x:Pn) (total:Int):Nat->List SpM.Span->List (Nat × List Int)->Prop
 | _,_,[]=>True
 | at_,sp,kn::r=>aM 8 262144 kn.1 kn.2/\at_ %8+bw kn.1<=8/\cq x.pk x.pb x.pg total kn.1 kn.2 (bg at_ sp)=none/\okC x total (at_+bw kn.1) (dE x.pk x.pb x.pm x.ps kn.1 kn.2 (bg at_ sp)) r
def TdA (K:Frag) (H:Hp):List V->List (Option (List SpM.Span))->Prop
 | [],[]=>True
 | v::vs,none::r=>v= .non/\TdA K H vs r
 | v::vs,some sp::r=>(∃ a,v= .ref a/\SpT K H a sp)/\TdA K H vs r
 | _,_=>False
theorem TdA.same {H H':Hp}(e:ay H H'):∀ {vs:List V}{r:List (Option (List SpM.Span))},TdA K H vs r->TdA K H' vs r
 | [],[],_=>True.intro
 | _::_,none::_,h=>⟨h.1,TdA.same e h.2⟩
 | _::_,some _::_,h=>⟨let ⟨a,h1,h2⟩:=h.1;⟨a,h1,h2.same e⟩,TdA.same e h.2⟩
 | [],none::_,h=>h.elim
 | [],some _::_,h=>h.elim
 | _::_,[],h=>h.elim
theorem TdA.len {H:Hp}:∀ {vs:List V}{r:List (Option (List SpM.Span))},TdA K H vs r->vs.length=r.length
 | [],[],_=>rfl
 | _::_,none::_,h=>congrArg (· +1) (TdA.len h.2)
 | _::_,some _::_,h=>congrArg (· +1) (TdA.len h.2)
 | [],none::_,h=>h.elim
 | [],some _::_,h=>h.elim
 | _::_,[],h=>h.elim
theorem TdA.app {H:Hp}{us:List V}{t:List (Option (List SpM.Span))}(hu:TdA K H us t):∀ {vs:List V}{r:List (Option (List SpM.Span))},TdA K H vs r->TdA K H (vs++us) (r++t)
 | [],[],_=>hu
 | _::_,none::_,h=>⟨h.1,TdA.app hu h.2⟩
 | _::_,some _::_,h=>⟨h.1,TdA.app hu h.2⟩
 | [],none::_,h=>h.elim
 | [],some _::_,h=>h.elim
 | _::_,[],h=>h.elim
theorem SpT.wr {H:Hp}{a b:Addr}{zs:List V}{o:HO}{sp:List SpM.Span}(hb:H b=some (.lst zs)) (h:SpT K H a sp):SpT K (upd H b o) a sp:=by
 obtain⟨as,h1,h2⟩:=h;refine⟨as,?_,h2.mono (fun a' xs e=>by rw[az (fun z=>by rw[z,hb] at e;cases e)];exact e)⟩
 unfold SqT at h1 ⊢;rcases h1 with h1 | h1
 .refine .inl ?_
  rcases h1 with h1 | ⟨ob,h1⟩
  .exact .inl (by rw[az (fun z=>by rw[z,hb] at h1;cases h1)];exact h1)
  .exact .inr ⟨ob,by rw[az (fun z=>by rw[z,hb] at h1;cases h1)];exact h1⟩
 .exact .inr h1
theorem TdA.wr {H:Hp}{b:Addr}{zs:List V}{o:HO}(hb:H b=some (.lst zs)):∀ {vs:List V}{r:List (Option (List SpM.Span))},TdA K H vs r->TdA K (upd H b o) vs r
 | [],[],_=>True.intro
 | _::_,none::_,h=>⟨h.1,TdA.wr hb h.2⟩
 | _::_,some _::_,h=>⟨let ⟨a,h1,h2⟩:=h.1;⟨a,h1,h2.wr hb⟩,TdA.wr hb h.2⟩
 | [],none::_,h=>h.elim
 | [],some _::_,h=>h.elim
 | _::_,[],h=>h.elim
theorem El {x:Pn}{total:Int}:∀ {is:List (Nat × List Int)}{at_:Nat}{sp:List SpM.Span},okC x total at_ sp is->∀y∈av is,0<=y/\y < 4294967296
 | [],_,_,_,y,hy=>by cases hy
 | j::r,at_,sp,h,y,hy=>by
  rcases List.mem_append.mp (show y∈du j.1 j.2++av r from hy) with hy | hy
  .exact Cu h.1 y hy
  .exact El (is:=r) h.2.2.2 y hy
noncomputable def ja (x:Pn):Nat->List SpM.Span->List (Nat × List Int)->List SpM.Span
 | _,sp,[]=>sp
 | at_,sp,kn::r=>ja x (at_+bw kn.1) (dE x.pk x.pb x.pm x.ps kn.1 kn.2 (bg at_ sp)) r
structure Aw (x:Pn) (is:List (Nat × List Int)):Prop where
 len:(av is).length=8*2^(x.pm+x.ps)
 ok:okC x (av is).length 0 w8 is
 last:∃pre kn,is=pre++[kn]/\(kn.1=0\/kn.1=13\/kn.1=15)
 rng:∀y∈av is,0<=y/\y < 4294967296
def HQ (K:Frag):Sp:=fun vs H Q _=>∃(pl cd:Addr) (is:List (Nat × List Int)) (x:Pn),vs=[.ref pl,.ref cd]/\Pl H pl x.pk x.pb x.pm x.ps x.pg/\SqL K H cd ((av is).map V.int)/\Aw x is/\∀p vs H',ay H H'->H p=none->H' p=some (.lst vs)->TdA K H' vs (fL x 0 w8 is)->Q (.ref p) H'
theorem sU (B:Bi mg) (T2:Tb2 K mg) (D:nX K mg) (ak:Has P w K mg base 1 "power_of_two" lx iq) (bN:Has P w K mg base 2 "first_spans" [] (EY K)) (dM:Has P w K mg base 7 "instruction_let_by" yz (FR K))
  (cS:Has P w K mg base 8 "spans_behind" gn (G0 K)) (aU:Has P w K mg base 1 "length_of" cy (Aq K)):Has P w K mg base 9 "spans_ahead" pV (HQ K):=by
 obtain⟨wX,xj,EL⟩:=T2.last;refine D.has bZ (fun vs H Q E h=> ?_) (fun f cdv A outer s H vs Q E hr h=> ?_)
 .obtain⟨pl,cd,is,x,rfl,_⟩:=h
  rfl
 obtain⟨pl,cd,is,x,rfl,hpl,hcd,co,q⟩:=h;have hat:=hpl.at_;have hms:=hpl.ms;have p2:atI [V.int x.pk,V.int x.pb,V.int x.pm,V.int x.ps,V.int x.pg] 2=some (.int x.pm):=a9 (j:=2) rfl;have p3:atI [V.int x.pk,V.int x.pb,V.int x.pm,V.int x.ps,V.int x.pg] 3=some (.int x.ps):=a9 (j:=3) rfl
 refine⟨_,(ac (ax (pcT vA (aF aC (by rfl) B.len bT (pa1 (pv 1))) (aj bz aa (pcH ak hr (pa1 (aj aO (pX ai (pv 0) aa) (pX ai (pv 0) aa)))))) (ae pI) al)
   (ac (psS 2 bZ.nd (aT cY))
   (ac (psS 3 bZ.nd (fh (bN.mono (by omega)) hr (by rfl)))
   (ac (psS 4 bZ.nd au)
   (ac (aL (gW PassesOwn.never (pcT gD (aF aC (by rfl) B.len bT (pa1 (pv 2))) (aF aC (by rfl) B.len bT (pa1 (pv 1)))) (ac (aL (bn (ax (pcT aG (aj cD (aF aC (by rfl) B.len bT (pa1 (pv 2))) aa) aa) (ae (psS 3 bZ.nd (fh (bN.mono (by omega)) hr (by rfl)))) al)))
   (ac (psS 5 bZ.nd (pcH dM hr (pa4 (pv 0) (pv 1) (aF aC (by rfl) B.len bT (pa1 (pv 2))) (pv 3))))
   (ac (psS 4 bZ.nd (pX ai (pv 5) aa))
   (ac (bj (fe PySem.F.plainAttrs_list PySem.F.slot_list_append PySem.F.type_list_append bJ (pv 2) (pa1 (pv 3))))
   (ac (psS 3 bZ.nd (pcH cS hr (pa3 (pv 0) (pv 5) (pv 3))))
   (ae (aL (bn (ax (pcT aG (pcH aU hr (pa1 (pv 5))) aa) (ae (bj (fe PySem.F.plainAttrs_list PySem.F.slot_list_append PySem.F.type_list_append bJ (pv 2) (pa1 cQ)))) al)))))))))))
   (ac (ax (nA kE (pv 4) (kB (v:= .ref wX) (by rfl) xj (by rfl)) (by rfl)) (ae pI) al)
   (ae (ah (pv 2))))))))),?_⟩
 try dsimp only[aY]
 walk_at "g";refine DN ?_ ?_
 .have e:(((av is).map V.int).length:Int)=8*2^(x.pm+x.ps):=by
   rw[List.length_map,co.len,Int.natCast_mul,Int.natCast_pow]
   rfl
  rw[e,decide_eq_true rfl]
  rfl
 walk_at "g";intro td htd;have td0:H td=none:=htd;have s1:=af htd (.lst []);have l1:upd H td (.lst []) td=some (.lst []):=ad;generalize upd H td (.lst [])=H1 at*;walk_at "g";intro sa H2 s2 t2;have l2:=s2 _ _ l1;have S2:=s1.trans s2;walk_at "g"
 refine⟨fun m Z H'=>∃(pre r:List (Nat × List Int)) (at_:Nat) (sp:List SpM.Span) (vs:List V) (tds:List (Option (List SpM.Span))) (sa:Addr) (sort:Str) (i5:Option V),m=r.length/\is=pre++r/\at_=(av pre).length/\tds.length=at_/\tds++fL x at_ sp r=fL x 0 w8 is/\okC x (av is).length at_ sp r/\Sp8 sp/\SpT K H' sa sp/\TdA K H' vs tds/\H' td=some (.lst vs)/\ay H H'/\
  (∀ kn∈pre.getLast?,sort=aI kn.1)/\Z=[some (.ref pl),some (.ref cd),some (.ref td),some (.ref sa),some (.str sort),i5],⟨is.length,[],is,0,w8,[],[],sa,"",none,rfl,rfl,rfl,rfl,rfl,co.ok,xZ,t2,True.intro,l2,S2,(fun kn hk=>by cases hk),rfl⟩,?_⟩
 rintro m Z H3 ⟨pre,r,at_,sp,vs,tds,sa,sort,i5,rfl,eis,eat,etl,etd,hok,h8,hst,htda,hl3,S3,hso,rfl⟩
 have cd3:=S3.seq hcd;have pl3:=hpl.mv S3;have evs:vs.length=at_:=by rw[htda.len];exact etl
 have elen:(av is).length=at_+(av r).length:=by
  rw[eis,eat];unfold av;rw[List.flatMap_append,List.length_append]
 have ct1:(((vs.length:Nat):Int) < (((av is).map V.int).length:Nat))↔r≠[]:=by
  rw[List.length_map,evs,elen]
  cases r with
  | nil=>simp [av]
  | cons kn r'=>
   have:0 < (av (kn::r')).length:=by
    show 0 < (du kn.1 kn.2++av r').length
    rw[List.length_append,oz];unfold bw
    split <;> lia
   constructor
   .intro _ z;cases z
   .intro _;lia
 walk_at "g";refine aV (fun c=> ?_) (fun c=> ?_)
 .have hr':=ct1.mp c;obtain⟨⟨k,ns⟩,r',rfl⟩:=List.exists_cons_of_ne_nil hr';obtain⟨hv,hw8,hft,hok'⟩:=hok;dsimp only at hv hw8 hft hok';walk_at "n"
  refine⟨fun Z' H'=>aA (∃ (pre r:List (Nat × List Int)) (at_:Nat) (sp:List SpM.Span) (vs:List V) (tds:List (Option (List SpM.Span))) (sa:Addr) (sort:Str) (i5:Option V),r.length < r'.length+1/\is=pre++r/\at_=(av pre).length/\tds.length=at_/\tds++fL x at_ sp r=fL x 0 w8 is/\okC x (av is).length at_ sp r/\Sp8 sp/\SpT K H' sa sp/\TdA K H' vs tds/\H' td=some (.lst vs)/\ay H H'/\
  (∀ kn∈pre.getLast?,sort=aI kn.1)/\Z'=[some (.ref pl),some (.ref cd),some (.ref td),some (.ref sa),some (.str sort),i5]),fun Z' H' h=> ?_,?_⟩
  .obtain⟨pre2,r2,at2,sp2,vs2,tds2,sa2,so2,i52,z1,z2⟩:=h.out;exact⟨r2.length,z1,pre2,r2,at2,sp2,vs2,tds2,sa2,so2,i52,rfl,z2⟩
  walk_at "n";refine⟨fun Z' H'=>aA (∃ sa':Addr,SpT K H' sa' (bg at_ sp)/\ay H3 H'/\Z'=[some (.ref pl),some (.ref cd),some (.ref td),some (.ref sa'),some (.str sort),i5]),?_,?_⟩
  .walk_at "g";refine aV (fun c8=> ?_) (fun c8=> ?_)
   .have e8:bg at_ sp=w8:=if_pos (by rw[evs] at c8;have h:((at_:Nat):Int) %8=0:=V.int.inj c8;lia)
    walk_at "g";intro sa2 H4 s4 t4;exact aA.mk ⟨sa2,by rw[e8];exact t4,s4,rfl⟩
   .have e8:bg at_ sp=sp:=if_neg (fun z=>c8 (by rw[evs];show V.int (((at_:Nat):Int) %8)=V.int 0;rw[show((at_:Nat):Int) %8=0 by lia]))
    exact aA.mk ⟨sa,by rw[e8];exact hst,ay.refl _,rfl⟩
  rintro Z4 H4 ⟨sa4,t4,s4,rfl⟩
  have h8':=hV (at_:=at_) h8;have etd2:tds++(some (bg at_ sp)::((if k=1 then[none] else[])++fL x (at_+bw k) (dE x.pk x.pb x.pm x.ps k ns (bg at_ sp)) r'))=fL x 0 w8 is:=etd
  generalize bg at_ sp=sh at*;have l4:=s4 _ _ hl3;have S4:=S3.trans s4;have cd4:=s4.seq cd3;have pl4:=pl3.mv s4;have td4:=htda.same s4;have ews:av is=av pre++du k ns++av r':=by
   rw[eis];unfold av;rw[List.flatMap_append,List.append_assoc]
   rfl
  have hins:jL (av is) ((vs.length:Nat):Int)=some (k,ns):=by
   rw[evs,eat,ews];exact vF hv
  have hl8:((vs.length:Nat):Int) %8+(if k=1 then 2 else 1)<=8:=by
   rw[evs];unfold bw at hw8
   split at hw8 <;> (rename_i z;simp only[z,if_true,if_false];lia)
  have hrng:=co.rng;walk_at "g";intro ia H5 s5 hia;have i0:atI (aE k ns) 0=some (.str (aI k)):=lR;have l5:=s5 _ _ l4;have t5:=t4.same s5;have td5:=td4.same s5;have pl5:=pl4.mv s5;have S5:=S4.trans s5;have hty:tyV K "list" (.ref td) H5:= .inl ⟨rfl,_,SqL.of l5⟩
  have hll:vs.length < sizeLine:=Nat.lt_of_le_of_lt (show vs.length<=8*2^7 by
   have h1:(2:Nat)^(x.pm+x.ps)<=2^7:=Nat.pow_le_pow_right (by decide) hms
   have h2:=co.len
   lia) (by decide)
  have S6:ay H (upd H5 td (.lst (vs++[.ref sa4]))):=eK td0 S5;have l6:upd H5 td (.lst (vs++[.ref sa4])) td=some (.lst (vs++[.ref sa4])):=ad;have t6:SpT K (upd H5 td (.lst (vs++[.ref sa4]))) sa4 sh:=t5.wr l5;have td6:TdA K (upd H5 td (.lst (vs++[.ref sa4]))) (vs++[.ref sa4]) (tds++[some sh]):=TdA.app (show TdA K _ [V.ref sa4] [some sh] from⟨⟨sa4,rfl,t6⟩,True.intro⟩) (td5.wr l5);have ia6:SqT K (upd H5 td (.lst (vs++[.ref sa4]))) ia (aE k ns):=by
   unfold SqT at hia ⊢;rcases hia with h1 | h1
   .refine .inl ?_
    rcases h1 with h1 | ⟨ob,h1⟩
    .exact .inl (by rw[az (fun z=>by rw[z,l5] at h1;cases h1)];exact h1)
    .exact .inr ⟨ob,by rw[az (fun z=>by rw[z,l5] at h1;cases h1)];exact h1⟩
   .exact .inr h1
  have pl6:=hpl.mv S6;walk_at "g";generalize upd H5 td (.lst (vs++[.ref sa4]))=H6 at*;intro sa7 H7 s7 t7;have l7:=s7 _ _ l6;have td7:=td6.same s7;have ia7:=s7.tup ia6;have S7:=S6.trans s7;have hk19:=hv.lt;have hb8:Sp8 (dE x.pk x.pb x.pm x.ps k ns sh):=qH hpl.room hms hv h8';have fin:∀(H8:Hp) (us:List V),ay H7 H8\/(∃ zs o,H7 td=some (.lst zs)/\H8=upd H7 td o)->ay H H8->H8 td=some (.lst (vs++[.ref sa4]++us))->us=(if k=1 then[.non] else[])->
    ∃(pre r:List (Nat × List Int)) (at_:Nat) (sp:List SpM.Span) (vs:List V) (tds:List (Option (List SpM.Span))) (sa:Addr) (sort:Str) (i5:Option V),r.length < r'.length+1/\is=pre++r/\at_=(av pre).length/\tds.length=at_/\tds++fL x at_ sp r=fL x 0 w8 is/\okC x (av is).length at_ sp r/\Sp8 sp/\SpT K H8 sa sp/\TdA K H8 vs tds/\H8 td=some (.lst vs)/\ay H H8/\
     (∀ kn∈pre.getLast?,sort=aI kn.1)/\[some (.ref pl),some (.ref cd),some (.ref td),some (.ref sa7),some (.str (aI k)),some (.ref ia)]=[some (.ref pl),some (.ref cd),some (.ref td),some (.ref sa),some (.str sort),i5]:=by
   intro H8 us h78 S8 l8 eus;have t8:SpT K H8 sa7 (dE x.pk x.pb x.pm x.ps k ns sh):=by
    rcases h78 with h | ⟨zs,o,h1,rfl⟩
    .exact t7.same h
    .exact t7.wr h1
   have td8:TdA K H8 (vs++[.ref sa4]) (tds++[some sh]):=by
    rcases h78 with h | ⟨zs,o,h1,rfl⟩
    .exact td7.same h
    .exact td7.wr h1
   have tdu:TdA K H8 us (if k=1 then[none] else[]):=by
    rw[eus]
    split
    .exact⟨rfl,True.intro⟩
    .exact True.intro
   refine⟨pre++[(k,ns)],r',at_+bw k,dE x.pk x.pb x.pm x.ps k ns sh,vs++[.ref sa4]++us,tds++[some sh]++(if k=1 then[none] else[]),sa7,aI k,some (.ref ia),Nat.lt_succ_self _,by rw[eis,List.append_assoc];rfl,?_,?_,?_,hok',hb8,t8,TdA.app tdu td8,l8,S8,?_,rfl⟩
   .rw[eat];unfold av;rw[List.flatMap_append,List.length_append];show _=_+(du k ns++[]).length
    rw[List.append_nil,oz]
   .rw[List.length_append,List.length_append,etl];unfold bw
    split <;> rfl
   .rw[<- etd2,List.append_assoc,List.append_assoc]
    rfl
   .intro kn hk;have:(k,ns)=kn:=by simpa using hk
    rw[<- this]
  have hty7:tyV K "list" (.ref td) H7:= .inl ⟨rfl,_,SqL.of l7⟩
  have hll7:(vs++[V.ref sa4]).length < sizeLine:=Nat.lt_of_le_of_lt (show(vs++[V.ref sa4]).length<=8*2^7+1 by
   rw[List.length_append];have h1:(2:Nat)^(x.pm+x.ps)<=2^7:=Nat.pow_le_pow_right (by decide) hms
   have h2:=co.len
   simp only[List.length_cons,List.length_nil]
   lia) (by decide)
  walk_at "n";refine⟨_,?_,fun Z' H' h=>h⟩
  walk_at "g"
  by_cases k1:k=1
  .refine Dm (by rw[if_pos k1]) ?_
   walk_at "g";exact aA.mk (fin _ [.non] (.inr ⟨_,_,l7,rfl⟩) (eK td0 S7) ad (by rw[if_pos k1]))
  .refine d3 (fun z=>by rw[if_neg k1] at z;have:=V.int.inj z;lia) ?_
   exact aA.mk (fin H7 [] (.inl (ay.refl _)) S7 (by rw[List.append_nil];exact l7) (by rw[if_neg k1]))
 .have hr':r=[]:=Classical.not_not.mp (fun z=>c (ct1.mpr z))
  subst hr';rw[List.append_nil] at eis;subst eis;obtain⟨pre',kn,e1,e2⟩:=co.last;have es:sort=aI kn.1:=hso kn (by rw[e1];simp)
  have hk:kn.1 < 19:=by lia
  have etd':tds=fL x 0 w8 is:=by
   rw[<- etd];exact(List.append_nil tds).symm
  rw[etd'] at htda;subst es;have hin:=Ff kn.1 hk;walk_at "g";rw[if_pos rfl,hin,decide_eq_true e2];walk_at "g";exact q td vs H3 S3 td0 hl3 htda
def FL (K:Frag):Sp:=fun vs H Q _=>∃(pl cd:Addr) (is:List (Nat × List Int)) (x:Pn),vs=[.ref pl,.ref cd]/\Pl H pl x.pk x.pb x.pm x.ps x.pg/\SqL K H cd ((av is).map V.int)/\Aw x is/\∀H',ay H H'->Q .non H'
theorem Ei (B:Bi mg) (D:BM K mg) (gh:Has P w K mg base 9 "spans_ahead" pV (HQ K)):Has P w K mg base 10 "check" pV (FL K):=by
 refine D.has Dx (fun vs H Q E h=> ?_) (fun f cdv A outer s H vs Q E hr h=> ?_)
 .obtain⟨pl,cd,is,x,rfl,_⟩:=h
  rfl
 obtain⟨pl,cd,is,x,rfl,hpl,hcd,co,q⟩:=h;refine⟨_,(ae (bj (pcH gh hr (pa2 (pv 0) (pv 1))))),?_⟩
 try dsimp only[aY]
 refine⟨_,rfl,_,rfl,pl,cd,is,x,rfl,hpl,hcd,co,fun p vs H1 s1 _ _ _=> ?_⟩
 walk_at "g";exact q H1 s1
abbrev Ins:=Nat × List Int
def lnW (is:List Ins):Nat:=(is.map fun kn=>bw kn.1).sum
theorem a8 (a b:List Ins):lnW (a++b)=lnW a+lnW b:=by unfold lnW;rw[List.map_append,List.sum_append]
theorem bo (a:Ins) (b:List Ins):lnW (a::b)=bw a.1+lnW b:=by unfold lnW;rw[List.map_cons,List.sum_cons]
theorem dC (a:Ins):lnW [a]=bw a.1:=by rw[bo];rfl
theorem ci:∀is:List Ins,(av is).length=lnW is
 | []=>rfl
 | kn::r=>by
  rw[bo, <-ci r, <-oz kn.1 kn.2, <-List.length_append]
  rfl
theorem dO (a b:List Ins):av (a++b)=av a++av b:=by unfold av;rw[List.flatMap_append]
theorem lH (a:Ins) (b:List Ins):av (a::b)=du a.1 a.2++av b:=rfl
theorem gJ (k:Nat):1<=bw k/\bw k<=2:=by unfold bw;split <;> lia
theorem Ap:∀is:List Ins,is.length<=lnW is
 | []=>Nat.le_refl _
 | kn::r=>by rw[bo,List.length_cons];have:=Ap r;have:=gJ kn.1;lia
theorem Ec:∀is:List Ins,lnW is<=2*is.length
 | []=>Nat.le_refl _
 | kn::r=>by rw[bo,List.length_cons];have:=Ec r;have:=gJ kn.1;lia
theorem sQ {is:List Ins}(h:∀kn∈is,kn.1≠1):lnW is=is.length:=by
 induction is with
 | nil=>rfl
 | cons kn r ih=>
  rw[bo,List.length_cons,ih (fun x hx=>h x (List.mem_cons_of_mem _ hx))]
  have:bw kn.1=1:=by unfold bw;rw[if_neg (h kn List.mem_cons_self)]
  lia
def grp (kn:Ins):List Ins:=
 if kn.1=15 then[(17,[6,kn.2.getD 0 0]),(15,[6])]
 else if kn.1=11\/kn.1=12 then
  if kn.2.getD 2 0=0 then[(16,[6,kn.2.getD 1 0]),(kn.1,[kn.2.getD 0 0,6,0])]
  else[(10,[6,kn.2.getD 1 0,kn.2.getD 2 0]),(16,[6,6]),(kn.1,[kn.2.getD 0 0,6,0])]
 else[kn]
def nop:Ins:=(10,[0,0,0])
def eB (n:Nat):List Ins:=List.replicate ((8 - n %8) %8) nop
def ba (is g:List Ins):List Ins:=if lnW is %8+lnW g<=8 then is else is++eB (lnW is)
abbrev Bk:=List Ins × List Nat
def IA (st:Bk) (g:List Ins):Bk:=(ba st.1 g++g,st.2++[lnW (ba st.1 g)])
def cz (b:List Ins):Bk:=b.foldl (fun st kn=>IA st (grp kn)) ([],[])
theorem lV (n:Nat):lnW (eB n)=(8 - n %8) %8:=by
 unfold eB;rw[sQ (fun kn hk=>by rw[(List.mem_replicate.mp hk).2];decide),List.length_replicate]
theorem sZ (m:Nat):lnW (List.replicate m nop)=m:=by
 rw[sQ (is:=List.replicate m nop) (fun kn hk=>by rw[(List.mem_replicate.mp hk).2];decide),List.length_replicate]
theorem gP {b:List Ins}{j:Nat}{kn:Ins}(h:b[j]? =some kn):cz (b.take (j+1))=IA (cz (b.take j)) (grp kn):=by
 unfold cz;rw[List.take_succ,h,List.foldl_append]
 rfl
def plc (n:Nat) (kn:Ins):Ins:=if kn.1=13 then(13,[kn.2.getD 0 0*n]) else if kn.1=14 then(14,[kn.2.getD 0 0,kn.2.getD 1 0*n]) else kn
theorem qW (n:Nat) (kn:Ins):(plc n kn).1=kn.1:=by
 unfold plc
 split
 .rename_i h;exact h.symm
 .split
  .rename_i h;exact h.symm
  .rfl
def dJ (n:Nat) (is:List Ins):List Ins:=is.map (plc n)++List.replicate (n - lnW is) (0,[])
def bV (n tot:Nat) (bs:List Bk):List Ins:=bs.flatMap (fun b=>dJ n b.1)++List.replicate (tot - bs.length*n) (0,[])
theorem eG (n:Nat):∀is:List Ins,lnW (is.map (plc n))=lnW is
 | []=>rfl
 | kn::r=>by rw[List.map_cons,bo,bo,eG n r,qW]
theorem nD (n:Nat):lnW (List.replicate n ((0,[]):Ins))=n:=by
 rw[sQ (fun kn hk=>by rw[(List.mem_replicate.mp hk).2];decide),List.length_replicate]
theorem qL {n:Nat}{is:List Ins}(h:lnW is<=n):lnW (dJ n is)=n:=by
 unfold dJ;rw[a8,eG,nD]
 lia
theorem jy {n:Nat}:∀ {bs:List Bk},(∀ b∈bs,lnW b.1<=n)->lnW (bs.flatMap fun b=>dJ n b.1)=bs.length*n
 | [],_=>by simp [lnW]
 | b::r,h=>by
  rw[List.flatMap_cons,a8,qL (h b List.mem_cons_self),jy (fun x hx=>h x (List.mem_cons_of_mem _ hx)),List.length_cons,Nat.succ_mul]
  lia
theorem B9 {n tot:Nat}{bs:List Bk}(h:∀b∈bs,lnW b.1<=n) (ht:bs.length*n<=tot):lnW (bV n tot bs)=tot:=by
 unfold bV;rw[a8,jy h,nD]
 lia
theorem qw {kn:Ins}(h:aM 8 262144 kn.1 kn.2):∀g∈grp kn,aM 8 262144 g.1 g.2:=by
 obtain⟨k,ns⟩:=kn;dsimp only at h;intro g hg;unfold grp at hg;dsimp only at hg
 split at hg
 .rename_i k15
  subst k15;obtain⟨b,rfl,b0,b1⟩:∃b,ns=[b]/\0<=b/\b < 8:=by
   rcases h with⟨e,rfl⟩|⟨e,x,v,rfl,x0,x1,v0,v1⟩|⟨h1,h2,x,y,z,rfl,x0,x1,y0,y1,z0,z1⟩|⟨h1,h2,x,y,z,rfl,x0,x1,y0,y1,z0,z1⟩|⟨hk,z,rfl,z0,z1⟩|⟨e,x,z,rfl,x0,x1,z0,z1⟩|⟨e,y,rfl,y0,y1⟩|⟨hk,x,y,rfl,x0,x1,y0,y1⟩
   all_goals first | lia | exact⟨_,rfl,by assumption,by assumption⟩
  simp only[List.mem_cons,List.not_mem_nil,or_false] at hg
  rcases hg with rfl | rfl
  .exact .inr (.inr (.inr (.inr (.inr (.inr (.inr ⟨.inr rfl,6,b,rfl,by decide,by decide,b0,b1⟩))))))
  .exact .inr (.inr (.inr (.inr (.inr (.inr (.inl ⟨rfl,6,rfl,by decide,by decide⟩))))))
 .split at hg
  .rename_i hk
   obtain⟨a,b,n,rfl,a0,a1,b0,b1,n0,n1⟩:∃a b n,ns=[a,b,n]/\0<=a/\a < 8/\0<=b/\b < 8/\ -131072<=n/\n < 131072:=by
    rcases h with⟨e,rfl⟩|⟨e,x,v,rfl,x0,x1,v0,v1⟩|⟨h1,h2,x,y,z,rfl,x0,x1,y0,y1,z0,z1⟩|⟨h1,h2,x,y,z,rfl,x0,x1,y0,y1,z0,z1⟩|⟨hk,z,rfl,z0,z1⟩|⟨e,x,z,rfl,x0,x1,z0,z1⟩|⟨e,y,rfl,y0,y1⟩|⟨hk,x,y,rfl,x0,x1,y0,y1⟩
    all_goals first | lia | exact⟨_,_,_,rfl,by assumption,by assumption,by assumption,by assumption,by assumption,by assumption⟩
   split at hg
   .simp only[List.mem_cons,List.not_mem_nil,or_false] at hg
    rcases hg with rfl | rfl
    .exact .inr (.inr (.inr (.inr (.inr (.inr (.inr ⟨.inl rfl,6,b,rfl,by decide,by decide,b0,b1⟩))))))
    .exact .inr (.inr (.inr (.inl ⟨by show 10<=k;lia,by show k<=12;lia,a,6,0,rfl,a0,a1,by decide,by decide,by decide,by decide⟩)))
   .simp only[List.mem_cons,List.not_mem_nil,or_false] at hg
    rcases hg with rfl | rfl | rfl
    .exact .inr (.inr (.inr (.inl ⟨by show 10<=10;decide,by show 10<=12;decide,6,b,n,rfl,by decide,by decide,b0,b1,n0,n1⟩)))
    .exact .inr (.inr (.inr (.inr (.inr (.inr (.inr ⟨.inl rfl,6,6,rfl,by decide,by decide,by decide,by decide⟩))))))
    .exact .inr (.inr (.inr (.inl ⟨by show 10<=k;lia,by show k<=12;lia,a,6,0,rfl,a0,a1,by decide,by decide,by decide,by decide⟩)))
  .rw[List.mem_singleton.mp hg];exact h
theorem kZ (kn:Ins):1<=lnW (grp kn)/\lnW (grp kn)<=3:=by
 unfold grp
 split
 .simp only[bo]
  exact⟨by show 1<=1+(1+0);decide,by show 1+(1+0)<=3;decide⟩
 .split
  .rename_i h
   have e:bw kn.1=1:=by unfold bw;rw[if_neg (by lia)]
   split
   .simp only[bo,e];exact⟨by show 1<=1+(1+0);decide,by show 1+(1+0)<=3;decide⟩
   .simp only[bo,e];exact⟨by show 1<=1+(1+(1+0));decide,by show 1+(1+(1+0))<=3;decide⟩
  .rw[dC];have:=gJ kn.1
   lia
theorem BP (kn:Ins):(grp kn).length<=3:=by
 unfold grp
 split
 .simp
 .split
  .split <;> simp
  .simp
theorem we:aM 8 262144 nop.1 nop.2:= .inr (.inr (.inr (.inl ⟨by decide,by decide,0,0,0,rfl,by decide,by decide,by decide,by decide,by decide,by decide⟩)))
theorem zv (is g:List Ins):lnW is<=lnW (ba is g)/\(lnW (ba is g)=lnW is\/(8 < lnW is %8+lnW g/\lnW (ba is g)=lnW is+(8 - lnW is %8) %8)):=by
 unfold ba
 split
 .exact⟨Nat.le_refl _,.inl rfl⟩
 .rw[a8,lV];exact⟨by lia,.inr ⟨by lia,rfl⟩⟩
theorem nE (b:List Ins):∀j,j<=b.length->lnW (cz (b.take j)).1<=if j %2=0 then 4*j else 4*(j - 1)+3
 | 0,_=>by simp [cz,lnW]
 | j+1,h=>by
  have ih:=nE b j (by lia)
  have e:b[j]? =some b[j]:=List.getElem?_eq_getElem (by lia)
  rw[gP e];show lnW (ba _ _++grp b[j])<=_
  rw[a8];have h1:=(zv (cz (b.take j)).1 (grp b[j])).2;have h2:=kZ b[j];generalize lnW (ba (cz (b.take j)).1 (grp b[j]))=x at*;generalize lnW (cz (b.take j)).1=y at*
  by_cases c:j %2=0
  .rw[if_pos c] at ih;rw[if_neg (by lia)]
   lia
  .rw[if_neg c] at ih;rw[if_pos (by lia)]
   lia
theorem EV (b:List Ins):lnW (cz b).1<=4*b.length+3:=by
 have:=nE b b.length (Nat.le_refl _);rw[List.take_length] at this
 split at this <;> lia
theorem pP (b:List Ins):∀j,j<=b.length->(cz (b.take j)).2.length=j
 | 0,_=>by simp [cz]
 | j+1,h=>by
  have e:b[j]? =some b[j]:=List.getElem?_eq_getElem (by lia)
  rw[gP e];show((cz (b.take j)).2++[_]).length=_
  rw[List.length_append,pP b j (by lia)]
  rfl
def cf (K:Frag) (H:Hp):List Addr->List Ins->Prop
 | [],[]=>True
 | t::ts,kn::is=>SqT K H t (aE kn.1 kn.2)/\cf K H ts is
 | _,_=>False
theorem cf.mono {K:Frag}{H H':Hp}(f:∀t xs,SqT K H t xs->SqT K H' t xs):∀ {ts:List Addr}{is:List Ins},cf K H ts is->cf K H' ts is
 | [],[],_=>True.intro
 | _::_,_::_,h=>⟨f _ _ h.1,cf.mono f h.2⟩
 | [],_::_,h=>h.elim
 | _::_,[],h=>h.elim
theorem cf.same {K:Frag}{H H':Hp}(s:ay H H') {ts:List Addr}{is:List Ins}(h:cf K H ts is):cf K H' ts is:=h.mono fun _ _ z=>s.tup z
theorem cf.len {K:Frag}{H:Hp}:∀ {ts:List Addr}{is:List Ins},cf K H ts is->ts.length=is.length
 | [],[],_=>rfl
 | _::_,_::_,h=>congrArg (· +1) (cf.len h.2)
 | [],_::_,h=>h.elim
 | _::_,[],h=>h.elim
theorem cf.app {K:Frag}{H:Hp}{us:List Addr}{ks:List Ins}(hu:cf K H us ks):∀ {ts:List Addr}{is:List Ins},cf K H ts is->cf K H (ts++us) (is++ks)
 | [],[],_=>hu
 | _::_,_::_,h=>⟨h.1,cf.app hu h.2⟩
 | [],_::_,h=>h.elim
 | _::_,[],h=>h.elim
theorem cf.get {K:Frag}{H:Hp}:∀ {ts:List Addr}{is:List Ins}{j:Nat}{t:Addr},cf K H ts is->ts[j]? =some t->∃kn,is[j]? =some kn/\SqT K H t (aE kn.1 kn.2)
 | _::_,kn::_,0,_,h,e=>by cases e;exact⟨kn,rfl,h.1⟩
 | _::_,_::_,j+1,_,h,e=>cf.get (j:=j) h.2 e
 | [],[],_,_,_,e=>by simp at e
 | [],_::_,_,_,h,_=>h.elim
 | _::_,[],_,_,h,_=>h.elim
theorem aM.lt19 {bx mo:Int}{k:Nat}{ns:List Int}(h:aM bx mo k ns):k < 19:=by
 rcases h with⟨e,rfl⟩|⟨e,x,v,rfl,x0,x1,v0,v1⟩|⟨h1,h2,x,y,z,rfl,x0,x1,y0,y1,z0,z1⟩|⟨h1,h2,x,y,z,rfl,x0,x1,y0,y1,z0,z1⟩|⟨hk,z,rfl,z0,z1⟩|⟨e,x,z,rfl,x0,x1,z0,z1⟩|⟨e,y,rfl,y0,y1⟩|⟨hk,x,y,rfl,x0,x1,y0,y1⟩
 all_goals lia
theorem aM.put2 {bx mo:Int}{k:Nat}{ns:List Int}(h:aM bx mo k ns) (k1:k=1):2<=ns.length:=by
 rcases h with⟨e,rfl⟩|⟨e,x,v,rfl,x0,x1,v0,v1⟩|⟨h1,h2,x,y,z,rfl,x0,x1,y0,y1,z0,z1⟩|⟨h1,h2,x,y,z,rfl,x0,x1,y0,y1,z0,z1⟩|⟨hk,z,rfl,z0,z1⟩|⟨e,x,z,rfl,x0,x1,z0,z1⟩|⟨e,y,rfl,y0,y1⟩|⟨hk,x,y,rfl,x0,x1,y0,y1⟩
 all_goals first | lia | exact Nat.le_refl _
abbrev VI (kn:Ins):Prop:=aM 8 262144 kn.1 kn.2
abbrev lfs (i b:Addr) (n:Int):List (Str × V):=[("instructions",.ref i),("begins",.ref b),("length",.int n)]
abbrev vn (n:Nat):V:= .int (n:Int)
def B3 (x i b:Addr) (H H':Hp):Prop:=∀a o,a≠x->a≠i->a≠b->H a=some o->H' a=some o
theorem B3.refl {x i b:Addr}(H:Hp):B3 x i b H H:=fun _ _ _ _ _ h=>h
theorem B3.trans {x i b:Addr}{H H1 H2:Hp}(p:B3 x i b H H1) (q:B3 x i b H1 H2):B3 x i b H H2:=fun a o h1 h2 h3 h=>q a o h1 h2 h3 (p a o h1 h2 h3 h)
theorem B3.of {x i b:Addr}{H H1:Hp}(s:ay H H1):B3 x i b H H1:=fun a o _ _ _ h=>s a o h
theorem B3.ux {x i b:Addr}{H H1:Hp}{o:HO}(p:B3 x i b H H1):B3 x i b H (upd H1 x o):=fun a u h1 h2 h3 h=>by rw[az h1];exact p a u h1 h2 h3 h
theorem B3.ui {x i b:Addr}{H H1:Hp}{o:HO}(p:B3 x i b H H1):B3 x i b H (upd H1 i o):=fun a u h1 h2 h3 h=>by rw[az h2];exact p a u h1 h2 h3 h
theorem B3.ub {x i b:Addr}{H H1:Hp}{o:HO}(p:B3 x i b H H1):B3 x i b H (upd H1 b o):=fun a u h1 h2 h3 h=>by rw[az h3];exact p a u h1 h2 h3 h
theorem B3.same {x i b:Addr}{H H1 H2:Hp}(s:ay H H1) (hx:H x=none) (hi:H i=none) (hb:H b=none) (p:B3 x i b H1 H2):ay H H2:=fun a o h=>
 p a o (aB h hx) (aB h hi) (aB h hb) (s a o h)
structure aW (K:Frag) (C:Addr) (H:Hp) (x dx i b:Addr) (js:List Addr) (is:List Ins) (bs:List Nat):Prop where
 at_:H x=some (.ins C dx (lfs i b (lnW is:Nat)))
 li:H i=some (.lst (js.map V.ref))
 lb:H b=some (.lst (bs.map vn))
 ib:i≠b
 ow:cf K H js is
 va:∀kn∈is,VI kn
theorem aW.xi {K:Frag}{C:Addr}{H:Hp}{x dx i b:Addr}{js:List Addr}{is:List Ins}{bs:List Nat}(l:aW K C H x dx i b js is bs):x≠i:=dn l.at_ l.li (by intro z;cases z)
theorem aW.xb {K:Frag}{C:Addr}{H:Hp}{x dx i b:Addr}{js:List Addr}{is:List Ins}{bs:List Nat}(l:aW K C H x dx i b js is bs):x≠b:=dn l.at_ l.lb (by intro z;cases z)
theorem aW.same {K:Frag}{C:Addr}{H H':Hp}{x dx i b:Addr}{js:List Addr}{is:List Ins}{bs:List Nat}(s:ay H H') (l:aW K C H x dx i b js is bs):aW K C H' x dx i b js is bs:=
 ⟨s _ _ l.at_,s _ _ l.li,s _ _ l.lb,l.ib,l.ow.same s,l.va⟩
theorem B3.tup {K:Frag}{C:Addr}{H H':Hp}{x dx i b t:Addr}{js:List Addr}{is:List Ins}{bs:List Nat}{xs:List V}(l:aW K C H x dx i b js is bs) (p:B3 x i b H H') (h:SqT K H t xs):SqT K H' t xs:=by
 rcases h with(h | ⟨o,h⟩) | h
 .exact .inl (.inl (p _ _ (dn h l.at_ (by intro z;cases z)) (dn h l.li (by intro z;cases z)) (dn h l.lb (by intro z;cases z)) h))
 .exact .inl (.inr ⟨o,p _ _ (dn h l.at_ (by intro z;cases z)) (dn h l.li (by intro z;cases z)) (dn h l.lb (by intro z;cases z)) h⟩)
 .exact .inr h
theorem cf.b3 {K:Frag}{C:Addr}{H H':Hp}{x dx i b:Addr}{js ts:List Addr}{is ks:List Ins}{bs:List Nat}(l:aW K C H x dx i b js is bs) (p:B3 x i b H H') (h:cf K H ts ks):cf K H' ts ks:=h.mono fun _ _ z=>p.tup l z
def xF (K:Frag) (C:Addr):Sp:=fun vs H Q _=>∃(H0:Hp) (x dx:Addr),vs=[.ref x]/\H x=some (.ins C dx [])/\H0 x=none/\ay H0 H/\
 ∀H' i b,H0 i=none->H0 b=none->ay H0 H'->aW K C H' x dx i b [] [] []->Q .non H'
def Da (K:Frag) (C:Addr):Sp:=fun vs H Q _=>∃(x dx i b:Addr) (js:List Addr) (is:List Ins) (bs:List Nat),vs=[.ref x]/\aW K C H x dx i b js is bs/\Q (.bl (decide (lnW is %8=0))) H
def xS (K:Frag) (C:Addr):Sp:=fun vs H Q _=>∃(x dx i b g:Addr) (js ts:List Addr) (is gs:List Ins) (bs:List Nat),vs=[.ref x,.ref g]/\aW K C H x dx i b js is bs/\SqT K H g (ts.map V.ref)/\cf K H ts gs/\(∀ kn∈gs,VI kn)/\gs.length<=100/\
 ∀H',ay H H'->Q (.bl (decide (lnW is %8+lnW gs<=8))) H'
def A0 (K:Frag) (C:Addr):Sp:=fun vs H Q _=>∃(x dx i b t:Addr) (js:List Addr) (is:List Ins) (kn:Ins) (bs:List Nat),vs=[.ref x,.ref t]/\aW K C H x dx i b js is bs/\SqT K H t (aE kn.1 kn.2)/\VI kn/\is.length < 1000/\
 ∀H',B3 x i b H H'->aW K C H' x dx i b (js++[t]) (is++[kn]) bs->Q .non H'
def wH (K:Frag) (C:Addr):Sp:=fun vs H Q _=>∃(x dx i b g:Addr) (js ts:List Addr) (is gs:List Ins) (bs:List Nat),vs=[.ref x,.ref g]/\aW K C H x dx i b js is bs/\SqT K H g (ts.map V.ref)/\cf K H ts gs/\(∀ kn∈gs,VI kn)/\is.length+gs.length<=1000/\bs.length < 1000/\
 ∀H',B3 x i b H H'->aW K C H' x dx i b (js++ts) (is++gs) (bs++[lnW is])->Q .non H'
def Am (K:Frag) (C:Addr):Sp:=fun vs H Q _=>∃(x dx i b:Addr) (js:List Addr) (is:List Ins) (bs:List Nat),vs=[.ref x]/\aW K C H x dx i b js is bs/\is.length<=900/\
 ∀(H':Hp) (js':List Addr),B3 x i b H H'->aW K C H' x dx i b js' (is++eB (lnW is)) bs->Q .non H'
theorem iG {C:Addr}(B:Bi mg) (c:gF K mg "LaidBlock" C) (n:bX K C) (D:cL K C):dD P w K mg base 1 C "is_at_bundle" dQ (Da K C):=by
 refine D.has c.cl iD (fun vs H Q E h=> ?_) (fun f cdv A outer s H vs Q E hr h=> ?_)
 .obtain⟨x,dx,i,b,js,is,bs,rfl,_⟩:=h
  rfl
 obtain⟨x,dx,i,b,js,is,bs,rfl,l,q⟩:=h;have hc:=c.cl;have n3:=n.length;have hat:=l.at_;refine⟨_,(ae (ah (pcE aG (aj cD (d4 (pv 0) (by rfl)) aa) aa))),?_⟩
 try dsimp only[aY]
 walk_at "g";have e:decide (V.int ((lnW is:Int) %8)=V.int 0)=decide (lnW is %8=0):=decide_eq_decide.mpr ⟨fun h=>by injection h with h;lia,fun h=>by rw[show(lnW is:Int) %8=0 by lia]⟩
 rw[e];exact q
theorem o_ {C:Addr}(B:Bi mg) (c:gF K mg "LaidBlock" C) (n:bX K C) (D:f6 K C) (aU:Has P w K mg base 1 "length_of" cy (Aq K)):dD P w K mg base 2 C "take" lQ (A0 K C):=by
 refine D.has c.cl pM (fun vs H Q E h=> ?_) (fun f cdv A outer s H vs Q E hr h=> ?_)
 .obtain⟨x,dx,i,b,t,js,is,kn,bs,rfl,_⟩:=h
  rfl
 obtain⟨x,dx,i,b,t,js,is,⟨k,ns⟩,bs,rfl,l,ht,hv,hl,q⟩:=h;have k19:k < 19:=hv.lt19;have hc:=c.cl;have n1:=n.instructions;have n3:=n.length;have hat:=l.at_;have hli:=l.li;have hz:(js.map V.ref).length < sizeLine:=by rw[List.length_map,l.ow.len];exact Nat.lt_of_lt_of_le hl (by decide)
 have hty:tyV K "list" (.ref i) H:= .inl ⟨rfl,_,SqL.of hli⟩;have p1:B3 x i b H (upd H i (.lst (js.map V.ref++[V.ref t]))):=(B3.refl H).ui;have ht1:=p1.tup l ht;have hat1:upd H i (.lst (js.map V.ref++[V.ref t])) x=some (.ins C dx (lfs i b (lnW is:Nat))):=by rw[az l.xi];exact hat
 refine⟨_,(ac (bj (fe PySem.F.plainAttrs_list PySem.F.slot_list_append PySem.F.type_list_append bJ (d4 (pv 0) (by rfl)) (pa1 (pv 1))))
   (ae (gv (pv 0) (aj aO (d4 (pv 0) (by rfl)) (pcH aU hr (pa1 (pv 1)))) (by rfl)))),?_⟩
 try dsimp only[aY]
 walk_at "g";have e:((lnW is:Int)+(if k=1 then 2 else 1))=(lnW (is++[(k,ns)]):Nat):=by rw[a8,dC];unfold bw;split <;> lia
 refine q _ p1.ux ⟨?_,?_,?_,l.ib,?_,fun u hu=> ?_⟩
 .rw[ad];show some (HO.ins C dx (lfs i b ((lnW is:Int)+(if k=1 then 2 else 1))))=_
  rw[e]
 .rw[az (Ne.symm l.xi),ad,List.map_append]
  rfl
 .rw[az (Ne.symm l.xb),az (Ne.symm l.ib)];exact l.lb
 .exact(show cf K _ [t] [(k,ns)] from⟨p1.ux.tup l ht,True.intro⟩).app (l.ow.b3 l p1.ux)
 .rcases List.mem_append.mp hu with hu | hu
  .exact l.va u hu
  .rw[List.mem_singleton.mp hu];exact hv
theorem eI {H H':Hp}{p:Addr}{o:HO}(hp:H p=none) (s:ay H H'):ay H (upd H' p o):=fun a u h=>by rw[az (aB h hp)];exact s a u h
theorem eD {α:Type}{l:List α}{j:Nat}{t:α}(h:l[j]? =some t):l.take (j+1)=l.take j++[t]:=by rw[List.take_succ,h];rfl
theorem lC {C:Addr}(B:Bi mg) (c:gF K mg "LaidBlock" C) (n:bX K C) (D:dG K C):dD P w K mg base 1 C "__init__" dQ (xF K C):=by
 refine D.has c.cl lz (fun vs H Q E h=> ?_) (fun f cdv A outer s H vs Q E hr h=> ?_)
 .obtain⟨H0,x,dx,rfl,_⟩:=h
  rfl
 obtain⟨H0,x,dx,rfl,hx,x0,sm,q⟩:=h;have hc:=c.cl;have n1:=n.instructions;have n2:=n.begins;have n3:=n.length
 refine⟨_,(ac (gv (pv 0) (aT cY) (by rfl))
   (ac (gv (pv 0) (aT cY) (by rfl))
   (ae (gv (pv 0) aa (by rfl))))),?_⟩
 try dsimp only[aY]
 walk_at "g";intro i hi;have xi:x≠i:=aB hx hi;have hx1:upd H i (.lst []) x=some (.ins C dx []):=by rw[az xi];exact hx
 walk_at "g";intro b hb;have bx:b≠x:=fun z=>by rw[z,ad] at hb;cases hb
 rw[az bx] at hb;have bi:b≠i:=fun z=>by rw[z,ad] at hb;cases hb
 rw[az bi] at hb;have hx2:upd (upd (upd H i (.lst [])) x (.ins C dx (fu "instructions" (.ref i) []))) b (.lst []) x=some (.ins C dx [("instructions",.ref i)]):=by
  rw[az (Ne.symm bx),ad]
  rfl
 walk_at "g";refine q _ i b (sm.free hi) (sm.free hb) (fun a o h=> ?_) ⟨?_,?_,?_,Ne.symm bi,True.intro,fun t ht=>by cases ht⟩
 .have h1:=sm a o h;have a1:=aB h x0;rw[az a1,az a1,az (aB h1 hb),az a1,az (aB h1 hi)];exact h1
 .rw[ad]
  rfl
 .rw[az (Ne.symm xi),az (Ne.symm xi),az (Ne.symm bi),az (Ne.symm xi),ad]
  rfl
 .rw[az bx,az bx,ad]
  rfl
theorem jx {C:Addr}(B:Bi mg) (c:gF K mg "LaidBlock" C) (n:bX K C) (D:de K C) (cw:dD P w K mg base 2 C "take" lQ (A0 K C)):
  dD P w K mg base 3 C "take_group" lv (wH K C):=by
 refine D.has c.cl ff (fun vs H Q E h=> ?_) (fun f cdv A outer s H vs Q E hr h=> ?_)
 .obtain⟨x,dx,i,b,g,js,ts,is,gs,bs,rfl,_⟩:=h
  rfl
 obtain⟨x,dx,i,b,g,js,ts,is,gs,bs,rfl,l,hg,how,hva,hl,hbl,q⟩:=h;have hc:=c.cl;have n2:=n.begins;have n3:=n.length;have hat:=l.at_;have hlb:=l.lb;have hz:(bs.map vn).length < sizeLine:=by rw[List.length_map];exact Nat.lt_of_lt_of_le hbl (by decide)
 have hty:tyV K "list" (.ref b) H:= .inl ⟨rfl,_,SqL.of hlb⟩;have p1:B3 x i b H (upd H b (.lst (bs.map vn++[V.int (lnW is:Nat)]))):=(B3.refl H).ub;have l1:aW K C (upd H b (.lst (bs.map vn++[V.int (lnW is:Nat)]))) x dx i b js is (bs++[lnW is]):=by
  refine⟨?_,?_,?_,l.ib,l.ow.b3 l p1,l.va⟩
  .rw[az l.xb];exact l.at_
  .rw[az l.ib];exact l.li
  .rw[ad,List.map_append];rfl
 have hg1:=p1.tup l hg;have ho1:=how.b3 l p1
 refine⟨_,(ac (bj (fe PySem.F.plainAttrs_list PySem.F.slot_list_append PySem.F.type_list_append bJ (d4 (pv 0) (by rfl)) (pa1 (d4 (pv 0) (by rfl)))))
   (ae (d8 PassesOwn.never (by rfl) (dB (lK (pv 1))) (aP (i:=2) ff.nd (by rfl) (by left;rfl)) (ae (bj (eA (cw.mono (by omega)) hr (pv 0) (pa1 (pv 2)))))))),?_⟩
 try dsimp only[aY]
 walk_at "g";generalize upd H b (.lst (bs.map vn++[V.int (lnW is:Nat)]))=H1 at*;refine⟨sH (xs:=ts.map V.ref) (fun j Z H'=>∃y,Z=[some (.ref x),some (.ref g),y]/\aA (B3 x i b H1 H')/\aW K C H' x dx i b (js++ts.take j) (is++gs.take j) (bs++[lnW is])) ⟨_,rfl,⟨B3.refl _⟩,by simpa using l1⟩ ?_ ?_ ?_⟩
 .rintro j Z H' _ ⟨y,rfl,⟨p⟩,_⟩
  exact p.tup l1 hg1
 .rintro j u Z H' hj ⟨y,rfl,⟨p⟩,l2⟩
  obtain⟨t,et,rfl⟩:=bv hj;obtain⟨kn,ek,ht⟩:=ho1.get et;have ht2:=p.tup l1 ht;have hv2:=hva kn (List.mem_of_getElem? ek);have hlt:j < gs.length:=(List.getElem?_eq_some_iff.mp ek).1;have hlen:(is++gs.take j).length < 1000:=by rw[List.length_append,List.length_take];lia
  have hat2:=l2.at_;walk_at "g";intro H3 p3 l3;refine⟨_,rfl,⟨p.trans p3⟩,?_⟩
  rw[List.append_assoc,List.append_assoc, <-eD et, <-eD ek] at l3;exact l3
 .rintro Z H' ⟨y,rfl,⟨p⟩,l2⟩
  rw[List.length_map,List.take_length,how.len,List.take_length] at l2;exact q _ (p1.trans p) l2
theorem Cd {is:List Ins}{m:Nat}(h:lnW (is++List.replicate m nop) %8≠0) (hm:m<=(8 - lnW is %8) %8):m+1<=(8 - lnW is %8) %8:=by
 rw[a8,sZ] at h
 lia
theorem Ep {is:List Ins}{m:Nat}(h:lnW (is++List.replicate m nop) %8=0) (hm:m<=(8 - lnW is %8) %8):m=(8 - lnW is %8) %8:=by
 rw[a8,sZ] at h
 lia
theorem i_ {C:Addr}(B:Bi mg) (c:gF K mg "LaidBlock" C) (n:bX K C) (D:cM K C) (cw:dD P w K mg base 2 C "take" lQ (A0 K C))
  (bc:dD P w K mg base 1 C "is_at_bundle" dQ (Da K C)):dD P w K mg base 3 C "fill_bundle" dQ (Am K C):=by
 refine D.has c.cl jd (fun vs H Q E h=> ?_) (fun f cdv A outer s H vs Q E hr h=> ?_)
 .obtain⟨x,dx,i,b,js,is,bs,rfl,_⟩:=h
  rfl
 obtain⟨x,dx,i,b,js,is,bs,rfl,l,hl,q⟩:=h;refine⟨_,(ae (aL (gW PassesOwn.never (gx (cI (jD (bc.mono (by omega)) hr (pv 0)))) (ae (bj (eA (cw.mono (by omega)) hr (pv 0) (pa1 (aw (bF (by rfl)))))))))),?_⟩
 try dsimp only[aY]
 refine⟨?_⟩
 refine⟨fun m Z H'=>Z=[some (.ref x)]/\aA (B3 x i b H H')/\∃(js':List Addr) (e:Nat),e<=(8 - lnW is %8) %8/\aW K C H' x dx i b js' (is++List.replicate e nop) bs/\m=(8 - lnW is %8) %8 - e,⟨_,rfl,⟨B3.refl _⟩,js,0,Nat.zero_le _,by simpa using l,rfl⟩,?_⟩
 rintro m Z H' ⟨rfl,⟨p⟩,js',e,he,l',rfl⟩
 have hat:=l'.at_;walk_at "g"
 by_cases c0:lnW (is++List.replicate e nop) %8=0
 .refine yv c0 ?_
  have ee:=Ep c0 he;rw[ee] at l';exact q _ js' p l'
 .rw[decide_eq_false c0];have ee:=Cd c0 he;refine wk ⟨_,fun _ _ z=>z,?_⟩
  walk_at "g";intro t ht;have ow:SqT K (upd H' t (.tup [.str "more",.int 0,.int 0,.int 0])) t (aE nop.1 nop.2):=SqT.of ad;have l2:=l'.same (af ht (.tup [.str "more",.int 0,.int 0,.int 0]));have hat2:=l2.at_;have hv:=we;have hlen:(is++List.replicate e nop).length < 1000:=by rw[List.length_append,List.length_replicate];lia
  walk_at "g";intro H3 p3 l3;rw[List.append_assoc, <-List.replicate_succ'] at l3;exact⟨_,by lia,rfl,⟨(p.trans (B3.of (af ht _))).trans p3⟩,js'++[t],e+1,ee,l3,rfl⟩
theorem Ab (gs:List Ins):(gs.map fun kn=>((bw kn.1:Nat):Int)).sum=(lnW gs:Nat):=by
 induction gs with
 | nil=>rfl
 | cons kn r ih=>rw[List.map_cons,List.sum_cons,ih,bo];lia
theorem kI {C:Addr}(B:Bi mg) (c:gF K mg "LaidBlock" C) (n:bX K C) (D:dw K C) (aU:Has P w K mg base 1 "length_of" cy (Aq K)):
  dD P w K mg base 2 C "has_space" lv (xS K C):=by
 refine D.has c.cl kN (fun vs H Q E h=> ?_) (fun f cdv A outer s H vs Q E hr h=> ?_)
 .obtain⟨x,dx,i,b,g,js,ts,is,gs,bs,rfl,_⟩:=h
  rfl
 obtain⟨x,dx,i,b,g,js,ts,is,gs,bs,rfl,l,hg,how,hva,hl,q⟩:=h;have hc:=c.cl;have n3:=n.length;have hat:=l.at_;refine⟨_,(ae (ah (pcE Dq (aj aO (aj cD (d4 (pv 0) (by rfl)) aa) (aF (D_ (by rfl)) (by rfl) B.sum Gn (pa1 (kY (by rfl) (by rfl) (by rfl) (bk (sc0:=ag cB) (N0:=["self","group"]) ["instruction"] 1 []) (lK (pv 1)) (fun _ _ _ _=>(aP (i:=0) (show List.Nodup (["instruction"]:List Str) by decide) (by rfl) (by left;rfl))) (fun _ _ _ _=>(pcH aU hr (pa1 (pv 0)))))))) aa))),?_⟩
 try dsimp only[aY]
 walk_at "g";intro p hp;refine o4 (xs:=ts.map V.ref) (fun j ys H'=>aA (ay H H')/\H' p=some (.lst ys)/\ys=((gs.take j).map fun kn=>((bw kn.1:Nat):Int)).map V.int) ⟨⟨af hp _⟩,ad,rfl⟩ ?_ ?_ ?_
 .rintro j ys H' ⟨⟨s1⟩,_⟩
  exact s1.tup hg
 .rintro j u ys H' F hF hj ⟨⟨s1⟩,hp1,rfl⟩
  obtain⟨t,et,rfl⟩:=bv hj;obtain⟨⟨k,ns⟩,ek,ht⟩:=how.get et;have ht1:=s1.tup ht;have k19:k < 19:=(hva _ (List.mem_of_getElem? ek)).lt19;have hlt:=(List.getElem?_eq_some_iff.mp ek).1;have hz:(((gs.take j).map fun kn=>((bw kn.1:Nat):Int)).map V.int).length < sizeLine:=by
   rw[List.length_map,List.length_map,List.length_take];exact Nat.lt_of_lt_of_le (show min j gs.length < 100 by lia) (by decide)
  walk_at "g";refine hF _ _ ⟨⟨eI hp s1⟩,ad,?_⟩
  rw[eD ek,List.map_append,List.map_append];show _++[V.int (if k=1 then 2 else 1)]=_++[V.int ((bw k:Nat):Int)]
  unfold bw
  split <;> rfl
 .rintro ys H' ⟨⟨s1⟩,hp1,rfl⟩
  rw[List.length_map,how.len,List.take_length] at hp1;have hq:SqL K H' p ((gs.map fun kn=>((bw kn.1:Nat):Int)).map V.int):=SqL.of hp1
  refine⟨p,_,rfl,hq,fun j hj=> ?_,?_⟩
  .rw[List.length_map] at hj;rw[<- List.map_take,Ab];have h1:(gs.map fun kn=>((bw kn.1:Nat):Int)).getD j 0=((bw gs[j].1:Nat):Int):=by
    rw[List.getD_eq_getElem?_getD,List.getElem?_map,List.getElem?_eq_getElem hj]
    rfl
   rw[h1];have h2:=gJ gs[j].1;have h3:=Ec (gs.take (j+1));rw[List.length_take] at h3;unfold InLong
   lia
  rw[Ab];walk_at "g";have e:decide ((lnW is:Int) %8+(lnW gs:Nat)<=8)=decide (lnW is %8+lnW gs<=8):=decide_eq_decide.mpr (by lia)
  show Q (V.bl (decide ((lnW is:Int) %8+(lnW gs:Nat)<=8))) H'
  rw[e];exact q _ s1
theorem vW:∀k,k < 19->(V.str (aI k)=V.str "load"↔k=11):=by decide +kernel
theorem uw:∀k,k < 19->(V.str (aI k)=V.str "store"↔k=12):=by decide +kernel
theorem x5:∀k,k < 19->(V.str (aI k)=V.str "through"↔k=15):=by decide +kernel
theorem Cn:∀k,k < 19->(V.str (aI k)=V.str "jump"↔k=13):=by decide +kernel
theorem yr:∀k,k < 19->(V.str (aI k)=V.str "jumpif"↔k=14):=by decide +kernel
theorem aM.acc {bx mo:Int}{k:Nat}{ns:List Int}(h:aM bx mo k ns) (hk:k=11\/k=12):∃a b n,ns=[a,b,n]/\0<=a/\a < bx/\0<=b/\b < bx/\ -131072<=n/\n < 131072:=by
 rcases h with⟨e,rfl⟩|⟨e,x,v,rfl,x0,x1,v0,v1⟩|⟨h1,h2,x,y,z,rfl,x0,x1,y0,y1,z0,z1⟩|⟨h1,h2,x,y,z,rfl,x0,x1,y0,y1,z0,z1⟩|⟨hk,z,rfl,z0,z1⟩|⟨e,x,z,rfl,x0,x1,z0,z1⟩|⟨e,y,rfl,y0,y1⟩|⟨hk,x,y,rfl,x0,x1,y0,y1⟩
 all_goals first | lia | exact⟨_,_,_,rfl,by assumption,by assumption,by assumption,by assumption,by assumption,by assumption⟩
theorem aM.thr {bx mo:Int}{k:Nat}{ns:List Int}(h:aM bx mo k ns) (hk:k=15):∃b,ns=[b]/\0<=b/\b < bx:=by
 rcases h with⟨e,rfl⟩|⟨e,x,v,rfl,x0,x1,v0,v1⟩|⟨h1,h2,x,y,z,rfl,x0,x1,y0,y1,z0,z1⟩|⟨h1,h2,x,y,z,rfl,x0,x1,y0,y1,z0,z1⟩|⟨hk,z,rfl,z0,z1⟩|⟨e,x,z,rfl,x0,x1,z0,z1⟩|⟨e,y,rfl,y0,y1⟩|⟨hk,x,y,rfl,x0,x1,y0,y1⟩
 all_goals first | lia | exact⟨_,rfl,by assumption,by assumption⟩
theorem aM.jmp {bx mo:Int}{k:Nat}{ns:List Int}(h:aM bx mo k ns) (hk:k=13):∃n,ns=[n]/\0<=n/\n < mo:=by
 rcases h with⟨e,rfl⟩|⟨e,x,v,rfl,x0,x1,v0,v1⟩|⟨h1,h2,x,y,z,rfl,x0,x1,y0,y1,z0,z1⟩|⟨h1,h2,x,y,z,rfl,x0,x1,y0,y1,z0,z1⟩|⟨hk,z,rfl,z0,z1⟩|⟨e,x,z,rfl,x0,x1,z0,z1⟩|⟨e,y,rfl,y0,y1⟩|⟨hk,x,y,rfl,x0,x1,y0,y1⟩
 all_goals first | lia | exact⟨_,rfl,by assumption,by assumption⟩
theorem aM.jif {bx mo:Int}{k:Nat}{ns:List Int}(h:aM bx mo k ns) (hk:k=14):∃a n,ns=[a,n]/\0<=a/\a < bx/\0<=n/\n < mo:=by
 rcases h with⟨e,rfl⟩|⟨e,x,v,rfl,x0,x1,v0,v1⟩|⟨h1,h2,x,y,z,rfl,x0,x1,y0,y1,z0,z1⟩|⟨h1,h2,x,y,z,rfl,x0,x1,y0,y1,z0,z1⟩|⟨hk,z,rfl,z0,z1⟩|⟨e,x,z,rfl,x0,x1,z0,z1⟩|⟨e,y,rfl,y0,y1⟩|⟨hk,x,y,rfl,x0,x1,y0,y1⟩
 all_goals first | lia | exact⟨_,_,rfl,by assumption,by assumption,by assumption,by assumption⟩
def Ek (K:Frag):Sp:=fun vs H Q _=>∃(t:Addr) (k:Nat) (ns:List Int),vs=[.ref t]/\k < 19/\SqT K H t (aE k ns)/\Q (.bl (decide (k=11\/k=12))) H
def DC (K:Frag):Sp:=fun vs H Q _=>∃(t:Addr) (k:Nat) (a:Int) (ns:List Int),vs=[.ref t]/\SqT K H t (aE k (a::ns))/\∀p,H p=none->Q (.ref p) (upd H p (.tup (aE k [a,6,0])))
def GY (K:Frag):Sp:=fun vs H Q _=>∃(t:Addr) (kn:Ins),vs=[.ref t]/\SqT K H t (aE kn.1 kn.2)/\VI kn/\
 ∀(g:Addr) (ts:List Addr) (H':Hp),ay H H'->SqT K H' g (ts.map V.ref)->cf K H' ts (grp kn)->Q (.ref g) H'
theorem xu (B:Bi mg) (D:rB K mg):Has P w K mg base 1 "is_access" cy (Ek K):=by
 refine D.has w4 (fun vs H Q E h=> ?_) (fun f cdv A outer s H vs Q E hr h=> ?_)
 .obtain⟨t,k,ns,rfl,_⟩:=h
  rfl
 obtain⟨t,k,ns,rfl,hk,ht,q⟩:=h;have i0:atI (aE k ns) 0=some (.str (aI k)):=lR;refine⟨_,(ae (ah (pH (pcE aG (pX ai (pv 0) aa) au) (iZ (pcE aG (pX ai (pv 0) aa) au))))),?_⟩
 try dsimp only[aY]
 walk_at "g";refine aV (fun c=> ?_) (fun c=> ?_)
 .rw[decide_eq_true (show k=11\/k=12 from .inl ((vW k hk).mp c))] at q;exact q
 walk_at "g";have e:decide (V.str (aI k)=V.str "store")=decide (k=11\/k=12):=decide_eq_decide.mpr ⟨fun z=> .inr ((uw k hk).mp z),fun z=>z.elim (fun z=>absurd ((vW k hk).mpr z) c) (fun z=>(uw k hk).mpr z)⟩
 rw[e];exact q
theorem o6 (B:Bi mg) (D:ju K mg):Has P w K mg base 1 "access_by_mask" cy (DC K):=by
 refine D.has pK (fun vs H Q E h=> ?_) (fun f cdv A outer s H vs Q E hr h=> ?_)
 .obtain⟨t,k,a,ns,rfl,_⟩:=h
  rfl
 obtain⟨t,k,a,ns,rfl,ht,q⟩:=h;have i0:atI (aE k (a::ns)) 0=some (.str (aI k)):=lR;have i1:atI (aE k (a::ns)) 1=some (.int a):=AL;refine⟨_,(ae (ah (aw (pa4 (pX ai (pv 0) aa) (pX ai (pv 0) aa) aa aa)))),?_⟩
 try dsimp only[aY]
 walk_at "g";exact q
theorem rX (B:Bi mg) (D:mP K mg) (cF:Has P w K mg base 1 "is_access" cy (Ek K)) (aR:Has P w K mg base 1 "access_by_mask" cy (DC K)):
  Has P w K mg base 2 "masked_group" cy (GY K):=by
 refine D.has bD (fun vs H Q E h=> ?_) (fun f cdv A outer s H vs Q E hr h=> ?_)
 .obtain⟨t,kn,rfl,_⟩:=h
  rfl
 obtain⟨t,⟨k,ns⟩,rfl,ht,hv,q⟩:=h;dsimp only at ht
 by_cases h15:k=15
 .obtain⟨b,rfl,b0,b1⟩:=hv.thr h15;subst h15;have i0:atI (aE 15 [b]) 0=some (.str "through"):=rfl;have i1:atI (aE 15 [b]) 1=some (.int b):=rfl
  refine⟨_,(ac (ax (pcT aG (pX ai (pv 0) aa) au) (ae (ah (aw (pa2 (aw (pa3 au aa (pX ai (pv 0) aa))) (aw (bF (by rfl))))))) al)
   (ac (ax (gx (cI (pcH cF hr (pa1 (pv 0))))) (ae (ah (aw (pa1 (pv 0))))) al)
   (ac (psS 1 bD.nd (pX ai (pv 0) aa))
   (ac (psS 2 bD.nd (pX ai (pv 0) aa))
   (ac (ax (pcT aG (pv 2) aa) (ae (ah (aw (pa2 (aw (pa3 au aa (pv 1))) (pcH aR hr (pa1 (pv 0))))))) al)
   (ae (ah (aw (pa3 (aw (pa4 au aa (pv 1) (pv 2))) (aw (bF (by rfl))) (pcH aR hr (pa1 (pv 0)))))))))))),?_⟩
  try dsimp only[aY]
  walk_at "g";intro t1 h1;walk_at "g";intro t2 h2;walk_at "g";intro g hg;have s1:=af h1 (.tup [.str "aim",.int 6,.int b]);have s2:=af h2 (.tup [.str "through",.int 6]);have s3:=af hg (.tup [.ref t1,.ref t2]);exact q g [t1,t2] _ ((s1.trans s2).trans s3) (SqT.of ad) ⟨s3.tup (s2.tup (SqT.of ad)),s3.tup (SqT.of ad),True.intro⟩
 by_cases h11:k=11
 .obtain⟨a,b,n,rfl,a0,a1,b0,b1,n0,n1⟩:=hv.acc (.inl h11);subst h11;have i0:atI (aE 11 [a,b,n]) 0=some (.str "load"):=rfl;have i2:atI (aE 11 [a,b,n]) 2=some (.int b):=rfl;have i3:atI (aE 11 [a,b,n]) 3=some (.int n):=rfl;have k19:11 < 19:=by decide
  refine⟨_,(ac (ax (pcT aG (pX ai (pv 0) aa) au) (ae (ah (aw (pa2 (aw (pa3 au aa (pX ai (pv 0) aa))) (aw (bF (by rfl))))))) al)
   (ac (ax (gx (cI (pcH cF hr (pa1 (pv 0))))) (ae (ah (aw (pa1 (pv 0))))) al)
   (ac (psS 1 bD.nd (pX ai (pv 0) aa))
   (ac (psS 2 bD.nd (pX ai (pv 0) aa))
   (ac (ax (pcT aG (pv 2) aa) (ae (ah (aw (pa2 (aw (pa3 au aa (pv 1))) (pcH aR hr (pa1 (pv 0))))))) al)
   (ae (ah (aw (pa3 (aw (pa4 au aa (pv 1) (pv 2))) (aw (bF (by rfl))) (pcH aR hr (pa1 (pv 0)))))))))))),?_⟩
  try dsimp only[aY]
  walk_at "g";refine aV (fun c=> ?_) (fun c=> ?_)
  .have n0:n=0:=by injection c
   subst n0;walk_at "g";intro t1 h1;have ht1:=(af h1 (.tup [.str "fit",.int 6,.int b])).tup ht;walk_at "g";intro t2 h2;walk_at "g";intro g hg;have s1:=af h1 (.tup [.str "fit",.int 6,.int b]);have s2:=af h2 (.tup (aE 11 [a,6,0]));have s3:=af hg (.tup [.ref t1,.ref t2]);exact q g [t1,t2] _ ((s1.trans s2).trans s3) (SqT.of ad) ⟨s3.tup (s2.tup (SqT.of ad)),s3.tup (SqT.of ad),True.intro⟩
  .have n0:¬n=0:=fun z=>c (by rw[z])
   have eg:grp (11,[a,b,n])=[(10,[6,b,n]),(16,[6,6]),(11,[a,6,0])]:=by
    show(if n=0 then _ else _)=_
    rw[if_neg n0]
    rfl
   rw[eg] at q;walk_at "g";intro t1 h1;have ht1:=(af h1 (.tup [.str "more",.int 6,.int b,.int n])).tup ht;walk_at "g";intro t2 h2;have ht2:=(af h2 (.tup [.str "fit",.int 6,.int 6])).tup ht1;walk_at "g";intro t3 h3;walk_at "g";intro g hg;have s1:=af h1 (.tup [.str "more",.int 6,.int b,.int n]);have s2:=af h2 (.tup [.str "fit",.int 6,.int 6]);have s3:=af h3 (.tup (aE 11 [a,6,0]));have s4:=af hg (.tup [.ref t1,.ref t2,.ref t3]);exact q g [t1,t2,t3] _ (((s1.trans s2).trans s3).trans s4) (SqT.of ad) ⟨s4.tup (s3.tup (s2.tup (SqT.of ad))),s4.tup (s3.tup (SqT.of ad)),s4.tup (SqT.of ad),True.intro⟩
 by_cases h12:k=12
 .obtain⟨a,b,n,rfl,a0,a1,b0,b1,n0,n1⟩:=hv.acc (.inr h12);subst h12;have i0:atI (aE 12 [a,b,n]) 0=some (.str "store"):=rfl;have i2:atI (aE 12 [a,b,n]) 2=some (.int b):=rfl;have i3:atI (aE 12 [a,b,n]) 3=some (.int n):=rfl;have k19:12 < 19:=by decide
  refine⟨_,(ac (ax (pcT aG (pX ai (pv 0) aa) au) (ae (ah (aw (pa2 (aw (pa3 au aa (pX ai (pv 0) aa))) (aw (bF (by rfl))))))) al)
   (ac (ax (gx (cI (pcH cF hr (pa1 (pv 0))))) (ae (ah (aw (pa1 (pv 0))))) al)
   (ac (psS 1 bD.nd (pX ai (pv 0) aa))
   (ac (psS 2 bD.nd (pX ai (pv 0) aa))
   (ac (ax (pcT aG (pv 2) aa) (ae (ah (aw (pa2 (aw (pa3 au aa (pv 1))) (pcH aR hr (pa1 (pv 0))))))) al)
   (ae (ah (aw (pa3 (aw (pa4 au aa (pv 1) (pv 2))) (aw (bF (by rfl))) (pcH aR hr (pa1 (pv 0)))))))))))),?_⟩
  try dsimp only[aY]
  walk_at "g";refine aV (fun c=> ?_) (fun c=> ?_)
  .have n0:n=0:=by injection c
   subst n0;walk_at "g";intro t1 h1;have ht1:=(af h1 (.tup [.str "fit",.int 6,.int b])).tup ht;walk_at "g";intro t2 h2;walk_at "g";intro g hg;have s1:=af h1 (.tup [.str "fit",.int 6,.int b]);have s2:=af h2 (.tup (aE 12 [a,6,0]));have s3:=af hg (.tup [.ref t1,.ref t2]);exact q g [t1,t2] _ ((s1.trans s2).trans s3) (SqT.of ad) ⟨s3.tup (s2.tup (SqT.of ad)),s3.tup (SqT.of ad),True.intro⟩
  .have n0:¬n=0:=fun z=>c (by rw[z])
   have eg:grp (12,[a,b,n])=[(10,[6,b,n]),(16,[6,6]),(12,[a,6,0])]:=by
    show(if n=0 then _ else _)=_
    rw[if_neg n0]
    rfl
   rw[eg] at q;walk_at "g";intro t1 h1;have ht1:=(af h1 (.tup [.str "more",.int 6,.int b,.int n])).tup ht;walk_at "g";intro t2 h2;have ht2:=(af h2 (.tup [.str "fit",.int 6,.int 6])).tup ht1;walk_at "g";intro t3 h3;walk_at "g";intro g hg;have s1:=af h1 (.tup [.str "more",.int 6,.int b,.int n]);have s2:=af h2 (.tup [.str "fit",.int 6,.int 6]);have s3:=af h3 (.tup (aE 12 [a,6,0]));have s4:=af hg (.tup [.ref t1,.ref t2,.ref t3]);exact q g [t1,t2,t3] _ (((s1.trans s2).trans s3).trans s4) (SqT.of ad) ⟨s4.tup (s3.tup (s2.tup (SqT.of ad))),s4.tup (s3.tup (SqT.of ad)),s4.tup (SqT.of ad),True.intro⟩
 have k19:k < 19:=hv.lt19;have i0:atI (aE k ns) 0=some (.str (aI k)):=lR;have eg:grp (k,ns)=[(k,ns)]:=by
  unfold grp;rw[if_neg h15,if_neg (by show ¬(k=11\/k=12);lia)]
 rw[eg] at q
 refine⟨_,(ac (ax (pcT aG (pX ai (pv 0) aa) au) (ae (ah (aw (pa2 (aw (pa3 au aa (pX ai (pv 0) aa))) (aw (bF (by rfl))))))) al)
   (ac (ax (gx (cI (pcH cF hr (pa1 (pv 0))))) (ae (ah (aw (pa1 (pv 0))))) al)
   (ac (psS 1 bD.nd (pX ai (pv 0) aa))
   (ac (psS 2 bD.nd (pX ai (pv 0) aa))
   (ac (ax (pcT aG (pv 2) aa) (ae (ah (aw (pa2 (aw (pa3 au aa (pv 1))) (pcH aR hr (pa1 (pv 0))))))) al)
   (ae (ah (aw (pa3 (aw (pa4 au aa (pv 1) (pv 2))) (aw (bF (by rfl))) (pcH aR hr (pa1 (pv 0)))))))))))),?_⟩
 try dsimp only[aY]
 walk_at "g";refine d3 (fun z=>h15 ((x5 k k19).mp z)) ?_
 walk_at "g";rw[decide_eq_false (show ¬(k=11\/k=12) by lia)]
 refine wk ?_
 walk_at "g";intro g hg;exact q g [t] _ (af hg _) (SqT.of ad) ⟨(af hg _).tup ht,True.intro⟩
def GBk (K:Frag) (H:Hp) (blk:Addr) (b:List Ins):Prop:=∃ts:List Addr,SqT K H blk (ts.map V.ref)/\cf K H ts b
theorem GBk.same {K:Frag}{H H':Hp}{blk:Addr}{b:List Ins}(s:ay H H') (h:GBk K H blk b):GBk K H' blk b:=by
 obtain⟨ts,h1,h2⟩:=h;exact⟨ts,s.tup h1,h2.same s⟩
def FN (K:Frag) (C:Addr):Sp:=fun vs H Q _=>∃(blk:Addr) (bk:List Ins),vs=[.ref blk]/\GBk K H blk bk/\(∀ kn∈bk,VI kn)/\bk.length<=30/\
 ∀(x dx i b:Addr) (js:List Addr) (H':Hp),ay H H'->H x=none->H i=none->H b=none->aW K C H' x dx i b js (cz bk).1 (cz bk).2->Q (.ref x) H'
theorem sy {C:Addr}(B:Bi mg) (aZ:gF K mg "LaidBlock" C) (D:l_ K mg) (bI:dD P w K mg base 1 C "__init__" dQ (xF K C)) (cx:Has P w K mg base 2 "masked_group" cy (GY K))
  (bA:dD P w K mg base 2 C "has_space" lv (xS K C)) (bh:dD P w K mg base 3 C "fill_bundle" dQ (Am K C)) (bu:dD P w K mg base 3 C "take_group" lv (wH K C)):
  Has P w K mg base 4 "masked_block" nU (FN K C):=by
 refine D.has eF (fun vs H Q E h=> ?_) (fun f cdv A outer s H vs Q E hr h=> ?_)
 .obtain⟨blk,bk,rfl,_⟩:=h
  rfl
 obtain⟨blk,bk,rfl,gb,hva,h30,q⟩:=h;obtain⟨ts,hts,hall⟩:=id gb
 refine⟨_,(ac (psS 1 eF.nd (vU aZ (bI.mono (by omega)) hr (by rfl)))
   (ac (d8 PassesOwn.never (by rfl) (dB (lK (pv 0))) (aP (i:=2) eF.nd (by rfl) (by left;rfl)) (ac (psS 3 eF.nd (pcH cx hr (pa1 (pv 2))))
   (ac (aL (bn (ax (gx (cI (eA (bA.mono (by omega)) hr (pv 1) (pa1 (pv 3))))) (ae (bj (jD (bh.mono (by omega)) hr (pv 1)))) al)))
   (ae (bj (eA (bu.mono (by omega)) hr (pv 1) (pa1 (pv 3))))))))
   (ae (ah (pv 1))))),?_⟩
 try dsimp only[aY]
 walk_at "g";intro x dx hx hdx hne;refine⟨H,x,dx,rfl,ad,hx,eI hx (af hdx _),?_⟩
 intro H1 i b hi hb s1 l1;refine⟨rfl,?_⟩
 have hts1:=s1.tup hts;walk_at "g"
 refine⟨sH (xs:=ts.map V.ref) (fun j Z H'=>∃y z,Z=[some (.ref blk),some (.ref x),y,z]/\aA (ay H H')/\∃js,aW K C H' x dx i b js (cz (bk.take j)).1 (cz (bk.take j)).2)
  ⟨_,_,rfl,⟨s1⟩,[],by simpa [cz] using l1⟩ ?_ ?_ ?_⟩
 .rintro j Z H' _ ⟨y,z,rfl,⟨s2⟩,_⟩
  exact s2.tup hts
 .rintro j u Z H' hj ⟨y,z,rfl,⟨s2⟩,js,l2⟩
  obtain⟨t,et,rfl⟩:=bv hj;obtain⟨kn,ek,ht⟩:=hall.get et;have hlt:j < bk.length:=(List.getElem?_eq_some_iff.mp ek).1;have ht2:=s2.tup ht;have hv2:=hva kn (List.mem_of_getElem? ek);have hgv:=qw hv2;have hgl:=kZ kn;have hgf:=BP kn;have hlj:=nE bk j (by lia)
  have hbs:=pP bk j (by lia)
  have hls:=gP ek;have hjl:(cz (bk.take j)).1.length<=200:=by
   have:=Ap (cz (bk.take j)).1
   split at hlj <;> lia
  generalize cz (bk.take j)=st at*;walk_at "g";intro g us H3 s3 hg3 how3;generalize grp kn=gs at*;have l3:=l2.same s3;have hat3:=l3.at_;have h100:gs.length<=100:=by lia
  walk_at "g";refine⟨⟨fun Z' H4=>Z'=[some (.ref blk),some (.ref x),some (.ref t),some (.ref g)]/\aA (ay H H4)/\SqT K H4 g (us.map V.ref)/\cf K H4 us gs/\∃js',aW K C H4 x dx i b js' (ba st.1 gs) st.2,?_,?_⟩⟩
  .walk_at "g";intro H4 s4;have l4:=l3.same s4;have hat4:=l4.at_;walk_at "g"
   by_cases c:lnW st.1 %8+lnW gs<=8
   .refine yv c ?_
    refine⟨rfl,⟨(s2.trans s3).trans s4⟩,s4.tup hg3,how3.same s4,js,?_⟩
    unfold ba;rw[if_pos c];exact l4
   .rw[decide_eq_false c];refine wk ?_
    have h900:st.1.length<=900:=by lia
    walk_at "g";intro H5 js' p5 l5;refine⟨rfl,⟨B3.same ((s2.trans s3).trans s4) hx hi hb p5⟩,p5.tup l4 (s4.tup hg3),(how3.same s4).b3 l4 p5,js',?_⟩
    unfold ba;rw[if_neg c];exact l5
  .rintro Z' H4 ⟨rfl,⟨s4⟩,hg4,how4,js',l4⟩
   have hat4:=l4.at_;have hbl:(ba st.1 gs).length<=st.1.length+8:=by
    unfold ba
    split
    .lia
    .rw[List.length_append];unfold eB;rw[List.length_replicate]
     lia
   have hk1:(ba st.1 gs).length+gs.length<=1000:=by lia
   have hk2:st.2.length < 1000:=by lia
   walk_at "g";intro H5 p5 l5;refine⟨_,_,rfl,⟨B3.same s4 hx hi hb p5⟩,js'++us,?_⟩
   rw[hls];exact l5
 .rintro Z H' ⟨y,z,rfl,⟨s2⟩,js,l2⟩
  rw[List.length_map,hall.len,List.take_length] at l2;walk_at "g";exact q x dx i b js H' s2 hx hi hb l2
def iV (n b:Nat):Prop:=n<=2^b/\∀j,j < b->2^j < n
def Bl:Sp:=fun vs H Q _=>∃n:Nat,vs=[.int n]/\n<=1048576/\∀b,iV n b->Q (.int b) H
def Gb (K:Frag) (C:Addr):Sp:=fun vs H Q _=>∃(x dx i b:Addr) (js:List Addr) (is:List Ins) (bs:List Nat),vs=[.ref x]/\aW K C H x dx i b js is bs/\Q (.int ((lnW is+7) / 8:Nat)) H
def yY (K:Frag):Sp:=fun vs H Q _=>∃(t:Addr) (kn:Ins) (n:Nat),vs=[.ref t,.int n]/\SqT K H t (aE kn.1 kn.2)/\VI kn/\n<=2000/\∀t' H',ay H H'->SqT K H' t' (aE (plc n kn).1 (plc n kn).2)->Q (.ref t') H'
abbrev stp (n:Nat):List Ins:=List.replicate n (0,[])
def xW:Sp:=fun vs H Q _=>∃n:Nat,vs=[.int n]/\n<=2000/\∀(p:Addr) (H':Hp),ay H H'->H p=none->H' p=some (.lst ((av (stp n)).map V.int))->Q (.ref p) H'
def HP (K:Frag) (C:Addr):Sp:=fun vs H Q _=>∃(x dx i b:Addr) (js:List Addr) (is:List Ins) (bs:List Nat) (n:Nat),vs=[.ref x,.int n]/\aW K C H x dx i b js is bs/\lnW is<=n/\n<=2000/\
 ∀(p:Addr) (H':Hp),ay H H'->H p=none->H' p=some (.lst ((av (dJ n is)).map V.int))->Q (.ref p) H'
theorem vc (B : Bi mg) (D : pZ K mg) (ak : Has P w K mg base 1 "power_of_two" lx iq) : Has P w K mg base 2 "least_bits" lU Bl := by
  refine D.has jm (fun vs H Q E h => ?_) (fun f cdv A outer s H vs Q E hr h => ?_)
  . obtain⟨n, rfl, _⟩ := h
    rfl
  obtain⟨n, rfl, hn, q⟩ := h
  refine⟨_, (ac (psS 1 jm.nd aa)
      (ac (aL (gW PassesOwn.never (pcT gD (pcH ak hr (pa1 (pv 1))) (pv 0)) (ae (psS 1 jm.nd (aj aO (pv 1) aa)))))
      (ae (ah (pv 1))))), ?_⟩
  try dsimp only[aY]
  walk_at "g"
  refine⟨?_⟩
  refine⟨fun m Z H' => H' = H ∧ ∃ b : Nat, Z = [some (.int n), some (.int b)] ∧ b ≤ 20 ∧ (∀ j, j < b → 2 ^ j < n) ∧ m = 20 - b, ⟨_, rfl, 0, rfl, by lia, fun j z => absurd z (by lia), rfl⟩, ?_⟩
  rintro m Z H' ⟨rfl, b, rfl, hb, hj, rfl⟩
  have hb64 : b ≤ 64 := by lia
  walk_at "g"
  refine aV (fun c => ?_) (fun c => ?_)
  . have c' : 2 ^ b < n := by exact_mod_cast c
    have hb20 : b < 20 := by
      by_cases z : b = 20
      . subst z
        exact absurd c' (by lia)
      . lia
    walk_at "n"
    refine⟨fun Z' H' => aA _, fun _ _ z => z.out, ?_⟩
    walk_at "g"
    refine⟨⟨20 - (b + 1), by lia, rfl, b + 1, rfl, hb20, fun j z => ?_, rfl⟩⟩
    by_cases e : j = b
    . rw[e]; exact c'
    . exact hj j (by lia)
  . walk_at "g"
    exact q b ⟨by have : ¬ ((2 ^ b : Nat) : Int) < n := by exact_mod_cast c
                  lia, hj⟩
theorem uR {C:Addr}(B:Bi mg) (c:gF K mg "LaidBlock" C) (n:bX K C) (D:pS K mg):Has P w K mg base 1 "bundles_of" nU (Gb K C):=by
 refine D.has vb (fun vs H Q E h=> ?_) (fun f cdv A outer s H vs Q E hr h=> ?_)
 .obtain⟨x,dx,i,b,js,is,bs,rfl,_⟩:=h
  rfl
 obtain⟨x,dx,i,b,js,is,bs,rfl,l,q⟩:=h;have hc:=c.cl;have n3:=n.length;have hat:=l.at_;have cd:BV ((lnW is:Int)+7) 8:=⟨by decide,by decide⟩
 refine⟨_,(ae (ah (aj dH (aj aO (d4 (pv 0) (by rfl)) aa) aa))),?_⟩
 try dsimp only[aY]
 walk_at "g";have e:((lnW is:Int)+7) / 8=((lnW is+7) / 8:Nat):=by lia
 show Q (V.int (((lnW is:Int)+7) / 8)) H
 rw[e];exact q
theorem Ch (B:Bi mg) (D:yB K mg):Has P w K mg base 1 "placed" zx (yY K):=by
 refine D.has Cv (fun vs H Q E h=> ?_) (fun f cdv A outer s H vs Q E hr h=> ?_)
 .obtain⟨t,kn,n,rfl,_⟩:=h
  rfl
 obtain⟨t,⟨k,ns⟩,n,rfl,ht,hv,hn,q⟩:=h;dsimp only at ht;have k19:k < 19:=hv.lt19
 refine⟨_,(ac (aL (bn (ax (PW.pt (gk (pcT aG (pX ai (pv 0) aa) au) (d5 (pcT aG (pX ai (pv 0) aa) au)))) (ae (ah (aj xt (dm iT (pv 0) fz (dW (iM (v:= -1) (by rfl)))) (aw (pa1 (aj bz (pX ai (pv 0) (iM (v:= -1) (by rfl))) (pv 1))))))) al)))
   (ae (ah (pv 0)))),?_⟩
 try dsimp only[aY]
 by_cases h13:k=13
 .obtain⟨z,rfl,z0,z1⟩:=hv.jmp h13;subst h13;have i0:atI (aE 13 [z]) 0=some (.str "jump"):=rfl;have im:atI (aE 13 [z]) (-1)=some (.int z):=rfl;have ec:fZ (aE 13 [z]) none (some (-1))=[.str "jump"]:=rfl;have hw:¬(HT.sIx (aE 13 [z]).length 0 none=0/\HT.sIx (aE 13 [z]).length (aE 13 [z]).length (some (-1))=(aE 13 [z]).length):=by show ¬(HT.sIx 2 0 none=0/\HT.sIx 2 2 (some (-1))=2);decide
  have cm:qm z (n:Int):= .inr ⟨by lia,by lia⟩
  walk_at "n";refine⟨⟨fun Z' H'=>aA False,?_,fun _ _ z=>z.out.elim⟩⟩
  walk_at "g";intro p1 hp1;rw[ec];walk_at "g";intro p2 hp2;have hp3:upd (upd H p1 (.tup [.str "jump"])) p2 (.tup [.int (z*n)]) p1=some (.tup [.str "jump"]):=by rw[az (aB ad hp2)];exact ad
  walk_at "g";refine⟨(fun z=>by cases z),fun _ p3 hp4=> ?_⟩
  exact q p3 _ (((af hp1 _).trans (af hp2 _)).trans (af hp4 _)) (SqT.of ad)
 by_cases h14:k=14
 .obtain⟨x,z,rfl,x0,x1,z0,z1⟩:=hv.jif h14;subst h14;have i0:atI (aE 14 [x,z]) 0=some (.str "jumpif"):=rfl;have im:atI (aE 14 [x,z]) (-1)=some (.int z):=rfl;have ec:fZ (aE 14 [x,z]) none (some (-1))=[.str "jumpif",.int x]:=rfl;have hw:¬(HT.sIx (aE 14 [x,z]).length 0 none=0/\HT.sIx (aE 14 [x,z]).length (aE 14 [x,z]).length (some (-1))=(aE 14 [x,z]).length):=by show ¬(HT.sIx 3 0 none=0/\HT.sIx 3 3 (some (-1))=3);decide
  have cm:qm z (n:Int):= .inr ⟨by lia,by lia⟩
  walk_at "n";refine⟨⟨fun Z' H'=>aA False,?_,fun _ _ z=>z.out.elim⟩⟩
  walk_at "g";intro p1 hp1;rw[ec];walk_at "g";intro p2 hp2;have hp3:upd (upd H p1 (.tup [.str "jumpif",.int x])) p2 (.tup [.int (z*n)]) p1=some (.tup [.str "jumpif",.int x]):=by rw[az (aB ad hp2)];exact ad
  walk_at "g";refine⟨(fun z=>by cases z),Nat.le_of_ble_eq_true rfl,(fun z=>by cases z),fun _ p3 hp4=> ?_⟩
  exact q p3 _ (((af hp1 _).trans (af hp2 _)).trans (af hp4 _)) (SqT.of ad)
 have i0:atI (aE k ns) 0=some (.str (aI k)):=lR;have ep:plc n (k,ns)=(k,ns):=by unfold plc;rw[if_neg h13,if_neg h14]
 rw[ep] at q;walk_at "n";refine⟨⟨fun Z' H'=>Z'=[some (.ref t),some (.int n)]/\H'=H,?_,?_⟩⟩
 .walk_at "g";refine d3 (fun z=>h13 ((Cn k k19).mp z)) ?_
  walk_at "g";refine d3 (fun z=>h14 ((yr k k19).mp z)) ?_
  exact⟨rfl,rfl⟩
 .rintro Z' H' ⟨rfl,rfl⟩
  walk_at "g";exact q t H' (fun _ _ z=>z) ht
theorem vQ:∀n:Nat,av (stp n)=List.replicate n 0
 | 0=>rfl
 | n+1=>by
  show av ((0,[])::stp n)=_
  rw[lH,vQ n]
  rfl
theorem vI {α:Type}(x:α):∀n,(List.replicate n [x]).flatten=List.replicate n x
 | 0=>rfl
 | n+1=>by rw[List.replicate_succ,List.flatten_cons,vI x n,List.replicate_succ];rfl
theorem C5 (B:Bi mg) (D:BQ K mg) (ge:Has P w K mg base 5 "words_of" cy (Gy K)):Has P w K mg base 6 "stops" lU xW:=by
 refine D.has CO (fun vs H Q E h=> ?_) (fun f cdv A outer s H vs Q E hr h=> ?_)
 .obtain⟨n,rfl,_⟩:=h
  rfl
 obtain⟨n,rfl,hn,q⟩:=h;refine⟨_,(ae (ah (aj tw (pcH ge hr (pa1 (aw (pa1 au)))) (pv 0)))),?_⟩
 try dsimp only[aY]
 walk_at "g";intro t ht;refine⟨t,0,[],rfl,by decide,(fun z=>by cases z),SqT.of ad,?_⟩
 intro p1 H1 hp1 h1 s1;have hz:((du 0 []).map V.int).length*(n:Int).toNat<=sizeLine:=by
  show 1*n<=sizeLine
  exact Nat.le_trans (by lia) (show 2000<=sizeLine by decide)
 walk_at "g";intro p hp;refine q p _ (((af ht _).trans s1).trans (af hp _)) ((af ht _).free (s1.free hp)) ?_
 rw[ad,vQ,List.map_replicate];show some (HO.lst (List.replicate n [V.int 0]).flatten)=_
 rw[vI]
theorem uz {C:Addr}(B:Bi mg) (c:gF K mg "LaidBlock" C) (n:bX K C) (D:n_ K mg) (ge:Has P w K mg base 5 "words_of" cy (Gy K)) (sX:Has P w K mg base 1 "placed" zx (yY K))
  (nI:Has P w K mg base 6 "stops" lU xW):Has P w K mg base 7 "block_words" zh (HP K C):=by
 refine D.has io (fun vs H Q E h=> ?_) (fun f cdv A outer s H vs Q E hr h=> ?_)
 .obtain⟨x,dx,i,b,js,is,bs,nn,rfl,_⟩:=h
  rfl
 obtain⟨x,dx,i,b,js,is,bs,nn,rfl,l,hjn,hnn,q⟩:=h;have hc:=c.cl;have n1:=n.instructions
 refine⟨_,(ac (psS 2 io.nd (aT cY))
   (ac (d8 PassesOwn.never (by rfl) (dB (pi (d4 (pv 0) (by rfl)))) (aP (i:=3) io.nd (by rfl) (by left;rfl)) (ae (bj (fe PySem.F.plainAttrs_list PySem.F.slot_list_extend PySem.F.type_list_extend qG (pv 2) (pa1 (pcH ge hr (pa1 (pcH sX hr (pa2 (pv 3) (pv 1))))))))))
   (ae (ah (aj tI (pv 2) (pcH nI hr (pa1 (aj a_ (pv 1) (aF aC (by rfl) B.len bT (pa1 (pv 2))))))))))),?_⟩
 try dsimp only[aY]
 walk_at "g";intro p hp;have s0:=af hp (.lst []);have hp0:upd H p (.lst []) p=some (.lst []):=ad;generalize upd H p (.lst [])=H0 at*;have l0:=l.same s0;have hat0:=l0.at_;have hli0:=l0.li;walk_at "g";refine⟨zl (xs:=js.map V.ref) (fun j Z H'=>aA (∃ y,Z=[some (.ref x),some (.int nn),some (.ref p),y]/\ay H H'/\H' p=some (.lst ((av ((is.take j).map (plc nn))).map V.int)))) ⟨_,rfl,s0,hp0⟩ ?_ ?_ ?_⟩
 .rintro j Z H' _ ⟨y,rfl,s1,_⟩
  exact SqL.of (s1 _ _ l.li)
 .rintro j u Z H' hj ⟨y,rfl,s1,hp1⟩
  obtain⟨t,et,rfl⟩:=bv hj;obtain⟨kn,ek,ht⟩:=l.ow.get et;have hlt:j < is.length:=(List.getElem?_eq_some_iff.mp ek).1;have ht1:=s1.tup ht;have hv1:=l.va kn (List.mem_of_getElem? ek);have hty:tyV K "list" (.ref p) H':= .inl ⟨rfl,_,SqL.of hp1⟩;have hlw:lnW (is.take (j+1))<=2000:=by
   have e:=congrArg lnW (List.take_append_drop (j+1) is);rw[a8] at e
   lia
  have k19:(plc nn kn).1 < 19:=by rw[qW];exact hv1.lt19
  have kk:(plc nn kn).1=1->2<=(plc nn kn).2.length:=fun z=>by
   rw[qW] at z;have e:plc nn kn=kn:=by unfold plc;rw[if_neg (by lia),if_neg (by lia)]
   rw[e];exact hv1.put2 z
  have ew:av ((is.take (j+1)).map (plc nn))=av ((is.take j).map (plc nn))++du (plc nn kn).1 (plc nn kn).2:=by
   rw[eD ek,List.map_append,dO];show _++(du _ _++[])=_
   rw[List.append_nil]
   all_goals rfl
  have el:(av ((is.take (j+1)).map (plc nn))).length<=2000:=by rw[ci,eG];exact hlw
  rw[ew] at el;walk_at "g";intro t2 H2 s2 ht2;have hp1':=s2 _ _ hp1;have hty2:tyV K "list" (.ref p) H2:= .inl ⟨rfl,_,SqL.of hp1'⟩;walk_at "g";intro p3 H3 hp3 h3 s3;have hp1'':=s3 _ _ hp1';have hz:((av ((is.take j).map (plc nn))).map V.int).length+((du (plc nn kn).1 (plc nn kn).2).map V.int).length<=sizeLine:=by
   rw[List.length_map,List.length_map, <-List.length_append];exact Nat.le_trans el (by decide)
  walk_at "g";refine⟨_,rfl,eI hp ((s1.trans s2).trans s3),?_⟩
  rw[ad,ew,List.map_append]
 .rintro Z H' ⟨y,rfl,s1,hp1⟩
  rw[List.length_map,l.ow.len,List.take_length] at hp1;have el:((av (is.map (plc nn))).map V.int).length=lnW is:=by rw[List.length_map,ci,eG]
  have hsub:((nn:Int) - (((av (is.map (plc nn))).map V.int).length:Nat))=((nn - lnW is:Nat):Int):=by rw[el];lia
  have hsz:nn - lnW is<=2000:=by lia
  walk_at "g";refine⟨(congrArg (fun z=>[V.int z]) hsub:[V.int ((nn:Int) - (((av (is.map (plc nn))).map V.int).length:Nat))]=[V.int ((nn - lnW is:Nat):Int)]),hsz,?_⟩
  intro p2 H2 s2 hp2 h2;have hp1':=s2 _ _ hp1;have hz:((av (is.map (plc nn))).map V.int).length+((av (stp (nn - lnW is))).map V.int).length<=sizeLine:=by
   rw[el,List.length_map,ci,nD];exact Nat.le_trans (show lnW is+(nn - lnW is)<=2000 by lia) (by decide)
  walk_at "g";intro p3 hp3;refine q p3 _ ((s1.trans s2).trans (af hp3 _)) (s1.free (s2.free hp3)) ?_
  rw[ad, <-List.map_append, <-dO]
  rfl
def Lds (K:Frag) (C:Addr) (H:Hp) (xs:List Addr) (ds:List Bk):Prop:=xs.length=ds.length/\∀(j:Nat) (x:Addr) (d:Bk),xs[j]? =some x->ds[j]? =some d->
 ∃dx i b js,aW K C H x dx i b js d.1 d.2
theorem Lds.same {K:Frag}{C:Addr}{H H':Hp}{xs:List Addr}{ds:List Bk}(s:ay H H') (h:Lds K C H xs ds):Lds K C H' xs ds:=by
 refine⟨h.1,fun j x d e1 e2=> ?_⟩
 obtain⟨dx,i,b,js,l⟩:=h.2 j x d e1 e2;exact⟨dx,i,b,js,l.same s⟩
abbrev pk (n a:Nat):List Key:=[.inl (n:Int),.inl (a:Int)]
theorem wR {n a n' a':Nat}(h:pk n a=pk n' a'):n=n'/\a=a':=by
 injection h with h1 h2
 injection h2 with h2 _
 injection h1 with h1
 injection h2 with h2
 lia
theorem Fx {κ:Type} [DecidableEq κ] {kvs:List (κ × V)}{k:κ}{v:V}(h:∀kv∈kvs,kv.1≠k):qz kvs k v=kvs++[(k,v)]:=by
 unfold qz;rw[if_neg];intro z;obtain⟨kv,h1,h2⟩:=List.any_eq_true.mp z;exact h kv h1 (of_decide_eq_true h2)
def gL (n u:Nat):Nat->List Nat->List (List Key × V)
 | _,[]=>[]
 | a,b::r=>(pk u a,.int ((u*n+b:Nat):Int))::gL n u (a+1) r
def dL (n:Nat):Nat->List (List Nat)->List (List Key × V)
 | _,[]=>[]
 | u,bs::r=>gL n u 0 bs++dL n (u+1) r
theorem uk (n u:Nat):∀(a:Nat) (bs:List Nat),(gL n u a bs).length=bs.length
 | _,[]=>rfl
 | a,b::r=>congrArg (· +1) (uk n u (a+1) r)
theorem t_ {n u:Nat}:∀ {a:Nat}{bs:List Nat}{kv:List Key × V},kv∈gL n u a bs->∃j,kv.1=pk u j/\a<=j/\j < a+bs.length
 | a,b::r,kv,h=>by
  rcases List.mem_cons.mp h with rfl | h
  .exact⟨a,rfl,Nat.le_refl _,by rw[List.length_cons];lia⟩
  .obtain⟨j,h1,h2,h3⟩:=t_ h;exact⟨j,h1,by lia,by rw[List.length_cons];lia⟩
theorem sW {n:Nat}:∀ {u:Nat}{bss:List (List Nat)}{kv:List Key × V},kv∈dL n u bss->∃v j,kv.1=pk v j/\u<=v/\v < u+bss.length
 | u,bs::r,kv,h=>by
  rcases List.mem_append.mp h with h | h
  .obtain⟨j,h1,h2,h3⟩:=t_ h;exact⟨u,j,h1,Nat.le_refl _,by rw[List.length_cons];lia⟩
  .obtain⟨v,j,h1,h2,h3⟩:=sW h;exact⟨v,j,h1,by lia,by rw[List.length_cons];lia⟩
theorem vz (n u b:Nat):∀(a:Nat) (bs:List Nat),gL n u a (bs++[b])=gL n u a bs++[(pk u (a+bs.length),.int ((u*n+b:Nat):Int))]
 | a,[]=>rfl
 | a,c::r=>by
  show _::gL n u (a+1) (r++[b])=_
  rw[vz n u b (a+1) r,List.length_cons,show a+1+r.length=a+(r.length+1) by lia]
  rfl
theorem vH (n:Nat) (bs:List Nat):∀(u:Nat) (l:List (List Nat)),dL n u (l++[bs])=dL n u l++gL n (u+l.length) 0 bs
 | u,[]=>by show gL n u 0 bs++[]=_;rw[List.append_nil];rfl
 | u,c::r=>by
  show gL n u 0 c++dL n (u+1) (r++[bs])=_
  rw[vH n bs (u+1) r,List.length_cons,show u+1+r.length=u+(r.length+1) by lia, <-List.append_assoc]
  rfl
theorem zW (n:Nat):∀(u:Nat) (l:List (List Nat)),(∀ bs∈l,bs.length<=30)->(dL n u l).length<=30*l.length
 | _,[],_=>Nat.le_refl _
 | u,c::r,h=>by
  show(gL n u 0 c++dL n (u+1) r).length<=_
  have h1:=zW n (u+1) r (fun x hx=>h x (List.mem_cons_of_mem _ hx))
  have h2:=h c List.mem_cons_self;rw[List.length_append,uk,List.length_cons]
  lia
def zC (K:Frag) (C:Addr):Sp:=fun vs H Q _=>∃(bl:Addr) (xs:List Addr) (ds:List Bk) (n:Nat),vs=[.ref bl,.int n]/\SqL K H bl (xs.map V.ref)/\Lds K C H xs ds/\ds.length<=16/\(∀ d∈ds,d.2.length<=30)/\n<=2000/\
 ∀(p:Addr) (H':Hp),ay H H'->H p=none->H' p=some (.dT (dL n 0 (ds.map (·.2))))->Q (.ref p) H'
theorem wq {C:Addr}(B:Bi mg) (c:gF K mg "LaidBlock" C) (n:bX K C) (D:qT K mg):Has P w K mg base 1 "places_of" yy (zC K C):=by
 refine D.has dS (fun vs H Q E h=> ?_) (fun f cdv A outer s H vs Q E hr h=> ?_)
 .obtain⟨bl,xs,ds,nn,rfl,_⟩:=h
  rfl
 obtain⟨bl,xs,ds,nn,rfl,hbl,lds,h16,h30,hnn,q⟩:=h;have hc:=c.cl;have n2:=n.begins;have e30:∀j,(dL nn 0 ((ds.take j).map (·.2))).length<=500:=fun j=>by
  have h1:=zW nn 0 ((ds.take j).map (·.2)) (fun bs hb=>by
   obtain⟨d,hd,rfl⟩:=List.mem_map.mp hb
   exact h30 d (List.mem_of_mem_take hd))
  rw[List.length_map,List.length_take] at h1
  lia
 refine⟨_,(ac (psS 2 dS.nd EE)
   (ac (d8 PassesOwn.never (by rfl) (dB (Bb (by rfl) B.enumerate (pa1 (pv 0)))) (lL (n:=2) (by rfl) (bQ (aP (i:=3) dS.nd (by rfl) (by left;rfl)) (bQ (aP (i:=4) dS.nd (by rfl) (by left;rfl)) iL))) (ae (d8 PassesOwn.never (by rfl) (dB (Bb (by rfl) B.enumerate (pa1 (d4 (pv 4) (by rfl))))) (lL (n:=2) (by rfl) (bQ (aP (i:=5) dS.nd (by rfl) (by left;rfl)) (bQ (aP (i:=6) dS.nd (by rfl) (by left;rfl)) iL))) (ae (Fe (Es hr) (pv 2) (aw (pa2 (pv 3) (pv 5))) (aj aO (aj bz (pv 3) (pv 1)) (pv 6)) (by rfl))))))
   (ae (ah (pv 2))))),?_⟩
 try dsimp only[aY]
 walk_at "g";intro p hp;have s0:=af hp (.dT []);have hp0:upd H p (.dT []) p=some (.dT []):=ad;generalize upd H p (.dT [])=H0 at*;have hbl0:=s0.seq hbl;walk_at "g"
 refine⟨yD (xs:=xs.map V.ref) (fun k Z H'=>aA (∃ y1 y2 y3 y4,Z=[some (.ref bl),some (.int nn),some (.ref p),y1,y2,y3,y4]/\ay H H'/\H' p=some (.dT (dL nn 0 ((ds.take k).map (·.2))))))
  ⟨_,_,_,_,rfl,s0,hp0⟩ ?_ ?_ ?_⟩
 .rintro k Z H' ⟨y1,y2,y3,y4,rfl,s1,_⟩
  exact s1.seq hbl
 .rintro k u r Z H' hk ⟨y1,y2,y3,y4,rfl,s1,hp1⟩ hr1
  obtain⟨x,ex,rfl⟩:=bv hk;have hlt:k < xs.length:=(List.getElem?_eq_some_iff.mp ex).1;have hkd:k < ds.length:=by have:=lds.1;lia
  obtain⟨d,ed⟩:∃d,ds[k]? =some d:=⟨_,List.getElem?_eq_getElem hkd⟩;obtain⟨dx,i,b,js,l⟩:=lds.2 k x d ex ed;have hd30:=h30 d (List.mem_of_getElem? ed);have hk16:k < 16:=by lia
  have s2:=s1.trans (af hr1 (.tup [.int k,.ref x]));have hp2:=af hr1 (.tup [.int k,.ref x]) _ _ hp1;have ht2:upd H' r (.tup [.int k,.ref x]) r=some (.tup [.int k,.ref x]):=ad;generalize upd H' r (.tup [.int k,.ref x])=H2 at*;have hat2:=s2 _ _ l.at_;have hlb2:=s2 _ _ l.lb;have e30k:=e30 k;walk_at "g"
  refine⟨yD (xs:=d.2.map vn) (fun a Z H'=>aA (∃ y3 y4,Z=[some (.ref bl),some (.int nn),some (.ref p),some (.int k),some (.ref x),y3,y4]/\ay H H'/\H' p=some (.dT (dL nn 0 ((ds.take k).map (·.2))++gL nn k 0 (d.2.take a)))))
   ⟨_,_,rfl,s2,by rw[hp2];show _=some (HO.dT (_++[]));rw[List.append_nil]⟩ ?_ ?_ ?_⟩
  .rintro a Z H' ⟨y3,y4,rfl,s3,_⟩
   exact SqL.of (s3 _ _ l.lb)
  .rintro a v r3 Z H3 ha ⟨y3,y4,rfl,s3,hp3⟩ hr3
   obtain⟨b0,eb,rfl⟩:=bv ha;have halt:a < d.2.length:=(List.getElem?_eq_some_iff.mp eb).1;have s4:=s3.trans (af hr3 (.tup [.int a,.int b0]));have hp4:=af hr3 (.tup [.int a,.int b0]) _ _ hp3;have ht4:upd H3 r3 (.tup [.int a,.int b0]) r3=some (.tup [.int a,.int b0]):=ad;generalize upd H3 r3 (.tup [.int a,.int b0])=H4 at*;have cm:qm (k:Int) (nn:Int):= .inl ⟨by lia,by lia⟩
   walk_at "g";intro r5 hr5;have hp5:=af hr5 (.tup [.int k,.int a]) _ _ hp4;have hkl:(dL nn 0 ((ds.take k).map (·.2))++gL nn k 0 (d.2.take a)).length < sizeLine:=by
    rw[List.length_append,uk,List.length_take];exact Nat.lt_of_lt_of_le (show _ < 1000 by lia) (by decide)
   have dp:BZ (upd H4 r5 (.tup [.int k,.int a])) p (.ref r5) (.int ((k:Int)*nn+b0)) _:=BZ.t (k:=pk k a) hp5 ad hkl;have hnew:∀kv∈dL nn 0 ((ds.take k).map (·.2))++gL nn k 0 (d.2.take a),kv.1≠pk k a:=fun kv hk z=>by
    rcases List.mem_append.mp hk with hk | hk
    .obtain⟨v,j,h1,h2,h3⟩:=sW hk;rw[z] at h1;have:=(wR h1).1;rw[List.length_map,List.length_take] at h3
     lia
    .obtain⟨j,h1,h2,h3⟩:=t_ hk;rw[z] at h1;have:=(wR h1).2;rw[List.length_take] at h3
     lia
   walk_at "g";refine⟨_,_,rfl,eI hp (s4.trans (af hr5 _)),?_⟩
   rw[ad,Fx hnew,eD eb,vz,List.length_take,Nat.min_eq_left (Nat.le_of_lt halt),List.append_assoc,Nat.zero_add];have e:(k:Int)*nn+b0=((k*nn+b0:Nat):Int):=by push_cast;rfl
   rw[e]
  .rintro Z H' ⟨y3,y4,rfl,s3,hp3⟩
   rw[List.length_map,List.take_length] at hp3;refine⟨_,_,_,_,rfl,s3,?_⟩
   rw[hp3,eD ed,List.map_append];show _=some (HO.dT (dL nn 0 ((ds.take k).map (·.2)++[d.2])))
   rw[vH,List.length_map,List.length_take,Nat.min_eq_left (Nat.le_of_lt hkd),Nat.zero_add]
 .rintro Z H' ⟨y1,y2,y3,y4,rfl,s1,hp1⟩
  rw[List.length_map,lds.1,List.take_length] at hp1;walk_at "g";exact q p H' s1 hp hp1
def bun (d:Bk):Nat:=(lnW d.1+7) / 8
structure pw (M:Nat) (ds:List Bk):Prop where
 mem:∃d∈ds,bun d=M
 le:∀d∈ds,bun d<=M
def sI (H H':Hp) (r:Addr) (ds:List Bk) (rk rb gt:Int) (m s:Nat):Prop:=∃a1 a2 a3,H' r=some (.tup [.ref a1,.ref a2,.ref a3])/\H' a1=some (.tup [.int rk,.int rb,.int m,.int s,.int gt])/\
 H' a2=some (.lst ((av (bV (8*2^s) (2^m*(8*2^s)) ds)).map V.int))/\H' a3=some (.dT (dL (8*2^s) 0 (ds.map (·.2))))/\H r=none/\H a1=none/\H a2=none/\H a3=none
def AA (K:Frag) (C CT:Addr):Sp:=fun vs H Q E=>∃(bl rm:Addr) (xs:List Addr) (ds:List Bk) (rk rb gt:Int) (M:Nat),vs=[.ref bl,.ref rm,.int gt]/\SqL K H bl (xs.map V.ref)/\Lds K C H xs ds/\SqT K H rm [.int rk,.int rb]/\
 0 < ds.length/\ds.length<=16/\(∀ d∈ds,lnW d.1<=300/\d.2.length<=30)/\pw M ds/\
 ∀m s,iV ds.length m->iV M s->(7 < m+s->∀H',ay H H'->E (.ref CT) none H')/\(m+s<=7->∀r H',ay H H'->sI H H' r ds rk rb gt m s->Q (.ref r) H')
theorem o8 {C CT:Addr}(B:Bi mg) (x_TooLong:Cp K CT) (qo:mg "TooLong"=some (.ref CT)) (D:jJ K mg) (ak:Has P w K mg base 1 "power_of_two" lx iq) (gM:Has P w K mg base 2 "least_bits" lU Bl)
  (kx:Has P w K mg base 1 "bundles_of" nU (Gb K C)) (jo:Has P w K mg base 7 "block_words" zh (HP K C)) (nI:Has P w K mg base 6 "stops" lU xW) (mm:Has P w K mg base 1 "places_of" yy (zC K C)):
  rT P w K mg base 8 "code_of_blocks" wb (AA K C CT):=by
 refine D.hasX ce (fun vs H Q E h=> ?_) (fun f cdv A outer s H vs Q E hr h=> ?_)
 .obtain⟨bl,rm,xs,ds,rk,rb,gt,M,rfl,_⟩:=h
  rfl
 obtain⟨bl,rm,xs,ds,rk,rb,gt,M,rfl,hbl,lds,hrm,h0,h16,hd,hM,q⟩:=h;have hlx:(xs.map V.ref).length=ds.length:=by rw[List.length_map];exact lds.1
 have hlx2:(xs.map V.ref).length<=1048576:=by lia
 refine⟨_,(ac (oI (psS 3 ce.nd (pcH gM hr (pa1 (aF aC (by rfl) B.len bT (pa1 (pv 0)))))))
   (ac (oI (psS 4 ce.nd (pcH gM hr (pa1 (aF (vS (by rfl)) (by rfl) B.max ur (pa1 (PE.nox (kY (by rfl) (by rfl) (by rfl) (bk (sc0:=ag dX) (N0:=["blocks","room","gates","m","s","size","code","block"]) ["block"] 1 []) (pi (pv 0)) (fun _ _ _ _=>(aP (i:=0) (show List.Nodup (["block"]:List Str) by decide) (by rfl) (by left;rfl))) (fun _ _ _ _=>(pcH kx hr (pa1 (pv 0))))))))))))
   (ac (ax (pcT lf (aj aO (pv 3) (pv 4)) aa) (ae (Ck x_TooLong (by rfl) qo)) al)
   (ac (oI (psS 5 ce.nd (aj bz aa (pcH ak hr (pa1 (pv 4))))))
   (ac (oI (psS 6 ce.nd (aT cY)))
   (ac (oI (d8 PassesOwn.never (by rfl) (dB (pi (pv 0))) (aP (i:=7) ce.nd (by rfl) (by left;rfl)) (ae (bj (fe PySem.F.plainAttrs_list PySem.F.slot_list_extend PySem.F.type_list_extend qG (pv 6) (pa1 (pcH jo hr (pa2 (pv 7) (pv 5)))))))))
   (ac (oI (bj (fe PySem.F.plainAttrs_list PySem.F.slot_list_extend PySem.F.type_list_extend qG (pv 6) (pa1 (pcH nI hr (pa1 (aj a_ (aj bz (pcH ak hr (pa1 (pv 3))) (pv 5)) (aF aC (by rfl) B.len bT (pa1 (pv 6))))))))))
   (ae (oI (ah (aw (pa3 (aw (pa5 (pX ai (pv 1) aa) (pX ai (pv 1) aa) (pv 3) (pv 4) (pv 2))) (pv 6) (pcH mm hr (pa2 (pv 0) (pv 5))))))))))))))),?_⟩
 try dsimp only[Hd]
 walk_at "g";intro m hm;rw[hlx] at hm;walk_at "g";intro p hp;refine vJ (xs:=xs.map V.ref) (fun j ys H'=>aA (ay H H')/\H' p=some (.lst ys)/\ys=((ds.take j).map fun d=>V.int (bun d:Nat))) ⟨⟨af hp _⟩,ad,rfl⟩ ?_ ?_ ?_
 .rintro j ys H' ⟨⟨s1⟩,_⟩
  exact s1.seq hbl
 .rintro j u ys H' F hF hj ⟨⟨s1⟩,hp1,rfl⟩
  obtain⟨x,ex,rfl⟩:=bv hj;have hlt:j < xs.length:=(List.getElem?_eq_some_iff.mp ex).1;obtain⟨d,ed⟩:∃d,ds[j]? =some d:=⟨_,List.getElem?_eq_getElem (by have:=lds.1;lia)⟩
  obtain⟨dx,i,b,js,l⟩:=lds.2 j x d ex ed;have l1:=l.same s1;have hz:((ds.take j).map fun d=>V.int (bun d:Nat)).length < sizeLine:=by
   rw[List.length_map,List.length_take];exact Nat.lt_of_lt_of_le (show min j ds.length < 100 by lia) (by decide)
  walk_at "g";refine hF _ _ ⟨⟨eI hp s1⟩,ad,?_⟩
  rw[eD ed,List.map_append]
  rfl
 rintro ys H1 ⟨⟨s1⟩,hp1,rfl⟩
 rw[hlx,List.take_length] at hp1;have hq:SqL K H1 p ((ds.map fun d=>((bun d:Nat):Int)).map V.int):=by
  rw[List.map_map];exact SqL.of hp1
 refine⟨p,ds.map fun d=>((bun d:Nat):Int),rfl,hq,(fun z=>by rw[List.map_eq_nil_iff] at z;rw[z] at h0;exact absurd h0 (by decide)),?_⟩
 intro mx h1 h2;have emx:mx=(M:Nat):=by
  obtain⟨d,hd1,rfl⟩:=List.mem_map.mp h1;obtain⟨d',hd2,hd3⟩:=hM.mem;have a1:=hM.le d hd1;have a2:=h2 _ (List.mem_map.mpr ⟨d',hd2,rfl⟩)
  lia
 subst emx;have hM2:M<=1048576:=by
  obtain⟨d,hd1,hd2⟩:=hM.mem;have:=(hd d hd1).1;unfold bun at hd2
  lia
 walk_at "g";intro sx hs;obtain⟨qE,qQ⟩:=q m sx hm hs;walk_at "g";refine aV (fun c=> ?_) (fun c=> ?_)
 .exact qE (by lia) H1 s1
 have ms:m+sx<=7:=by lia
 have s64:sx<=64:=by lia
 have m64:m<=64:=by lia
 have hS:8*2^sx<=1024:=by
  have:2^sx<=2^7:=Nat.pow_le_pow_right (by decide) (by lia)
  lia
 have eS:(8:Int)*2^sx=((8*2^sx:Nat):Int):=by push_cast;rfl
 walk_at "g";dsimp only;rw[eS];have hdS:∀d∈ds,lnW d.1<=8*2^sx:=fun d hd=>by
  have a1:=hM.le d hd;have a2:=hs.1;unfold bun at a1
  lia
 have hmS:2^m*(8*2^sx)=8*2^(m+sx):=by rw[Nat.pow_add];ac_rfl
 have hmS2:2^(m+sx)<=2^7:=Nat.pow_le_pow_right (by decide) ms
 have hnm:ds.length*(8*2^sx)<=2^m*(8*2^sx):=Nat.mul_le_mul_right _ hm.1;generalize hSS:8*2^sx=S at*;intro cp hcp;have s2:=s1.trans (af hcp (.lst []));have hc2:upd H1 cp (.lst []) cp=some (.lst []):=ad;have hcp0:H cp=none:=s1.free hcp;generalize upd H1 cp (.lst [])=H2 at*;have hbl2:=s2.seq hbl;have eLn:∀j,(av ((ds.take j).flatMap fun d=>dJ S d.1)).length<=16*1024:=fun j=>by
  rw[ci,jy (fun d hd=>hdS d (List.mem_of_mem_take hd)),List.length_take]
  exact Nat.mul_le_mul (by lia) hS
 walk_at "g";refine⟨zl (xs:=xs.map V.ref) (fun j Z H'=>aA (∃ y,Z=[some (.ref bl),some (.ref rm),some (.int gt),some (.int m),some (.int sx),some (.int (S:Nat)),some (.ref cp),y]/\ay H H'/\H' cp=some (.lst ((av ((ds.take j).flatMap fun d=>dJ S d.1)).map V.int)))) ⟨_,rfl,s2,hc2⟩ ?_ ?_ ?_⟩
 .rintro j Z H' _ ⟨y,rfl,s3,_⟩
  exact s3.seq hbl
 .rintro j u Z H' hj ⟨y,rfl,s3,hw⟩
  obtain⟨x,ex,rfl⟩:=bv hj;have hlt:j < xs.length:=(List.getElem?_eq_some_iff.mp ex).1;obtain⟨d,ed⟩:∃d,ds[j]? =some d:=⟨_,List.getElem?_eq_getElem (by have:=lds.1;lia)⟩
  obtain⟨dx,i,b,js,l⟩:=lds.2 j x d ex ed;have l3:=l.same s3;have hjs:lnW d.1<=S:=hdS d (List.mem_of_getElem? ed);have hS2:S<=2000:=by lia
  have hty:tyV K "list" (.ref cp) H':= .inl ⟨rfl,_,SqL.of hw⟩;have eLj:=eLn j;walk_at "g";intro p4 H4 s4 hp4 h4;have hw4:=s4 _ _ hw;have hz:((av ((ds.take j).flatMap fun d=>dJ S d.1)).map V.int).length+((av (dJ S d.1)).map V.int).length<=sizeLine:=by
   rw[List.length_map,List.length_map,ci (dJ S d.1),qL hjs];exact Nat.le_trans (show _<=20000 by lia) (by decide)
  walk_at "g";refine⟨_,rfl,eI hcp0 (s3.trans s4),?_⟩
  rw[ad,eD ed,List.flatMap_append,dO,List.map_append]
  simp
 .rintro Z H3 ⟨y,rfl,s3,hw⟩
  rw[hlx,List.take_length] at hw;have ew:((av (ds.flatMap fun d=>dJ S d.1)).map V.int).length=ds.length*S:=by rw[List.length_map,ci,jy hdS]
  have cm:qm ((2:Int)^m) (S:Int):= .inr ⟨by lia,by lia⟩
  have eN:(2:Int)^m*(S:Int) - (((av (ds.flatMap fun d=>dJ S d.1)).map V.int).length:Nat)=((2^m*S - ds.length*S:Nat):Int):=by
   rw[ew,Int.ofNat_sub hnm]
   push_cast
   rfl
  have hN:2^m*S - ds.length*S<=2000:=by lia
  have hty:tyV K "list" (.ref cp) H3:= .inl ⟨rfl,_,SqL.of hw⟩;walk_at "g";refine⟨(congrArg (fun z=>[V.int z]) eN:[V.int ((2:Int)^m*(S:Int) - (((av (ds.flatMap fun d=>dJ S d.1)).map V.int).length:Nat))]=[V.int ((2^m*S - ds.length*S:Nat):Int)]),hN,?_⟩
  intro p4 H4 s4 hp4 h4;have hw4:=s4 _ _ hw;have hz:((av (ds.flatMap fun d=>dJ S d.1)).map V.int).length+((av (stp (2^m*S - ds.length*S))).map V.int).length<=sizeLine:=by
   rw[ew,List.length_map,ci,nD];exact Nat.le_trans (show ds.length*S+(2^m*S - ds.length*S)<=2000 by lia) (by decide)
  walk_at "g";have eAll:(av (ds.flatMap fun d=>dJ S d.1)).map V.int++(av (stp (2^m*S - ds.length*S))).map V.int=(av (bV S (2^m*S) ds)).map V.int:=by
   rw[<- List.map_append, <-dO]
   rfl
  rw[eAll];generalize hws:(av (bV S (2^m*S) ds)).map V.int=ws at*;have s5:ay H (upd H4 cp (.lst ws)):=eI hcp0 (s3.trans s4);have hw5:upd H4 cp (.lst ws) cp=some (.lst ws):=ad;generalize upd H4 cp (.lst ws)=H5 at*;have hrm5:=s5.tup hrm;walk_at "g";intro a1 ha1;have s6:=s5.trans (af ha1 (.tup [.int rk,.int rb,.int m,.int sx,.int gt]));have hw6:=af ha1 (.tup [.int rk,.int rb,.int m,.int sx,.int gt]) _ _ hw5;have ha6:upd H5 a1 (.tup [.int rk,.int rb,.int m,.int sx,.int gt]) a1=some (.tup [.int rk,.int rb,.int m,.int sx,.int gt]):=ad;generalize upd H5 a1 (.tup [.int rk,.int rb,.int m,.int sx,.int gt])=H6 at*;have hbl6:=s6.seq hbl;have lds6:=lds.same s6;have hd30:∀d∈ds,d.2.length<=30:=fun d z=>(hd d z).2
  have hS2:S<=2000:=by lia
  walk_at "g";intro p7 H7 s7 hp7 h7;walk_at "g";intro r hr8;have s8:=af hr8 (.tup [.ref a1,.ref cp,.ref p7]);exact qQ ms r _ ((s6.trans s7).trans s8) ⟨a1,cp,p7,ad,s8 _ _ (s7 _ _ ha6),(by rw[hSS,hws];exact s8 _ _ (s7 _ _ hw6)),(by rw[hSS];exact s8 _ _ h7),(s6.trans s7).free hr8,s5.free ha1,hcp0,s6.free hp7⟩
def del (p:Addr) (H:Hp):Hp:=fun a=>if a=p then none else H a
theorem Be {p:Addr}{H:Hp}{o:HO}:del p (upd H p o)=del p H:=by
 funext a
 unfold del upd
 split <;> rfl
theorem yP {p:Addr}{H:Hp}:ay (del p H) H:=fun a o h=>by
 unfold del at h
 split at h
 .cases h
 .exact h
theorem SqT.del {K:Frag}{H:Hp}{p t:Addr}{xs ys:List V}(hp:H p=some (.lst ys)) (h:SqT K H t xs):SqT K (del p H) t xs:=by
 rcases h with(h | ⟨o,h⟩) | h
 .refine .inl (.inl ?_)
  show My.del p H t=_
  unfold My.del;rw[if_neg (dn h hp (by intro z;cases z))]
  exact h
 .refine .inl (.inr ⟨o,?_⟩)
  show My.del p H t=_
  unfold My.del;rw[if_neg (dn h hp (by intro z;cases z))]
  exact h
 .exact .inr h
theorem aW.del {K:Frag}{C:Addr}{H:Hp}{p x dx i b:Addr}{js:List Addr}{is:List Ins}{bs:List Nat}{ys:List V}(l:aW K C H x dx i b js is bs) (hp:H p=some (.lst ys)) (hi:i≠p) (hb:b≠p):aW K C (del p H) x dx i b js is bs:=by
 refine⟨?_,?_,?_,l.ib,l.ow.mono fun _ _ z=>SqT.del hp z,l.va⟩
 .unfold My.del;rw[if_neg (dn l.at_ hp (by intro z;cases z))]
  exact l.at_
 .unfold My.del;rw[if_neg hi];exact l.li
 .unfold My.del;rw[if_neg hb];exact l.lb
theorem Lds.snoc {K:Frag}{C:Addr}{H:Hp}{xs:List Addr}{ds:List Bk}{x dx i b:Addr}{js:List Addr}{d:Bk}(h:Lds K C H xs ds) (l:aW K C H x dx i b js d.1 d.2):Lds K C H (xs++[x]) (ds++[d]):=by
 refine⟨by rw[List.length_append,List.length_append,h.1];rfl,fun a y e h1 h2=> ?_⟩
 by_cases z:a < xs.length
 .rw[List.getElem?_append_left z] at h1;rw[List.getElem?_append_left (by have:=h.1;lia)] at h2
  exact h.2 a y e h1 h2
 .have za:a=xs.length:=by
   have:=(List.getElem?_eq_some_iff.mp h1).1;rw[List.length_append,List.length_singleton] at this
   lia
  subst za;rw[List.getElem?_append_right (by lia),Nat.sub_self] at h1
  rw[h.1,List.getElem?_append_right (by lia),Nat.sub_self] at h2
  cases h1
  cases h2
  exact⟨dx,i,b,js,l⟩
def GSt (K:Frag) (H:Hp) (bls:List Addr) (gs:List (List Ins)):Prop:=bls.length=gs.length/\∀(j:Nat) (b:Addr) (bk:List Ins),bls[j]? =some b->gs[j]? =some bk->GBk K H b bk
theorem GSt.same {K:Frag}{H H':Hp}{bls:List Addr}{gs:List (List Ins)}(s:ay H H') (h:GSt K H bls gs):GSt K H' bls gs:=⟨h.1,fun j b bk e1 e2=>(h.2 j b bk e1 e2).same s⟩
structure GuB (gs:List (List Ins)):Prop where
 n0:0 < gs.length
 n16:gs.length<=16
 va:∀bk∈gs,(∀ kn∈bk,VI kn)/\bk.length<=30
def CN (K:Frag) (CT:Addr):Sp:=fun vs H Q E=>∃(gst rm:Addr) (bls:List Addr) (gs:List (List Ins)) (rk rb gt:Int) (M:Nat),vs=[.ref gst,.ref rm,.int gt]/\SqT K H gst (bls.map V.ref)/\GSt K H bls gs/\SqT K H rm [.int rk,.int rb]/\
 GuB gs/\pw M (gs.map cz)/\
 ∀m s,iV gs.length m->iV M s->(7 < m+s->∀H',ay H H'->E (.ref CT) none H')/\(m+s<=7->∀r H',ay H H'->sI H H' r (gs.map cz) rk rb gt m s->Q (.ref r) H')
theorem E8 {C CT:Addr}(B:Bi mg) (D:D0 K mg) (ij:Has P w K mg base 4 "masked_block" nU (FN K C)) (cv:rT P w K mg base 8 "code_of_blocks" wb (AA K C CT)):
  rT P w K mg base 9 "make" rg (CN K CT):=by
 refine D.hasX EN (fun vs H Q E h=> ?_) (fun f cdv A outer s H vs Q E hr h=> ?_)
 .obtain⟨gst,rm,bls,gs,rk,rb,gt,M,rfl,_⟩:=h
  rfl
 obtain⟨gst,rm,bls,gs,rk,rb,gt,M,rfl,hg,hgs,hrm,gu,hM,q⟩:=h;have n16:=gu.n16;refine⟨_,(ae (ah (zA (cv.mono (by omega)) hr (by rfl) sS (pa3 (PE.nox (kY (by rfl) (by rfl) (by rfl) (bk (sc0:=ag xz) (N0:=["guest","room","gates"]) ["block"] 1 []) (lK (pv 0)) (fun _ _ _ _=>(aP (i:=0) (show List.Nodup (["block"]:List Str) by decide) (by rfl) (by left;rfl))) (fun _ _ _ _=>(pcH ij hr (pa1 (pv 0)))))) (pv 1) (pv 2))))),?_⟩
 try dsimp only[Hd]
 walk_at "g";intro p hp;refine o4 (xs:=bls.map V.ref) (fun j ys H'=>aA (ay H H')/\∃xs,H' p=some (.lst ys)/\ys=xs.map V.ref/\Lds K C (del p H') xs ((gs.take j).map cz)) ⟨⟨af hp _⟩,[],ad,rfl,rfl,fun j x d e=>by simp at e⟩ ?_ ?_ ?_
 .rintro j ys H' ⟨⟨s1⟩,_⟩
  exact s1.tup hg
 .rintro j u ys H' F hF hj ⟨⟨s1⟩,xs,hp1,rfl,lds⟩
  obtain⟨b,eb,rfl⟩:=bv hj;have hlt:j < bls.length:=(List.getElem?_eq_some_iff.mp eb).1;obtain⟨bk,es⟩:∃bk,gs[j]? =some bk:=⟨_,List.getElem?_eq_getElem (by have:=hgs.1;lia)⟩
  have gb1:=(hgs.2 j b bk eb es).same s1;obtain⟨hv,h30⟩:=gu.va bk (List.mem_of_getElem? es);have hlx:xs.length=j:=by
   rw[lds.1,List.length_map,List.length_take];have:=hgs.1
   lia
  have hz:(xs.map V.ref).length < sizeLine:=by
   rw[List.length_map,hlx];exact Nat.lt_of_lt_of_le (show j < 100 by have:=hgs.1;lia) (by decide)
  walk_at "g";intro x dx i b' js H2 s2 hx hi hb l;have hp2:=s2 _ _ hp1;walk_at "g";refine hF _ _ ⟨⟨eI hp (s1.trans s2)⟩,xs++[x],ad,by rw[List.map_append];rfl,?_⟩
  have sd:ay (del p H') (del p (upd H2 p (.lst (xs.map V.ref++[V.ref x])))):=fun a o h=>by
   unfold del at*
   by_cases z:a=p
   .rw[if_pos z] at h;cases h
   .rw[if_neg z] at h ⊢;rw[az z];exact s2 _ _ h
  have l2:aW K C (del p (upd H2 p (.lst (xs.map V.ref++[V.ref x])))) x dx i b' js (cz bk).1 (cz bk).2:=by
   rw[Be];exact l.del hp2 (Ne.symm (aB hp1 hi)) (Ne.symm (aB hp1 hb))
  rw[eD es,List.map_append];exact(lds.same sd).snoc l2
 .rintro ys H1 ⟨⟨s1⟩,xs,hp1,rfl,lds⟩
  rw[List.length_map,hgs.1,List.take_length] at lds;have lds1:=lds.same (yP (H:=H1) (p:=p));have hq:SqL K H1 p (xs.map V.ref):=SqL.of hp1;have hrm1:=s1.tup hrm;have hdl:(gs.map cz).length=gs.length:=by rw[List.length_map]
  have h0':0 < (gs.map cz).length:=by rw[hdl];exact gu.n0
  have h16':(gs.map cz).length<=16:=by lia
  have hdd:∀d∈gs.map cz,lnW d.1<=300/\d.2.length<=30:=fun d hd=>by
   obtain⟨bk,h1,rfl⟩:=List.mem_map.mp hd;have h2:=(gu.va bk h1).2;have h3:=EV bk;have h4:=pP bk bk.length (Nat.le_refl _);rw[List.take_length] at h4
   lia
  walk_at "g";intro m sx hm hs;rw[hdl] at hm;obtain⟨q1,q2⟩:=q m sx hm hs;refine⟨fun z H' s2=>q1 z H' (s1.trans s2),fun z r H' s2 ca=>q2 z r H' (s1.trans s2) ?_⟩
  obtain⟨a1,a2,a3,c1,c2,c3,c4,f1,f2,f3,f4⟩:=ca;exact⟨a1,a2,a3,c1,c2,c3,c4,s1.free f1,s1.free f2,s1.free f3,s1.free f4⟩
theorem vE {k:Nat}{base:Int}{s:SpM.Span}:base<=(SpM.fitS k base s).lo/\(SpM.fitS k base s).hi < base+2^k:=by
 unfold SpM.fitS
 split
 .rename_i h;exact h
 .have h3:=SpM.pp k;have h7:=Int.emod_nonneg ((2:Int)^k - 1) (show(2:Int)^min s.z (SpM.Zn base)≠0 by have:=SpM.pp (min s.z (SpM.Zn base));lia)
  unfold SpM.settled
  split
  .exact⟨Int.le_refl _,by show base < _;lia⟩
  .exact⟨Int.le_refl _,by show base+2^k - 1 - _ < _;lia⟩
theorem vk {v:Int}{s:Nat}(h:(2:Int)^(s+3)∣v):3<=SpM.Zn v:=by
 by_cases e:v=0
 .subst e;rw[SpM.Zn_zero]
  decide
 .have:=SpM.dvd_Zn e h
  lia
theorem Ew {m s:Nat}(h:m+s<=7) (x:SpM.Span):(SpM.aimS m s x).hi < ((8*2^(m+s):Nat):Int)/\3<=(SpM.aimS m s x).z:=by
 have hp:=SpM.pp m;have hs:=SpM.pp s;have eT:((8*2^(m+s):Nat):Int)=8*(2^m*2^s):=by rw[<- Int.pow_add];push_cast;rfl
 have e:((2:Int)^m - 1) %2^m=2^m - 1:=Int.emod_eq_of_lt (by lia) (by lia)
 have h4:SpM.aimV m s (2^m - 1)=8*(2^m*2^s) - 8*2^s:=by
  unfold SpM.aimV;rw[e,Int.mul_comm (2^m - 1) 8,Int.mul_assoc,Int.sub_mul,Int.mul_sub]
  lia
 have hl:∀v,SpM.aimV m s v < ((8*2^(m+s):Nat):Int):=fun v=>by
  have:=(SpM.aim_le h v).2.1
  lia
 unfold SpM.aimS
 split
 .exact⟨hl _,vk (SpM.aim_dvd m s _)⟩
 .unfold SpM.settled
  split
  .rename_i z
   exact⟨by show(0:Int) < _;rw[eT];have:=Int.mul_pos hp hs;lia,vk (v:=0) (s:=s) ⟨0,by rw[Int.mul_zero]⟩⟩
  .exact⟨hl _,by show 3<=s+3;lia⟩
def fJ (x:Pn) (t:Int) (at_:Nat) (is:List Ins):Prop:=∀sp,Sp8 sp->okC x t at_ sp is
theorem sC {x:Pn}{t:Int}{b:List Ins}:∀ {a:List Ins}{at_:Nat}{sp:List SpM.Span},okC x t at_ sp a->okC x t (at_+lnW a) (ja x at_ sp a) b->okC x t at_ sp (a++b)
 | [],_,_,_,h=>h
 | kn::r,at_,sp,h,hb=>⟨h.1,h.2.1,h.2.2.1,sC (a:=r) h.2.2.2 (by
   rw[bo, <-Nat.add_assoc] at hb
   exact hb)⟩
theorem uy {x:Pn}{t:Int}(hR:SpM.Room x.pk x.pb) (hms:x.pm+x.ps<=7):∀ {a:List Ins}{at_:Nat}{sp:List SpM.Span},okC x t at_ sp a->Sp8 sp->Sp8 (ja x at_ sp a)
 | [],_,_,_,h=>h
 | _::r,_,_,h,h8=>uy (a:=r) hR hms h.2.2.2 (qH hR hms h.1 (hV h8))
theorem fJ.app {x:Pn}{t:Int}{at_:Nat}{a b:List Ins}(hR:SpM.Room x.pk x.pb) (hms:x.pm+x.ps<=7) (ha:fJ x t at_ a) (hb:fJ x t (at_+lnW a) b):fJ x t at_ (a++b):=fun sp h8=>sC (ha sp h8) (hb _ (uy hR hms (ha sp h8) h8))
theorem fJ.nil {x:Pn}{t:Int}{at_:Nat}:fJ x t at_ []:=fun _ _=>True.intro
theorem fJ.one {x:Pn}{t:Int}{at_:Nat}{kn:Ins}(h1:VI kn) (h2:at_ %8+bw kn.1<=8) (h3:∀sp,Sp8 sp->cq x.pk x.pb x.pg t kn.1 kn.2 sp=none):fJ x t at_ [kn]:=fun sp h8=>⟨h1,h2,h3 _ (hV h8),True.intro⟩
theorem cT {pk:Nat}{pb pg c:Int}{k:Nat}{ns:List Int}{sp:List SpM.Span}(h1:mk8 k->ns.getD 0 0≠7) (h2:(k=11\/k=12)->¬lF pk pb ns sp) (h3:(k=13\/k=14)->tgt k ns %8=0/\tgt k ns < c)
  (h4:k=15->(spG sp (ns.getD 0 0)).hi < c/\3<=(spG sp (ns.getD 0 0)).z) (h5:k=18->ns.getD 0 0 < pg):cq pk pb pg c k ns sp=none:=by
 unfold cq;rw[if_neg (fun z=>h1 z.1 z.2),if_neg (fun z=>h2 z.1 z.2),if_neg (fun z=>by have:=h3 z.1;lia),if_neg (fun z=>by have:=h4 z.1;lia),if_neg (fun z=>by have:=h5 z.1;lia)]
theorem my {pk:Nat}{pb pg c:Int}{k:Nat}{ns:List Int}{sp:List SpM.Span}(h:k=10\/k=16\/k=17) (h7:ns.getD 0 0≠7):cq pk pb pg c k ns sp=none:=cT (fun _=>h7) (fun z=>by lia) (fun z=>by lia) (fun z=>by lia) (fun z=>by lia)
theorem CH {pk:Nat}{pb pg c b:Int}{sp:List SpM.Span}(h:(spG sp b).hi < c/\3<=(spG sp b).z):cq pk pb pg c 15 [b] sp=none:=cT (fun z=>by unfold mk8 at z;lia) (fun z=>by lia) (fun z=>by lia) (fun _=>h) (fun z=>by lia)
theorem vV {pk:Nat}{pb pg c:Int}{k:Nat}{ns:List Int}{sp:List SpM.Span}(hk:k=13\/k=14) (h:tgt k ns %8=0/\tgt k ns < c):cq pk pb pg c k ns sp=none:=cT (fun z=>by unfold mk8 at z;lia) (fun z=>by lia) (fun _=>h) (fun z=>by lia) (fun z=>by lia)
theorem Ak {pk:Nat}{pb pg c:Int}{ns:List Int}{sp:List SpM.Span}:cq pk pb pg c 0 ns sp=none:=cT (fun z=>by unfold mk8 at z;lia) (fun z=>by lia) (fun z=>by lia) (fun z=>by lia) (fun z=>by lia)
theorem wO {sp:List SpM.Span}{s:SpM.Span}(h:Sp8 sp):spG (sp.set 6 s) 6=s:=by
 show(sp.set 6 s).getD 6 SpM.whole=s
 rw[List.getD_eq_getElem?_getD,List.getElem?_set_self (by rw[h.len];decide)]
 rfl
structure GI (nb:Nat) (g:Int) (kn:Ins):Prop where
 v6:aM 6 262144 kn.1 kn.2
 nm:kn.1≠16/\kn.1≠17
 j1:kn.1=13->kn.2.getD 0 0 < nb
 j2:kn.1=14->kn.2.getD 1 0 < nb
 gt:kn.1=18->kn.2.getD 0 0 < g
theorem aM.w8 {k:Nat}{ns:List Int}(h:aM 6 262144 k ns):aM 8 262144 k ns:=by
 rcases h with⟨e,rfl⟩|⟨e,x,v,rfl,x0,x1,v0,v1⟩|⟨h1,h2,x,y,z,rfl,x0,x1,y0,y1,z0,z1⟩|⟨h1,h2,x,y,z,rfl,x0,x1,y0,y1,z0,z1⟩|⟨hk,z,rfl,z0,z1⟩|⟨e,x,z,rfl,x0,x1,z0,z1⟩|⟨e,y,rfl,y0,y1⟩|⟨hk,x,y,rfl,x0,x1,y0,y1⟩
 .exact .inl ⟨e,rfl⟩
 .exact .inr (.inl ⟨e,x,v,rfl,x0,by lia,v0,v1⟩)
 .exact .inr (.inr (.inl ⟨h1,h2,x,y,z,rfl,x0,by lia,y0,by lia,z0,by lia⟩))
 .exact .inr (.inr (.inr (.inl ⟨h1,h2,x,y,z,rfl,x0,by lia,y0,by lia,z0,z1⟩)))
 .exact .inr (.inr (.inr (.inr (.inl ⟨hk,z,rfl,z0,z1⟩))))
 .exact .inr (.inr (.inr (.inr (.inr (.inl ⟨e,x,z,rfl,x0,by lia,z0,z1⟩)))))
 .exact .inr (.inr (.inr (.inr (.inr (.inr (.inl ⟨e,y,rfl,y0,by lia⟩))))))
 .exact .inr (.inr (.inr (.inr (.inr (.inr (.inr ⟨hk,x,y,rfl,x0,by lia,y0,by lia⟩))))))
theorem aM.box0 {bx mo:Int}{k:Nat}{ns:List Int}(h:aM bx mo k ns) (hm:mk8 k):ns.getD 0 0 < bx:=by
 unfold mk8 at hm;rcases h with⟨e,rfl⟩|⟨e,x,v,rfl,x0,x1,v0,v1⟩|⟨h1,h2,x,y,z,rfl,x0,x1,y0,y1,z0,z1⟩|⟨h1,h2,x,y,z,rfl,x0,x1,y0,y1,z0,z1⟩|⟨hk,z,rfl,z0,z1⟩|⟨e,x,z,rfl,x0,x1,z0,z1⟩|⟨e,y,rfl,y0,y1⟩|⟨hk,x,y,rfl,x0,x1,y0,y1⟩
 all_goals first | lia | assumption
theorem yA {n:Int}{nb m s:Nat}(h0:0<=n) (h1:n < nb) (hm:nb<=2^m):(n*((8*2^s:Nat):Int)) %8=0/\0<=n*((8*2^s:Nat):Int)/\n*((8*2^s:Nat):Int) < ((8*2^(m+s):Nat):Int):=by
 have e:n*((8*2^s:Nat):Int)=8*(n*2^s):=by push_cast;rw[Int.mul_left_comm]
 have hs:=SpM.pp s;have h4:(nb:Int)<=2^m:=by exact_mod_cast hm
 have h2:n*2^s < 2^m*2^s:=Int.mul_lt_mul_of_pos_right (by lia) hs
 have h3:=Int.mul_nonneg h0 (Int.le_of_lt hs);have eT:((8*2^(m+s):Nat):Int)=8*(2^m*2^s):=by rw[<- Int.pow_add];push_cast;rfl
 rw[e,eT]
 lia
theorem GE {m s:Nat}(h:m+s<=7):((8*2^(m+s):Nat):Int)<=1024:=by
 have:2^(m+s)<=2^7:=Nat.pow_le_pow_right (by decide) h
 lia
theorem nB {at_:Nat}{sp:List SpM.Span}(h:at_ %8≠0):bg at_ sp=sp:=by unfold bg;rw[if_neg h]
theorem Em {x:Pn}{nb at_:Nat}{kn:Ins}(hR:SpM.Room x.pk x.pb) (hms:x.pm+x.ps<=7) (h:GI nb x.pg kn) (hnb:nb<=2^x.pm) (hat:at_ %8+lnW (grp kn)<=8):fJ x ((8*2^(x.pm+x.ps):Nat):Int) at_ ((grp kn).map (plc (8*2^x.ps))):=by
 obtain⟨k,ns⟩:=kn;obtain⟨hv,hnm,j1,j2,gt⟩:=h;dsimp only at hv hnm j1 j2 gt;have hgv:=qw (kn:=(k,ns)) hv.w8
 by_cases h15:k=15
 .obtain⟨b,rfl,b0,b1⟩:=hv.thr h15;subst h15;have eg:grp (15,[b])=[(17,[6,b]),(15,[6])]:=rfl;rw[eg] at hat hgv ⊢;have hat:at_ %8+2<=8:=hat;intro sp h8;have v1:=hgv (17,[6,b]) List.mem_cons_self;have v2:=hgv (15,[6]) (List.mem_cons_of_mem _ List.mem_cons_self);show okC x _ at_ sp [(17,[6,b]),(15,[6])]
  refine⟨v1,by show at_ %8+1<=8;lia,?_,v2,by show(at_+1) %8+1<=8;lia,?_,True.intro⟩
  .exact my (k:=17) (.inr (.inr rfl)) (by show(6:Int)≠7;decide)
  .rw[nB (at_:=at_+bw 17) (by show(at_+1) %8≠0;lia)]
   refine CH ?_
   show(spG ((bg at_ sp).set 6 (SpM.aimS x.pm x.ps (spG (bg at_ sp) b))) 6).hi < _/\3<=(spG ((bg at_ sp).set 6 (SpM.aimS x.pm x.ps (spG (bg at_ sp) b))) 6).z
   rw[wO (hV h8)];exact Ew hms _
 by_cases hac:k=11\/k=12
 .obtain⟨a,b,n,rfl,a0,a1,b0,b1,n0,n1⟩:=hv.acc hac;have k1:bw k=1:=by unfold bw;rw[if_neg (by lia)]
  have pk_:plc (8*2^x.ps) (k,[a,6,0])=(k,[a,6,0]):=by unfold plc;rw[if_neg (by show ¬k=13;lia),if_neg (by show ¬k=14;lia)]
  have facc:∀(sp:List SpM.Span) (s:SpM.Span),Sp8 sp->cq x.pk x.pb x.pg ((8*2^(x.pm+x.ps):Nat):Int) k [a,6,0] (sp.set 6 (SpM.fitS x.pk x.pb s))=none:=fun sp s h8=>by
   refine cT (fun _=>by show a≠7;lia) (fun _=> ?_) (fun z=>by lia) (fun z=>by lia) (fun z=>by lia)
   unfold lF;show ¬((spG (sp.set 6 (SpM.fitS x.pk x.pb s)) 6).lo+0 < x.pb\/x.pb+2^x.pk<=(spG (sp.set 6 (SpM.fitS x.pk x.pb s)) 6).hi+0)
   rw[wO h8];have:=vE (k:=x.pk) (base:=x.pb) (s:=s)
   lia
  by_cases e0:n=0
  .subst e0;have eg:grp (k,[a,b,0])=[(16,[6,b]),(k,[a,6,0])]:=by
    unfold grp;rw[if_neg h15,if_pos hac]
    rfl
   rw[eg] at hat hgv ⊢;rw[bo,dC] at hat;have hat:at_ %8+(1+bw k)<=8:=hat;intro sp h8;have v1:=hgv (16,[6,b]) List.mem_cons_self;have v2:=hgv (k,[a,6,0]) (List.mem_cons_of_mem _ List.mem_cons_self);show okC x _ at_ sp [(16,[6,b]),plc (8*2^x.ps) (k,[a,6,0])]
   rw[pk_];refine⟨v1,by show at_ %8+1<=8;lia,?_,v2,by show(at_+1) %8+bw k<=8;lia,?_,True.intro⟩
   .exact my (k:=16) (.inr (.inl rfl)) (by show(6:Int)≠7;decide)
   .rw[nB (by show(at_+1) %8≠0;lia)]
    exact facc _ _ (hV h8)
  .have eg:grp (k,[a,b,n])=[(10,[6,b,n]),(16,[6,6]),(k,[a,6,0])]:=by
    unfold grp;rw[if_neg h15,if_pos hac,if_neg (show ¬(k,[a,b,n]).2.getD 2 0=0 from e0)]
    rfl
   rw[eg] at hat hgv ⊢;rw[bo,bo,dC] at hat;have hat:at_ %8+(1+(1+bw k))<=8:=hat;intro sp h8;have v1:=hgv (10,[6,b,n]) List.mem_cons_self;have v2:=hgv (16,[6,6]) (List.mem_cons_of_mem _ List.mem_cons_self);have v3:=hgv (k,[a,6,0]) (List.mem_cons_of_mem _ (List.mem_cons_of_mem _ List.mem_cons_self));show okC x _ at_ sp [(10,[6,b,n]),(16,[6,6]),plc (8*2^x.ps) (k,[a,6,0])]
   rw[pk_];refine⟨v1,by show at_ %8+1<=8;lia,?_,v2,by show(at_+1) %8+1<=8;lia,?_,v3,by show(at_+1+1) %8+bw k<=8;lia,?_,True.intro⟩
   .exact my (k:=10) (.inl rfl) (by show(6:Int)≠7;decide)
   .exact my (k:=16) (.inr (.inl rfl)) (by show(6:Int)≠7;decide)
   .rw[nB (by show(at_+1+1) %8≠0;lia)]
    exact facc _ _ (hV (qH hR hms v1 (hV h8)))
 have eg:grp (k,ns)=[(k,ns)]:=by
  unfold grp;rw[if_neg h15,if_neg hac]
 rw[eg] at hat ⊢;rw[dC] at hat;dsimp only at hat;have hT:=GE hms
 by_cases h13:k=13
 .obtain⟨n,rfl,n0,n1⟩:=hv.jmp h13;subst h13;have p3:=yA (s:=x.ps) n0 (j1 rfl) hnb;refine fJ.one (kn:=(13,[n*((8*2^x.ps:Nat):Int)])) (.inr (.inr (.inr (.inr (.inl ⟨.inl rfl,_,rfl,p3.2.1,by lia⟩))))) hat (fun sp _=> ?_)
  exact vV (k:=13) (.inl rfl) ⟨p3.1,p3.2.2⟩
 by_cases h14:k=14
 .obtain⟨a,n,rfl,a0,a1,n0,n1⟩:=hv.jif h14;subst h14;have p3:=yA (s:=x.ps) n0 (j2 rfl) hnb;refine fJ.one (kn:=(14,[a,n*((8*2^x.ps:Nat):Int)])) (.inr (.inr (.inr (.inr (.inr (.inl ⟨rfl,a,_,rfl,a0,by lia,p3.2.1,by lia⟩)))))) hat (fun sp _=> ?_)
  exact vV (k:=14) (.inr rfl) ⟨p3.1,p3.2.2⟩
 have ep:plc (8*2^x.ps) (k,ns)=(k,ns):=by unfold plc;rw[if_neg h13,if_neg h14]
 show fJ x _ at_ [plc (8*2^x.ps) (k,ns)]
 rw[ep];refine fJ.one hv.w8 hat (fun sp _=> ?_)
 exact cT (fun z=>by have:=hv.box0 z;show ns.getD 0 0≠7;lia) (fun z=>absurd z hac) (fun z=>z.elim (fun z=>absurd z h13) (fun z=>absurd z h14)) (fun z=>absurd z h15) gt
theorem uh {x:Pn}{t:Int}{kn:Ins}(hR:SpM.Room x.pk x.pb) (hms:x.pm+x.ps<=7) (h1:VI kn) (k1:kn.1≠1) (h3:∀sp,Sp8 sp->cq x.pk x.pb x.pg t kn.1 kn.2 sp=none):∀(n at_:Nat),fJ x t at_ (List.replicate n kn)
 | 0,_=>fJ.nil
 | n+1,at_=>by
  rw[List.replicate_succ];have e:bw kn.1=1:=by unfold bw;rw[if_neg k1]
  exact fJ.app (a:=[kn]) hR hms (fJ.one h1 (by rw[e];lia) h3) (uh hR hms h1 k1 h3 n _)
theorem Eh {x:Pn}{t:Int}(hR:SpM.Room x.pk x.pb) (hms:x.pm+x.ps<=7) (n at_:Nat):fJ x t at_ (List.replicate n nop):=
 uh hR hms we (by decide) (fun sp _=>my (k:=10) (.inl rfl) (by show(0:Int)≠7;decide)) n at_
theorem zP {x:Pn}{t:Int}(hR:SpM.Room x.pk x.pb) (hms:x.pm+x.ps<=7) (n at_:Nat):fJ x t at_ (List.replicate n ((0,[]):Ins)):=
 uh hR hms (.inl ⟨rfl,rfl⟩) (by decide) (fun sp _=>Ak) n at_
theorem yW (S n:Nat):(eB n).map (plc S)=eB n:=by
 unfold eB;rw[List.map_replicate]
 rfl
def fB (k:Nat):Prop:=k=0\/k=13\/k=15
structure Gr (g:Int) (gs:List (List Ins)):Prop where
 n0:0 < gs.length
 n16:gs.length<=16
 blk:∀bk∈gs,(∀ kn∈bk,GI gs.length g kn)/\bk.length<=30/\∃pre kn,bk=pre++[kn]/\fB kn.1
theorem Gr.gub {g:Int}{gs:List (List Ins)}(h:Gr g gs):GuB gs:=⟨h.n0,h.n16,fun bk hb=>⟨fun kn hk=>((h.blk bk hb).1 kn hk).v6.w8,(h.blk bk hb).2.1⟩⟩
theorem vR {x:Pn}{t:Int}(hR:SpM.Room x.pk x.pb) (hms:x.pm+x.ps<=7):∀ {ds:List Bk}{at_:Nat},at_ %8=0->(∀ d∈ds,(∀ a,a %8=0->fJ x t a (dJ (8*2^x.ps) d.1))/\lnW d.1<=8*2^x.ps)->fJ x t at_ (ds.flatMap fun d=>dJ (8*2^x.ps) d.1)
 | [],_,_,_=>fJ.nil
 | d::r,at_,hat,h=>by
  rw[List.flatMap_cons];obtain⟨h1,h2⟩:=h d List.mem_cons_self;refine fJ.app hR hms (h1 _ hat) (vR hR hms ?_ (fun e he=>h e (List.mem_cons_of_mem _ he)))
  rw[qL h2]
  lia
theorem A2 {x:Pn}{t:Int}{tot:Nat}{ds:List Bk}(hR:SpM.Room x.pk x.pb) (hms:x.pm+x.ps<=7) (h:∀d∈ds,(∀ a,a %8=0->fJ x t a (dJ (8*2^x.ps) d.1))/\lnW d.1<=8*2^x.ps):fJ x t 0 (bV (8*2^x.ps) tot ds):=
 fJ.app hR hms (vR hR hms rfl h) (zP hR hms _ _)
def jF (is:List Ins):Prop:=∃pre kn,is=pre++[kn]/\fB kn.1
theorem jF.app {a b:List Ins}(h:jF b):jF (a++b):=by
 obtain⟨pre,kn,rfl,hk⟩:=h;exact⟨a++pre,kn,by rw[List.append_assoc],hk⟩
theorem jF.stops {a:List Ins}{n:Nat}(h:jF a):jF (a++List.replicate n (0,[])):=by
 cases n with
 | zero=>rw[List.replicate_zero,List.append_nil];exact h
 | succ n=>exact jF.app ⟨List.replicate n (0,[]),(0,[]),List.replicate_succ',.inl rfl⟩
theorem jF.plc {is:List Ins}{S:Nat}(h:jF is):jF (is.map (plc S)):=by
 obtain⟨pre,kn,rfl,hk⟩:=h;exact⟨pre.map (My.plc S),My.plc S kn,by rw[List.map_append];rfl,by rw[qW];exact hk⟩
theorem EX {kn:Ins}(h:fB kn.1):jF (grp kn):=by
 obtain⟨k,ns⟩:=kn;unfold grp
 split
 .exact⟨[(17,[6,ns.getD 0 0])],(15,[6]),rfl,.inr (.inr rfl)⟩
 .split
  .rename_i z
   unfold fB at h;dsimp only at z h
   lia
  .exact⟨[],(k,ns),rfl,h⟩
theorem zo {S:Nat}:∀ {ds:List Bk},ds≠[]->(∀ d∈ds,jF d.1)->jF (ds.flatMap fun d=>dJ S d.1)
 | [],h,_=>absurd rfl h
 | d::[],_,h=>by
  rw[List.flatMap_cons];show jF (dJ S d.1++[])
  rw[List.append_nil];exact(h d List.mem_cons_self).plc.stops
 | d::e::r,_,h=>by
  rw[List.flatMap_cons];exact jF.app (zo (by intro z;cases z) (fun f hf=>h f (List.mem_cons_of_mem _ hf)))
theorem CI {S tot:Nat}{ds:List Bk}(h0:ds≠[]) (h:∀d∈ds,jF d.1):jF (bV S tot ds):=(zo h0 h).stops
theorem BN {x:Pn}{T:Int}{kn:Ins}{r:List Ins}:∀ {pre:List Ins}{at_:Nat}{sp:List SpM.Span},okC x T at_ sp (pre++kn::r)->VI kn/\(at_+lnW pre) %8+bw kn.1<=8/\cq x.pk x.pb x.pg T kn.1 kn.2 (bg (at_+lnW pre) (ja x at_ sp pre))=none
 | [],_,_,h=>⟨h.1,h.2.1,h.2.2.1⟩
 | j::p,at_,sp,h=>by
  have ih:=BN (pre:=p) (at_:=at_+bw j.1) h.2.2.2;rw[bo, <-Nat.add_assoc];exact ih
theorem Fz {kn:Ins}{pre r:List Ins}(h:VI kn):jL (av (pre++kn::r)) (lnW pre:Nat)=some kn:=by
 rw[dO,lH, <-List.append_assoc, <-ci];exact vF h
structure Kn where
 sp:List SpM.Span
 ft:Option (Int × Int)
def kn0:Kn:=⟨w8,none⟩
abbrev bnO (kn:Ins):Int × Int:=(kn.2.getD 1 0,kn.2.getD 2 0)
noncomputable def thG (rk:Nat) (rb:Int) (s:Kn) (kn:Ins):List Ins:=
 if ¬(kn.1=11\/kn.1=12) then grp kn
 else if ¬lF rk rb kn.2 s.sp then[kn]
 else if s.ft=some (bnO kn) then[(kn.1,[kn.2.getD 0 0,6,0])]
 else grp kn
def fG (m:Ins) (ft:Option (Int × Int)):Bool:=decide (m.1=18) || (decide (mk8 m.1) && (decide (m.2.getD 0 0=6) || (match ft with | none=>false | some f=>decide (m.2.getD 0 0=f.1))))
noncomputable def lrn1 (rk:Nat) (rb:Int) (kn:Ins) (s:Kn) (m:Ins):Kn:=⟨dE rk rb 0 0 m.1 m.2 s.sp,if m.1=16 then some (bnO kn) else if fG m s.ft=true then none else s.ft⟩
noncomputable def lrnG (rk:Nat) (rb:Int) (kn:Ins) (s:Kn) (g:List Ins):Kn:=g.foldl (lrn1 rk rb kn) s
noncomputable def knB (is:List Ins) (s:Kn):Kn:=if lnW is %8=0 then kn0 else s
noncomputable def thS (rk : Nat) (rb : Int) (st : Bk × Kn) (kn : Ins) : Bk × Kn :=
  ((ba st.1.1 (thG rk rb st.2 kn) ++ thG rk rb (knB (ba st.1.1 (thG rk rb st.2 kn)) st.2) kn, st.1.2 ++ [lnW (ba st.1.1 (thG rk rb st.2 kn))]),
   lrnG rk rb kn (knB (ba st.1.1 (thG rk rb st.2 kn)) st.2) (thG rk rb (knB (ba st.1.1 (thG rk rb st.2 kn)) st.2) kn))
noncomputable def thB (rk:Nat) (rb:Int) (b:List Ins):Bk × Kn:=b.foldl (thS rk rb) (([],[]),kn0)
theorem fF {rk:Nat}{rb:Int}{b:List Ins}{j:Nat}{kn:Ins}(h:b[j]? =some kn):thB rk rb (b.take (j+1))=thS rk rb (thB rk rb (b.take j)) kn:=by
 unfold thB;rw[List.take_succ,h,List.foldl_append]
 rfl
theorem dt (rk:Nat) (rb:Int) (s:Kn) (kn:Ins):thG rk rb s kn=grp kn\/((kn.1=11\/kn.1=12)/\¬lF rk rb kn.2 s.sp/\thG rk rb s kn=[kn])\/((kn.1=11\/kn.1=12)/\s.ft=some (bnO kn)/\thG rk rb s kn=[(kn.1,[kn.2.getD 0 0,6,0])]):=by
 unfold thG
 split
 .exact .inl rfl
 .rename_i h
  have h:kn.1=11\/kn.1=12:=Decidable.not_not.mp h
  split
  .rename_i h2;exact .inr (.inl ⟨h,h2,rfl⟩)
  .split
   .rename_i h3;exact .inr (.inr ⟨h,h3,rfl⟩)
   .exact .inl rfl
theorem vx {kn:Ins}(h:VI kn) (hk:kn.1=11\/kn.1=12):VI (kn.1,[kn.2.getD 0 0,6,0]):=by
 obtain⟨k,ns⟩:=kn;obtain⟨a,b,n,e,a0,a1,b0,b1,n0,n1⟩:=aM.acc h hk;dsimp only at e hk;subst e;exact .inr (.inr (.inr (.inl ⟨by show 10<=k;lia,by show k<=12;lia,a,6,0,rfl,a0,a1,by decide,by decide,by decide,by decide⟩)))
theorem jI {rk:Nat}{rb:Int}{s:Kn}{kn:Ins}(h:VI kn):∀g∈thG rk rb s kn,VI g:=by
 intro g hg;rcases dt rk rb s kn with e | ⟨hk,_,e⟩|⟨hk,_,e⟩
 .rw[e] at hg;exact qw h g hg
 .rw[e,List.mem_singleton] at hg;rw[hg];exact h
 .rw[e,List.mem_singleton] at hg;rw[hg];exact vx h hk
theorem nG (rk:Nat) (rb:Int) (s:Kn) (kn:Ins):1<=lnW (thG rk rb s kn)/\lnW (thG rk rb s kn)<=3:=by
 rcases dt rk rb s kn with e | ⟨hk,_,e⟩|⟨hk,_,e⟩
 .rw[e];exact kZ kn
 .rw[e,dC];have:=gJ kn.1;lia
 .rw[e,dC];have:=gJ kn.1;exact⟨this.1,by show bw kn.1<=3;lia⟩
theorem wS (rk:Nat) (rb:Int) (s:Kn) (kn:Ins):(thG rk rb s kn).length<=3:=by
 rcases dt rk rb s kn with e | ⟨hk,_,e⟩|⟨hk,_,e⟩
 .rw[e];exact BP kn
 .rw[e];simp
 .rw[e];simp
theorem BO {kn:Ins}(h:kn.1≠16):∀g∈grp kn,g.1=16->kn.1=11\/kn.1=12:=by
 intro g hg e;unfold grp at hg
 split at hg
 .simp only[List.mem_cons,List.not_mem_nil,or_false] at hg
  rcases hg with rfl | rfl
  .exact absurd (show(17:Nat)=16 from e) (by decide)
  .exact absurd (show(15:Nat)=16 from e) (by decide)
 .split at hg
  .assumption
  .rw[List.mem_singleton] at hg;rw[hg] at e;exact absurd e h
theorem Ft {rk:Nat}{rb:Int}{s:Kn}{kn:Ins}(h:kn.1≠16):∀g∈thG rk rb s kn,g.1=16->kn.1=11\/kn.1=12:=by
 intro g hg e;rcases dt rk rb s kn with z | ⟨hk,_,z⟩|⟨hk,_,z⟩
 .rw[z] at hg;exact BO h g hg e
 .exact hk
 .exact hk
theorem Fy (is g:List Ins):(ba is g).length<=is.length+8:=by
 unfold ba
 split
 .lia
 .rw[List.length_append];unfold eB;rw[List.length_replicate]
  lia
theorem o0 (rk:Nat) (rb:Int) (b:List Ins):∀j,j<=b.length->lnW (thB rk rb (b.take j)).1.1<=if j %2=0 then 4*j else 4*(j - 1)+3
 | 0,_=>by simp [thB,lnW]
 | j+1,h=>by
  have ih:=o0 rk rb b j (by lia)
  have e:b[j]? =some b[j]:=List.getElem?_eq_getElem (by lia)
  rw[fF e];show lnW (ba _ _++thG rk rb _ b[j])<=_
  rw[a8];have h1:=(zv (thB rk rb (b.take j)).1.1 (thG rk rb (thB rk rb (b.take j)).2 b[j])).2;have h2:=nG rk rb (thB rk rb (b.take j)).2 b[j];have h3:=nG rk rb (knB (ba (thB rk rb (b.take j)).1.1 (thG rk rb (thB rk rb (b.take j)).2 b[j])) (thB rk rb (b.take j)).2) b[j];generalize lnW (ba (thB rk rb (b.take j)).1.1 (thG rk rb (thB rk rb (b.take j)).2 b[j]))=x at*;generalize lnW (thB rk rb (b.take j)).1.1=y at*
  by_cases c:j %2=0
  .rw[if_pos c] at ih;rw[if_neg (by lia)]
   lia
  .rw[if_neg c] at ih;rw[if_pos (by lia)]
   lia
theorem G1 (rk:Nat) (rb:Int) (b:List Ins):lnW (thB rk rb b).1.1<=4*b.length+3:=by
 have:=o0 rk rb b b.length (Nat.le_refl _);rw[List.take_length] at this
 split at this <;> lia
theorem ml (rk:Nat) (rb:Int) (b:List Ins):∀j,j<=b.length->(thB rk rb (b.take j)).1.2.length=j
 | 0,_=>by simp [thB]
 | j+1,h=>by
  have e:b[j]? =some b[j]:=List.getElem?_eq_getElem (by lia)
  rw[fF e];show((thB rk rb (b.take j)).1.2++[_]).length=_
  rw[List.length_append,ml rk rb b j (by lia)]
  rfl
theorem Ga {rk:Nat}{rb:Int}(hR:SpM.Room rk rb) {kn:Ins}:∀ {g:List Ins}{s:Kn},(∀ m∈g,VI m)->Sp8 s.sp->Sp8 (lrnG rk rb kn s g).sp
 | [],_,_,h=>h
 | m::r,s,hv,h=>Ga hR (g:=r) (s:=lrn1 rk rb kn s m) (fun x hx=>hv x (List.mem_cons_of_mem _ hx)) (qH hR (by decide) (hv m List.mem_cons_self) h)
abbrev kfs (pl sa:Addr) (fv:V):List (Str × V):=[("plan",.ref pl),("spans",.ref sa),("fitted",fv)]
def FtA (K:Frag) (H:Hp) (v:V):Option (Int × Int)->Prop
 | none=>v= .non
 | some f=>∃t,v= .ref t/\SqT K H t (([f.1,f.2]:List Int).map V.int)
theorem FtA.mono {K:Frag}{H H':Hp}{v:V}{o:Option (Int × Int)}(f:∀t xs,SqT K H t xs->SqT K H' t xs) (h:FtA K H v o):FtA K H' v o:=by
 cases o with
 | none=>exact h
 | some z=>obtain⟨t,e,h⟩:=h;exact⟨t,e,f _ _ h⟩
structure jE (K:Frag) (C:Addr) (H:Hp) (x dx:Addr) (rk:Nat) (rb:Int) (s:Kn):Prop where
 ex:∃pl sa fv,H x=some (.ins C dx (kfs pl sa fv))/\Pl H pl rk rb 0 0 0/\SpT K H sa s.sp/\FtA K H fv s.ft
 s8:Sp8 s.sp
theorem SpT.keep {H H':Hp}{a:Addr}{sp:List SpM.Span}(f:∀t xs,SqT K H t xs->SqT K H' t xs) (g:∀t xs,H t=some (.tup xs)->H' t=some (.tup xs)) (h:SpT K H a sp):SpT K H' a sp:=let ⟨as,h1,h2⟩:=h;⟨as,f _ _ h1,h2.mono g⟩
theorem jE.same {K:Frag}{C:Addr}{H H':Hp}{x dx:Addr}{rk:Nat}{rb:Int}{s:Kn}(e:ay H H') (h:jE K C H x dx rk rb s):jE K C H' x dx rk rb s:=by
 obtain⟨⟨pl,sa,fv,h1,h2,h3,h4⟩,h8⟩:=h;exact⟨⟨pl,sa,fv,e _ _ h1,h2.mv e,h3.same e,h4.mono (fun _ _ z=>e.tup z)⟩,h8⟩
theorem fH {K:Frag}{H H':Hp}{x t:Addr}{C dx:Addr}{fs:List (Str × V)}{xs:List V}(b:But x H H') (hx:H x=some (.ins C dx fs)) (h:SqT K H t xs):SqT K H' t xs:=by
 rcases h with(h | ⟨o,h⟩) | h
 .exact .inl (.inl (b _ _ (dn h hx (by intro z;cases z)) h))
 .exact .inl (.inr ⟨o,b _ _ (dn h hx (by intro z;cases z)) h⟩)
 .exact .inr h
theorem pY {H H':Hp}{x a:Addr}{C dx:Addr}{fs:List (Str × V)}{k:Nat}{bb:Int}{m s:Nat}{g:Int}(b:But x H H') (hx:H x=some (.ins C dx fs)) (h:Pl H a k bb m s g):Pl H' a k bb m s g:=
 ⟨b _ _ (dn h.at_ hx (by intro z;cases z)) h.at_,h.room,h.ms⟩
theorem oZ {H H':Hp}{x a:Addr}{C dx:Addr}{fs:List (Str × V)}{sp:List SpM.Span}(b:But x H H') (hx:H x=some (.ins C dx fs)) (h:SpT K H a sp):SpT K H' a sp:=
 h.keep (fun _ _ z=>fH b hx z) (fun _ _ z=>b _ _ (dn z hx (by intro z;cases z)) z)
theorem qq:∀k,k < 19->(V.str (aI k)=V.str "gate"↔k=18):=by decide +kernel
theorem zk:∀k,k < 19->(V.str (aI k)=V.str "fit"↔k=16):=by decide +kernel
def Bp (K:Frag) (C:Addr):Sp:=fun vs H Q _=>∃(H0:Hp) (x dx rm:Addr) (rk:Nat) (rb:Int),vs=[.ref x,.ref rm]/\H x=some (.ins C dx [])/\H0 x=none/\ay H0 H/\SqT K H rm [.int rk,.int rb]/\SpM.Room rk rb/\
 ∀H',ay H0 H'->jE K C H' x dx rk rb kn0->Q .non H'
def yo (K:Frag) (C:Addr):Sp:=fun vs H Q _=>∃(x dx:Addr) (rk:Nat) (rb:Int) (s:Kn),vs=[.ref x]/\jE K C H x dx rk rb s/\∀H',But x H H'->jE K C H' x dx rk rb kn0->Q .non H'
def FS (K:Frag) (C:Addr):Sp:=fun vs H Q _=>∃(x dx t:Addr) (rk:Nat) (rb:Int) (s:Kn) (kn:Ins),vs=[.ref x,.ref t]/\jE K C H x dx rk rb s/\SqT K H t (aE kn.1 kn.2)/\VI kn/\
 ∀(g:Addr) (ts:List Addr) (H':Hp),ay H H'->SqT K H' g (ts.map V.ref)->cf K H' ts (thG rk rb s kn)->Q (.ref g) H'
def Dl (K:Frag) (C:Addr):Sp:=fun vs H Q _=>∃(x dx t:Addr) (rk:Nat) (rb:Int) (s:Kn) (m:Ins),vs=[.ref x,.ref t]/\jE K C H x dx rk rb s/\SqT K H t (aE m.1 m.2)/\VI m/\Q (.bl (fG m s.ft)) H
def F5 (K:Frag) (C:Addr):Sp:=fun vs H Q _=>∃(x dx t g:Addr) (ts:List Addr) (rk:Nat) (rb:Int) (s:Kn) (kn:Ins) (gs:List Ins),vs=[.ref x,.ref t,.ref g]/\jE K C H x dx rk rb s/\SqT K H t (aE kn.1 kn.2)/\VI kn/\SqT K H g (ts.map V.ref)/\cf K H ts gs/\(∀ m∈gs,VI m)/\
 (∀ m∈gs,m.1=16->kn.1=11\/kn.1=12)/\gs.length<=10/\∀H',But x H H'->jE K C H' x dx rk rb (lrnG rk rb kn s gs)->Q .non H'
theorem qf {C:Addr}(B:Bi mg) (c:gF K mg "Known" C) (n:kO K C) (D:ga K C) (bN:Has P w K mg base 2 "first_spans" [] (EY K)):dD P w K mg base 3 C "__init__" x8 (Bp K C):=by
 refine D.has c.cl pq (fun vs H Q E h=> ?_) (fun f cdv A outer s H vs Q E hr h=> ?_)
 .obtain⟨H0,x,dx,rm,rk,rb,rfl,_⟩:=h
  rfl
 obtain⟨H0,x,dx,rm,rk,rb,rfl,hx,x0,sm,hrm,hR,q⟩:=h;have hc:=c.cl;have n1:=n.plan;have n2:=n.spans;have n3:=n.fitted;have i0:atI [V.int rk,V.int rb] 0=some (.int rk):=a9 (j:=0) rfl;have i1:atI [V.int rk,V.int rb] 1=some (.int rb):=a9 (j:=1) rfl
 refine⟨_,(ac (gv (pv 0) (aw (pa5 (pX ai (pv 1) aa) (pX ai (pv 1) aa) aa aa aa)) (by rfl))
   (ac (gv (pv 0) (fh (bN.mono (by omega)) hr (by rfl)) (by rfl))
   (ae (gv (pv 0) cQ (by rfl))))),?_⟩
 try dsimp only[aY]
 walk_at "g";intro pl hpl;have xp:x≠pl:=aB hx hpl;have hx1:upd H pl (.tup [.int rk,.int rb,.int 0,.int 0,.int 0]) x=some (.ins C dx []):=by rw[az xp];exact hx
 have s1:=af hpl (.tup [.int rk,.int rb,.int 0,.int 0,.int 0]);have p1:upd H pl (.tup [.int rk,.int rb,.int 0,.int 0,.int 0]) pl=some (.tup [.int rk,.int rb,.int 0,.int 0,.int 0]):=ad;generalize upd H pl (.tup [.int rk,.int rb,.int 0,.int 0,.int 0])=H1 at*;walk_at "g";intro sa H2 s2 hsa;have x2:H2 x=some (.ins C dx [("plan",.ref pl)]):=s2 _ _ ad;have p2:H2 pl=some (.tup [.int rk,.int rb,.int 0,.int 0,.int 0]):=s2 _ _ (by rw[az (Ne.symm xp)];exact p1)
 have S2:ay H0 H2:=fun a o h=>s2 _ _ (by rw[az (aB h x0)];exact s1 _ _ (sm _ _ h))
 clear s2 s1 hx1 p1 hx;walk_at "g";have b3:But x H2 (upd (upd H2 x (.ins C dx (fu "spans" (.ref sa) [("plan",.ref pl)]))) x (.ins C dx (fu "fitted" .non (fu "spans" (.ref sa) [("plan",.ref pl)])))):=fun a o na h=>by rw[az na,az na];exact h
 refine q _ (fun a o h=>b3 _ _ (aB h x0) (S2 _ _ h)) ⟨⟨pl,sa,.non,?_,pY b3 x2 ⟨p2,hR,by decide⟩,oZ b3 x2 hsa,rfl⟩,xZ⟩
 rw[ad]
 rfl
theorem sf {C:Addr}(B:Bi mg) (c:gF K mg "Known" C) (n:kO K C) (D:iu K C) (bN:Has P w K mg base 2 "first_spans" [] (EY K)):dD P w K mg base 3 C "forget" dQ (yo K C):=by
 refine D.has c.cl rM (fun vs H Q E h=> ?_) (fun f cdv A outer s H vs Q E hr h=> ?_)
 .obtain⟨x,dx,rk,rb,st,rfl,_⟩:=h
  rfl
 obtain⟨x,dx,rk,rb,st,rfl,⟨⟨pl,sa,fv,hx,hpl,hsa,hft⟩,h8⟩,q⟩:=h;have hc:=c.cl;have n2:=n.spans;have n3:=n.fitted
 refine⟨_,(ac (gv (pv 0) (fh (bN.mono (by omega)) hr (by rfl)) (by rfl))
   (ae (gv (pv 0) cQ (by rfl)))),?_⟩
 try dsimp only[aY]
 walk_at "g";intro sa2 H2 s2 hsa2;have x2:=s2 _ _ hx;have p2:=hpl.mv s2;walk_at "g";have b3:But x H2 (upd (upd H2 x (.ins C dx (fu "spans" (.ref sa2) (kfs pl sa fv)))) x (.ins C dx (fu "fitted" .non (fu "spans" (.ref sa2) (kfs pl sa fv))))):=fun a o na h=>by rw[az na,az na];exact h
 refine q _ (fun a o na h=>b3 _ _ na (s2 _ _ h)) ⟨⟨pl,sa2,.non,?_,pY b3 x2 p2,oZ b3 x2 hsa2,rfl⟩,xZ⟩
 rw[ad]
 rfl
theorem nJ {C:Addr}(B:Bi mg) (c:gF K mg "Known" C) (n:kO K C) (D:eO K C) (cF:Has P w K mg base 1 "is_access" cy (Ek K)) (aR:Has P w K mg base 1 "access_by_mask" cy (DC K)) (cx:Has P w K mg base 2 "masked_group" cy (GY K))
  (cE:Has P w K mg base 2 "may_reach_out" gn (Et K)):dD P w K mg base 3 C "thin_group" lQ (FS K C):=by
 refine D.has c.cl nO (fun vs H Q E h=> ?_) (fun f cdv A outer s H vs Q E hr h=> ?_)
 .obtain⟨x,dx,t,rk,rb,st,kn,rfl,_⟩:=h
  rfl
 obtain⟨x,dx,t,rk,rb,st,kn,rfl,⟨⟨pl,sa,fv,hx,hpl,hsa,hft⟩,h8⟩,ht,hv,q⟩:=h;have k19:kn.1 < 19:=hv.lt19;have hc:=c.cl;have n1:=n.plan;have n2:=n.spans;have n3:=n.fitted
 refine⟨_,(ac (ax (gx (cI (pcH cF hr (pa1 (pv 1))))) (ae (ah (pcH cx hr (pa1 (pv 1))))) al)
   (ac (ax (gx (cI (pcH cE hr (pa3 (d4 (pv 0) (by rfl)) (pv 1) (d4 (pv 0) (by rfl)))))) (ae (ah (aw (pa1 (pv 1))))) al)
   (ac (ax (pcT (yH (uU hr)) (d4 (pv 0) (by rfl)) (dm iT (pv 1) (dW aa) fz)) (ae (ah (aw (pa1 (pcH aR hr (pa1 (pv 1))))))) al)
   (ae (ah (pcH cx hr (pa1 (pv 1)))))))),?_⟩
 try dsimp only[aY]
 walk_at "g"
 by_cases hac:kn.1=11\/kn.1=12
 rotate_left
 .rw[decide_eq_false hac];walk_at "g";intro g ts H1 s1 hg hi;refine q g ts H1 s1 hg ?_
  unfold thG;rw[if_pos hac];exact hi
 rw[decide_eq_true hac];walk_at "g"
 by_cases ho:lF rk rb kn.2 st.sp
 rotate_left
 .rw[decide_eq_false ho];walk_at "g";intro g hg;refine q g [t] _ (af hg _) (SqT.of ad) ?_
  unfold thG;rw[if_neg (not_not_intro hac),if_pos ho];exact⟨(af hg _).tup ht,True.intro⟩
 rw[decide_eq_true ho];walk_at "g";obtain⟨a,b,nn,ens,a0,a1,b0,b1,nn0,nn1⟩:=hv.acc hac;refine⟨(fun z=>by rw[ens] at z;exact absurd (show(2:Nat)=0 from z.1) (by decide)),fun p hp=> ?_⟩
 have hcut:fZ (aE kn.1 kn.2) (some 2) none=([b,nn]:List Int).map V.int:=by rw[ens];rfl
 rw[hcut];have s1:=af hp (.tup (([b,nn]:List Int).map V.int));have p1:SqT K (upd H p (.tup (([b,nn]:List Int).map V.int))) p (([b,nn]:List Int).map V.int):=SqT.of ad;generalize upd H p (.tup (([b,nn]:List Int).map V.int))=H1 at*;have ht1:=s1.tup ht;have eb:bnO kn=(b,nn):=by unfold bnO;rw[ens];rfl
 have fin:st.ft≠some (b,nn)->∀g ts H2,ay H1 H2->SqT K H2 g (ts.map V.ref)->cf K H2 ts (grp kn)->Q (.ref g) H2:=fun hne g ts H2 s2 hg hi=>by
  refine q g ts H2 (s1.trans s2) hg ?_
  unfold thG;rw[if_neg (not_not_intro hac),if_neg (not_not_intro ho),if_neg (by rw[eb];exact hne)]
  exact hi
 have hft1:=hft.mono (fun _ _ z=>s1.tup z)
 cases hf:st.ft with
 | none=>
  rw[hf] at hft1;obtain rfl:fv= .non:=hft1;refine .inl ⟨rfl,p,_,rfl,p1,?_⟩
  walk_at "g";exact fin (by rw[hf];intro z;cases z)
 | some fb=>
  rw[hf] at hft1;obtain⟨tf,rfl,htf⟩:=hft1;refine .inr ⟨tf,p,_,_,rfl,rfl,htf,p1,?_⟩
  by_cases he:fb=(b,nn)
  .subst he;rw[show(if false=true then !decide (([b,nn]:List Int)=[b,nn]) else decide (([b,nn]:List Int)=[b,nn]))=true from by rw[if_neg (by decide),decide_eq_true rfl]]
   have ht2:SqT K H1 t (aE kn.1 (a::[b,nn])):=by rw[<- ens];exact ht1
   walk_at "g";intro g1 hg1;have s2:=af hg1 (.tup (aE kn.1 [a,6,0]));have q2:SqT K (upd H1 g1 (.tup (aE kn.1 [a,6,0]))) g1 (aE kn.1 [a,6,0]):=SqT.of ad;generalize upd H1 g1 (.tup (aE kn.1 [a,6,0]))=H2 at*;walk_at "g";intro g hg;refine q g [g1] _ ((s1.trans s2).trans (af hg _)) (SqT.of ad) ?_
   unfold thG;rw[if_neg (not_not_intro hac),if_neg (not_not_intro ho),if_pos (by rw[eb];exact hf),ens]
   exact⟨(af hg _).tup q2,True.intro⟩
  .have hne:([fb.1,fb.2]:List Int)≠[b,nn]:=fun z=>he (by
    injection z with z1 z2
    injection z2 with z2 _
    exact Prod.ext z1 z2)
   rw[show(if false=true then !decide (([fb.1,fb.2]:List Int)=[b,nn]) else decide (([fb.1,fb.2]:List Int)=[b,nn]))=false from by rw[if_neg (by decide),decide_eq_false hne]]
   walk_at "g";exact fin (by rw[hf];intro z;exact he (Option.some.inj z))
theorem nP {C:Addr}(B:Bi mg) (c:gF K mg "Known" C) (n:kO K C) (D:e9 K C) (cZ:Has P w K mg base 1 "made_box" cy (EW K)):dD P w K mg base 2 C "is_lost_by" yK (Dl K C):=by
 refine D.has c.cl gC (fun vs H Q E h=> ?_) (fun f cdv A outer s H vs Q E hr h=> ?_)
 .obtain⟨x,dx,t,rk,rb,st,kn,rfl,_⟩:=h
  rfl
 obtain⟨x,dx,t,rk,rb,st,kn,rfl,⟨⟨pl,sa,fv,hx,hpl,hsa,hft⟩,h8⟩,ht,hv,q⟩:=h;have k19:kn.1 < 19:=hv.lt19;have hc:=c.cl;have n3:=n.fitted;have i0:atI (aE kn.1 kn.2) 0=some (.str (aI kn.1)):=lR
 refine⟨_,(ac (psS 2 gC.nd (pcH cZ hr (pa1 (pv 1))))
   (ae (ah (pH (pcE aG (pX ai (pv 1) aa) au) (pH (pcE aG (pv 2) aa) (iZ (En (Er (sA (d4 (pv 0) (by rfl)))) (iZ (pcE aG (pv 2) (pX ai (d4 (pv 0) (by rfl)) aa)))))))))),?_⟩
 try dsimp only[aY]
 walk_at "g";have k18m:¬(kn.1=18/\mk8 kn.1):=by unfold mk8;lia
 have lq:fG kn st.ft=(decide (kn.1=18) || (decide (mk8 kn.1) && (decide (kn.2.getD 0 0=6) || (match st.ft with | none=>false | some f=>decide (kn.2.getD 0 0=f.1))))):=rfl
 refine⟨fun hm=> ?_,fun hm=> ?_⟩
 .have k18:kn.1≠18:=fun z=>k18m ⟨z,hm⟩
  rw[decide_eq_false k18,decide_eq_true hm,Bool.false_or,Bool.true_and] at lq;walk_at "g";refine d3 (fun z=>k18 ((qq kn.1 k19).mp z)) ?_
  walk_at "g";refine aV (fun c6=> ?_) (fun c6=> ?_)
  .have c6:kn.2.getD 0 0=6:=by injection c6
   rw[decide_eq_true c6,Bool.true_or] at lq;rw[lq] at q;walk_at "g";exact q
  have c6:¬kn.2.getD 0 0=6:=fun z=>c6 (by rw[z])
  rw[decide_eq_false c6,Bool.false_or] at lq;walk_at "g"
  cases hf:st.ft with
  | none=>
   rw[hf] at hft lq q;obtain rfl:fv= .non:=hft;rw[lq] at q;walk_at "g";exact q
  | some fb=>
   rw[hf] at hft lq q;obtain⟨tf,rfl,htf⟩:=hft;have j0:atI (([fb.1,fb.2]:List Int).map V.int) 0=some (.int fb.1):=a9 (j:=0) rfl;rw[lq] at q;walk_at "g";rw[show decide (V.int (kn.2.getD 0 0)=V.int fb.1)=decide (kn.2.getD 0 0=fb.1) from decide_eq_decide.mpr ⟨fun z=>(by injection z),fun z=>by rw[z]⟩]
   exact q
 .rw[decide_eq_false hm,Bool.false_and,Bool.or_false] at lq;walk_at "g";refine aV (fun c=> ?_) (fun c=> ?_)
  .have k18:kn.1=18:=(qq kn.1 k19).mp c;rw[decide_eq_true k18] at lq;rw[lq] at q;walk_at "g";exact q
  have k18:¬kn.1=18:=fun z=>c ((qq kn.1 k19).mpr z)
  rw[decide_eq_false k18] at lq;rw[lq] at q;walk_at "g"
  cases hf:st.ft with
  | none=>
   rw[hf] at hft;obtain rfl:fv= .non:=hft;refine yv rfl ?_
   exact q
  | some fb=>
   rw[hf] at hft;obtain⟨tf,rfl,htf⟩:=hft;have j0:atI (([fb.1,fb.2]:List Int).map V.int) 0=some (.int fb.1):=a9 (j:=0) rfl;refine Ir rfl ?_
   walk_at "g";exact q
theorem mn {C:Addr}(B:Bi mg) (c:gF K mg "Known" C) (n:kO K C) (D:d_ K C) (cS:Has P w K mg base 8 "spans_behind" gn (G0 K)) (eL:dD P w K mg base 2 C "is_lost_by" yK (Dl K C)):
  dD P w K mg base 9 C "learn_group" Ad (F5 K C):=by
 refine D.has c.cl gp (fun vs H Q E h=> ?_) (fun f cdv A outer s H vs Q E hr h=> ?_)
 .obtain⟨x,dx,t,g,ts,rk,rb,st,kn,gs,rfl,_⟩:=h
  rfl
 obtain⟨x,dx,t,g,ts,rk,rb,st,kn,gs,rfl,hk,ht,hv,hg,hi,hgv,hgf,hgl,q⟩:=h;have hc:=c.cl;have n1:=n.plan;have n2:=n.spans;have n3:=n.fitted;have hR:SpM.Room rk rb:=by obtain⟨_,_,_,_,z,_⟩:=hk.ex;exact z.room
 obtain⟨pl0,sa0,fv0,hx0,_⟩:=hk.ex
 refine⟨_,(ae (d8 PassesOwn.never (by rfl) (dB (lK (pv 2))) (aP (i:=3) gp.nd (by rfl) (by left;rfl)) (ac (gv (pv 0) (pcH cS hr (pa3 (d4 (pv 0) (by rfl)) (pv 3) (d4 (pv 0) (by rfl)))) (by rfl))
   (ae (aL (bn (ax (pcT aG (pX ai (pv 3) aa) au) (ae (gv (pv 0) (dm iT (pv 1) (dW aa) fz) (by rfl))) (ae (aL (bn (ax (cI (eA (eL.mono (by omega)) hr (pv 0) (pa1 (pv 3)))) (ae (gv (pv 0) cQ (by rfl))) al))))))))))),?_⟩
 try dsimp only[aY]
 walk_at "g"
 refine⟨sH (xs:=ts.map V.ref) (fun j Z H'=>∃y,Z=[some (.ref x),some (.ref t),some (.ref g),y]/\aA (But x H H')/\jE K C H' x dx rk rb (lrnG rk rb kn st (gs.take j)))
  ⟨_,rfl,⟨But.refl _ _⟩,hk⟩ ?_ ?_ ?_⟩
 .rintro j Z H' _ ⟨y,rfl,⟨s2⟩,_⟩
  exact fH s2 hx0 hg
 .rintro j u Z H' hj ⟨y,rfl,⟨b2⟩,hk2⟩
  obtain⟨tm,et,rfl⟩:=bv hj;obtain⟨m,em,hm⟩:=hi.get et;have hvm:=hgv m (List.mem_of_getElem? em);have hfm:=hgf m (List.mem_of_getElem? em);have m19:m.1 < 19:=hvm.lt19;have hm2:=fH b2 hx0 hm;have ht2:=fH b2 hx0 ht;have els:lrnG rk rb kn st (gs.take (j+1))=lrn1 rk rb kn (lrnG rk rb kn st (gs.take j)) m:=by
   unfold lrnG;rw[List.take_succ,em,List.foldl_append]
   rfl
  generalize lrnG rk rb kn st (gs.take j)=s2 at*;obtain⟨⟨pl,sa,fv,hx,hpl,hsa,hft⟩,h8⟩:=id hk2;have i0:atI (aE m.1 m.2) 0=some (.str (aI m.1)):=lR;walk_at "g";intro p3 H2 s3 hsp3;have x2:=s3 _ _ hx;have b3:But x H2 (upd H2 x (.ins C dx (fu "spans" (.ref p3) (kfs pl sa fv)))):=fun a o na h=>by rw[az na];exact h
  have B3:But x H (upd H2 x (.ins C dx (fu "spans" (.ref p3) (kfs pl sa fv)))):=fun a o na h=>b3 _ _ na (s3 _ _ (b2 _ _ na h))
  have x3:upd H2 x (.ins C dx (fu "spans" (.ref p3) (kfs pl sa fv))) x=some (.ins C dx (kfs pl p3 fv)):=ad;have pl3:=pY b3 x2 (hpl.mv s3);have sp3:=oZ b3 x2 hsp3;have ft3:=(hft.mono (fun _ _ z=>s3.tup z)).mono (fun _ _ z=>fH b3 x2 z)
  have hm3:=fH b3 x2 (s3.tup hm2);have ht3:=fH b3 x2 (s3.tup ht2);have e8:Sp8 (dE rk rb 0 0 m.1 m.2 s2.sp):=qH hR (by decide) hvm h8
  walk_at "g";generalize upd H2 x (.ins C dx (fu "spans" (.ref p3) (kfs pl sa fv)))=H3 at*;have kn3:jE K C H3 x dx rk rb ⟨dE rk rb 0 0 m.1 m.2 s2.sp,s2.ft⟩:=⟨⟨pl,p3,fv,x3,pl3,sp3,ft3⟩,e8⟩;walk_at "n";refine⟨fun Z' H'=>aA (∃ y,Z'=[some (.ref x),some (.ref t),some (.ref g),y]/\aA (But x H H')/\jE K C H' x dx rk rb (lrnG rk rb kn st (gs.take (j+1)))),?_,fun Z' H' h=>h.out⟩
  walk_at "g";rw[els];refine aV (fun c16=> ?_) (fun c16=> ?_)
  .have m16:m.1=16:=(zk m.1 m19).mp c16;obtain⟨a,b,nn,ens,_⟩:=hv.acc (hfm m16);walk_at "g";refine⟨(fun z=>by rw[ens] at z;exact absurd (show(2:Nat)=0 from z.1) (by decide)),fun p hp=> ?_⟩
   have hcut:fZ (aE kn.1 kn.2) (some 2) none=([b,nn]:List Int).map V.int:=by rw[ens];rfl
   rw[hcut];have s4:=af hp (.tup (([b,nn]:List Int).map V.int));have p4:SqT K (upd H3 p (.tup (([b,nn]:List Int).map V.int))) p (([b,nn]:List Int).map V.int):=SqT.of ad;generalize upd H3 p (.tup (([b,nn]:List Int).map V.int))=H4 at*;have x4:=s4 _ _ x3;walk_at "g";have b5:But x H4 (upd H4 x (.ins C dx (fu "fitted" (.ref p) (kfs pl p3 fv)))):=fun a o na h=>by rw[az na];exact h
   refine aA.mk ⟨_,rfl,⟨fun a o na h=>b5 _ _ na (s4 _ _ (B3 _ _ na h))⟩,⟨⟨pl,p3,.ref p,?_,pY b5 x4 (pl3.mv s4),oZ b5 x4 (sp3.same s4),?_⟩,e8⟩⟩
   .rw[ad]
    rfl
   .unfold lrn1;rw[if_pos m16];have eb:bnO kn=(b,nn):=by unfold bnO;rw[ens];rfl
    rw[eb];exact⟨p,rfl,fH b5 x4 p4⟩
  .have m16:¬m.1=16:=fun z=>c16 ((zk m.1 m19).mpr z)
   walk_at "n";refine⟨fun Z' H'=>aA (∃ y,Z'=[some (.ref x),some (.ref t),some (.ref g),y]/\aA (But x H H')/\jE K C H' x dx rk rb (lrn1 rk rb kn s2 m)),?_,fun Z' H' h=>h⟩
   walk_at "g";refine zT (fun cl=> ?_) (fun cl=> ?_)
   .have cl:fG m s2.ft=true:=cl;walk_at "g";have b5:But x H3 (upd H3 x (.ins C dx (fu "fitted" .non (kfs pl p3 fv)))):=fun a o na h=>by rw[az na];exact h
    refine aA.mk ⟨_,rfl,⟨fun a o na h=>b5 _ _ na (B3 _ _ na h)⟩,⟨⟨pl,p3,.non,?_,pY b5 x3 pl3,oZ b5 x3 sp3,?_⟩,e8⟩⟩
    .rw[ad]
     rfl
    .unfold lrn1;rw[if_neg m16,if_pos cl]
     rfl
   .have cl:¬fG m s2.ft=true:=by rw[show fG m s2.ft=false from cl];decide
    refine aA.mk ⟨_,rfl,⟨B3⟩,⟨⟨pl,p3,fv,x3,pl3,sp3,?_⟩,e8⟩⟩
    unfold lrn1;rw[if_neg m16,if_neg cl];exact ft3
 .rintro Z H' ⟨y,rfl,⟨b2⟩,hk2⟩
  rw[List.length_map,hi.len,List.take_length] at hk2;walk_at "g";exact q _ b2 hk2
theorem jE.b3 {K:Frag}{C C2:Addr}{H H':Hp}{x dx i b y dy:Addr}{js:List Addr}{is:List Ins}{bs:List Nat}{rk:Nat}{rb:Int}{s:Kn}(l:aW K C H x dx i b js is bs) (p:B3 x i b H H') (ne:y≠x) (h:jE K C2 H y dy rk rb s):jE K C2 H' y dy rk rb s:=by
 obtain⟨⟨pl,sa,fv,h1,h2,h3,h4⟩,h8⟩:=h;have ft:∀t xs,H t=some (.tup xs)->H' t=some (.tup xs):=fun t xs h=>p _ _ (dn h l.at_ (by intro z;cases z)) (dn h l.li (by intro z;cases z)) (dn h l.lb (by intro z;cases z)) h
 exact⟨⟨pl,sa,fv,p _ _ ne (dn h1 l.li (by intro z;cases z)) (dn h1 l.lb (by intro z;cases z)) h1,⟨ft _ _ h2.at_,h2.room,h2.ms⟩,h3.keep (fun _ _ z=>p.tup l z) ft,h4.mono (fun _ _ z=>p.tup l z)⟩,h8⟩
theorem aW.buty {K:Frag}{C C2:Addr}{H H':Hp}{x dx i b y dy:Addr}{js:List Addr}{is:List Ins}{bs:List Nat}{fs:List (Str × V)}(p:But y H H') (hy:H y=some (.ins C2 dy fs)) (ne:x≠y) (l:aW K C H x dx i b js is bs):aW K C H' x dx i b js is bs:=
 ⟨p _ _ ne l.at_,p _ _ (dn l.li hy (by intro z;cases z)) l.li,p _ _ (dn l.lb hy (by intro z;cases z)) l.lb,l.ib,l.ow.mono fun _ _ z=>fH p hy z,l.va⟩
def FQ (K:Frag) (C:Addr):Sp:=fun vs H Q _=>∃(blk rm:Addr) (bk:List Ins) (rk:Nat) (rb:Int),vs=[.ref blk,.ref rm]/\GBk K H blk bk/\(∀ kn∈bk,VI kn/\kn.1≠16)/\bk.length<=30/\SqT K H rm [.int rk,.int rb]/\SpM.Room rk rb/\
 ∀(x dx i b:Addr) (js:List Addr) (H':Hp),ay H H'->H x=none->H i=none->H b=none->aW K C H' x dx i b js (thB rk rb bk).1.1 (thB rk rb bk).1.2->Q (.ref x) H'
theorem qp {C C2:Addr}(B:Bi mg) (aZ:gF K mg "LaidBlock" C) (gf:gF K mg "Known" C2) (D:lj K mg) (bI:dD P w K mg base 1 C "__init__" dQ (xF K C)) (f8:dD P w K mg base 3 C2 "__init__" x8 (Bp K C2))
  (df:dD P w K mg base 3 C2 "thin_group" lQ (FS K C2)) (ip:dD P w K mg base 3 C2 "forget" dQ (yo K C2)) (ez:dD P w K mg base 9 C2 "learn_group" Ad (F5 K C2)) (bc:dD P w K mg base 1 C "is_at_bundle" dQ (Da K C))
  (bA:dD P w K mg base 2 C "has_space" lv (xS K C)) (bh:dD P w K mg base 3 C "fill_bundle" dQ (Am K C)) (bu:dD P w K mg base 3 C "take_group" lv (wH K C)):
  Has P w K mg base 10 "thinned_block" yi (FQ K C):=by
 refine D.has cN (fun vs H Q E h=> ?_) (fun f cdv A outer s H vs Q E hr h=> ?_)
 .obtain⟨blk,rm,bk,rk,rb,rfl,_⟩:=h
  rfl
 obtain⟨blk,rm,bk,rk,rb,rfl,gb,hva,h30,hrm,hR,q⟩:=h;obtain⟨ts,hts,hall⟩:=id gb
 refine⟨_,(ac (psS 2 cN.nd (vU aZ (bI.mono (by omega)) hr (by rfl)))
   (ac (psS 3 cN.nd (Ee gf (f8.mono (by omega)) hr (by rfl) (pa1 (pv 1))))
   (ac (d8 PassesOwn.never (by rfl) (dB (lK (pv 0))) (aP (i:=4) cN.nd (by rfl) (by left;rfl)) (ac (aL (bn (ax (gx (cI (eA (bA.mono (by omega)) hr (pv 2) (pa1 (eA (df.mono (by omega)) hr (pv 3) (pa1 (pv 4))))))) (ae (bj (jD (bh.mono (by omega)) hr (pv 2)))) al)))
   (ac (aL (bn (ax (cI (jD (bc.mono (by omega)) hr (pv 2))) (ae (bj (jD (ip.mono (by omega)) hr (pv 3)))) al)))
   (ac (psS 5 cN.nd (eA (df.mono (by omega)) hr (pv 3) (pa1 (pv 4))))
   (ac (bj (eA (bu.mono (by omega)) hr (pv 2) (pa1 (pv 5))))
   (ae (bj (eA (ez.mono (by omega)) hr (pv 3) (pa2 (pv 4) (pv 5))))))))))
   (ae (ah (pv 2)))))),?_⟩
 try dsimp only[aY]
 walk_at "g";intro x dx hx hdx hne;refine⟨H,x,dx,rfl,ad,hx,eI hx (af hdx _),?_⟩
 intro H1 i b hi hb s1 l1;refine⟨rfl,?_⟩
 have hrm1:=s1.tup hrm;walk_at "g";intro y dy hy hdy hne2;refine⟨H1,y,dy,rm,rk,rb,rfl,ad,hy,eI hy (af hdy _),(eI hy (af hdy _)).tup hrm1,hR,?_⟩
 intro H2 s2 k2;refine⟨rfl,?_⟩
 have l2:=l1.same s2;have nxy:x≠y:=aB l1.at_ hy;have hy0:H y=none:=s1.free hy;have S2:=s1.trans s2;have hts2:=S2.tup hts;clear l1 s2 s1 hrm1;walk_at "g"
 refine⟨sH (xs:=ts.map V.ref) (fun j Z H'=>aA (∃ u v js,Z=[some (.ref blk),some (.ref rm),some (.ref x),some (.ref y),u,v]/\ay H H'/\aW K C H' x dx i b js (thB rk rb (bk.take j)).1.1 (thB rk rb (bk.take j)).1.2/\jE K C2 H' y dy rk rb (thB rk rb (bk.take j)).2))
  (aA.mk ⟨none,none,[],rfl,S2,by simpa [thB] using l2,by simpa [thB] using k2⟩) ?_ ?_ ?_⟩
 .rintro j Z H' _ ⟨u,v,js,rfl,s2,_⟩
  exact s2.tup hts
 .clear l2 k2 S2 hts2;clear H2;rintro j u0 Z H2 hj ⟨u,v,js,rfl,S2,l2,k2⟩
  obtain⟨t,et,rfl⟩:=bv hj;obtain⟨kn,ek,ht⟩:=hall.get et;have hlt:j < bk.length:=(List.getElem?_eq_some_iff.mp ek).1;obtain⟨hv2,h16⟩:=hva kn (List.mem_of_getElem? ek);have hlj:=o0 rk rb bk j (by lia)
  have hbs:=ml rk rb bk j (by lia)
  have hls:=fF (rk:=rk) (rb:=rb) ek;have hjl:(thB rk rb (bk.take j)).1.1.length<=200:=by
   have:=Ap (thB rk rb (bk.take j)).1.1
   split at hlj <;> lia
  clear hlj;generalize thB rk rb (bk.take j)=st at*;have ht2:=S2.tup ht;have hat2:=l2.at_;obtain⟨pl_,sa_,fv_,hy2⟩:∃pl sa fv,H2 y=some (.ins C2 dy (kfs pl sa fv)):=let ⟨p,s,f,z,_⟩:=k2.ex;⟨p,s,f,z⟩
  walk_at "g";refine⟨fun Z' H4=>aA (Z'=[some (.ref blk),some (.ref rm),some (.ref x),some (.ref y),some (.ref t),v]/\ay H H4/\(∃ js',aW K C H4 x dx i b js' (ba st.1.1 (thG rk rb st.2 kn)) st.1.2)/\jE K C2 H4 y dy rk rb st.2),?_,?_⟩
  .walk_at "g";intro g us H3 s3 hg3 how3;have hgv:=jI (rk:=rk) (rb:=rb) (s:=st.2) hv2;have hgf:=wS rk rb st.2 kn;generalize thG rk rb st.2 kn=gs at*;have l3:=l2.same s3;have hat3:=l3.at_;have h100:gs.length<=100:=by lia
   walk_at "g";intro H4 s4;have l4:=l3.same s4;have hat4:=l4.at_;have k4:=k2.same (s3.trans s4);walk_at "g"
   by_cases c:lnW st.1.1 %8+lnW gs<=8
   .rw[decide_eq_true c];walk_at "g";refine aA.mk ⟨rfl,(S2.trans s3).trans s4,⟨js,?_⟩,k4⟩
    unfold ba;rw[if_pos c];exact l4
   .rw[decide_eq_false c];have h900:st.1.1.length<=900:=by lia
    walk_at "g";intro H5 js' p5 l5;refine aA.mk ⟨rfl,B3.same ((S2.trans s3).trans s4) hx hi hb p5,⟨js',?_⟩,k4.b3 l4 p5 (Ne.symm nxy)⟩
    unfold ba;rw[if_neg c];exact l5
  clear l2 k2 S2 ht2 hy2 hat2;clear H2;rintro Z4 H4 ⟨rfl,S4,⟨js4,l4⟩,k4⟩
  have hbl:=Fy st.1.1 (thG rk rb st.2 kn);have ebk:∀is,is=ba st.1.1 (thG rk rb st.2 kn)->thB rk rb (bk.take (j+1))=((is++thG rk rb (knB is st.2) kn,st.1.2++[lnW is]),lrnG rk rb kn (knB is st.2) (thG rk rb (knB is st.2) kn)):=fun is e=>by rw[hls,e];rfl
  generalize hbe:ba st.1.1 (thG rk rb st.2 kn)=is at*;have ebk:=ebk is rfl;clear hls;have hat4:=l4.at_;obtain⟨pl_,sa_,fv_,hy4⟩:∃pl sa fv,H4 y=some (.ins C2 dy (kfs pl sa fv)):=let ⟨p,s,f,z,_⟩:=k4.ex;⟨p,s,f,z⟩
  walk_at "g";refine⟨fun Z' H5=>aA (Z'=[some (.ref blk),some (.ref rm),some (.ref x),some (.ref y),some (.ref t),v]/\ay H H5/\aW K C H5 x dx i b js4 is st.1.2/\jE K C2 H5 y dy rk rb (knB is st.2)),?_,?_⟩
  .walk_at "g"
   by_cases c:lnW is %8=0
   .rw[decide_eq_true c];walk_at "g";intro H5 b5 k5;refine aA.mk ⟨rfl,fun a o h=>b5 _ _ (aB h hy0) (S4 _ _ h),l4.buty b5 hy4 nxy,?_⟩
    unfold knB;rw[if_pos c];exact k5
   .rw[decide_eq_false c];walk_at "g";refine aA.mk ⟨rfl,S4,l4,?_⟩
    unfold knB;rw[if_neg c];exact k4
  clear l4 k4 S4 hat4 hy4;clear H4;rintro Z4 H4 ⟨rfl,S4,l4,k4⟩
  have ht4:=S4.tup ht;obtain⟨pl_,sa_,fv_,hy4⟩:∃pl sa fv,H4 y=some (.ins C2 dy (kfs pl sa fv)):=let ⟨p,s,f,z,_⟩:=k4.ex;⟨p,s,f,z⟩
  generalize knB is st.2=ks at*;walk_at "g";intro g us H5 s5 hg5 how5;have hgv:=jI (rk:=rk) (rb:=rb) (s:=ks) hv2;have hgf:=wS rk rb ks kn;have hgt:=Ft (rk:=rk) (rb:=rb) (s:=ks) h16;generalize thG rk rb ks kn=gs at*;have l5:=l4.same s5;have hat5:=l5.at_;have k5:=k4.same s5;have S5:=S4.trans s5;have hk1:is.length+gs.length<=1000:=by lia
  have hk2:st.1.2.length < 1000:=by lia
  clear l4 k4 ht4 hy4 S4 s5;walk_at "g";intro H6 p6 l6;have S6:=B3.same S5 hx hi hb p6;have k6:=k5.b3 l5 p6 (Ne.symm nxy);have ht6:=S6.tup ht;have hg6:=p6.tup l5 hg5;have how6:=how5.b3 l5 p6;obtain⟨pl_,sa_,fv_,hy6⟩:∃pl sa fv,H6 y=some (.ins C2 dy (kfs pl sa fv)):=let ⟨p,s,f,z,_⟩:=k6.ex;⟨p,s,f,z⟩
  have h10:gs.length<=10:=by lia
  clear l5 k5 hg5 how5 S5 hat5;walk_at "g";intro H7 b7 k7;refine aA.mk ⟨_,_,js4++us,rfl,fun a o h=>b7 _ _ (aB h hy0) (S6 _ _ h),?_,?_⟩
  .rw[ebk];exact l6.buty b7 hy6 nxy
  .rw[ebk];exact k7
 .rintro Z H' ⟨u,v,js,rfl,s2,l2,_⟩
  rw[List.length_map,hall.len,List.take_length] at l2;walk_at "g";exact q x dx i b js H' s2 hx hi hb l2
noncomputable def thD (rk:Nat) (rb:Int) (bk:List Ins):Bk:=(thB rk rb bk).1
def EB (K:Frag) (CT:Addr):Sp:=fun vs H Q E=>∃(gst rm:Addr) (bls:List Addr) (gs:List (List Ins)) (rk:Nat) (rb gt:Int) (M:Nat),vs=[.ref gst,.ref rm,.int gt]/\SqT K H gst (bls.map V.ref)/\GSt K H bls gs/\SqT K H rm [.int rk,.int rb]/\
 GuB gs/\(∀ bk∈gs, ∀kn∈bk,kn.1≠16)/\SpM.Room rk rb/\pw M (gs.map (thD rk rb))/\
 ∀m s,iV gs.length m->iV M s->(7 < m+s->∀H',ay H H'->E (.ref CT) none H')/\(m+s<=7->∀r H',ay H H'->sI H H' r (gs.map (thD rk rb)) rk rb gt m s->Q (.ref r) H')
theorem Fl {C CT:Addr}(B:Bi mg) (D:Dy K mg) (gB:Has P w K mg base 10 "thinned_block" yi (FQ K C)) (cv:rT P w K mg base 8 "code_of_blocks" wb (AA K C CT)):
  rT P w K mg base 11 "thin" rg (EB K CT):=by
 refine D.hasX Fa (fun vs H Q E h=> ?_) (fun f cdv A outer s H vs Q E hr h=> ?_)
 .obtain⟨gst,rm,bls,gs,rk,rb,gt,M,rfl,_⟩:=h
  rfl
 obtain⟨gst,rm,bls,gs,rk,rb,gt,M,rfl,hg,hgs,hrm,gu,hnf,hR,hM,q⟩:=h;have n16:=gu.n16;refine⟨_,(ae (ah (zA (cv.mono (by omega)) hr (by rfl) sS (pa3 (PE.nox (kY (by rfl) (by rfl) (by rfl) (bk (sc0:=ag wx) (N0:=["guest","room","gates"]) ["block","room"] 1 [1]) (lK (pv 0)) (fun _ _ _ _=>(aP (i:=0) (show List.Nodup (["block","room"]:List Str) by decide) (by rfl) (by left;rfl))) (fun _ _ _ _=>(pcH gB hr (pa2 (pv 0) (pv 1)))))) (pv 1) (pv 2))))),?_⟩
 try dsimp only[Hd]
 walk_at "g";intro p hp;refine o4 (xs:=bls.map V.ref) (fun j ys H'=>aA (ay H H')/\∃xs,H' p=some (.lst ys)/\ys=xs.map V.ref/\Lds K C (del p H') xs ((gs.take j).map (thD rk rb))) ⟨⟨af hp _⟩,[],ad,rfl,rfl,fun j x d e=>by simp at e⟩ ?_ ?_ ?_
 .rintro j ys H' ⟨⟨s1⟩,_⟩
  exact s1.tup hg
 .rintro j u ys H' F hF hj ⟨⟨s1⟩,xs,hp1,rfl,lds⟩
  obtain⟨b,eb,rfl⟩:=bv hj;have hlt:j < bls.length:=(List.getElem?_eq_some_iff.mp eb).1;obtain⟨bk,es⟩:∃bk,gs[j]? =some bk:=⟨_,List.getElem?_eq_getElem (by have:=hgs.1;lia)⟩
  have gb1:=(hgs.2 j b bk eb es).same s1;obtain⟨hv,h30⟩:=gu.va bk (List.mem_of_getElem? es);have hvn:∀kn∈bk,VI kn/\kn.1≠16:=fun kn hk=>⟨hv kn hk,hnf bk (List.mem_of_getElem? es) kn hk⟩
  have hrm2:=s1.tup hrm;have hlx:xs.length=j:=by
   rw[lds.1,List.length_map,List.length_take];have:=hgs.1
   lia
  have hz:(xs.map V.ref).length < sizeLine:=by
   rw[List.length_map,hlx];exact Nat.lt_of_lt_of_le (show j < 100 by have:=hgs.1;lia) (by decide)
  walk_at "g";intro x dx i b' js H2 s2 hx hi hb l;have hp2:=s2 _ _ hp1;walk_at "g";refine hF _ _ ⟨⟨eI hp (s1.trans s2)⟩,xs++[x],ad,by rw[List.map_append];rfl,?_⟩
  have sd:ay (del p H') (del p (upd H2 p (.lst (xs.map V.ref++[V.ref x])))):=fun a o h=>by
   unfold del at*
   by_cases z:a=p
   .rw[if_pos z] at h;cases h
   .rw[if_neg z] at h ⊢;rw[az z];exact s2 _ _ h
  have l2:aW K C (del p (upd H2 p (.lst (xs.map V.ref++[V.ref x])))) x dx i b' js (thD rk rb bk).1 (thD rk rb bk).2:=by
   rw[Be];exact l.del hp2 (Ne.symm (aB hp1 hi)) (Ne.symm (aB hp1 hb))
  rw[eD es,List.map_append];exact(lds.same sd).snoc l2
 .rintro ys H1 ⟨⟨s1⟩,xs,hp1,rfl,lds⟩
  rw[List.length_map,hgs.1,List.take_length] at lds;have lds1:=lds.same (yP (H:=H1) (p:=p));have hq:SqL K H1 p (xs.map V.ref):=SqL.of hp1;have hrm1:=s1.tup hrm;have hdl:(gs.map (thD rk rb)).length=gs.length:=by rw[List.length_map]
  have h0':0 < (gs.map (thD rk rb)).length:=by rw[hdl];exact gu.n0
  have h16':(gs.map (thD rk rb)).length<=16:=by lia
  have hdd:∀d∈gs.map (thD rk rb),lnW d.1<=300/\d.2.length<=30:=fun d hd=>by
   obtain⟨bk,h1,rfl⟩:=List.mem_map.mp hd;have h2:=(gu.va bk h1).2;have h3:=G1 rk rb bk;have h4:=ml rk rb bk bk.length (Nat.le_refl _);rw[List.take_length] at h4;show lnW (thB rk rb bk).1.1<=300/\(thB rk rb bk).1.2.length<=30
   lia
  walk_at "g";intro m sx hm hs;rw[hdl] at hm;obtain⟨q1,q2⟩:=q m sx hm hs;refine⟨fun z H' s2=>q1 z H' (s1.trans s2),fun z r H' s2 ca=>q2 z r H' (s1.trans s2) ?_⟩
  obtain⟨a1,a2,a3,c1,c2,c3,c4,f1,f2,f3,f4⟩:=ca;exact⟨a1,a2,a3,c1,c2,c3,c4,s1.free f1,s1.free f2,s1.free f3,s1.free f4⟩
theorem Fd {sp:List SpM.Span}{a i:Int}{s:SpM.Span}(h:sp.length=8) (a0:0<=a) (a1:a < 8) (i0:0<=i) (i1:i < 8):spG (sp.set a.toNat s) i=if i=a then s else spG sp i:=by
 unfold spG;rw[List.getD_eq_getElem?_getD,List.getElem?_set]
 by_cases e:i=a
 .rw[if_pos (by lia),if_pos (by lia),if_pos e]
  rfl
 .rw[if_neg (by lia),if_neg e,List.getD_eq_getElem?_getD]
theorem CA {pk:Nat}{pb:Int}{pm ps pm' ps' k:Nat}{ns:List Int}{sp:List SpM.Span}(h:k≠17):fM pk pb pm ps k ns sp=fM pk pb pm' ps' k ns sp:=by
 unfold fM;rw[if_neg h,if_neg h]
theorem Bn {pk:Nat}{pb:Int}{pm ps pm' ps' k:Nat}{ns:List Int}{sp:List SpM.Span}(h:k≠17):dE pk pb pm ps k ns sp=dE pk pb pm' ps' k ns sp:=by
 unfold dE;rw[CA (pm:=pm) (ps:=ps) (pm':=pm') (ps':=ps') h]
theorem zS {pk:Nat}{pb:Int}{pm ps S:Nat}{m:Ins}{sp:List SpM.Span}:dE pk pb pm ps (plc S m).1 (plc S m).2 sp=dE pk pb pm ps m.1 m.2 sp:=by
 unfold plc
 split
 .rename_i h
  unfold dE;rw[h]
  rfl
 .split
  .rename_i h
   unfold dE;rw[h]
   rfl
  .rfl
theorem ut {x:Pn}{b:List Ins}:∀ {a:List Ins}{at_:Nat}{sp:List SpM.Span},ja x at_ sp (a++b)=ja x (at_+lnW a) (ja x at_ sp a) b
 | [],_,_=>rfl
 | kn::r,at_,sp=>by
  have ih:=ut (x:=x) (b:=b) (a:=r) (at_:=at_+bw kn.1) (sp:=dE x.pk x.pb x.pm x.ps kn.1 kn.2 (bg at_ sp));rw[bo, <-Nat.add_assoc];exact ih
theorem BE {x:Pn}{S:Nat}{kn:Ins}:∀ {G:List Ins}{p:Nat}{sp:List SpM.Span}{ft:Option (Int × Int)},(∀ m∈G,m.1≠17)->p %8+lnW G<=8->G≠[]->ja x p sp (G.map (plc S))=(lrnG x.pk x.pb kn ⟨bg p sp,ft⟩ G).sp
 | [],_,_,_,_,_,h=>absurd rfl h
 | [m],p,sp,ft,hm,hl,_=>by
  show dE x.pk x.pb x.pm x.ps (plc S m).1 (plc S m).2 (bg p sp)=dE x.pk x.pb 0 0 m.1 m.2 (bg p sp)
  rw[zS];exact Bn (hm m List.mem_cons_self)
 | m::m2::r,p,sp,ft,hm,hl,_=>by
  rw[bo] at hl;have l1:=gJ m.1;have l2:1<=lnW (m2::r):=by rw[bo];have:=gJ m2.1;lia
  have ih:=BE (x:=x) (S:=S) (kn:=kn) (G:=m2::r) (p:=p+bw m.1) (sp:=dE x.pk x.pb x.pm x.ps m.1 m.2 (bg p sp)) (ft:=(lrn1 x.pk x.pb kn ⟨bg p sp,ft⟩ m).ft) (fun z hz=>hm z (List.mem_cons_of_mem _ hz)) (by lia) (by intro z;cases z)
  have e1:ja x p sp ((m::m2::r).map (plc S))=ja x (p+bw m.1) (dE x.pk x.pb x.pm x.ps m.1 m.2 (bg p sp)) ((m2::r).map (plc S)):=by
   show ja x (p+bw (plc S m).1) (dE x.pk x.pb x.pm x.ps (plc S m).1 (plc S m).2 (bg p sp)) ((m2::r).map (plc S))=_
   rw[zS,qW]
  rw[e1,ih,nB (by lia),Bn (pm:=x.pm) (ps:=x.ps) (pm':=0) (ps':=0) (hm m List.mem_cons_self)]
  rfl
def oy (rk:Nat) (rb:Int) (s:Kn):Prop:=s.ft≠none->rb<=(spG s.sp 6).lo/\(spG s.sp 6).hi < rb+2^rk
theorem oy.kn0 {rk:Nat}{rb:Int}:oy rk rb kn0:=fun z=>absurd rfl z
theorem oy.lrn1 {rk:Nat}{rb:Int}{kn:Ins}{s:Kn}{m:Ins}(h8:Sp8 s.sp) (hv:VI m) (h6:m.1=16->m.2.getD 0 0=6) (h:oy rk rb s):oy rk rb (lrn1 rk rb kn s m):=by
 intro hne;unfold My.lrn1 at hne ⊢;dsimp only at hne ⊢
 by_cases k16:m.1=16
 .have e:dE rk rb 0 0 m.1 m.2 s.sp=s.sp.set 6 (SpM.fitS rk rb (spG s.sp (m.2.getD 1 0))):=by
   unfold dE fM;rw[if_neg (by lia),if_pos (by unfold mk8;lia),if_neg (by lia),if_neg (by lia),if_neg (by lia),if_pos k16,h6 k16]
   rfl
  rw[e,wO h8];exact vE
 .rw[if_neg k16] at hne
  by_cases hl:fG m s.ft=true
  .rw[if_pos hl] at hne;exact absurd rfl hne
  .rw[if_neg hl] at hne;have e:spG (dE rk rb 0 0 m.1 m.2 s.sp) 6=spG s.sp 6:=by
    unfold fG at hl;have n18:m.1≠18:=fun z=>hl (by rw[decide_eq_true z];rfl)
    unfold dE;rw[if_neg n18]
    by_cases hm:mk8 m.1
    .rw[if_pos hm];obtain⟨a,r,ens,a0,a1⟩:=qF hv hm;have n6:a≠6:=fun z=>hl (by rw[decide_eq_true hm,ens,z];simp)
     rw[ens];show spG (s.sp.set a.toNat _) 6=_
     rw[Fd h8.len a0 a1 (by decide) (by decide),if_neg (Ne.symm n6)]
    .rw[if_neg hm]
   rw[e];exact h hne
theorem oy.lrnG {rk:Nat}{rb:Int}(hR:SpM.Room rk rb) {kn:Ins}:∀ {g:List Ins}{s:Kn},(∀ m∈g,VI m)->(∀ m∈g,m.1=16->m.2.getD 0 0=6)->Sp8 s.sp->oy rk rb s->oy rk rb (lrnG rk rb kn s g)
 | [],_,_,_,_,h=>h
 | m::r,s,hv,h6,h8,h=>oy.lrnG hR (g:=r) (s:=My.lrn1 rk rb kn s m) (fun x hx=>hv x (List.mem_cons_of_mem _ hx)) (fun x hx=>h6 x (List.mem_cons_of_mem _ hx)) (qH hR (by decide) (hv m List.mem_cons_self) h8) (h.lrn1 h8 (hv m List.mem_cons_self) (h6 m List.mem_cons_self))
theorem HV {kn:Ins}(h:kn.1≠16):∀m∈grp kn,m.1=16->m.2.getD 0 0=6:=by
 intro m hm e;unfold grp at hm
 split at hm
 .simp only[List.mem_cons,List.not_mem_nil,or_false] at hm
  rcases hm with rfl | rfl <;> rfl
 .split at hm
  .rename_i hk
   split at hm
   .simp only[List.mem_cons,List.not_mem_nil,or_false] at hm
    rcases hm with rfl | rfl
    .rfl
    .exact absurd (show kn.1=16 from e) h
   .simp only[List.mem_cons,List.not_mem_nil,or_false] at hm
    rcases hm with rfl | rfl | rfl
    .rfl
    .rfl
    .exact absurd (show kn.1=16 from e) h
  .rw[List.mem_singleton.mp hm] at e;exact absurd e h
theorem GN {kn:Ins}(h:kn.1≠17) (h15:kn.1≠15):∀m∈grp kn,m.1≠17:=by
 intro m hm e;unfold grp at hm;rw[if_neg h15] at hm
 split at hm
 .rename_i hk
  split at hm
  .simp only[List.mem_cons,List.not_mem_nil,or_false] at hm
   rcases hm with rfl | rfl
   .exact absurd (show(16:Nat)=17 from e) (by decide)
   .exact absurd (show kn.1=17 from e) h
  .simp only[List.mem_cons,List.not_mem_nil,or_false] at hm
   rcases hm with rfl | rfl | rfl
   .exact absurd (show(10:Nat)=17 from e) (by decide)
   .exact absurd (show(16:Nat)=17 from e) (by decide)
   .exact absurd (show kn.1=17 from e) h
 .rw[List.mem_singleton.mp hm] at e;exact absurd e h
theorem HN {rk:Nat}{rb:Int}{s:Kn}{kn:Ins}(h:kn.1≠16):∀m∈thG rk rb s kn,m.1=16->m.2.getD 0 0=6:=by
 intro m hm e;rcases dt rk rb s kn with z | ⟨hk,_,z⟩|⟨hk,_,z⟩
 .rw[z] at hm;exact HV h m hm e
 .rw[z,List.mem_singleton] at hm;rw[hm] at e;exact absurd e h
 .rw[z,List.mem_singleton] at hm;rw[hm] at e;exact absurd e h
theorem GS {rk:Nat}{rb:Int}{s:Kn}{kn:Ins}(h:kn.1≠17) (h15:kn.1≠15):∀m∈thG rk rb s kn,m.1≠17:=by
 intro m hm e;rcases dt rk rb s kn with z | ⟨hk,_,z⟩|⟨hk,_,z⟩
 .rw[z] at hm;exact GN h h15 m hm e
 .rw[z,List.mem_singleton] at hm;rw[hm] at e;exact absurd e h
 .rw[z,List.mem_singleton] at hm;rw[hm] at e;exact absurd e h
theorem CQ (rk:Nat) (rb:Int) (s:Kn) (kn:Ins):thG rk rb s kn≠[]:=fun z=>by
 have:=(nG rk rb s kn).1;rw[z] at this;exact absurd this (by decide)
theorem GG {x:Pn}{nb p:Nat}{kn:Ins}{sp:List SpM.Span}{ks:Kn}(hR:SpM.Room x.pk x.pb) (hms:x.pm+x.ps<=7) (h:GI nb x.pg kn) (hnb:nb<=2^x.pm) (h8:Sp8 sp) (e:bg p sp=ks.sp) (hf:oy x.pk x.pb ks) (hat:p %8+lnW (thG x.pk x.pb ks kn)<=8):
  okC x ((8*2^(x.pm+x.ps):Nat):Int) p sp ((thG x.pk x.pb ks kn).map (plc (8*2^x.ps))):=by
 rcases dt x.pk x.pb ks kn with z | ⟨hk,ho,z⟩|⟨hk,hft,z⟩
 .rw[z] at hat ⊢;exact Em hR hms h hnb hat sp h8
 .rw[z] at hat ⊢;rw[dC] at hat;have ep:plc (8*2^x.ps) kn=kn:=by unfold plc;rw[if_neg (by lia),if_neg (by lia)]
  show okC x _ p sp [plc (8*2^x.ps) kn]
  rw[ep];refine⟨h.v6.w8,hat,?_,True.intro⟩
  rw[e];obtain⟨a,b,n,ens,a0,a1,_⟩:=h.v6.acc hk;refine cT (fun _=>by rw[ens];show a≠7;lia) (fun _=>ho) (fun z=>by lia) (fun z=>by lia) (fun z=>by lia)
 .rw[z] at hat ⊢;have hat:p %8+bw kn.1<=8:=by rw[dC] at hat;exact hat
  have ep:plc (8*2^x.ps) (kn.1,[kn.2.getD 0 0,6,0])=(kn.1,[kn.2.getD 0 0,6,0]):=by unfold plc;rw[if_neg (by show ¬kn.1=13;lia),if_neg (by show ¬kn.1=14;lia)]
  show okC x _ p sp [plc (8*2^x.ps) (kn.1,[kn.2.getD 0 0,6,0])]
  rw[ep];refine⟨vx h.v6.w8 hk,hat,?_,True.intro⟩
  rw[e];obtain⟨a,b,n,ens,a0,a1,_⟩:=h.v6.acc hk;have hr:=hf (by rw[hft];intro z;cases z)
  refine cT (fun _=>by rw[ens];show a≠7;lia) (fun _=> ?_) (fun z=>by have z:kn.1=13\/kn.1=14:=z;lia) (fun z=>by have z:kn.1=15:=z;lia) (fun z=>by have z:kn.1=18:=z;lia)
  unfold lF;show ¬((spG ks.sp 6).lo+0 < x.pb\/x.pb+2^x.pk<=(spG ks.sp 6).hi+0)
  lia
structure ThI (x:Pn) (at_:Nat) (sp:List SpM.Span) (st:Bk × Kn):Prop where
 ok:okC x ((8*2^(x.pm+x.ps):Nat):Int) at_ sp (st.1.1.map (plc (8*2^x.ps)))
 en:lnW st.1.1 %8≠0->ja x at_ sp (st.1.1.map (plc (8*2^x.ps)))=st.2.sp
 ft:oy x.pk x.pb st.2
 s8:Sp8 st.2.sp
theorem vm (is g:List Ins):lnW (ba is g) %8=0\/(ba is g=is/\lnW is %8+lnW g<=8):=by
 unfold ba
 split
 .rename_i h;exact .inr ⟨rfl,h⟩
 .refine .inl ?_
  rw[a8,lV]
  lia
theorem DR {x:Pn}{nb at_:Nat}{sp:List SpM.Span}{st:Bk × Kn}{kn:Ins}(hR:SpM.Room x.pk x.pb) (hms:x.pm+x.ps<=7) (h:GI nb x.pg kn) (hnb:nb<=2^x.pm) (hat:at_ %8=0) (h8:Sp8 sp) (t:ThI x at_ sp st):
  okC x ((8*2^(x.pm+x.ps):Nat):Int) at_ sp ((thS x.pk x.pb st kn).1.1.map (plc (8*2^x.ps)))/\(kn.1≠15->ThI x at_ sp (thS x.pk x.pb st kn)):=by
 have hb:=vm st.1.1 (thG x.pk x.pb st.2 kn);have okb:okC x ((8*2^(x.pm+x.ps):Nat):Int) at_ sp ((ba st.1.1 (thG x.pk x.pb st.2 kn)).map (plc (8*2^x.ps))):=by
  unfold ba
  split
  .exact t.ok
  .rw[List.map_append,yW];exact sC t.ok (Eh hR hms _ _ _ (uy hR hms t.ok h8))
 have hs:∀is ks,is=ba st.1.1 (thG x.pk x.pb st.2 kn)->ks=knB is st.2->(bg (at_+lnW is) (ja x at_ sp (is.map (plc (8*2^x.ps))))=ks.sp/\oy x.pk x.pb ks/\Sp8 ks.sp/\lnW is %8+lnW (thG x.pk x.pb ks kn)<=8):=by
  rintro is ks rfl rfl
  unfold knB
  by_cases c:lnW (ba st.1.1 (thG x.pk x.pb st.2 kn)) %8=0
  .rw[if_pos c];refine⟨?_,oy.kn0,xZ,?_⟩
   .unfold bg;rw[if_pos (by lia)]
    rfl
   .have:=(nG x.pk x.pb kn0 kn).2
    lia
  .rw[if_neg c];rcases hb with hb | ⟨hb,hf⟩
   .exact absurd hb c
   .rw[hb] at c ⊢;refine⟨?_,t.ft,t.s8,hf⟩
    rw[nB (by lia),t.en c]
 have hth:(thS x.pk x.pb st kn)=((ba st.1.1 (thG x.pk x.pb st.2 kn)++thG x.pk x.pb (knB (ba st.1.1 (thG x.pk x.pb st.2 kn)) st.2) kn,st.1.2++[lnW (ba st.1.1 (thG x.pk x.pb st.2 kn))]),lrnG x.pk x.pb kn (knB (ba st.1.1 (thG x.pk x.pb st.2 kn)) st.2) (thG x.pk x.pb (knB (ba st.1.1 (thG x.pk x.pb st.2 kn)) st.2) kn)):=rfl;rw[hth];obtain⟨h1,h2,h3,h4⟩:=hs _ _ rfl rfl;clear hs hth hb;generalize ba st.1.1 (thG x.pk x.pb st.2 kn)=is at*;generalize knB is st.2=ks at*;have lp:lnW (is.map (plc (8*2^x.ps)))=lnW is:=eG _ _;have h8e:=uy hR hms okb h8;have okg:=GG (p:=at_+lnW is) hR hms h hnb h8e h1 h2 (by lia)
 have okall:okC x ((8*2^(x.pm+x.ps):Nat):Int) at_ sp ((is++thG x.pk x.pb ks kn).map (plc (8*2^x.ps))):=by
  rw[List.map_append];refine sC okb ?_
  rw[lp];exact okg
 refine⟨okall,fun k15=>⟨okall,fun _=> ?_,oy.lrnG hR (jI h.v6.w8) (HN h.nm.1) h3 h2,Ga hR (jI h.v6.w8) h3⟩⟩
 show ja x at_ sp ((is++thG x.pk x.pb ks kn).map (plc (8*2^x.ps)))=(lrnG x.pk x.pb kn ks (thG x.pk x.pb ks kn)).sp
 rw[List.map_append,ut,lp,BE (kn:=kn) (ft:=ks.ft) (GS h.nm.2 k15) (by lia) (CQ _ _ _ _),h1]
theorem sV {x:Pn}{nb at_:Nat}{bk:List Ins}(hR:SpM.Room x.pk x.pb) (hms:x.pm+x.ps<=7) (h:∀kn∈bk,GI nb x.pg kn) (hnb:nb<=2^x.pm) (hat:at_ %8=0) {sp:List SpM.Span}(h8:Sp8 sp):∀j,j<=bk.length->(∀ i,i < j->∀kn,bk[i]? =some kn->kn.1≠15)->ThI x at_ sp (thB x.pk x.pb (bk.take j))
 | 0,_,_=>⟨True.intro,fun z=>absurd (show lnW ([]:List Ins) %8=0 from rfl) z,oy.kn0,xZ⟩
 | j+1,hj,hn=>by
  have ih:=sV hR hms h hnb hat h8 j (by lia) (fun i hi=>hn i (by lia))
  have e:bk[j]? =some bk[j]:=List.getElem?_eq_getElem (by lia)
  rw[fF e];exact(DR hR hms (h _ (List.getElem_mem _)) hnb hat h8 ih).2 (hn j (by lia) _ e)
theorem CY {rk:Nat}{rb:Int}{bk:List Ins}(h:jF bk):jF (thD rk rb bk).1:=by
 obtain⟨pre,kn,rfl,hk⟩:=h;have e:thD rk rb (pre++[kn])=(thS rk rb (thB rk rb pre) kn).1:=by
  unfold thD thB;rw[List.foldl_append]
  rfl
 rw[e];refine jF.app ?_
 rcases dt rk rb (knB (ba (thB rk rb pre).1.1 (thG rk rb (thB rk rb pre).2 kn)) (thB rk rb pre).2) kn with z | ⟨hk2,_⟩|⟨hk2,_⟩
 .rw[z];exact EX hk
 .unfold fB at hk;lia
 .unfold fB at hk;lia
structure GuT (g:Int) (gs:List (List Ins)):Prop where
 ok:Gr g gs
 mid:∀bk∈gs, ∀i,i+1 < bk.length->∀kn,bk[i]? =some kn->¬fB kn.1
theorem AE {x:Pn}{gs:List (List Ins)}{bk:List Ins}{at_:Nat}(hR:SpM.Room x.pk x.pb) (hms:x.pm+x.ps<=7) (h:GuT x.pg gs) (hm:gs.length<=2^x.pm) (hb:bk∈gs) (hat:at_ %8=0):fJ x ((8*2^(x.pm+x.ps):Nat):Int) at_ ((thD x.pk x.pb bk).1.map (plc (8*2^x.ps))):=by
 intro sp h8;obtain⟨hgi,_,pre,kn,e,hk⟩:=h.ok.blk bk hb;have hl:bk.length=pre.length+1:=by rw[e,List.length_append];rfl
 have t:=sV (x:=x) hR hms hgi hm hat h8 pre.length (by lia) (fun i hi kn' e' z=>h.mid bk hb i (by lia) kn' e' (.inr (.inr z)))
 have et:bk.take pre.length=pre:=by rw[e,List.take_left]
 rw[et] at t;have hkn:GI gs.length x.pg kn:=hgi kn (by rw[e];exact List.mem_append_right _ List.mem_cons_self)
 have z:=(DR hR hms hkn hm hat h8 t).1;have ee:thD x.pk x.pb bk=(thS x.pk x.pb (thB x.pk x.pb pre) kn).1:=by
  unfold thD thB;rw[e,List.foldl_append]
  rfl
 rw[ee];exact z
theorem mR {x:Pn}{gs:List (List Ins)}(hR:SpM.Room x.pk x.pb) (hms:x.pm+x.ps<=7) (h:GuT x.pg gs) (hm:gs.length<=2^x.pm) (hs:∀bk∈gs,lnW (thD x.pk x.pb bk).1<=8*2^x.ps):Aw x (bV (8*2^x.ps) (2^x.pm*(8*2^x.ps)) (gs.map (thD x.pk x.pb))):=by
 have hl:lnW (bV (8*2^x.ps) (2^x.pm*(8*2^x.ps)) (gs.map (thD x.pk x.pb)))=8*2^(x.pm+x.ps):=by
  rw[B9 (fun d hd=>by obtain⟨bk,hb,rfl⟩:=List.mem_map.mp hd;exact hs bk hb) (by rw[List.length_map];exact Nat.mul_le_mul_right _ hm),Nat.pow_add]
  ac_rfl
 have hl2:=(ci (bV (8*2^x.ps) (2^x.pm*(8*2^x.ps)) (gs.map (thD x.pk x.pb)))).trans hl;have hok:okC x (av (bV (8*2^x.ps) (2^x.pm*(8*2^x.ps)) (gs.map (thD x.pk x.pb)))).length 0 w8 (bV (8*2^x.ps) (2^x.pm*(8*2^x.ps)) (gs.map (thD x.pk x.pb))):=by
  rw[hl2];refine A2 hR hms (fun d hd=> ?_) w8 xZ
  obtain⟨bk,hb,rfl⟩:=List.mem_map.mp hd;exact⟨fun a ha=>fJ.app hR hms (AE hR hms h hm hb ha) (zP hR hms _ _),hs bk hb⟩
 refine⟨hl2,hok,CI (fun z=>by rw[List.map_eq_nil_iff] at z;have:=h.ok.n0;rw[z] at this;exact absurd this (by decide)) (fun d hd=> ?_),El hok⟩
 obtain⟨bk,hb,rfl⟩:=List.mem_map.mp hd;exact CY (h.ok.blk bk hb).2.2
def AtI (ws:List Int):Nat->List Ins->Prop
 | _,[]=>True
 | p,m::r=>jL ws (p:Nat)=some m/\AtI ws (p+bw m.1) r
theorem AtI.app {ws:List Int}{b:List Ins}:∀ {a:List Ins}{p:Nat},AtI ws p (a++b)↔AtI ws p a/\AtI ws (p+lnW a) b
 | [],p=>⟨fun h=>⟨True.intro,h⟩,fun h=>h.2⟩
 | m::r,p=>by
  have ih:=AtI.app (ws:=ws) (b:=b) (a:=r) (p:=p+bw m.1);rw[bo, <-Nat.add_assoc];exact⟨fun h=>⟨⟨h.1,(ih.mp h.2).1⟩,(ih.mp h.2).2⟩,fun h=>⟨h.1.1,ih.mpr ⟨h.1.2,h.2⟩⟩⟩
theorem AtI.of {post:List Ins}:∀ {ms pre:List Ins},(∀ m∈ms,VI m)->AtI (av (pre++(ms++post))) (lnW pre) ms
 | [],_,_=>True.intro
 | m::r,pre,h=>by
  refine⟨Fz (h m List.mem_cons_self),?_⟩
  have ih:=AtI.of (post:=post) (ms:=r) (pre:=pre++[m]) (fun z hz=>h z (List.mem_cons_of_mem _ hz))
  rw[a8,dC,List.append_assoc] at ih;exact ih
def hl1 (h:Option (Int × Int)) (bf:Option Ins) (m:Ins):Option (Int × Int):=
 if m.1=16 then(if m.2.getD 1 0=6 then some (bnO (bf.getD (0,[]))) else some (m.2.getD 1 0,0)) else if fG m h=true then none else h
def hl2 (s:Option (Int × Int) × Option Ins) (m:Ins):Option (Int × Int) × Option Ins:=(hl1 s.1 s.2 m,some m)
def HOk:Option Ins->List Ins->Prop
 | _,[]=>True
 | bf,m::r=>(m.1=16->m.2.getD 1 0=6->∃x y n,bf=some (10,[x,y,n]))/\HOk (some m) r
theorem AD:∀(ms:List Ins) (s:Option (Int × Int) × Option Ins),(ms.foldl hl2 s).2=ms.foldl (fun _ m=>some m) s.2
 | [],_=>rfl
 | m::r,s=>AD r (hl2 s m)
theorem HOk.app {b:List Ins}:∀ {a:List Ins}{bf:Option Ins},HOk bf a->HOk (a.foldl (fun _ m=>some m) bf) b->HOk bf (a++b)
 | [],_,_,h=>h
 | _::_,_,h,h2=>⟨h.1,HOk.app h.2 h2⟩
theorem HOk.split {m:Ins}{b:List Ins}:∀ {a:List Ins}{bf:Option Ins},HOk bf (a++m::b)->(m.1=16->m.2.getD 1 0=6->∃x y n,a.foldl (fun _ m=>some m) bf=some (10,[x,y,n]))
 | [],_,h=>h.1
 | _::a,_,h=>HOk.split (a:=a) (show HOk _ (a++m::b) from h.2)
theorem Co (S:Nat) (m:Ins) (h:Option (Int × Int)):fG (plc S m) h=fG m h:=by
 unfold plc
 split
 .rename_i e
  unfold fG;rw[e]
  simp [mk8]
 .split
  .rename_i e
   unfold fG;rw[e]
   simp [mk8]
  .rfl
theorem nF {pk:Nat}{pb:Int}{S:Nat}{kn:Ins}:∀ {G:List Ins}{s:Kn}{bf:Option Ins},(∀ m∈G,m.1≠16)->((G.map (plc S)).foldl hl2 (s.ft,bf)).1=(lrnG pk pb kn s G).ft/\HOk bf (G.map (plc S))
 | [],_,_,_=>⟨rfl,True.intro⟩
 | m::r,s,bf,h=>by
  have h16:=h m List.mem_cons_self;have ih:=nF (pk:=pk) (pb:=pb) (S:=S) (kn:=kn) (G:=r) (s:=lrn1 pk pb kn s m) (bf:=some (plc S m)) (fun z hz=>h z (List.mem_cons_of_mem _ hz))
  have e:hl2 (s.ft,bf) (plc S m)=((lrn1 pk pb kn s m).ft,some (plc S m)):=by
   unfold hl2 hl1 lrn1;rw[if_neg (by rw[qW];exact h16),if_neg h16,Co]
  refine⟨?_,fun z=>absurd (by rw[<- qW S m];exact z) h16,ih.2⟩
  rw[List.map_cons,List.foldl_cons,e];exact ih.1
theorem DI {pk:Nat}{pb:Int}{S nb:Nat}{g:Int}{kn:Ins}{s:Kn}{bf:Option Ins}(gi:GI nb g kn):(((thG pk pb s kn).map (plc S)).foldl hl2 (s.ft,bf)).1=(lrnG pk pb kn s (thG pk pb s kn)).ft/\HOk bf ((thG pk pb s kn).map (plc S)):=by
 have acc:∀m:Ins,kn.1=11\/kn.1=12->plc S (kn.1,[kn.2.getD 0 0,6,0])=(kn.1,[kn.2.getD 0 0,6,0]):=fun _ h=>by
  unfold plc;rw[if_neg (show ¬kn.1=13 by lia),if_neg (show ¬kn.1=14 by lia)]
 rcases dt pk pb s kn with e | ⟨hk,_,e⟩|⟨hk,_,e⟩
 .rw[e]
  by_cases ha:kn.1=11\/kn.1=12
  .have b6:kn.2.getD 1 0 < 6:=by
    obtain⟨a,b,n,ens,_,_,_,b1,_⟩:=aM.acc gi.v6 ha;rw[ens];exact b1
   unfold grp;rw[if_neg (by lia),if_pos ha]
   by_cases hn:kn.2.getD 2 0=0
   .rw[if_pos hn];have h1:=nF (pk:=pk) (pb:=pb) (S:=S) (kn:=kn) (G:=[(kn.1,[kn.2.getD 0 0,6,0])]) (s:=lrn1 pk pb kn s (16,[6,kn.2.getD 1 0])) (bf:=some (16,[6,kn.2.getD 1 0])) (fun m hm=>by rw[List.mem_singleton.mp hm];show kn.1≠16;lia)
    have e2:hl2 (s.ft,bf) (16,[6,kn.2.getD 1 0])=((lrn1 pk pb kn s (16,[6,kn.2.getD 1 0])).ft,some (16,[6,kn.2.getD 1 0])):=by
     show(if (16:Nat)=16 then(if kn.2.getD 1 0=6 then some (bnO (bf.getD (0,[]))) else some (kn.2.getD 1 0,0)) else _,_)=(some (bnO kn),_)
     rw[if_pos rfl,if_neg (by lia)]
     show(some (kn.2.getD 1 0,(0:Int)),_)=(some (kn.2.getD 1 0,kn.2.getD 2 0),_)
     rw[hn]
    exact⟨by rw[List.map_cons,List.foldl_cons,show plc S (16,[6,kn.2.getD 1 0])=(16,[6,kn.2.getD 1 0]) from rfl,e2];exact h1.1,fun _ z=>absurd (show kn.2.getD 1 0=6 from z) (by lia),h1.2⟩
   .rw[if_neg hn];have h1:=nF (pk:=pk) (pb:=pb) (S:=S) (kn:=kn) (G:=[(kn.1,[kn.2.getD 0 0,6,0])]) (s:=lrn1 pk pb kn (lrn1 pk pb kn s (10,[6,kn.2.getD 1 0,kn.2.getD 2 0])) (16,[6,6])) (bf:=some (16,[6,6])) (fun m hm=>by rw[List.mem_singleton.mp hm];show kn.1≠16;lia)
    exact⟨h1.1,fun z=>absurd (show(10:Nat)=16 from z) (by decide),fun _ _=>⟨_,_,_,rfl⟩,h1.2⟩
  .refine nF fun m hm z=>ha (BO gi.nm.1 m hm z)
 .rw[e];exact nF fun m hm=>by rw[List.mem_singleton.mp hm];lia
 .rw[e];exact nF fun m hm=>by rw[List.mem_singleton.mp hm];show kn.1≠16;lia
def HeI (S:Nat) (st:Bk × Kn):Prop:=lnW st.1.1 %8≠0->∃pre cur,st.1.1=pre++cur/\lnW pre %8=0/\lnW cur < 8/\HOk none (cur.map (plc S))/\((cur.map (plc S)).foldl hl2 (none,none)).1=st.2.ft
theorem HeI.step {pk:Nat}{pb:Int}{S nb:Nat}{g:Int}{kn:Ins}{st:Bk × Kn}(gi:GI nb g kn) (h:HeI S st):HeI S (thS pk pb st kn):=by
 have hb:=vm st.1.1 (thG pk pb st.2 kn);show lnW (ba st.1.1 (thG pk pb st.2 kn)++thG pk pb (knB (ba st.1.1 (thG pk pb st.2 kn)) st.2) kn) %8≠0->∃pre cur,ba st.1.1 (thG pk pb st.2 kn)++thG pk pb (knB (ba st.1.1 (thG pk pb st.2 kn)) st.2) kn=pre++cur/\lnW pre %8=0/\lnW cur < 8/\HOk none (cur.map (plc S))/\((cur.map (plc S)).foldl hl2 (none,none)).1=(lrnG pk pb kn (knB (ba st.1.1 (thG pk pb st.2 kn)) st.2) (thG pk pb (knB (ba st.1.1 (thG pk pb st.2 kn)) st.2) kn)).ft
 by_cases c:lnW (ba st.1.1 (thG pk pb st.2 kn)) %8=0
 .intro _;have ek:knB (ba st.1.1 (thG pk pb st.2 kn)) st.2=kn0:=by unfold knB;rw[if_pos c]
  rw[ek];obtain⟨h1,h2⟩:=DI (pk:=pk) (pb:=pb) (S:=S) (s:=kn0) (bf:=none) gi;exact⟨_,_,rfl,c,by have:=(nG pk pb kn0 kn).2;lia,h2,h1⟩
 .have ek:knB (ba st.1.1 (thG pk pb st.2 kn)) st.2=st.2:=by unfold knB;rw[if_neg c]
  rw[ek];rcases hb with hb | ⟨hb,hf⟩
  .exact absurd hb c
  rw[hb] at c ⊢;obtain⟨pre,cur,e,p8,c8,ho,hh⟩:=h c;intro hn;obtain⟨h1,h2⟩:=DI (pk:=pk) (pb:=pb) (S:=S) (s:=st.2) (bf:=((cur.map (plc S)).foldl hl2 (none,none)).2) gi;have el:lnW st.1.1=lnW pre+lnW cur:=by rw[e,a8]
  rw[a8] at hn;refine⟨pre,cur++thG pk pb st.2 kn,by rw[e,List.append_assoc],p8,by rw[a8];lia,?_,?_⟩
  .rw[List.map_append];exact ho.app (by rw[<- AD _ (none,none)];exact h2)
  .rw[List.map_append,List.foldl_append,show(cur.map (plc S)).foldl hl2 (none,none)=(st.2.ft,((cur.map (plc S)).foldl hl2 (none,none)).2) from Prod.ext hh rfl];exact h1
theorem HeI.all {pk:Nat}{pb:Int}{S nb:Nat}{g:Int}{bk:List Ins}(hg:∀kn∈bk,GI nb g kn):∀j,j<=bk.length->HeI S (thB pk pb (bk.take j))
 | 0,_=>fun z=>absurd (show lnW ([]:List Ins) %8=0 from rfl) z
 | j+1,h=>by
  have e:bk[j]? =some bk[j]:=List.getElem?_eq_getElem (by lia)
  rw[fF e];exact HeI.step (hg _ (List.getElem_mem _)) (HeI.all hg j (by lia))
def Bq (ws:List Int) (tds:List (Option (List SpM.Span))) (e:Nat) (ks:Kn):Prop:=
 tds[e]? =some (some ks.sp)/\Sp8 ks.sp/\∃b ms,b+lnW ms=e/\b %8=0/\lnW ms < 8/\AtI ws b ms/\HOk none ms/\(∀ m∈ms,VI m)/\(ms.foldl hl2 (none,none)).1=ks.ft
def Bu (x:Pn) (ws:List Int) (tds:List (Option (List SpM.Span))) (e q:Nat) (kn:Ins) (e':Nat):Prop:=
 ∃kL,Bq ws tds e kL/\
  ((e %8+lnW (thG x.pk x.pb kL kn)<=8/\q=e/\AtI ws q ((thG x.pk x.pb kL kn).map (plc (8*2^x.ps)))/\(∀ m∈(thG x.pk x.pb kL kn).map (plc (8*2^x.ps)),VI m)/\e'=q+lnW (thG x.pk x.pb kL kn))
  \/(8 < e %8+lnW (thG x.pk x.pb kL kn)/\AtI ws e (eB e)/\q=e+(8 - e %8) %8/\Bq ws tds q kn0/\AtI ws q ((thG x.pk x.pb kn0 kn).map (plc (8*2^x.ps)))/\(∀ m∈(thG x.pk x.pb kn0 kn).map (plc (8*2^x.ps)),VI m)/\e'=q+lnW (thG x.pk x.pb kn0 kn)))
theorem wu {pk:Nat}{pb:Int}{bk:List Ins}{j:Nat}:∀d,j+d<=bk.length->∃r,(thB pk pb (bk.take (j+d))).1.1=(thB pk pb (bk.take j)).1.1++r/\∃t,(thB pk pb (bk.take (j+d))).1.2=(thB pk pb (bk.take j)).1.2++t
 | 0,_=>⟨[],(List.append_nil _).symm,[],(List.append_nil _).symm⟩
 | d+1,h=>by
  obtain⟨r,e1,t,e2⟩:=wu (pk:=pk) (pb:=pb) (bk:=bk) (j:=j) d (by lia)
  have e:bk[j+d]? =some bk[j+d]:=List.getElem?_eq_getElem (by lia)
  rw[show j+(d+1)=j+d+1 from rfl,fF e];obtain⟨f,ef⟩:∃f,ba (thB pk pb (bk.take (j+d))).1.1 (thG pk pb (thB pk pb (bk.take (j+d))).2 bk[j+d])=(thB pk pb (bk.take (j+d))).1.1++f:=by
   unfold ba
   split
   .exact⟨[],(List.append_nil _).symm⟩
   .exact⟨_,rfl⟩
  refine⟨r++f++thG pk pb (knB (ba (thB pk pb (bk.take (j+d))).1.1 (thG pk pb (thB pk pb (bk.take (j+d))).2 bk[j+d])) (thB pk pb (bk.take (j+d))).2) bk[j+d],?_,t++[lnW (ba (thB pk pb (bk.take (j+d))).1.1 (thG pk pb (thB pk pb (bk.take (j+d))).2 bk[j+d]))],?_⟩
  .show ba (thB pk pb (bk.take (j+d))).1.1 (thG pk pb (thB pk pb (bk.take (j+d))).2 bk[j+d])++_=_
   rw[ef]
   conv=>{lhs;arg 1;arg 1;rw[e1]}
   simp only[List.append_assoc]
  .show(thB pk pb (bk.take (j+d))).1.2++_=_
   rw[e2,List.append_assoc]
theorem vB {x:Pn}{kn:Ins}{r:List Ins}:∀ {pre:List Ins}{at_:Nat}{sp:List SpM.Span},(fL x at_ sp (pre++kn::r))[lnW pre]? =some (some (bg (at_+lnW pre) (ja x at_ sp pre)))
 | [],_,_=>rfl
 | p::q,at_,sp=>by
  have ih:=vB (x:=x) (kn:=kn) (r:=r) (pre:=q) (at_:=at_+bw p.1) (sp:=dE x.pk x.pb x.pm x.ps p.1 p.2 (bg at_ sp));rw[bo];show(some (bg at_ sp)::((if p.1=1 then[none] else[])++fL x (at_+bw p.1) _ (q++kn::r)))[bw p.1+lnW q]? =some (some (bg (at_+(bw p.1+lnW q)) (ja x (at_+bw p.1) _ q)))
  rw[<- Nat.add_assoc, <-ih]
  by_cases h:p.1=1
  .rw[show bw p.1=2 by unfold bw;rw[if_pos h],if_pos h,show 2+lnW q=lnW q+1+1 by lia]
   rfl
  .rw[show bw p.1=1 by unfold bw;rw[if_neg h],if_neg h,show 1+lnW q=lnW q+1 by lia]
   rfl
theorem zY {bk:List Ins}{j:Nat}:∀d,j+d<=bk.length->∃t,(cz (bk.take (j+d))).2=(cz (bk.take j)).2++t
 | 0,_=>⟨[],(List.append_nil _).symm⟩
 | d+1,h=>by
  obtain⟨t,e2⟩:=zY (bk:=bk) (j:=j) d (by lia)
  have e:bk[j+d]? =some bk[j+d]:=List.getElem?_eq_getElem (by lia)
  rw[show j+(d+1)=j+d+1 from rfl,gP e];refine⟨t++[lnW (ba (cz (bk.take (j+d))).1 (grp bk[j+d]))],?_⟩
  show(cz (bk.take (j+d))).2++_=_
  rw[e2,List.append_assoc]
theorem zZ {a b g h:List Ins}(h1:lnW a<=lnW b) (h2:lnW g<=lnW h) (h3:lnW h<=8):lnW (ba a g)<=lnW (ba b h):=by
 have e:∀is g:List Ins,lnW (ba is g)=if lnW is %8+lnW g<=8 then lnW is else lnW is+(8 - lnW is %8) %8:=fun is g=>by
  unfold ba
  split
  .rfl
  .rw[a8,lV]
 rw[e,e];generalize lnW a=x at*;generalize lnW b=y at*;generalize lnW g=u at*;generalize lnW h=v at*
 split <;> split <;> omega
theorem Ai (pk:Nat) (pb:Int) (s:Kn) (kn:Ins):lnW (thG pk pb s kn)<=lnW (grp kn):=by
 rcases dt pk pb s kn with e | ⟨hk,_,e⟩|⟨hk,_,e⟩
 .rw[e];exact Nat.le_refl _
 .rw[e,dC];have:=(kZ kn).1;have:bw kn.1=1:=by unfold bw;rw[if_neg (by lia)]
  lia
 .rw[e,dC];have:=(kZ kn).1;have:bw kn.1=1:=by unfold bw;rw[if_neg (by lia)]
  show bw kn.1<=_
  lia
theorem Eg {pk:Nat}{pb:Int}{bk:List Ins}:∀j,j<=bk.length->lnW (thB pk pb (bk.take j)).1.1<=lnW (cz (bk.take j)).1
 | 0,_=>Nat.le_refl _
 | j+1,h=>by
  have ih:=Eg (pk:=pk) (pb:=pb) (bk:=bk) j (by lia)
  have e:bk[j]? =some bk[j]:=List.getElem?_eq_getElem (by lia)
  rw[fF e,gP e];show lnW (ba _ _++thG pk pb _ bk[j])<=lnW (ba _ _++grp bk[j])
  rw[a8,a8];exact Nat.add_le_add (zZ ih (Ai _ _ _ _) (by have:=(kZ bk[j]).2;lia)) (Ai _ _ _ _)
theorem DJ {pk:Nat}{pb:Int}{bk:List Ins}{j:Nat}(hj:j < bk.length):∃q q',(thB pk pb bk).1.2[j]? =some q/\(cz bk).2[j]? =some q'/\q<=q':=by
 have e:bk[j]? =some bk[j]:=List.getElem?_eq_getElem hj;obtain⟨_,_,t1,e1⟩:=wu (pk:=pk) (pb:=pb) (bk:=bk) (j:=j+1) (bk.length - (j+1)) (by lia)
 obtain⟨t2,e2⟩:=zY (bk:=bk) (j:=j+1) (bk.length - (j+1)) (by lia)
 rw[Nat.add_sub_cancel' (by lia),List.take_length] at e1 e2
 rw[fF e] at e1;rw[gP e] at e2;have e1:(thB pk pb bk).1.2=(thB pk pb (bk.take j)).1.2++[lnW (ba (thB pk pb (bk.take j)).1.1 (thG pk pb (thB pk pb (bk.take j)).2 bk[j]))]++t1:=e1;have e2:(cz bk).2=(cz (bk.take j)).2++[lnW (ba (cz (bk.take j)).1 (grp bk[j]))]++t2:=e2;refine⟨_,_,?_,?_,zZ (Eg (pk:=pk) (pb:=pb) (bk:=bk) j (by lia)) (Ai pk pb (thB pk pb (bk.take j)).2 bk[j]) (by have:=(kZ bk[j]).2;lia)⟩
 .rw[e1,List.append_assoc,List.getElem?_append_right (by rw[ml pk pb bk j (by lia)];exact Nat.le_refl _),ml pk pb bk j (by lia),Nat.sub_self]
  rfl
 .rw[e2,List.append_assoc,List.getElem?_append_right (by rw[pP bk j (by lia)];exact Nat.le_refl _),pP bk j (by lia),Nat.sub_self]
  rfl
theorem Cl {x:Pn}{nb b0:Nat}{bk preB postB:List Ins}(hR:SpM.Room x.pk x.pb) (hms:x.pm+x.ps<=7) (hg:∀kn∈bk,GI nb x.pg kn) (hnb:nb<=2^x.pm) (hmid:∀i,i+1 < bk.length->∀kn,bk[i]? =some kn->kn.1≠15) (hb0:lnW preB=b0) (h8:b0 %8=0) (hs8:Sp8 (ja x 0 w8 preB))
  (hv:∀m∈(thB x.pk x.pb bk).1.1.map (plc (8*2^x.ps)),VI m) {j:Nat}(hj:j < bk.length):
  ∃q,(thB x.pk x.pb bk).1.2[j]? =some q/\Bu x (av (preB++((thB x.pk x.pb bk).1.1.map (plc (8*2^x.ps))++postB))) (fL x 0 w8 (preB++((thB x.pk x.pb bk).1.1.map (plc (8*2^x.ps))++postB))) (b0+lnW (thB x.pk x.pb (bk.take j)).1.1) (b0+q) bk[j] (b0+lnW (thB x.pk x.pb (bk.take (j+1))).1.1):=by
 have e:bk[j]? =some bk[j]:=List.getElem?_eq_getElem hj;have ti:=sV (x:=x) (nb:=nb) (at_:=b0) hR hms hg hnb h8 hs8 j (by lia) (fun i hi kn' e'=>hmid i (by lia) kn' e')
 have he:=HeI.all (pk:=x.pk) (pb:=x.pb) (S:=8*2^x.ps) hg j (by lia)
 have hbs:=ml x.pk x.pb bk j (by lia)
 obtain⟨r2,er2,t2,et2⟩:=wu (pk:=x.pk) (pb:=x.pb) (bk:=bk) (j:=j+1) (bk.length - (j+1)) (by lia)
 rw[Nat.add_sub_cancel' (by lia),List.take_length] at er2 et2
 rw[fF e] at er2 et2 ⊢;generalize thB x.pk x.pb (bk.take j)=st at*;generalize bk[j]=kn at*;have er2:(thB x.pk x.pb bk).1.1=ba st.1.1 (thG x.pk x.pb st.2 kn)++thG x.pk x.pb (knB (ba st.1.1 (thG x.pk x.pb st.2 kn)) st.2) kn++r2:=er2;have et2:(thB x.pk x.pb bk).1.2=st.1.2++[lnW (ba st.1.1 (thG x.pk x.pb st.2 kn))]++t2:=et2;refine⟨lnW (ba st.1.1 (thG x.pk x.pb st.2 kn)),?_,?_⟩
 .rw[et2,List.append_assoc,List.getElem?_append_right (by lia),hbs,Nat.sub_self]
  rfl
 show Bu x _ _ (b0+lnW st.1.1) (b0+lnW (ba st.1.1 (thG x.pk x.pb st.2 kn))) kn (b0+lnW (ba st.1.1 (thG x.pk x.pb st.2 kn)++thG x.pk x.pb (knB (ba st.1.1 (thG x.pk x.pb st.2 kn)) st.2) kn))
 have see:∀(is:List Ins) (ks:Kn) (m:Ins) (fk:List Ins),(thB x.pk x.pb bk).1.1=is++m::fk->(lnW is %8=0->ks=kn0)->(lnW is %8≠0->ja x b0 (ja x 0 w8 preB) (is.map (plc (8*2^x.ps)))=ks.sp/\Sp8 ks.sp/\∃pre cur,is=pre++cur/\lnW pre %8=0/\lnW cur < 8/\HOk none (cur.map (plc (8*2^x.ps)))/\((cur.map (plc (8*2^x.ps))).foldl hl2 (none,none)).1=ks.ft)->
   Bq (av (preB++((thB x.pk x.pb bk).1.1.map (plc (8*2^x.ps))++postB))) (fL x 0 w8 (preB++((thB x.pk x.pb bk).1.1.map (plc (8*2^x.ps))++postB))) (b0+lnW is) ks:=by
  intro is ks m fk ee h0 h1;have lp:=eG (8*2^x.ps) is;have td:(fL x 0 w8 (preB++((thB x.pk x.pb bk).1.1.map (plc (8*2^x.ps))++postB)))[b0+lnW is]? =some (some (bg (b0+lnW is) (ja x b0 (ja x 0 w8 preB) (is.map (plc (8*2^x.ps)))))):=by
   have:=vB (x:=x) (kn:=plc (8*2^x.ps) m) (r:=fk.map (plc (8*2^x.ps))++postB) (pre:=preB++is.map (plc (8*2^x.ps))) (at_:=0) (sp:=w8);rw[a8,lp,hb0,Nat.zero_add,ut,Nat.zero_add,hb0] at this;rw[ee, <-this]
   simp only[List.map_append,List.map_cons,List.append_assoc,List.cons_append]
  by_cases c:lnW is %8=0
  .rw[h0 c];refine⟨?_,xZ,b0+lnW is,[],rfl,by lia,by show 0 < 8;decide,True.intro,True.intro,(fun m hm=>by cases hm),rfl⟩
   rw[td];unfold bg;rw[if_pos (by lia)]
   rfl
  .obtain⟨a1,a2,pre,cur,a3,a4,a5,a6,a7⟩:=h1 c;refine⟨?_,a2,b0+lnW pre,cur.map (plc (8*2^x.ps)),?_,by lia,by rw[eG];exact a5,?_,a6,fun m hm=> ?_,a7⟩
   .rw[td,nB (by lia),a1]
   .rw[eG,a3,a8]
    lia
   .have:=AtI.of (pre:=preB++pre.map (plc (8*2^x.ps))) (ms:=cur.map (plc (8*2^x.ps))) (post:=(m::fk).map (plc (8*2^x.ps))++postB) (fun z hz=>hv z (by rw[ee,a3,List.map_append,List.map_append];exact List.mem_append_left _ (List.mem_append_right _ hz)))
    rw[a8,eG,hb0] at this;rw[ee,a3]
    simp only[List.map_append,List.map_cons,List.append_assoc,List.cons_append] at this ⊢
    exact this
   .refine hv m ?_
    rw[ee,a3,List.map_append,List.map_append];exact List.mem_append_left _ (List.mem_append_right _ hm)
 have atg:∀(is ms fk:List Ins),(thB x.pk x.pb bk).1.1=is++ms++fk->AtI (av (preB++((thB x.pk x.pb bk).1.1.map (plc (8*2^x.ps))++postB))) (b0+lnW is) (ms.map (plc (8*2^x.ps))):=by
  intro is ms fk ee;have:=AtI.of (pre:=preB++is.map (plc (8*2^x.ps))) (ms:=ms.map (plc (8*2^x.ps))) (post:=fk.map (plc (8*2^x.ps))++postB) (fun z hz=>hv z (by rw[ee,List.map_append,List.map_append];exact List.mem_append_left _ (List.mem_append_right _ hz)))
  rw[a8,eG,hb0] at this;rw[ee]
  simp only[List.map_append,List.append_assoc] at this ⊢
  exact this
 have vig:∀(is ms fk:List Ins),(thB x.pk x.pb bk).1.1=is++ms++fk->∀m∈ms.map (plc (8*2^x.ps)),VI m:=fun is ms fk ee m hm=>hv m (by rw[ee,List.map_append,List.map_append];exact List.mem_append_left _ (List.mem_append_right _ hm))
 have hd:∀ks, ∃m r,thG x.pk x.pb ks kn=m::r:=fun ks=>List.exists_cons_of_ne_nil (CQ x.pk x.pb ks kn)
 have g3:=fun ks=>(nG x.pk x.pb ks kn).2
 have fl:lnW st.1.1 %8≠0->8 < lnW st.1.1 %8+lnW (thG x.pk x.pb st.2 kn)->(8 - lnW st.1.1 %8) %8≠0:=by lia
 clear hv
 by_cases c:lnW st.1.1 %8+lnW (thG x.pk x.pb st.2 kn)<=8
 .have eb:ba st.1.1 (thG x.pk x.pb st.2 kn)=st.1.1:=by unfold ba;rw[if_pos c]
  rw[eb] at er2 ⊢;obtain⟨m,r,em⟩:=hd (knB st.1.1 st.2);refine⟨knB st.1.1 st.2,see st.1.1 _ m (r++r2) (by rw[er2,em,List.append_assoc];rfl) (fun z=>by unfold knB;rw[if_pos z]) (fun z=> ?_),.inl ⟨?_,rfl,atg _ _ r2 er2,vig _ _ r2 er2,by rw[a8];lia⟩⟩
  .have ek:knB st.1.1 st.2=st.2:=by unfold knB;rw[if_neg z]
   rw[ek];exact⟨ti.en z,ti.s8,he z⟩
  .unfold knB
   split
   .have:=g3 kn0
    lia
   .lia
 .have z:lnW st.1.1 %8≠0:=by have:=g3 st.2;lia
  have eb:ba st.1.1 (thG x.pk x.pb st.2 kn)=st.1.1++eB (lnW st.1.1):=by unfold ba;rw[if_neg c]
  rw[eb] at er2 ⊢;have el:lnW (st.1.1++eB (lnW st.1.1)) %8=0:=by rw[a8,lV];lia
  have ek:knB (st.1.1++eB (lnW st.1.1)) st.2=kn0:=by unfold knB;rw[if_pos el]
  rw[ek] at er2 ⊢;have ef:eB (b0+lnW st.1.1)=eB (lnW st.1.1):=by unfold eB;rw[show(b0+lnW st.1.1) %8=lnW st.1.1 %8 by lia]
  obtain⟨m,r,em⟩:=hd kn0;obtain⟨n,en⟩:∃n,eB (lnW st.1.1)=nop::n:=by
   unfold eB;obtain⟨i,ei⟩:∃i,(8 - lnW st.1.1 %8) %8=i+1:=⟨(8 - lnW st.1.1 %8) %8 - 1,by lia⟩
   rw[ei];exact⟨_,rfl⟩
  refine⟨st.2,see st.1.1 _ nop (n++(thG x.pk x.pb kn0 kn++r2)) (by rw[er2,en];simp only[List.append_assoc,List.cons_append]) (fun z2=>absurd z2 z) (fun _=>⟨ti.en z,ti.s8,he z⟩),.inr ⟨by lia,?_,?_,see _ kn0 m (r++r2) (by rw[er2,em,List.append_assoc];rfl) (fun _=>rfl) (fun z2=>absurd el z2),atg _ _ r2 er2,vig _ _ r2 er2,by rw[a8,a8];lia⟩⟩
  .rw[ef];have:=atg st.1.1 (eB (lnW st.1.1)) (thG x.pk x.pb kn0 kn++r2) (by rw[er2];simp only[List.append_assoc])
   rw[yW] at this;exact this
  .rw[a8,lV]
   lia
def bS (H:Hp) (d:Addr):Prop:=∃n o:Int,H d=some (.lst [.int n,.int o])
def CL (K:Frag):Sp:=fun vs H Q _=>∃(a:Addr) (ns:List Int) (k:Int),vs=[.ref a,.int k]/\SqL K H a (ns.map V.int)/\0<=k/\k<=1000000/\∀(d:Addr) (H':Hp),H d=none->bS H' d->ay H H'->Q (.ref d) H'
def ox:Sp:=fun vs H Q _=>∃(d:Addr) (m:Int),vs=[.ref d,.int m]/\bS H d/\0 < m/\m<=2^100/\∀(r:Int) (H':Hp),0<=r->r < m->bS H' d->But d H H'->Q (.int r) H'
theorem bU {H H':Hp}{d:Addr}(s:ay H H') (h:bS H d):bS H' d:=by
 obtain⟨f,o,h⟩:=h;exact⟨f,o,s _ _ h⟩
theorem xh (B:Bi mg) (D:rE K mg):Has P w K mg base 1 "_law_deal" yg (CL K):=by
 refine D.has fw (fun vs H Q E h=> ?_) (fun f cdv A outer s H vs Q E hr h=> ?_)
 .obtain⟨a,ns,k,rfl,_⟩:=h
  rfl
 obtain⟨a,ns,k,rfl,hS,h0,h1,q⟩:=h;have hl:(ns.map V.int).length=ns.length:=List.length_map _;have item:∀i:Int,0<=i->i < ns.length->∃v:Int,atI (ns.map V.int) i=some (.int v):=fun i i0 i1=>by
  have hk:i.toNat < ns.length:=by lia
  have ek:i=((i.toNat:Nat):Int):=by lia
  have q:atI (ns.map V.int) ((i.toNat:Nat):Int)=some (.int ns[i.toNat]):=a9 (by rw[List.getElem?_map,List.getElem?_eq_getElem hk] <;> rfl)
  rw[<- ek] at q;exact⟨_,q⟩
 refine⟨_,(ac (psS 2 fw.nd (aj aO (aj bz aa (pv 1)) aa))
   (ac (psS 3 fw.nd aa)
   (ac (aL (bn (ax (pcT lf (aF aC (by rfl) B.len bT (pa1 (pv 0))) aa) (ae (psS 2 fw.nd (aj aO (aj aO (aj bz (pX bP (pv 0) (aj cD (pv 1) (aF aC (by rfl) B.len bT (pa1 (pv 0))))) aa) (aj bz (aj bz aa (pv 1)) (pv 1))) (aF aC (by rfl) B.len bT (pa1 (pv 0)))))) al)))
   (ac (aL (bn (ax (PW.pt (iy (pcT gD (pv 1) (aF aC (by rfl) B.len bT (pa1 (pv 0)))) (fr (pcT aG (aj cD (pX bP (pv 0) aa) aa) aa)))) (ae (psS 3 fw.nd (pX bP (pv 0) (pv 1)))) al)))
   (ae (ah (aT (pa2 (pv 3) (aj cD (pv 2) aa))))))))),?_⟩
 try dsimp only[aY]
 walk_at "g";refine⟨fun Z' H'=>aA (H=H'/\∃x y:Int,Z'=[some (.ref a),some (.int k),some (.int x),some (.int y)]),?_,?_⟩
 .walk_at "g";refine aV (fun c=> ?_) (fun c=> ?_)
  .have c':(0:Int) < ((ns.map V.int).length:Nat):=c;have hp:0 < ns.length:=by rw[hl] at c';lia
   obtain⟨v1,e1⟩:=item (k %(((ns.map V.int).length:Nat):Int)) (Int.emod_nonneg _ (by rw[hl];lia)) (by rw[hl];exact Int.emod_lt_of_pos _ (by lia))
   walk_at "g";exact⟨rfl,_,_,rfl⟩
  .exact⟨rfl,_,_,rfl⟩
 rintro Z1 H1 ⟨rfl,x,y,rfl⟩
 walk_at "n";refine⟨fun Z' H'=>aA (H=H'/\∃x y:Int,Z'=[some (.ref a),some (.int k),some (.int x),some (.int y)]),?_,?_⟩
 .walk_at "g";refine aV (fun c=> ?_) (fun c=> ?_)
  .have c':k < (((ns.map V.int).length:Nat):Int):=c;obtain⟨v1,e1⟩:=item k h0 (by rw[hl] at c';exact c')
   obtain⟨v0,e0⟩:=item 0 (Int.le_refl 0) (by rw[hl] at c';lia)
   walk_at "g";refine aV (fun c=> ?_) (fun c=> ?_)
   .walk_at "g";exact⟨rfl,_,_,rfl⟩
   .exact⟨rfl,_,_,rfl⟩
  .exact Ax ⟨rfl,_,_,rfl⟩
 rintro Z3 H3 ⟨rfl,z,z2,rfl⟩
 walk_at "g";intro p hp;exact q p _ hp ⟨_,_,ad⟩ (af hp _)
theorem xY (B:Bi mg) (D:rD K mg):Has P w K mg base 1 "_law_draw" o5 ox:=by
 refine D.has fq (fun vs H Q E h=> ?_) (fun f cdv A outer s H vs Q E hr h=> ?_)
 .obtain⟨d,m,rfl,_⟩:=h
  rfl
 obtain⟨d,m,rfl,⟨n,o,hd⟩,hm0,hm1,q⟩:=h
 refine⟨_,(ac (ax (nA kE (pX bP (pv 0) aa) (aT (pa2 aa (iM (v:= -1) (by rfl)))) (by rfl)) (ac (psS 2 fq.nd (pX bP (pv 0) aa))
   (ac (tG (aj dH (pv 2) (pv 1)) (Dp (pv 0) aa yL))
   (ae (ah (aj cD (pv 2) (pv 1)))))) al)
   (ac (psS 2 fq.nd (aj cD (aj aO (aj bz (pX bP (pv 0) aa) aa) aa) aa))
   (ac (tG (aj cD (aj aO (aj bz (pv 2) aa) aa) aa) (Dp (pv 0) aa yL))
   (ac (psS 3 fq.nd (aj cD (aj bz (pv 2) (pv 2)) aa))
   (ac (psS 4 fq.nd (aj cD (aj bz (pX bP (pv 0) aa) (pX bP (pv 0) aa)) aa))
   (ae (ah (aj cD (aj aO (aj bz (pv 3) aa) (pv 4)) (pv 1))))))))),?_⟩
 try dsimp only[aY]
 walk_at "g";intro p hp;walk_at "g";have hpd:d≠p:=aB hd hp;have hcd:BV n m:=⟨hm0,hm1⟩;have hd1:upd H p (.lst [.int 0,.int (-1)]) d=some (.lst [.int n,.int o]):=by rw[az hpd];exact hd
 have sm:ay H (upd H p (.lst [.int 0,.int (-1)])):=af hp _;generalize upd H p (.lst [.int 0,.int (-1)])=H1 at*;refine zT (fun c=> ?_) (fun c=> ?_)
 .walk_at "g";exact q _ _ (Int.emod_nonneg _ (by lia)) (Int.emod_lt_of_pos _ hm0) ⟨_,_,ad⟩ (sm.but.trans But.upd)
 .walk_at "g";exact q _ _ (Int.emod_nonneg _ (by lia)) (Int.emod_lt_of_pos _ hm0) ⟨_,_,ad⟩ (sm.but.trans But.upd)
theorem bS.up {H:Hp}{d p:Addr}{o:HO}(h:bS H d) (hp:H p=none):bS (upd H p o) d:=bU (af hp _) h
theorem bS.ne {H:Hp}{d p:Addr}(h:bS H d) (hp:H p=none):p≠d:=by
 obtain⟨n,o,h⟩:=h;exact(aB h hp).symm
theorem bS.tup {H H':Hp}{d a:Addr}{xs:List V}(h:bS H d) (b:But d H H') (e:H a=some (.tup xs)):H' a=some (.tup xs):=by
 obtain⟨n,o,h1⟩:=h;exact b _ _ (by rintro rfl;rw[h1] at e;cases e) e
theorem bS.sq {H H':Hp}{d a:Addr}{xs:List V}(h:bS H d) (b:But d H H') (e:SqT K H a xs):SqT K H' a xs:=by
 obtain⟨n,o,h1⟩:=h;exact b.tup h1 e
theorem DT {k:Nat}{b:Int}(hk:k<=20) (b0:0<=b) (b1:b < 2^(32 - k)):SpM.Room k (b*2^k):=by
 have e:(2:Int)^(32 - k)*2^k=4294967296:=by rw[<- Int.pow_add,Nat.sub_add_cancel (by lia)];exact SpM.p32
 have h1:(b+1)*2^k<=2^(32 - k)*2^k:=Int.mul_le_mul_of_nonneg_right (by lia) (Int.le_of_lt (SpM.pp k))
 rw[Int.add_mul] at h1;exact⟨hk,Int.mul_nonneg b0 (Int.le_of_lt (SpM.pp k)),⟨b,Int.mul_comm _ _⟩,by lia⟩
theorem FW {x y r:Int}(h0:0<=r) (h1:r < 2):∃v,(v=x\/v=y)/\atI [V.int x,V.int y] r=some (.int v):=by
 obtain rfl | rfl:r=0\/r=1:=by lia
 .exact⟨x,.inl rfl,rfl⟩
 .exact⟨y,.inr rfl,rfl⟩
theorem FU {x y z r:Int}(h0:0<=r) (h1:r < 3):∃v,(v=x\/v=y\/v=z)/\atI [V.int x,V.int y,V.int z] r=some (.int v):=by
 obtain rfl | rfl | rfl:r=0\/r=1\/r=2:=by lia
 .exact⟨x,.inl rfl,rfl⟩
 .exact⟨y,.inr (.inl rfl),rfl⟩
 .exact⟨z,.inr (.inr rfl),rfl⟩
def DW:Sp:=fun vs H Q _=>∃d:Addr,vs=[.ref d]/\bS H d/\∀(p:Addr) (rk:Nat) (rb:Int) H',H' p=some (.tup [.int rk,.int rb])->SpM.Room rk rb->bS H' d->But d H H'->Q (.ref p) H'
theorem xx (B:Bi mg) (D:q_ K mg) (ao:Has P w K mg base 1 "_law_draw" o5 ox):Has P w K mg base 2 "_law_room" Bo DW:=by
 refine D.has p_ (fun vs H Q E h=> ?_) (fun f cdv A outer s H vs Q E hr h=> ?_)
 .obtain⟨d,rfl,_⟩:=h
  rfl
 obtain⟨d,rfl,hD,q⟩:=h
 refine⟨_,(ac (psS 1 p_.nd (pX bP (aT (pa2 (pcH ao hr (pa2 (pv 0) aa)) (aj aO aa (pcH ao hr (pa2 (pv 0) aa))))) (pcH ao hr (pa2 (pv 0) aa))))
   (ae (ah (aw (pa2 (pv 1) (aj cU (pX bP (aT (pa3 (pcH ao hr (pa2 (pv 0) (aj cU aa (aj a_ aa (pv 1))))) aa (aj a_ (aj cU aa (aj a_ aa (pv 1))) aa))) (aj cD (pcH ao hr (pa2 (pv 0) aa)) aa)) (pv 1))))))),?_⟩
 try dsimp only[aY]
 walk_at "g";intro k1 H1 k10 k11 hD1 g1;walk_at "g";intro k2 H2 k20 k21 hD2 g2;walk_at "g";intro p3 hp3;have hD3:=hD2.up (o:= .lst [.int k1,.int (2+k2)]) hp3;have l3:upd H2 p3 (.lst [.int k1,.int (2+k2)]) p3=some (.lst [.int k1,.int (2+k2)]):=ad;have G3:=cX (o:= .lst [.int k1,.int (2+k2)]) hp3 (g1.trans g2);have n3:=hD2.ne hp3;generalize upd H2 p3 (.lst [.int k1,.int (2+k2)])=H3 at*;walk_at "g";intro c H4 c0 c1 hD4 g4;have l4:=g4 _ _ n3 l3;have G4:=G3.trans g4;obtain⟨k,hk,ek⟩:=FW (x:=k1) (y:=2+k2) c0 c1;have k0:0<=k:=by lia
 have k20':k<=20:=by lia
 clear hk l3 hD1 hD2 hD3 g1 g2 g4 G3 k10 k11 k20 k21 c0 c1;obtain⟨k,rfl⟩:∃n:Nat,k=n:=Int.eq_ofNat_of_zero_le k0;have em:(1:Int)*2^(32 - (k:Int)).toNat=2^(32 - k):=by
  rw[Int.one_mul]
  congr 1
  lia
 have hm1:=SpM.pp (32 - k);have hm2:(2:Int)^(32 - k)<=2^32:=SpM.ple (by lia)
 rw[SpM.p32] at hm2;have hR:=fun b b0 b1=> @DT k b (by lia) b0 b1
 rw[<- em] at hm1 hm2 hR;have ek2:∀b:Int,b*2^((k:Int)).toNat=b*2^k:=fun b=>by rw[Int.toNat_natCast]
 have hcp:mQ 1 (32 - (k:Int)):=⟨by lia,by lia,by decide⟩
 have hDH:=aA.mk hD4;have mH:=aA.mk (And.intro hm1 hm2);clear hD4 hm1 hm2;walk_at "g";refine⟨hDH.out,mH.out.1,by have:=mH.out.2;lia,?_⟩
 intro b H5 b0 b1 hD5 g5;have G5:=G4.trans g5;walk_at "g";intro p6 hp6;have hD6:=hD5.up (o:= .lst [.int b,.int 0,.int (1*2^(32 - (k:Int)).toNat - 1)]) hp6;have l6:upd H5 p6 (.lst [.int b,.int 0,.int (1*2^(32 - (k:Int)).toNat - 1)]) p6=some (.lst [.int b,.int 0,.int (1*2^(32 - (k:Int)).toNat - 1)]):=ad;have G6:=cX (o:= .lst [.int b,.int 0,.int (1*2^(32 - (k:Int)).toNat - 1)]) hp6 G5;have n6:=hD5.ne hp6;generalize upd H5 p6 (.lst [.int b,.int 0,.int (1*2^(32 - (k:Int)).toNat - 1)])=H6 at*;walk_at "g";intro c H7 c0 c1 hD7 g7;have l7:=g7 _ _ n6 l6;have G7:=G6.trans g7;obtain⟨v,hv,ev⟩:=FU (x:=b) (y:=0) (z:=1*2^(32 - (k:Int)).toNat - 1) (r:=c %3) (by lia) (by lia)
 have v0:0<=v:=by have:=mH.out.1;lia
 have v1:v < 1*2^(32 - (k:Int)).toNat:=by have:=mH.out.1;lia
 have hr:=hR v v0 v1;have hcb:mQ v (k:Int):=⟨by lia,by lia,by have:=mH.out.2;lia⟩
 clear hv b0 b1;walk_at "g";dsimp only;rw[ek2];intro p hp;exact q p k (v*2^k) _ ad hr (hD7.up hp) (cX hp G7)
def A9:Sp:=fun vs H Q _=>∃(d rm:Addr) (rk:Nat) (rb:Int),vs=[.ref d,.ref rm]/\bS H d/\H rm=some (.tup [.int rk,.int rb])/\SpM.Room rk rb/\∀(v:Int) H',0<=v->v < 4294967296->bS H' d->But d H H'->Q (.int v) H'
theorem uZ (B:Bi mg) (D:pE K mg) (ao:Has P w K mg base 1 "_law_draw" o5 ox):Has P w K mg base 2 "_law_value" nT A9:=by
 refine D.has og (fun vs H Q E h=> ?_) (fun f cdv A outer s H vs Q E hr h=> ?_)
 .obtain⟨d,rm,rk,rb,rfl,_⟩:=h
  rfl
 obtain⟨d,rm,rk,rb,rfl,hD,hrm,hR,q⟩:=h;have hk:=hR.k20;have hb0:=hR.b0;have hbW:=hR.bW;have ek2:(1:Int)*2^((rk:Int)).toNat=2^rk:=by rw[Int.one_mul,Int.toNat_natCast]
 have hp2:(2:Int)^rk<=2^20:=SpM.ple hk;have hp3:=SpM.pp rk;rw[<- ek2] at hp2 hp3 hbW;have hcp:mQ 1 (rk:Int):=⟨by lia,by lia,by decide⟩
 have nH:=aA.mk (And.intro hp2 (And.intro hp3 hbW));have bH:=aA.mk hb0;clear hp2 hp3 hbW hb0
 refine⟨_,(ac (psS 2 og.nd (pcH ao hr (pa2 (pv 0) aa)))
   (ac (ax (pcT aG (pv 2) aa) (ae (ah (pcH ao hr (pa2 (pv 0) (cA (v:=4294967296) (by rfl)))))) al)
   (ac (ax (pcT aG (pv 2) aa) (ae (ah (pcH ao hr (pa2 (pv 0) aa)))) al)
   (ac (ax (pcT aG (pv 2) aa) (ae (ah (aj cD (aj a_ (aj aO (aj aO (pX ai (pv 1) aa) (aj cU aa (pX ai (pv 1) aa))) (pcH ao hr (pa2 (pv 0) aa))) aa) (cA (v:=4294967296) (by rfl))))) al)
   (ae (ah (aj aO (pX ai (pv 1) aa) (pcH ao hr (pa2 (pv 0) (aj cU aa (pX ai (pv 1) aa))))))))))),?_⟩
 try dsimp only[aY]
 walk_at "g";intro f1 H1 f10 f11 hD1 g1;have hrm1:=hD.tup g1 hrm;walk_at "g";refine aV (fun c0=> ?_) (fun c0=> ?_)
 .walk_at "g";intro w H4 w0 w1 hD4 g4;exact q _ H4 w0 w1 hD4 (g1.trans g4)
 walk_at "g";refine aV (fun c1=> ?_) (fun c1=> ?_)
 .walk_at "g";intro w H4 w0 w1 hD4 g4;exact q _ H4 w0 (by lia) hD4 (g1.trans g4)
 walk_at "g";refine aV (fun c2=> ?_) (fun c2=> ?_)
 .walk_at "g";intro w H4 w0 w1 hD4 g4;walk_at "g";exact q _ H4 (by lia) (by lia) hD4 (g1.trans g4)
 have hDH:=aA.mk hD1;clear hD1;walk_at "g";refine⟨hDH.out,nH.out.2.1,by have:=nH.out.1;lia,?_⟩
 intro w H4 w0 w1 hD4 g4;walk_at "g";have:=nH.out.2.2;have:=bH.out;exact q _ H4 (by lia) (by lia) hD4 (g1.trans g4)
theorem vM {nb k:Nat}{g:Int}{ns:List Int}(v:aM 6 262144 k ns) (n16:k≠16) (n17:k≠17) (j1:k=13->ns.getD 0 0 < nb) (j2:k=14->ns.getD 1 0 < nb) (gt:k=18->ns.getD 0 0 < g):GI nb g (k,ns):=⟨v,⟨n16,n17⟩,j1,j2,gt⟩
theorem cf.dl {H H':Hp}{d:Addr}{ts:List Addr}{is:List Ins}(hd:bS H d) (b:But d H H') (h:cf K H ts is):cf K H' ts is:=h.mono fun _ _ z=>hd.sq b z
def GM (nb:Nat) (g:Int) (kn:Ins):Prop:=GI nb g kn/\¬fB kn.1
theorem rQ {nb k:Nat}{g:Int}{ns:List Int}(v:aM 6 262144 k ns) (h:1<=k/\k<=12):GM nb g (k,ns):=⟨vM v (by lia) (by lia) (fun e=>by lia) (fun e=>by lia) (fun e=>by lia),fun(z:fB k)=>by unfold fB at z;lia⟩
theorem Eu {k:Nat}{a b c:Int}(h:2<=k/\k<=9) (a0:0<=a) (a1:a < 6) (b0:0<=b) (b1:b < 6) (c0:0<=c) (c1:c < 6):aM 6 262144 k [a,b,c]:= .inr (.inr (.inl ⟨h.1,h.2,a,b,c,rfl,a0,a1,b0,b1,c0,c1⟩))
theorem A7 {k:Nat}{a b n:Int}(h:10<=k/\k<=12) (a0:0<=a) (a1:a < 6) (b0:0<=b) (b1:b < 6) (n0: -131072<=n) (n1:n < 131072):aM 6 262144 k [a,b,n]:= .inr (.inr (.inr (.inl ⟨h.1,h.2,a,b,n,rfl,a0,a1,b0,b1,n0,n1⟩)))
theorem zX {a v:Int}(a0:0<=a) (a1:a < 6) (v0:0<=v) (v1:v < 4294967296):aM 6 262144 1 [a,v]:= .inr (.inl ⟨rfl,a,v,rfl,a0,a1,v0,v1⟩)
theorem Dg {H:Hp}{t1 t2 t3:Addr}{a r:Int}(h0:0<=r) (h1:r < 3) (e1:H t1=some (.tup [.str "and",.int a,.int a,.int 5])) (e2:H t2=some (.tup [.str "less",.int a,.int a,.int 5])) (e3:H t3=some (.tup [.str "right",.int a,.int a,.int 5])):
  ∃(kc i:Nat) (tc:Addr),(2<=kc/\kc<=9)/\i < 3/\atI [V.ref t1,V.ref t2,V.ref t3] r=some (.ref tc)/\H tc=some (.tup (aE kc [a,a,5]))/\jP (.str (aI kc)) [V.str "and",.str "less",.str "right"] i:=by
 have fa:∀(k i:Nat),(k=4/\i=0\/k=7/\i=1\/k=9/\i=2)->jP (.str (aI k)) [V.str "and",.str "less",.str "right"] i:=by
  rintro k i (⟨rfl,rfl⟩|⟨rfl,rfl⟩|⟨rfl,rfl⟩)
  .exact⟨⟨_,rfl,by decide +kernel⟩,fun m y hm=>absurd hm (Nat.not_lt_zero m)⟩
  .refine⟨⟨_,rfl,by decide +kernel⟩,fun m y hm e=> ?_⟩
   obtain rfl:m=0:=by lia
   cases e
   decide +kernel
  .refine⟨⟨_,rfl,by decide +kernel⟩,fun m y hm e=> ?_⟩
   obtain rfl | rfl:m=0\/m=1:=by lia
   all_goals
    cases e
    decide +kernel
 obtain rfl | rfl | rfl:r=0\/r=1\/r=2:=by lia
 .exact⟨4,0,t1,by decide,by decide,rfl,e1,fa 4 0 (.inl ⟨rfl,rfl⟩)⟩
 .exact⟨7,1,t2,by decide,by decide,rfl,e2,fa 7 1 (.inr (.inl ⟨rfl,rfl⟩))⟩
 .exact⟨9,2,t3,by decide,by decide,rfl,e3,fa 9 2 (.inr (.inr ⟨rfl,rfl⟩))⟩
theorem F6 {xs:List Int}{r:Int}(h0:0<=r) (h1:r < xs.length):∃v,v∈xs/\atI (xs.map V.int) r=some (.int v):=by
 have hk:r.toNat < xs.length:=by lia
 have ek:r=((r.toNat:Nat):Int):=by lia
 refine⟨xs[r.toNat],List.getElem_mem hk,?_⟩
 have q:atI (xs.map V.int) ((r.toNat:Nat):Int)=some (.int xs[r.toNat]):=a9 (by rw[List.getElem?_map,List.getElem?_eq_getElem hk] <;> rfl)
 rw[<- ek] at q;exact q
theorem sR {H H':Hp}{d p:Addr}(hd:bS H' d) (b:But d H H') (hp:H' p=none):H p=none:=by
 cases e:H p with
 | none=>rfl
 | some u=>
  have h:=b _ _ (hd.ne hp) e;rw[hp] at h
  cases h
def A_ (K:Frag):Sp:=fun vs H Q _=>∃(d rm:Addr) (rk:Nat) (rb:Int),vs=[.ref d,.ref rm]/\bS H d/\H rm=some (.tup [.int rk,.int rb])/\SpM.Room rk rb/\∀(p:Addr) (ts:List Addr) (is:List Ins) H',H p=none->H' p=some (.lst (ts.map V.ref))->cf K H' ts is->is.length=5->(∀ nb g, ∀kn∈is,GM nb g kn)->bS H' d->But d H H'->Q (.ref p) H'
theorem uA (B:Bi mg) (D:pB K mg) (ao:Has P w K mg base 1 "_law_draw" o5 ox):Has P w K mg base 2 "_law_table" nT (A_ K):=by
 refine D.has bM (fun vs H Q E h=> ?_) (fun f cdv A outer s H vs Q E hr h=> ?_)
 .obtain⟨d,rm,rk,rb,rfl,_⟩:=h
  rfl
 obtain⟨d,rm,rk,rb,rfl,hD,hrm,hR,q⟩:=h;have hk:=hR.k20;have hcpk:mQ 1 (rk:Int):=⟨by lia,by lia,by decide⟩
 refine⟨_,(ac (psS 2 bM.nd (pcH ao hr (pa2 (pv 0) aa)))
   (ac (psS 3 bM.nd (pcH ao hr (pa2 (pv 0) (aj aO (pX ai (pv 1) aa) aa))))
   (ac (psS 4 bM.nd (pcH ao hr (pa2 (pv 0) aa)))
   (ac (psS 5 bM.nd (pX bP (aT (pa3 (aw (pa4 au (pv 2) (pv 2) aa)) (aw (pa4 au (pv 2) (pv 2) aa)) (aw (pa4 au (pv 2) (pv 2) aa)))) (aj cD (pcH ao hr (pa2 (pv 0) aa)) aa)))
   (ac (psS 6 bM.nd (pX bP (aT (pa3 (aj a_ (aj cU aa (pv 3)) aa) (pcH ao hr (pa2 (pv 0) (cA (v:=4294967296) (by rfl)))) (aj a_ aa (pcH ao hr (pa2 (pv 0) aa))))) (fe PySem.F.plainAttrs_list PySem.F.slot_list_index PySem.F.type_list_index D6 (aT (bF (by rfl))) (pa1 (pX Gw (pv 5) aa)))))
   (ac (psS 7 bM.nd (pX bP (aT (aN aa (aN aa (aN aa (aN (iM (v:= -1) (by rfl)) (aN (Gh DQ (pv 4)) (aN (aj a_ (aj a_ (aj cU aa (pX ai (pv 1) aa)) (aj cU aa (pv 3))) (pv 4)) (aN (aj aO (aj a_ (aj a_ (aj cU aa (pX ai (pv 1) aa)) (aj cU aa (pv 3))) (pv 4)) aa) cY)))))))) (pcH ao hr (pa2 (pv 0) aa))))
   (ac (aL (bn (ax (pcT lf (aF zf (by rfl) B.abs Ed (pa1 (pv 7))) (aj a_ (cA (v:=131072) (by rfl)) aa)) (ae (psS 7 bM.nd aa)) al)))
   (ac (psS 8 bM.nd (aw (pa4 (pX bP (aT (bF (by rfl))) (pcH ao hr (pa2 (pv 0) aa))) (pv 2) (pv 2) aa)))
   (ac (psS 9 bM.nd (aw (pa4 (pX bP (aT (bF (by rfl))) (pcH ao hr (pa2 (pv 0) aa))) (pcH ao hr (pa2 (pv 0) aa)) (pv 2) (pv 7))))
   (ae (ah (aT (pa5 (aw (pa3 au aa (pv 6))) (pv 5) (aw (pa3 au aa (aF (fg (by rfl)) (by rfl) B.min mY (pa2 (aj a_ (cA (v:=4294967296) (by rfl)) aa) (aj aO (pX ai (pv 1) aa) (pv 4)))))) (pv 8) (pv 9)))))))))))))),?_⟩
 try dsimp only[aY]
 walk_at "g";intro a H1 a0 a1 hD1 g1;have hrm1:=hD.tup g1 hrm;have hDH:=aA.mk hD1;clear hD1;walk_at "g";refine⟨hDH.out,by lia,by lia,?_⟩
 intro j H2 j0 j1 hD2 g2;have hD1:=hDH.out;have j22:j < 22:=by lia
 have G2:=g1.trans g2;clear j1 hDH;walk_at "g";intro dd H3 dd0 dd1 hD3 g3;have G3:=G2.trans g3;walk_at "g";intro t1 ht1;have e4:=af ht1 (.tup [.str "and",.int a,.int a,.int 5]);have u1:upd H3 t1 (.tup [.str "and",.int a,.int a,.int 5]) t1=some (.tup [.str "and",.int a,.int a,.int 5]):=ad;have hD4:=bU e4 hD3;have G4:=cX (o:= .tup [.str "and",.int a,.int a,.int 5]) ht1 G3;generalize upd H3 t1 (.tup [.str "and",.int a,.int a,.int 5])=H4 at*;walk_at "g";intro t2 ht2;have e5:=af ht2 (.tup [.str "less",.int a,.int a,.int 5]);have u2:upd H4 t2 (.tup [.str "less",.int a,.int a,.int 5]) t2=some (.tup [.str "less",.int a,.int a,.int 5]):=ad;have u15:=e5 _ _ u1;have hD5:=bU e5 hD4;have G5:=cX (o:= .tup [.str "less",.int a,.int a,.int 5]) ht2 G4;generalize upd H4 t2 (.tup [.str "less",.int a,.int a,.int 5])=H5 at*;walk_at "g";intro t3 ht3;have e6:=af ht3 (.tup [.str "right",.int a,.int a,.int 5]);have u3:upd H5 t3 (.tup [.str "right",.int a,.int a,.int 5]) t3=some (.tup [.str "right",.int a,.int a,.int 5]):=ad;have u16:=e6 _ _ u15;have u26:=e6 _ _ u2;have hD6:=bU e6 hD5;have G6:=cX (o:= .tup [.str "right",.int a,.int a,.int 5]) ht3 G5;generalize upd H5 t3 (.tup [.str "right",.int a,.int a,.int 5])=H6 at*;walk_at "g";intro p7 hp7;have e7:=af hp7 (.lst [.ref t1,.ref t2,.ref t3]);have l7:upd H6 p7 (.lst [.ref t1,.ref t2,.ref t3]) p7=some (.lst [.ref t1,.ref t2,.ref t3]):=ad;have u17:=e7 _ _ u16;have u27:=e7 _ _ u26;have u37:=e7 _ _ u3;have hD7:=bU e7 hD6;have n7:=hD6.ne hp7;have G7:=cX (o:= .lst [.ref t1,.ref t2,.ref t3]) hp7 G6;generalize upd H6 p7 (.lst [.ref t1,.ref t2,.ref t3])=H7 at*;clear e4 e5 e6 e7 u1 u2 u3 u15 u16 u26 hD1 hD2 hD3 hD4 hD5 hD6 g1 g2 g3 G2 G3 G4 G5 G6;walk_at "g";intro c H8 c0 c1 hD8 g8;have l8:=g8 _ _ n7 l7;have G8:=G7.trans g8;obtain⟨kc,ic,tc,hkc,hic,etc_,utc,hfa⟩:=Dg (r:=c %3) (by lia) (by lia) (hD7.tup g8 u17) (hD7.tup g8 u27) (hD7.tup g8 u37)
 clear u17 u27 u37 l7 hD7 G7 g8 c0 c1;obtain⟨jn,rfl⟩:∃n:Nat,j=n:=Int.eq_ofNat_of_zero_le j0;have hcpj:mQ 1 (jn:Int):=⟨by lia,by lia,by decide⟩
 have ej2:(1:Int)*2^((jn:Int)).toNat=2^jn:=by rw[Int.one_mul,Int.toNat_natCast]
 have hj2:(2:Int)^jn<=2^22:=SpM.ple (by lia)
 have hj3:=SpM.pp jn;rw[<- ej2] at hj2 hj3;have jH:=aA.mk (And.intro hj2 hj3);clear hj2 hj3;walk_at "g";intro v2 H9 v20 v21 hD9 g9;have utc9:=hD8.tup g9 utc;walk_at "g";intro v3 H10 v30 v31 hD10 g10;have utc10:=hD9.tup g10 utc9;have G10:=(G8.trans g9).trans g10;clear utc utc9 hD8 hD9 g9 g10 G8 l8;walk_at "g";intro p11 hp11;have e11:=af hp11 (.lst [.int (1*2^((jn:Int)).toNat - 1),.int v2,.int (31 - v3)]);have l11:upd H10 p11 (.lst [.int (1*2^((jn:Int)).toNat - 1),.int v2,.int (31 - v3)]) p11=some (.lst [.int (1*2^((jn:Int)).toNat - 1),.int v2,.int (31 - v3)]):=ad;have utc11:=e11 _ _ utc10;have hD11:=bU e11 hD10;have G11:=cX (o:= .lst [.int (1*2^((jn:Int)).toNat - 1),.int v2,.int (31 - v3)]) hp11 G10;generalize upd H10 p11 (.lst [.int (1*2^((jn:Int)).toNat - 1),.int v2,.int (31 - v3)])=H11 at*;walk_at "g";intro p12 hp12;have e12:=af hp12 (.lst [.str "and",.str "less",.str "right"]);have l12:upd H11 p12 (.lst [.str "and",.str "less",.str "right"]) p12=some (.lst [.str "and",.str "less",.str "right"]):=ad;have utc12:=e12 _ _ utc11;have l112:=e12 _ _ l11;have hD12:=bU e12 hD11;have G12:=cX (o:= .lst [.str "and",.str "less",.str "right"]) hp12 G11;generalize upd H11 p12 (.lst [.str "and",.str "less",.str "right"])=H12 at*;have x0:atI (aE kc [a,a,5]) 0=some (.str (aI kc)):=lR;have sq12:SqT K H12 tc (aE kc [a,a,5]):=SqT.of utc12;obtain⟨v,hv,ev⟩:=FU (x:=1*2^((jn:Int)).toNat - 1) (y:=v2) (z:=31 - v3) (r:=(ic:Int)) (by lia) (by lia)
 have v0:0<=v:=by have:=jH.out;lia
 have v1:v < 4294967296:=by have:=jH.out;lia
 clear hv v20 v21 v30 v31 e11 e12 utc10 utc11 hD10 hD11 G10 G11 l11;have hty:tyV K "list" (.ref p12) H12:= .inl ⟨rfl,_,SqL.of l12⟩;walk_at "g";refine .inr (.inl (Hx sq12 x0 ?_))
 refine⟨p12,_,_,ic,rfl,rfl,SqL.of l12,rfl,rfl,hfa,?_⟩
 have hrm12:=hD.tup G12 hrm;walk_at "g";intro p13 hp13;obtain⟨X13,e13⟩:∃X:List Int,X=[0,0,1, -1, -dd,1*2^((rk:Int)).toNat - 1*2^((jn:Int)).toNat - dd,1*2^((rk:Int)).toNat - 1*2^((jn:Int)).toNat - dd+1]:=⟨_,rfl⟩;have l7:X13.length=7:=by rw[e13];rfl
 have s13:=af hp13 (.lst (X13.map V.int));have l13:upd H12 p13 (.lst (X13.map V.int)) p13=some (.lst (X13.map V.int)):=ad;have utc13:=s13 _ _ utc12;have hD13:=bU s13 hD12;have n13:=hD12.ne hp13;have G13:=cX (o:= .lst (X13.map V.int)) hp13 G12;have eo:HO.lst [V.int 0,.int 0,.int 1,.int (-1),.int (-dd),.int (1*2^((rk:Int)).toNat - 1*2^((jn:Int)).toNat - dd),.int (1*2^((rk:Int)).toNat - 1*2^((jn:Int)).toNat - dd+1)]= .lst (X13.map V.int):=by rw[e13];rfl
 rw[eo];clear e13 eo;generalize upd H12 p13 (.lst (X13.map V.int))=H13 at*;clear utc12 l112 l12 hD12 G12 hrm12 hty sq12 s13 ev hfa;walk_at "g";intro c7 H14 c70 c71 hD14 g14;have l14:=g14 _ _ n13 l13;have utc14:=hD13.tup g14 utc13;have G14:=G13.trans g14;obtain⟨nn,_,en⟩:=F6 (xs:=X13) (r:=c7) c70 (by rw[l7];exact c71)
 clear utc13 l13 hD13 g14 G13 c70 c71;walk_at "g";refine⟨fun Z' H'=>aA (H14=H'/\∃n:Int, -131072<=n/\n < 131072/\Z'=[some (.ref d),some (.ref rm),some (.int a),some (.int jn),some (.int dd),some (.ref tc),some (.int v),some (.int n),none,none]),?_,?_⟩
 .walk_at "g";refine aV (fun c0=> ?_) (fun c0=> ?_)
  .walk_at "g";exact⟨rfl,0,by decide,by decide,rfl⟩
  .refine⟨rfl,nn,?_,?_,rfl⟩
   all_goals
    split at c0
    all_goals lia
 rintro Z' H' ⟨rfl,n,hn0,hn1,rfl⟩
 clear en l14;walk_at "g";intro p15 hp15;have s15:=af hp15 (.lst [.str "add",.str "or"]);have l15:upd H14 p15 (.lst [.str "add",.str "or"]) p15=some (.lst [.str "add",.str "or"]):=ad;have utc15:=s15 _ _ utc14;have hD15:=bU s15 hD14;have n15:=hD14.ne hp15;have G15:=cX (o:= .lst [.str "add",.str "or"]) hp15 G14;generalize upd H14 p15 (.lst [.str "add",.str "or"])=H15 at*;clear utc14 hD14 s15 G14;walk_at "g";intro c8 H16 c80 c81 hD16 g16;have l16:=g16 _ _ n15 l15;have utc16:=hD15.tup g16 utc15;have G16:=G15.trans g16;obtain⟨km,hkm,em⟩:∃k,(2<=k/\k<=9)/\atI [V.str "add",.str "or"] c8=some (.str (aI k)):=by
  obtain rfl | rfl:c8=0\/c8=1:=by lia
  .exact⟨2,by decide,rfl⟩
  .exact⟨5,by decide,rfl⟩
 clear utc15 l15 hD15 g16 G15 c80 c81;walk_at "g";intro tm htm;have s17:=af htm (.tup (aE km [a,a,5]));have um:upd H16 tm (.tup (aE km [a,a,5])) tm=some (.tup (aE km [a,a,5])):=ad;have utc17:=s17 _ _ utc16;have hD17:=bU s17 hD16;have G17:=cX (o:= .tup (aE km [a,a,5])) htm G16
 change Nx _ _ (upd H16 tm (.tup (aE km [a,a,5])))
 generalize upd H16 tm (.tup (aE km [a,a,5]))=H17 at*;clear utc16 hD16 s17 G16 l16 em;walk_at "g";intro p18 hp18;have s18:=af hp18 (.lst [.str "load",.str "store"]);have l18:upd H17 p18 (.lst [.str "load",.str "store"]) p18=some (.lst [.str "load",.str "store"]):=ad;have utc18:=s18 _ _ utc17;have um18:=s18 _ _ um;have hD18:=bU s18 hD17;have n18:=hD17.ne hp18;have G18:=cX (o:= .lst [.str "load",.str "store"]) hp18 G17;generalize upd H17 p18 (.lst [.str "load",.str "store"])=H18 at*;clear utc17 um hD17 s18 G17;walk_at "g";intro c9 H19 c90 c91 hD19 g19;have l19:=g19 _ _ n18 l18;have utc19:=hD18.tup g19 utc18;have um19:=hD18.tup g19 um18;have G19:=G18.trans g19;obtain⟨kl,hkl,el⟩:∃k,(10<=k/\k<=12)/\atI [V.str "load",.str "store"] c9=some (.str (aI k)):=by
  obtain rfl | rfl:c9=0\/c9=1:=by lia
  .exact⟨11,by decide,rfl⟩
  .exact⟨12,by decide,rfl⟩
 clear utc18 um18 l18 hD18 g19 G18 c90 c91;walk_at "g";intro a2 H20 a20 a21 hD20 g20;have utc20:=hD19.tup g20 utc19;have um20:=hD19.tup g20 um19;have G20:=G19.trans g20;clear utc19 um19 l19 el hD19 g20 G19;walk_at "g";intro tl htl;have s21:=af htl (.tup (aE kl [a2,a,n]));have ul:upd H20 tl (.tup (aE kl [a2,a,n])) tl=some (.tup (aE kl [a2,a,n])):=ad;have utc21:=s21 _ _ utc20;have um21:=s21 _ _ um20;have hD21:=bU s21 hD20;have G21:=cX (o:= .tup (aE kl [a2,a,n])) htl G20
 change Nx _ _ (upd H20 tl (.tup (aE kl [a2,a,n])))
 generalize upd H20 tl (.tup (aE kl [a2,a,n]))=H21 at*;clear utc20 um20 hD20 s21 G20;walk_at "g";intro u1 hu1;have s22:=af hu1 (.tup [.str "put",.int 5,.int v]);have w1:upd H21 u1 (.tup [.str "put",.int 5,.int v]) u1=some (.tup [.str "put",.int 5,.int v]):=ad;have utc22:=s22 _ _ utc21;have um22:=s22 _ _ um21;have ul22:=s22 _ _ ul;have hD22:=bU s22 hD21;have G22:=cX (o:= .tup [.str "put",.int 5,.int v]) hu1 G21;have hrm22:=hD.tup G22 hrm;generalize upd H21 u1 (.tup [.str "put",.int 5,.int v])=H22 at*;clear utc21 um21 ul hD21 s22 G21;walk_at "g";have z0:0<=(if rb+dd < 4294967296 - 1 then rb+dd else 4294967296 - 1):=by
  have:=hR.b0
  split <;> lia
 have z1:(if rb+dd < 4294967296 - 1 then rb+dd else 4294967296 - 1) < 4294967296:=by split <;> lia
 generalize (if rb+dd < 4294967296 - 1 then rb+dd else 4294967296 - 1)=z at*
 intro u2 hu2;have s23:=af hu2 (.tup [.str "put",.int 5,.int z]);have w2:upd H22 u2 (.tup [.str "put",.int 5,.int z]) u2=some (.tup [.str "put",.int 5,.int z]):=ad;have utc23:=s23 _ _ utc22;have um23:=s23 _ _ um22;have ul23:=s23 _ _ ul22;have w13:=s23 _ _ w1;have hD23:=bU s23 hD22;have G23:=cX (o:= .tup [.str "put",.int 5,.int z]) hu2 G22
 change fC _ _ _ (upd H22 u2 (.tup [.str "put",.int 5,.int z])) _
 generalize upd H22 u2 (.tup [.str "put",.int 5,.int z])=H23 at*;clear utc22 um22 ul22 w1 hD22 s23 G22 hrm22;walk_at "g";intro p hp;have s24:=af hp (.lst [.ref u1,.ref tc,.ref u2,.ref tm,.ref tl]);refine q p [u1,tc,u2,tm,tl] [(1,[5,v]),(kc,[a,a,5]),(1,[5,z]),(km,[a,a,5]),(kl,[a2,a,n])] _ (sR hD23 G23 hp) ad ⟨(SqT.of (s24 _ _ w13)),SqT.of (s24 _ _ utc23),SqT.of (s24 _ _ w2),SqT.of (s24 _ _ um23),SqT.of (s24 _ _ ul23),True.intro⟩ rfl (fun nb g kn hk=> ?_) (hD23.up hp) (cX hp G23)
 have h5:(0:Int)<=5/\(5:Int) < 6:=by decide
 have a1':a < 6:=by lia
 have hm:kn=(1,[5,v])\/kn=(kc,[a,a,5])\/kn=(1,[5,z])\/kn=(km,[a,a,5])\/kn=(kl,[a2,a,n]):=by simpa using hk
 rcases hm with rfl | rfl | rfl | rfl | rfl
 .exact rQ (zX h5.1 h5.2 v0 v1) (by decide)
 .exact rQ (Eu hkc a0 a1' a0 a1' h5.1 h5.2) (by show 1<=kc/\kc<=12;lia)
 .exact rQ (zX h5.1 h5.2 z0 z1) (by decide)
 .exact rQ (Eu hkm a0 a1' a0 a1' h5.1 h5.2) (by show 1<=km/\km<=12;lia)
 .exact rQ (A7 hkl a20 a21 a0 a1' hn0 hn1) (by show 1<=kl/\kl<=12;lia)
theorem Hz {r:Int}(h0:0<=r) (h1:r < 8):∃k,(2<=k/\k<=9)/\atI [V.str "add",.str "sub",.str "and",.str "or",.str "xor",.str "less",.str "left",.str "right"] r=some (.str (aI k)):=by
 have hk:r.toNat < 8:=by lia
 have ek:r=((r.toNat:Nat):Int):=by lia
 have h:∀j,j < 8->[V.str "add",.str "sub",.str "and",.str "or",.str "xor",.str "less",.str "left",.str "right"][j]? =some (.str (aI (j+2))):=by decide +kernel
 refine⟨r.toNat+2,by lia,?_⟩
 have q:=a9 (h _ hk);rw[<- ek] at q;exact q
theorem EI {H H':Hp}{d l:Addr}{o:HO}(hl:H l=none) (b:But d H H'):But d H (upd H' l o):=fun a u ha e=>by
 rw[az (aB e hl)];exact b a u ha e
theorem rG {H:Hp}{p t:Addr}{xs ys:List V}{o:HO}(hp:H p=some (.lst ys)) (h:SqT K H t xs):SqT K (upd H p o) t xs:=But.tup (d:=p) But.upd hp h
structure Rws (K:Frag) (d l:Addr) (H0 H:Hp) (nb:Nat) (gt:Int) (n:Nat) (ts:List Addr) (is:List Ins):Prop where
 at_:H l=some (.lst (ts.map V.ref))
 ins:cf K H ts is
 len:is.length<=n
 gi:∀kn∈is,GM nb gt kn
 deal:bS H d
 but:But d H0 H
 free:H0 l=none
 ne:l≠d
theorem Rws.dl {d l:Addr}{H0 H H':Hp}{nb:Nat}{gt:Int}{n:Nat}{ts:List Addr}{is:List Ins}(h:Rws K d l H0 H nb gt n ts is) (hD:bS H' d) (b:But d H H'):Rws K d l H0 H' nb gt n ts is:=⟨b _ _ h.ne h.at_,h.ins.dl h.deal b,h.len,h.gi,hD,h.but.trans b,h.free,h.ne⟩
theorem Rws.new {d l p:Addr}{o:HO}{H0 H:Hp}{nb:Nat}{gt:Int}{n:Nat}{ts:List Addr}{is:List Ins}(h:Rws K d l H0 H nb gt n ts is) (hp:H p=none):Rws K d l H0 (upd H p o) nb gt n ts is:=h.dl (h.deal.up hp) (af hp _).but
theorem Rws.app {d l p:Addr}{H0 H:Hp}{nb:Nat}{gt:Int}{n:Nat}{ts:List Addr}{is:List Ins}(h:Rws K d l H0 H nb gt n ts is) (hp:H p=none) (kn:Ins) (g:GM nb gt kn):Rws K d l H0 (upd (upd H p (.tup (aE kn.1 kn.2))) l (.lst (ts.map V.ref++[.ref p]))) nb gt (n+1) (ts++[p]) (is++[kn]):=by
 have h1:=h.new (o:= .tup (aE kn.1 kn.2)) hp;refine⟨by rw[ad,List.map_append];rfl,?_,by rw[List.length_append];exact Nat.add_le_add_right h.len 1,fun k hk=> ?_,?_,EI h.free h1.but,h.free,h.ne⟩
 .exact((show cf K _ [p] [kn] from⟨SqT.of ad,True.intro⟩).app h1.ins).mono fun _ _ z=>rG h1.at_ z
 .rcases List.mem_append.mp hk with hk | hk
  .exact h.gi k hk
  .rw[List.mem_singleton.mp hk];exact g
 .obtain⟨u,v,e⟩:=h1.deal;exact⟨u,v,by rw[az h.ne.symm];exact e⟩
theorem Rws.sz {d l:Addr}{H0 H:Hp}{nb:Nat}{gt:Int}{n:Nat}{ts:List Addr}{is:List Ins}(h:Rws K d l H0 H nb gt n ts is) (hn:n<=90):(ts.map V.ref).length < sizeLine:=by
 rw[List.length_map,h.ins.len];exact Nat.lt_of_lt_of_le (show is.length < 100 by have:=h.len;lia) (by decide)
theorem Rws.ty {d l:Addr}{H0 H:Hp}{nb:Nat}{gt:Int}{n:Nat}{ts:List Addr}{is:List Ins}(h:Rws K d l H0 H nb gt n ts is):tyV K "list" (.ref l) H:= .inl ⟨rfl,_,SqL.of h.at_⟩
def yj (K:Frag):Sp:=fun vs H Q _=>∃(d rm:Addr) (rk:Nat) (rb:Int) (nb:Nat) (gt:Int),vs=[.ref d,.ref rm,.int gt,.int nb]/\bS H d/\H rm=some (.tup [.int rk,.int rb])/\SpM.Room rk rb/\0 < nb/\nb<=6/\0<=gt/\gt<=16/\
 ∀(p:Addr) (ts:List Addr) (is:List Ins) H',SqT K H' p (ts.map V.ref)->cf K H' ts is->is.length<=30->(∀ kn∈is,GI nb gt kn)->(∃ pre kn,is=pre++[kn]/\fB kn.1/\∀k∈pre, ¬fB k.1)->bS H' d->But d H H'->Q (.ref p) H'
theorem wV (B:Bi mg) (D:qS K mg) (ao:Has P w K mg base 1 "_law_draw" o5 ox) (kJ:Has P w K mg base 2 "_law_value" nT A9) (j9:Has P w K mg base 2 "_law_table" nT (A_ K)):
  Has P w K mg base 3 "_law_rows" ["_law_deal_here","_law_room_here","_law_gates","_law_blocks_here"] (yj K):=by
 refine D.has bC (fun vs H Q E h=> ?_) (fun f cdv A outer s H vs Q E hr h=> ?_)
 .obtain⟨d,rm,rk,rb,nb,gt,rfl,_⟩:=h
  rfl
 obtain⟨d,rm,rk,rb,nb,gt,rfl,hD,hrm,hR,n0,n1,t0,t1,q⟩:=h;have nH:=aA.mk (And.intro n0 n1);have tH:=aA.mk (And.intro t0 t1);clear n0 n1 t0 t1
 refine⟨_,(ac (psS 4 bC.nd (aT cY))
   (ac (psS 5 bC.nd (pcH ao hr (pa2 (pv 0) aa)))
   (ac (psS 6 bC.nd (aj a_ (pcH ao hr (pa2 (pv 0) aa)) aa))
   (ac (aL (bn (ax (pcT aG (pcH ao hr (pa2 (pv 0) aa)) aa) (ae (psS 4 bC.nd (pcH j9 hr (pa2 (pv 0) (pv 1))))) al)))
   (ac (d8 PassesOwn.never (by rfl) (dB (dU (by rfl) B.range (pa1 (pcH ao hr (pa2 (pv 0) aa))))) (aP (i:=7) bC.nd (by rfl) (by left;rfl)) (ac (psS 8 bC.nd (pcH ao hr (pa2 (pv 0) aa)))
   (ac (psS 9 bC.nd (pcH ao hr (pa2 (pv 0) aa)))
   (ac (aL (bn (ax (pcT aG (pcH ao hr (pa2 (pv 0) aa)) aa) (ac (psS 5 bC.nd (pcH ao hr (pa2 (pv 0) aa)))
   (ae (psS 6 bC.nd (pX bP (aT (aN aa (aN aa (aN aa (aN (iM (v:= -1) (by rfl)) (aN aa (aN (aj a_ (cA (v:=131072) (by rfl)) aa) (aN (aj a_ aa (cA (v:=131072) (by rfl))) cY)))))))) (pcH ao hr (pa2 (pv 0) aa)))))) al)))
   (ae (ax (pcT gD (pv 8) aa) (ae (bj (fe PySem.F.plainAttrs_list PySem.F.slot_list_append PySem.F.type_list_append bJ (pv 4) (pa1 (aw (pa4 au (pv 9) (pv 5) (pv 6))))))) (ae (ax (pcT gD (pv 8) aa) (ae (bj (fe PySem.F.plainAttrs_list PySem.F.slot_list_append PySem.F.type_list_append bJ (pv 4) (pa1 (aw (pa4 au (pv 9) (pv 5) (pv 6))))))) (ae (ax (pcT aG (pv 8) aa) (ae (bj (fe PySem.F.plainAttrs_list PySem.F.slot_list_append PySem.F.type_list_append bJ (pv 4) (pa1 (aw (pa3 au (pX bP (aT (pa2 (pv 9) (pv 5))) (pcH ao hr (pa2 (pv 0) aa))) (pcH kJ hr (pa2 (pv 0) (pv 1))))))))) (ae (ax (pcT aG (pv 8) aa) (ac (psS 10 bC.nd (pX bP (aT (bF (by rfl))) (pcH ao hr (pa2 (pv 0) aa))))
   (ae (bj (fe PySem.F.plainAttrs_list PySem.F.slot_list_append PySem.F.type_list_append bJ (pv 4) (pa1 (aw (pa4 (pv 10) (pv 9) (pv 5) (pcH ao hr (pa2 (pv 0) aa))))))))) (ae (ax (pcT aG (pv 8) aa) (ae (bj (fe PySem.F.plainAttrs_list PySem.F.slot_list_append PySem.F.type_list_append bJ (pv 4) (pa1 (aw (pa4 au (pv 9) (pv 5) (pv 6))))))) (ae (ax (PW.pt (iy (pcT aG (pv 8) aa) (fr (pcT lf (pv 2) aa)))) (ae (bj (fe PySem.F.plainAttrs_list PySem.F.slot_list_append PySem.F.type_list_append bJ (pv 4) (pa1 (aw (pa2 au (pcH ao hr (pa2 (pv 0) (pv 2))))))))) (ae (ax (pcT aG (pv 8) aa) (ae (bj (fe PySem.F.plainAttrs_list PySem.F.slot_list_append PySem.F.type_list_append bJ (pv 4) (pa1 (aw (pa3 au (pv 9) (pcH ao hr (pa2 (pv 0) (pv 3))))))))) (ae (bj (fe PySem.F.plainAttrs_list PySem.F.slot_list_append PySem.F.type_list_append bJ (pv 4) (pa1 (aw (pa3 au (pv 9) (pcH ao hr (pa2 (pv 0) (pv 3)))))))))))))))))))))))))))
   (ac (psS 11 bC.nd (aT (pa3 (aw (pa1 au)) (aw (pa2 au (pcH ao hr (pa2 (pv 0) (pv 3))))) (aw (pa2 au (pcH ao hr (pa2 (pv 0) aa)))))))
   (ae (ah (jA mS (by rfl) B.tuple mT (pa1 (aj tI (pv 4) (aT (pa1 (pX bP (pv 11) (pcH ao hr (pa2 (pv 0) aa)))))))))))))))),?_⟩
 try dsimp only[aY]
 walk_at "g";intro p1 hp1;have R1:Rws K d p1 H (upd H p1 (.lst [])) nb gt 5 [] []:=⟨ad,True.intro,Nat.zero_le _,fun kn hk=>(by cases hk),hD.up hp1,(af hp1 _).but,hp1,hD.ne hp1⟩
 have hD1:=R1.deal;generalize upd H p1 (.lst [])=H1 at*;walk_at "g";intro b H2 b0 b1 hD2 g2;have R2:=R1.dl hD2 g2;walk_at "g";intro n' H3 n0' n1' hD3 g3;have R3:=R2.dl hD3 g3;clear hD1 hD2 g2 g3 R1 R2;have bH:=aA.mk (And.intro b0 b1);have n'H:aA (-131072<=n' - 2/\n' - 2 < 131072):=⟨by lia,by lia⟩
 clear b0 b1 n0' n1';walk_at "g";refine⟨fun Z' H'=>aA (∃ (l:Addr) (ts:List Addr) (is:List Ins),Z'=[some (.ref d),some (.ref rm),some (.int gt),some (.int nb),some (.ref l),some (.int b),some (.int (n' - 2)),none,none,none,none,none]/\Rws K d l H H' nb gt 5 ts is),?_,?_⟩
 .walk_at "g";intro c H4 c0 c1 hD4 g4;have R4:=R3.dl hD4 g4;have hrm4:=hD.tup R4.but hrm;walk_at "g";refine aV (fun c0=> ?_) (fun c0=> ?_)
  .walk_at "g";intro l ts is H5 hl5 l5 hin5 hlen5 hgi5 hD5 g5;walk_at "g";exact⟨l,ts,is,rfl,l5,hin5,by rw[hlen5];exact Nat.le_refl 5,hgi5 nb gt,hD5,R4.but.trans g5,sR R4.deal R4.but hl5,R4.deal.ne hl5⟩
  .exact⟨_,_,_,rfl,R4⟩
 rintro Z' H' ⟨l,ts0,is0,rfl,R5⟩
 have hD5:=R5.deal;clear R3 hD3;walk_at "g";intro c H6 c0 c1 hD6 g6;have R6:=R5.dl hD6 g6;have c62: -(2^62)<=c/\c < 2^62:=by lia
 clear R5 hD5 g6;walk_at "g"
 refine⟨jz (n:=c.toNat) (fun i Z H'=>aA (∃ (b n:Int) (y1 y2 y3 y4:Option V) (ts:List Addr) (is:List Ins),Z=[some (.ref d),some (.ref rm),some (.int gt),some (.int nb),some (.ref l),some (.int b),some (.int n),y1,y2,y3,y4,none]/\(0<=b/\b < 6)/\(-131072<=n/\n < 131072)/\Rws K d l H H' nb gt (5+i) ts is))
  ⟨_,_,_,_,_,_,_,_,rfl,bH.out,n'H.out,R6⟩ ?_ ?_⟩
 .clear R6 hD6 bH n'H;rintro i Z H7 hi ⟨b,n,y1,y2,y3,y4,ts,is,rfl,hb,hn,R7⟩
  have i14:i < 14:=by lia
  have hD7:=R7.deal;have bH:=aA.mk hb;have n'H:=aA.mk hn;clear hb hn hi;walk_at "g";intro fm H8 f0 f1 hD8 g8;have R8:=R7.dl hD8 g8;walk_at "g";intro a H9 a0 a1 hD9 g9;have R9:=R8.dl hD9 g9;clear R7 R8 hD7 hD8 g8 g9;walk_at "g";refine⟨fun Z' H'=>aA (∃ (b n:Int) (y1:Option V),Z'=[some (.ref d),some (.ref rm),some (.int gt),some (.int nb),some (.ref l),some (.int b),some (.int n),y1,some (.int fm),some (.int a),y4,none]/\(0<=b/\b < 6)/\(-131072<=n/\n < 131072)/\Rws K d l H H' nb gt (5+i) ts is),?_,?_⟩
  .walk_at "g";intro u H10 u0 u1 hD10 g10;have R10:=R9.dl hD10 g10;walk_at "g";refine aV (fun c0=> ?_) (fun c0=> ?_)
   .walk_at "g";intro b2 H11 b20 b21 hD11 g11;have R11:=R10.dl hD11 g11;walk_at "g";intro p12 hp12
    change yn ox [] E0 _ _ (upd H11 p12 (.lst [V.int 0,.int 0,.int 1,.int (-1),.int 3,.int (131072 - 1),.int (0 - 131072)])) _
    have R12:=R11.new (o:= .lst [V.int 0,.int 0,.int 1,.int (-1),.int 3,.int (131072 - 1),.int (0 - 131072)]) hp12;have l12:upd H11 p12 (.lst [V.int 0,.int 0,.int 1,.int (-1),.int 3,.int (131072 - 1),.int (0 - 131072)]) p12=some (.lst [V.int 0,.int 0,.int 1,.int (-1),.int 3,.int (131072 - 1),.int (0 - 131072)]):=ad;have hD12:=R12.deal;have n12:=hD11.ne hp12;generalize upd H11 p12 (.lst [V.int 0,.int 0,.int 1,.int (-1),.int 3,.int (131072 - 1),.int (0 - 131072)])=H12 at*;clear hD10 hD11 R10 R11 g10 g11;walk_at "g";intro c7 H13 c70 c71 hD13 g13;have R13:=R12.dl hD13 g13;have l13:=g13 _ _ n12 l12;obtain⟨nn,hnn,en⟩:=F6 (xs:=[0,0,1, -1,3,131072 - 1,0 - 131072]) (r:=c7) c70 c71;have hnr: -131072<=nn/\nn < 131072:=(show ∀v∈[(0:Int),0,1, -1,3,131072 - 1,0 - 131072], -131072<=v/\v < 131072 by decide) nn hnn
    have en:atI [V.int 0,.int 0,.int 1,.int (-1),.int 3,.int (131072 - 1),.int (0 - 131072)] c7=some (.int nn):=en;have nH2:=aA.mk hnr;clear hnn hnr l12 hD12 g13;walk_at "g";exact⟨b2,nn,_,rfl,⟨b20,b21⟩,nH2.out,R13⟩
   .exact⟨b,n,_,rfl,bH.out,n'H.out,R10⟩
  clear R9 hD9 bH n'H;rintro Z' H10 ⟨b,n,y5,rfl,⟨b0,b1⟩,⟨hn0,hn1⟩,R10⟩
  have hD10:=R10.deal;have hz:=R10.sz (by lia)
  have l10:=R10.at_;have i6: -131072<=n/\n < 131072:=⟨hn0,hn1⟩;have nHn:=aA.mk i6;have bHb:=aA.mk (And.intro b0 b1);have aH:=aA.mk (And.intro a0 a1);clear i6 hn0 hn1 b0 b1 a0 a1;have hty:=R10.ty;walk_at "g";refine aV (fun c1=> ?_) (fun c1=> ?_)
  .walk_at "g";intro p hp;have l11:=(R10.new (o:= .tup (aE 11 [a,b,n])) hp).at_;have R:=R10.app hp (11,[a,b,n]) (rQ (A7 (by decide) aH.out.1 aH.out.2 bHb.out.1 bHb.out.2 nHn.out.1 nHn.out.2) (by decide))
   walk_at "g";exact⟨b,n,_,_,_,_,_,_,rfl,bHb.out,nHn.out,R⟩
  walk_at "g";refine aV (fun c2=> ?_) (fun c2=> ?_)
  .walk_at "g";intro p hp;have l11:=(R10.new (o:= .tup (aE 12 [a,b,n])) hp).at_;have R:=R10.app hp (12,[a,b,n]) (rQ (A7 (by decide) aH.out.1 aH.out.2 bHb.out.1 bHb.out.2 nHn.out.1 nHn.out.2) (by decide))
   walk_at "g";exact⟨b,n,_,_,_,_,_,_,rfl,bHb.out,nHn.out,R⟩
  walk_at "g";refine aV (fun c3=> ?_) (fun c3=> ?_)
  .walk_at "g";intro p1 hp1;have R11:=R10.new (o:= .lst [.int a,.int b]) hp1;have l11:upd H10 p1 (.lst [.int a,.int b]) p1=some (.lst [.int a,.int b]):=ad;have n11:=R10.deal.ne hp1;have hD11:=R11.deal;generalize upd H10 p1 (.lst [.int a,.int b])=H11 at*;clear hD10 hz hty l10;walk_at "g";intro r H12 r0 r1 hD12 g12;have l12:=g12 _ _ n11 l11;have R12:=R11.dl hD12 g12;obtain⟨x,hx,ex⟩:=FW (x:=a) (y:=b) r0 r1;have xH:aA (0<=x/\x < 6):=⟨by have:=aH.out;have:=bHb.out;lia,by have:=aH.out;have:=bHb.out;lia⟩
   have hrm12:=hD.tup R12.but hrm;clear hx R11 hD11 g12 l11;walk_at "g";intro v H13 v0 v1 hD13 g13;have R13:=R12.dl hD13 g13;have hz:=R13.sz (by lia)
   walk_at "g";intro p hp;have l14:=(R13.new (o:= .tup (aE 1 [x,v])) hp).at_;have R:=R13.app hp (1,[x,v]) (rQ (zX xH.out.1 xH.out.2 v0 v1) (by decide))
   walk_at "g";exact⟨b,n,_,_,_,_,_,_,rfl,bHb.out,nHn.out,R⟩
  walk_at "g";refine aV (fun c4=> ?_) (fun c4=> ?_)
  .walk_at "g";intro p1 hp1;have R11:=R10.new (o:= .lst [V.str "add",.str "sub",.str "and",.str "or",.str "xor",.str "less",.str "left",.str "right"]) hp1;have l11:upd H10 p1 (.lst [V.str "add",.str "sub",.str "and",.str "or",.str "xor",.str "less",.str "left",.str "right"]) p1=some (.lst [V.str "add",.str "sub",.str "and",.str "or",.str "xor",.str "less",.str "left",.str "right"]):=ad;have n11:=R10.deal.ne hp1;have hD11:=R11.deal;generalize upd H10 p1 (.lst [V.str "add",.str "sub",.str "and",.str "or",.str "xor",.str "less",.str "left",.str "right"])=H11 at*;clear hD10 hz hty l10;walk_at "g";intro r H12 r0 r1 hD12 g12;have l12:=g12 _ _ n11 l11;have R12:=R11.dl hD12 g12;obtain⟨k,hk,ek⟩:=Hz r0 r1;have hty:=R12.ty;clear R11 hD11 g12 l11;walk_at "g";intro v H13 v0 v1 hD13 g13;have R13:=R12.dl hD13 g13;have hz:=R13.sz (by lia)
   walk_at "g";intro p hp;have l14:=(R13.new (o:= .tup (aE k [a,b,v])) hp).at_;have R:=R13.app hp (k,[a,b,v]) (rQ (Eu hk aH.out.1 aH.out.2 bHb.out.1 bHb.out.2 v0 v1) (by show 1<=k/\k<=12;lia))
   walk_at "g";exact⟨b,n,_,_,_,_,_,_,rfl,bHb.out,nHn.out,R⟩
  walk_at "g";refine aV (fun c5=> ?_) (fun c5=> ?_)
  .walk_at "g";intro p hp;have l11:=(R10.new (o:= .tup (aE 10 [a,b,n])) hp).at_;have R:=R10.app hp (10,[a,b,n]) (rQ (A7 (by decide) aH.out.1 aH.out.2 bHb.out.1 bHb.out.2 nHn.out.1 nHn.out.2) (by decide))
   walk_at "g";exact⟨b,n,_,_,_,_,_,_,rfl,bHb.out,nHn.out,R⟩
  walk_at "g";refine aV (fun c6=> ?_) (fun c6=> ?_)
  .walk_at "g";refine aV (fun c7=> ?_) (fun c7=> ?_)
   .have c7H:=aA.mk c7;clear c7;have hDH:=aA.mk hD10;clear hD10;walk_at "g";refine⟨hDH.out,c7H.out,by have:=tH.out;lia,?_⟩
    intro z H11 z0 z1 hD11 g11;have R11:=R10.dl hD11 g11;have hz:=R11.sz (by lia)
    have zH:=aA.mk z1;clear z1;walk_at "g";intro p hp;have l14:=(R11.new (o:= .tup (aE 18 [z])) hp).at_;have R:=R11.app hp (18,[z]) ⟨vM (.inr (.inr (.inr (.inr (.inl ⟨.inr rfl,z,rfl,z0,by have:=zH.out;have:=tH.out;lia⟩))))) (by decide) (by decide) (fun e=>absurd e (by decide)) (fun e=>absurd e (by decide)) (fun _=>zH.out),fun(z:fB 18)=>by unfold fB at z;lia⟩
    walk_at "g";exact⟨b,n,_,_,_,_,_,_,rfl,bHb.out,nHn.out,R⟩
   .walk_at "g";refine aV (fun c8=> ?_) (fun c8=> ?_)
    .exact absurd (c6.symm.trans c8) (by decide)
    .have hDH:=aA.mk hD10;clear hD10;walk_at "g";refine⟨hDH.out,by have:=nH.out;lia,by have:=nH.out;lia,?_⟩
     intro z H11 z0 z1 hD11 g11;have R11:=R10.dl hD11 g11;have hz:=R11.sz (by lia)
     have zH:aA (z < nb/\z < 6):=⟨z1,by have:=nH.out;lia⟩
     clear z1;walk_at "g";intro p hp;have l14:=(R11.new (o:= .tup (aE 1 [a,z])) hp).at_;have R:=R11.app hp (1,[a,z]) (rQ (zX aH.out.1 aH.out.2 z0 (by have:=zH.out;lia)) (by decide))
     walk_at "g";exact⟨b,n,_,_,_,_,_,_,rfl,bHb.out,nHn.out,R⟩
  .walk_at "g";refine aV (fun c8=> ?_) (fun c8=> ?_)
   .have hDH:=aA.mk hD10;clear hD10;walk_at "g";refine⟨hDH.out,by have:=nH.out;lia,by have:=nH.out;lia,?_⟩
    intro z H11 z0 z1 hD11 g11;have R11:=R10.dl hD11 g11;have hz:=R11.sz (by lia)
    have zH:aA (z < nb/\z < 6):=⟨z1,by have:=nH.out;lia⟩
    clear z1;walk_at "g";intro p hp;have l14:=(R11.new (o:= .tup (aE 14 [a,z])) hp).at_;have R:=R11.app hp (14,[a,z]) ⟨vM (.inr (.inr (.inr (.inr (.inr (.inl ⟨rfl,a,z,rfl,aH.out.1,aH.out.2,z0,by have:=zH.out;lia⟩)))))) (by decide) (by decide) (fun e=>absurd e (by decide)) (fun _=>zH.out.1) (fun e=>absurd e (by decide)),fun(z:fB 14)=>by unfold fB at z;lia⟩
    walk_at "g";exact⟨b,n,_,_,_,_,_,_,rfl,bHb.out,nHn.out,R⟩
   .have hDH:=aA.mk hD10;clear hD10;walk_at "g";refine⟨hDH.out,by have:=nH.out;lia,by have:=nH.out;lia,?_⟩
    intro z H11 z0 z1 hD11 g11;have R11:=R10.dl hD11 g11;have hz:=R11.sz (by lia)
    have zH:aA (z < nb/\z < 6):=⟨z1,by have:=nH.out;lia⟩
    clear z1;walk_at "g";intro p hp;have l14:=(R11.new (o:= .tup (aE 1 [a,z])) hp).at_;have R:=R11.app hp (1,[a,z]) (rQ (zX aH.out.1 aH.out.2 z0 (by have:=zH.out;lia)) (by decide))
    walk_at "g";exact⟨b,n,_,_,_,_,_,_,rfl,bHb.out,nHn.out,R⟩
 .rintro Z H7 ⟨b2,n2,y1,y2,y3,y4,ts,is,rfl,hb,hn,R7⟩
  have hD7:=R7.deal;clear hD6 R6;walk_at "g";intro t1 ht1;have R8:=R7.new (o:= .tup [.str "stop"]) ht1;have u1:upd H7 t1 (.tup [.str "stop"]) t1=some (.tup [.str "stop"]):=ad;have hD8:=aA.mk R8.deal
  change fC _ _ _ (upd H7 t1 (.tup [.str "stop"])) _
  generalize upd H7 t1 (.tup [.str "stop"])=H8 at*;clear hD7;walk_at "g";refine⟨hD8.out,by have:=nH.out;lia,by have:=nH.out;lia,?_⟩
  intro z H9 z0 z1 hD9 g9;have R9:=R8.dl hD9 g9;have u19:=hD8.out.tup g9 u1;have zH:aA (z < nb/\z < 6):=⟨z1,by have:=nH.out;lia⟩
  clear z1 R8 hD8 g9 u1;walk_at "g";intro t2 ht2;have R10:=R9.new (o:= .tup [.str "jump",.int z]) ht2;have s10:=af ht2 (.tup [.str "jump",.int z]);have u2:upd H9 t2 (.tup [.str "jump",.int z]) t2=some (.tup [.str "jump",.int z]):=ad;have u110:=s10 _ _ u19;have hD10:=R10.deal
  change fC _ _ _ (upd H9 t2 (.tup [.str "jump",.int z])) _
  generalize upd H9 t2 (.tup [.str "jump",.int z])=H10 at*;clear hD9 R9 s10 u19;walk_at "g";intro y H11 y0 y1' hD11 g11;have R11:=R10.dl hD11 g11;have u111:=hD10.tup g11 u110;have u211:=hD10.tup g11 u2;clear hD10 R10 g11 u110 u2;walk_at "g";intro t3 ht3;have R12:=R11.new (o:= .tup [.str "through",.int y]) ht3;have s12:=af ht3 (.tup [.str "through",.int y]);have u3:upd H11 t3 (.tup [.str "through",.int y]) t3=some (.tup [.str "through",.int y]):=ad;have u112:=s12 _ _ u111;have u212:=s12 _ _ u211;have hD12:=R12.deal;generalize upd H11 t3 (.tup [.str "through",.int y])=H12 at*;clear hD11 R11 s12 u111 u211;walk_at "g";intro p4 hp4;have R13:=R12.new (o:= .lst [.ref t1,.ref t2,.ref t3]) hp4;have s13:=af hp4 (.lst [.ref t1,.ref t2,.ref t3]);have l13:upd H12 p4 (.lst [.ref t1,.ref t2,.ref t3]) p4=some (.lst [.ref t1,.ref t2,.ref t3]):=ad;have u113:=s13 _ _ u112;have u213:=s13 _ _ u212;have u313:=s13 _ _ u3;have n13:=hD12.ne hp4;have hD13:=R13.deal;generalize upd H12 p4 (.lst [.ref t1,.ref t2,.ref t3])=H13 at*;clear hD12 R12 s13 u112 u212 u3;have hty:=R13.ty;walk_at "g";intro r H14 r0 r1 hD14 g14;have R14:=R13.dl hD14 g14;have l14:=g14 _ _ n13 l13;obtain⟨kn,tc,ec,uc,gc,lc⟩:∃(kn:Ins) (tc:Addr),atI [V.ref t1,.ref t2,.ref t3] r=some (.ref tc)/\H14 tc=some (.tup (aE kn.1 kn.2))/\GI nb gt kn/\fB kn.1:=by
   obtain rfl | rfl | rfl:r=0\/r=1\/r=2:=by lia
   .exact⟨(0,[]),t1,rfl,hD13.tup g14 u113,vM (.inl ⟨rfl,rfl⟩) (by decide) (by decide) (fun e=>absurd e (by decide)) (fun e=>absurd e (by decide)) (fun e=>absurd e (by decide)),.inl rfl⟩
   .exact⟨(13,[z]),t2,rfl,hD13.tup g14 u213,vM (.inr (.inr (.inr (.inr (.inl ⟨.inl rfl,z,rfl,z0,by have:=zH.out;lia⟩))))) (by decide) (by decide) (fun _=>zH.out.1) (fun e=>absurd e (by decide)) (fun e=>absurd e (by decide)),.inr (.inl rfl)⟩
   .exact⟨(15,[y]),t3,rfl,hD13.tup g14 u313,vM (.inr (.inr (.inr (.inr (.inr (.inr (.inl ⟨rfl,y,rfl,y0,y1'⟩))))))) (by decide) (by decide) (fun e=>absurd e (by decide)) (fun e=>absurd e (by decide)) (fun e=>absurd e (by decide)),.inr (.inr rfl)⟩
  have hz1:=R14.sz (by lia)
  clear hD13 R13 g14 u113 u213 u313 l13;walk_at "g";intro p5 hp5;have R15:=R14.new (o:= .lst [.ref tc]) hp5;have s15:=af hp5 (.lst [.ref tc]);have l15:upd H14 p5 (.lst [.ref tc]) p5=some (.lst [.ref tc]):=ad;have uc15:=s15 _ _ uc;have l15b:=R15.at_;generalize upd H14 p5 (.lst [.ref tc])=H15 at*;have hz:(ts.map V.ref).length+[V.ref tc].length<=sizeLine:=hz1;walk_at "g";intro p6 hp6;have R16:=R15.new (o:= .lst (ts.map V.ref++[.ref tc])) hp6;have s16:=af hp6 (.lst (ts.map V.ref++[.ref tc]));have l16:upd H15 p6 (.lst (ts.map V.ref++[.ref tc])) p6=some (.lst (ts.map V.ref++[.ref tc])):=ad;have uc16:=s16 _ _ uc15;generalize upd H15 p6 (.lst (ts.map V.ref++[.ref tc]))=H16 at*;clear hD14 R14 R15 s15 s16 uc uc15 l14 l15 l15b;walk_at "g";intro p7 hp7;have R17:=R16.new (o:= .tup (ts.map V.ref++[.ref tc])) hp7;have s17:=af hp7 (.tup (ts.map V.ref++[.ref tc]));refine q p7 (ts++[tc]) (is++[kn]) _ ?_ ?_ ?_ (fun k hk=> ?_) ⟨is,kn,rfl,lc,fun k hk=>(R17.gi k hk).2⟩ R17.deal R17.but
  .rw[List.map_append];exact SqT.of ad
  .exact(show cf K _ [tc] [kn] from⟨SqT.of (s17 _ _ uc16),True.intro⟩).app R17.ins
  .rw[List.length_append,List.length_singleton];have:=R17.len
   lia
  .rcases List.mem_append.mp hk with hk | hk
   .exact(R17.gi k hk).1
   .rw[List.mem_singleton.mp hk];exact gc
theorem GSt.mono {H H':Hp}{bls:List Addr}{gs:List (List Ins)}(f:∀t xs,SqT K H t xs->SqT K H' t xs) (h:GSt K H bls gs):GSt K H' bls gs:=⟨h.1,fun j b bk e1 e2=>by
 obtain⟨ts,h1,h2⟩:=h.2 j b bk e1 e2
 exact⟨ts,f _ _ h1,h2.mono f⟩⟩
theorem GSt.snoc {H:Hp}{bls:List Addr}{gs:List (List Ins)}{b:Addr}{bk:List Ins}(h:GSt K H bls gs) (hb:GBk K H b bk):GSt K H (bls++[b]) (gs++[bk]):=by
 refine⟨by rw[List.length_append,List.length_append,h.1];rfl,fun a y e h1 h2=> ?_⟩
 by_cases z:a < bls.length
 .rw[List.getElem?_append_left z] at h1;rw[List.getElem?_append_left (by have:=h.1;lia)] at h2
  exact h.2 a y e h1 h2
 .have za:a=bls.length:=by
   have:=(List.getElem?_eq_some_iff.mp h1).1;rw[List.length_append,List.length_singleton] at this
   lia
  subst za;rw[List.getElem?_append_right (by lia),Nat.sub_self] at h1
  rw[h.1,List.getElem?_append_right (by lia),Nat.sub_self] at h2
  cases h1
  cases h2
  exact hb
def FJ (K:Frag):Sp:=fun vs H Q _=>∃(a d rm:Addr) (ns:List Int) (rk:Nat) (rb gt:Int),vs=[.ref a,.ref d,.ref rm,.int gt]/\(∃ H0,ay H0 H/\H0 d=none/\SqL K H0 a (ns.map V.int))/\bS H d/\H rm=some (.tup [.int rk,.int rb])/\SpM.Room rk rb/\0<=gt/\gt<=16/\
 ∀(g:Addr) (bls:List Addr) (gs:List (List Ins)) H',But d H H'->SqT K H' g (bls.map V.ref)->GSt K H' bls gs->GuT gt gs->gs.length<=6->Q (.ref g) H'
theorem uY (B:Bi mg) (D:oY K mg) (iJ:Has P w K mg base 1 "_law_deal" yg (CL K)) (ao:Has P w K mg base 1 "_law_draw" o5 ox) (lY:Has P w K mg base 3 "_law_rows" ["_law_deal_here","_law_room_here","_law_gates","_law_blocks_here"] (yj K)):
  Has P w K mg base 4 "_law_guest" ["_law_script","_law_deal_here","_law_room_here","_law_gates"] (FJ K):=by
 refine D.has nW (fun vs H Q E h=> ?_) (fun f cdv A outer s H vs Q E hr h=> ?_)
 .obtain⟨a,d,rm,ns,rk,rb,gt,rfl,_⟩:=h
  rfl
 obtain⟨a,d,rm,ns,rk,rb,gt,rfl,⟨H0,s0,f0,hS⟩,hD,hrm,hR,t0,t1,q⟩:=h;have tH:=aA.mk (And.intro t0 t1);clear t0 t1
 refine⟨_,(ac (psS 4 nW.nd (aj aO aa (pcH ao hr (pa2 (pv 1) aa))))
   (ae (ah (jA mS (by rfl) B.tuple mT (pa1 (kY (by rfl) (by rfl) (by rfl) (bk (sc0:=ag gG) (N0:=["_law_script","_law_deal_here","_law_room_here","_law_gates","_law_blocks_here"]) ["_law_i","_law_room_here","_law_gates","_law_blocks_here","_law_script"] 1 [2,3,4,0]) (dU (by rfl) B.range (pa1 (pv 4))) (fun _ _ _ _=>(aP (i:=0) (show List.Nodup (["_law_i","_law_room_here","_law_gates","_law_blocks_here","_law_script"]:List Str) by decide) (by rfl) (by left;rfl))) (fun _ _ _ _=>(pcH lY hr (pa4 (pcH iJ hr (pa2 (pv 4) (aj aO aa (pv 0)))) (pv 1) (pv 2) (pv 3)))))))))),?_⟩
 try dsimp only[aY]
 walk_at "g";intro m H1 m0 m1 hD1 g1;have hS1:SqL K H1 a (ns.map V.int):=(But.same s0 f0 g1).seq hS;have hrm1:=hD.tup g1 hrm;obtain⟨nb,enb⟩:∃n:Nat,1+m=n:=Int.eq_ofNat_of_zero_le (by lia)
 have nbH:aA (0 < nb/\nb<=6):=⟨by lia,by lia⟩
 have b62: -(2^62)<=1+m/\1+m < 2^62:=by lia
 clear m0 m1;walk_at "g";have ev:(fun i j:Int=>V.int (i+j)) 1 m=V.int nb:=congrArg V.int enb
 rw[ev];intro p9 hp9;have n9:=hD1.ne hp9;have p90:=sR hD1 g1 hp9;have nn:(1+m).toNat=nb:=by rw[enb];rfl
 rw[nn];refine kX (lo:=0) (n:=nb) (fun j ys H'=>aA (But d H H')/\bS H' d/\H' p9=some (.lst ys)/\∃(bls:List Addr) (gs:List (List Ins)),ys=bls.map V.ref/\GSt K H' bls gs/\gs.length=j/\∀bk∈gs,(∀ kn∈bk,GI nb gt kn)/\bk.length<=30/\∃pre kn,bk=pre++[kn]/\fB kn.1/\∀k∈pre, ¬fB k.1)
  ⟨⟨cX hp9 g1⟩,hD1.up hp9,ad,[],[],rfl,⟨rfl,fun j b bk e=>by simp at e⟩,rfl,fun bk hb=>by cases hb⟩ ?_ ?_
 .rintro j ys H5 F hF hj ⟨⟨g5⟩,hD5,l5,bls,gs,rfl,hg5,hlen,hall⟩
  have hz:(bls.map V.ref).length < sizeLine:=by
   rw[List.length_map,hg5.1,hlen];exact Nat.lt_of_lt_of_le (show j < 100 by have:=nbH.out;lia) (by decide)
  have hS5:=(But.same s0 f0 g5).seq hS;have hrm5:=hD.tup g5 hrm;have j6:j < 6:=by have:=nbH.out;lia
  clear hj;walk_at "g";intro d7 H7 f7 hD7 s7;have hrm7:=s7 _ _ hrm5;have n0:=nbH.out.1;have n1:=nbH.out.2;have t0:=tH.out.1;have t1:=tH.out.2;have l7:=s7 _ _ l5;walk_at "g";intro p ts is H8 hp8 hin8 hl8 hgi8 hlast8 hD8 g8;have S8:ay H5 H8:=But.same s7 f7 g8;have l8:=S8 _ _ l5;walk_at "g";refine hF _ _ ⟨⟨EI p90 (g5.trans S8.but)⟩,?_,ad,bls++[p],gs++[is],by rw[List.map_append];rfl,?_,by rw[List.length_append,hlen];rfl,fun bk hb=> ?_⟩
  .obtain⟨u,v,e⟩:=bU S8 hD5;exact⟨u,v,by rw[az n9.symm];exact e⟩
  .exact((hg5.same S8).mono fun _ _ z=>rG l8 z).snoc ⟨ts,rG l8 hp8,hin8.mono fun _ _ z=>rG l8 z⟩
  .rcases List.mem_append.mp hb with hb | hb
   .exact hall bk hb
   .rw[List.mem_singleton.mp hb];exact⟨hgi8,hl8,hlast8⟩
 .rintro ys H5 ⟨⟨g5⟩,hD5,l5,bls,gs,rfl,hg5,hlen,hall⟩
  walk_at "g";intro g hg;have e7:=af hg (.tup (bls.map V.ref));refine q g bls gs _ (cX hg g5) (SqT.of ad) (hg5.same e7) ⟨⟨by rw[hlen];exact nbH.out.1,by rw[hlen];have:=nbH.out.2;lia,fun bk hb=> ?_⟩,fun bk hb i hi kn e=> ?_⟩ (by rw[hlen];exact nbH.out.2)
  .rw[hlen];obtain⟨h1,h2,pre,kn,h3,h4,_⟩:=hall bk hb;exact⟨h1,h2,pre,kn,h3,h4⟩
  .obtain⟨_,_,pre,k0,h3,_,h5⟩:=hall bk hb;rw[h3,List.length_append,List.length_singleton] at hi;rw[h3,List.getElem?_append_left (by lia)] at e
   exact h5 kn (List.mem_of_getElem? e)
def xK (K:Frag) (H:Hp):Option (Int × Int)->V->Prop
 | none,v=>v= .non
 | some p,v=>∃a,v= .ref a/\SqT K H a [.int p.1,.int p.2]
theorem xK.same {H H':Hp}(e:ay H H'):∀ {o:Option (Int × Int)}{v:V},xK K H o v->xK K H' o v
 | none,_,h=>h
 | some _,_,⟨a,h1,h2⟩=>⟨a,h1,e.tup h2⟩
def Ev (K:Frag) (H:Hp):Option Ins->V->Prop
 | none,v=>v= .non
 | some m,v=>∃a,v= .ref a/\SqT K H a (aE m.1 m.2)
theorem Ev.same {H H':Hp}(e:ay H H'):∀ {o:Option Ins}{v:V},Ev K H o v->Ev K H' o v
 | none,_,h=>h
 | some _,_,⟨a,h1,h2⟩=>⟨a,h1,e.tup h2⟩
def Dr (K:Frag):Sp:=fun vs H Q _=>∃(cd:Addr) (ws:List Int) (b:Nat) (ms:List Ins),vs=[.ref cd,.int ((b+lnW ms:Nat):Int)]/\SqL K H cd (ws.map V.int)/\(∀ x∈ws,0<=x)/\b %8=0/\lnW ms < 8/\AtI ws b ms/\HOk none ms/\(∀ m∈ms,VI m)/\
 ∀v H',ay H H'->xK K H' (ms.foldl hl2 (none,none)).1 v->Q v H'
theorem EG:∀k,k < 19->(!inV (.str (aI k)) [.str "stop",.str "store",.str "jump",.str "jumpif",.str "through",.str "gate"])=decide (mk8 k):=by decide +kernel
theorem FI {k:Nat}{ns:List Int}(h:aM 8 262144 k ns) (hm:mk8 k):∃a r,ns=a::r:=by
 rcases h with⟨e,rfl⟩|⟨e,x,v,rfl,x0,x1,v0,v1⟩|⟨h1,h2,x,y,z,rfl,x0,x1,y0,y1,z0,z1⟩|⟨h1,h2,x,y,z,rfl,x0,x1,y0,y1,z0,z1⟩|⟨hk,z,rfl,z0,z1⟩|⟨e,x,z,rfl,x0,x1,z0,z1⟩|⟨e,y,rfl,y0,y1⟩|⟨hk,x,y,rfl,x0,x1,y0,y1⟩
 all_goals first | exact⟨_,_,rfl⟩ | (unfold mk8 at hm;lia)
theorem GL {ns:List Int}(h:aM 8 262144 16 ns):∃a b,ns=[a,b]:=by
 rcases h with⟨e,rfl⟩|⟨e,x,v,rfl,x0,x1,v0,v1⟩|⟨h1,h2,x,y,z,rfl,x0,x1,y0,y1,z0,z1⟩|⟨h1,h2,x,y,z,rfl,x0,x1,y0,y1,z0,z1⟩|⟨hk,z,rfl,z0,z1⟩|⟨e,x,z,rfl,x0,x1,z0,z1⟩|⟨e,y,rfl,y0,y1⟩|⟨hk,x,y,rfl,x0,x1,y0,y1⟩
 all_goals first | exact⟨_,_,rfl⟩ | lia
theorem xA (B:Bi mg) (D:qY K mg) (aS:Has P w K mg base 6 "instruction_at" zF (EF K)) (aU:Has P w K mg base 1 "length_of" cy (Aq K)):Has P w K mg base 7 "_law_held" zq (Dr K):=by
 refine D.has br (fun vs H Q E h=> ?_) (fun f cdv A outer s H vs Q E hr h=> ?_)
 .obtain⟨cd,ws,b,ms,rfl,_⟩:=h
  rfl
 obtain⟨cd,ws,b,ms,rfl,hcd,hw0,hb8,hm8,hat,hho,hvi,q⟩:=h;have e0:((b+lnW ms:Nat):Int) - ((b+lnW ms:Nat):Int) %8=(b:Nat):=by lia
 refine⟨_,(ac (psS 2 br.nd cQ)
   (ac (psS 3 br.nd cQ)
   (ac (psS 4 br.nd (aj a_ (pv 1) (aj cD (pv 1) aa)))
   (ac (aL (gW PassesOwn.never (pcT gD (pv 4) (pv 1)) (ac (psS 5 br.nd (pcH aS hr (pa2 (pv 0) (pv 4))))
   (ac (psS 4 br.nd (aj aO (pv 4) (pcH aU hr (pa1 (pv 5)))))
   (ac (psS 6 br.nd (pX ai (pv 5) aa))
   (ac (psS 7 br.nd (pv 3))
   (ac (psS 3 br.nd (pv 5))
   (ac (aL (bn (ax (pcT aG (pv 6) au) (ae (psS 2 br.nd cQ)) al)))
   (ac (aL (bn (ax (PW.pt (iy (nA kE (pv 6) (aT (bF (by rfl))) (by rfl)) (fr (mB (sA (pv 2)))))) (ae (ax (PW.pt (gk (pcT aG (pX ai (pv 5) aa) aa) (d5 (pcT aG (pX ai (pv 5) aa) (pX ai (pv 2) aa))))) (ae (psS 2 br.nd cQ)) al)) al)))
   (ae (ax (PW.pt (iy (pcT aG (pv 6) au) (fr (pcT aG (pX ai (pv 5) aa) aa)))) (ae (psS 2 br.nd (dm iT (pv 7) (dW aa) fz))) (ae (ax (pcT aG (pv 6) au) (ae (psS 2 br.nd (aw (pa2 (pX ai (pv 5) aa) aa)))) al)))))))))))))
   (ae (ah (pv 2))))))),?_⟩
 try dsimp only[aY]
 walk_at "g"
 refine⟨fun m Z H'=>∃(pre r:List Ins) (v u:V) (i5 i6 i7:Option V),m=r.length/\ms=pre++r/\ay H H'/\xK K H' (pre.foldl hl2 (none,none)).1 v/\Ev K H' (pre.foldl hl2 (none,none)).2 u/\Z=[some (.ref cd),some (.int ((b+lnW ms:Nat):Int)),some v,some u,some (.int ((b+lnW pre:Nat):Int)),i5,i6,i7],
  ⟨ms.length,[],ms,.non,.non,none,none,none,rfl,rfl,ay.refl _,rfl,rfl,(by show[some (V.ref cd),some (V.int ((b+lnW ms:Nat):Int)),some V.non,some V.non,some (V.int (((b+lnW ms:Nat):Int) - ((b+lnW ms:Nat):Int) %8)),none,none,none]=_;rw[e0];rfl)⟩,?_⟩
 rintro m Z H1 ⟨pre,r,v,u,i5,i6,i7,rfl,ems,s1,hv,hu,rfl⟩
 have elw:lnW ms=lnW pre+lnW r:=by rw[ems,a8]
 walk_at "g";refine aV (fun c=> ?_) (fun c=> ?_)
 .obtain⟨⟨k,ns⟩,r',rfl⟩:∃m r',r=m::r':=List.exists_cons_of_ne_nil (fun z=>by rw[z] at elw;have:lnW ([]:List Ins)=0:=rfl;lia)
  rw[ems] at hat hho;have hins:jL ws ((b+lnW pre:Nat):Int)=some (k,ns):=(AtI.app.mp hat).2.1;have h16:=hho.split;have hvk:aM 8 262144 k ns:=hvi (k,ns) (by rw[ems];exact List.mem_append_right _ List.mem_cons_self)
  clear hat hho c;walk_at "n";refine⟨fun Z' H'=>aA (∃ (v u:V) (i5 i6 i7:Option V),ay H H'/\xK K H' ((pre++[(k,ns)]).foldl hl2 (none,none)).1 v/\Ev K H' ((pre++[(k,ns)]).foldl hl2 (none,none)).2 u/\Z'=[some (.ref cd),some (.int ((b+lnW ms:Nat):Int)),some v,some u,some (.int ((b+lnW (pre++[(k,ns)]):Nat):Int)),i5,i6,i7]),fun Z' H' h=> ?_,?_⟩
  .obtain⟨v2,u2,j5,j6,j7,z1,z2,z3,z4⟩:=h.out;exact⟨r'.length,Nat.lt_succ_self _,pre++[(k,ns)],r',v2,u2,j5,j6,j7,rfl,by rw[ems,List.append_assoc];rfl,z1,z2,z3,z4⟩
  have e1:((b+lnW pre:Nat):Int)+(if k=1 then 2 else 1)=((b+lnW (pre++[(k,ns)]):Nat):Int):=by
   rw[a8,dC];unfold bw
   split <;> lia
  have ef:(pre++[(k,ns)]).foldl hl2 (none,none)=(hl1 (pre.foldl hl2 (none,none)).1 (pre.foldl hl2 (none,none)).2 (k,ns),some (k,ns)):=by
   rw[List.foldl_append]
   rfl
  have h16':k=16->ns.getD 1 0=6->∃x y n,(pre.foldl hl2 (none,none)).2=some (10,[x,y,n]):=by rw[AD];exact h16
  rw[ef];clear ef h16 hvi elw;generalize (pre.foldl hl2 (none,none)).1=h0 at*;generalize (pre.foldl hl2 (none,none)).2=bf at*;generalize ((b+lnW (pre++[(k,ns)]):Nat):Int)=nx at*;have cd1:=s1.seq hcd;have hk19:k < 19:=hvk.lt;have i0:atI (aE k ns) 0=some (.str (aI k)):=lR;walk_at "g";rw[hins];rintro _ H2 s2 ⟨ia,rfl,hia⟩
  have hv2:=hv.same s2;have hu2:=hu.same s2;have S2:=s1.trans s2;clear hv hu s1 s2 cd1;walk_at "g";refine⟨fun Z' H'=>aA (∃ v1:V,ay H2 H'/\xK K H' (if k=18 then none else h0) v1/\Z'=[some (.ref cd),some (.int ((b+lnW ms:Nat):Int)),some v1,some (.ref ia),some (.int nx),some (.ref ia),some (.str (aI k)),some u]),?_,?_⟩
  .walk_at "g";refine aV (fun c=> ?_) (fun c=> ?_)
   .have ek:k=18:=seq hk19 (by decide) (show V.str (aI k)=V.str (aI 18) from c)
    walk_at "g";exact aA.mk ⟨.non,ay.refl _,by rw[if_pos ek];rfl,by rw[<- e1];rfl⟩
   .have ek:k≠18:=fun z=>c (by rw[z];rfl)
    walk_at "g";exact aA.mk ⟨v,ay.refl _,by rw[if_neg ek];exact hv2,by rw[<- e1];rfl⟩
  rintro Z3 H3 ⟨v1,s3,hv3,rfl⟩
  have hia3:=s3.tup hia;have hu3:=hu2.same s3;have S3:=S2.trans s3;clear hv2 hu2 S2 s3 e1 hia;walk_at "g";refine⟨fun Z' H'=>aA (∃ v2:V,ay H3 H'/\(k≠16->xK K H' (if fG (k,ns) h0=true then none else h0) v2)/\Z'=[some (.ref cd),some (.int ((b+lnW ms:Nat):Int)),some v2,some (.ref ia),some (.int nx),some (.ref ia),some (.str (aI k)),some u]),?_,?_⟩
  .walk_at "g";intro p hp;have l4:upd H3 p (.lst [.str "stop",.str "store",.str "jump",.str "jumpif",.str "through",.str "gate"]) p=some (.lst [.str "stop",.str "store",.str "jump",.str "jumpif",.str "through",.str "gate"]):=ad;have s4:=af hp (.lst [.str "stop",.str "store",.str "jump",.str "jumpif",.str "through",.str "gate"]);generalize upd H3 p (.lst [.str "stop",.str "store",.str "jump",.str "jumpif",.str "through",.str "gate"])=H4 at*;walk_at "g";have em:=EG k hk19;rw[if_pos rfl,em]
   by_cases hm:mk8 k
   .have k18:k≠18:=by unfold mk8 at hm;lia
    rw[decide_eq_true hm];rw[if_neg k18] at hv3;obtain⟨a,ns',rfl⟩:=FI hvk hm;have i1:atI (aE k (a::ns')) 1=some (.int a):=a9 (j:=1) rfl;have hia4:=s4.tup hia3
    cases h0 with
    | none=>
     obtain rfl:v1= .non:=hv3;walk_at "g";exact aA.mk ⟨.non,s4,fun _=>by rw[ite_self];rfl,rfl⟩
    | some p=>
     obtain⟨hd,rfl,hhd⟩:=hv3;have hd4:=s4.tup hhd;have j0:atI [V.int p.1,V.int p.2] 0=some (.int p.1):=rfl;have el:fG (k,a::ns') (some p)=(decide (a=6) || decide (a=p.1)):=by
      unfold fG;rw[decide_eq_false k18,decide_eq_true hm]
      rfl
     rw[el];walk_at "g";refine aV (fun c=> ?_) (fun c=> ?_)
     .have ea:a=6:=V.int.inj c;walk_at "g";exact aA.mk ⟨.non,s4,fun _=>by rw[decide_eq_true ea];rfl,rfl⟩
     .have na:a≠6:=fun z=>c (congrArg V.int z)
      walk_at "g";refine aV (fun c2=> ?_) (fun c2=> ?_)
      .have ea:a=p.1:=V.int.inj c2;walk_at "g";exact aA.mk ⟨.non,s4,fun _=>by rw[decide_eq_true ea,Bool.or_true];rfl,rfl⟩
      .have nb:a≠p.1:=fun z=>c2 (congrArg V.int z)
       exact aA.mk ⟨.ref hd,s4,fun _=>by rw[decide_eq_false na,decide_eq_false nb];exact⟨hd,rfl,hd4⟩,rfl⟩
   .have el:fG (k,ns) h0=decide (k=18):=by
     unfold fG;rw[decide_eq_false hm,Bool.false_and,Bool.or_false]
    rw[decide_eq_false hm];walk_at "g";refine aA.mk ⟨v1,s4,fun _=> ?_,rfl⟩
    rw[el]
    simp only[decide_eq_true_eq]
    exact hv3.same s4
  rintro Z4 H4 ⟨v2,s4,hv4,rfl⟩
  have hia4:=s4.tup hia3;have hu4:=hu3.same s4;have S4:=S3.trans s4;clear hv3 hu3 S3 s4 hia3
  by_cases k16:k=16
  .subst k16;obtain⟨a,c,rfl⟩:=GL hvk;have i2:atI (aE 16 [a,c]) 2=some (.int c):=rfl;walk_at "g";refine aV (fun c6=> ?_) (fun c6=> ?_)
   .have ec:c=6:=V.int.inj c6;obtain⟨x,y,n,ebf⟩:=h16' rfl ec;rw[ebf] at hu4;obtain⟨ub,rfl,hub⟩:=hu4;have eh:hl1 h0 bf (16,[a,c])=some (y,n):=by
     show(if (16:Nat)=16 then(if c=6 then some (bnO (bf.getD (0,[]))) else some (c,0)) else _)=_
     rw[if_pos rfl,if_pos ec,ebf]
     rfl
    walk_at "g";refine⟨fun z=>absurd z.1 (show ¬HT.sIx 4 0 (some 2)=0 by decide),fun t ht=> ?_⟩
    walk_at "g";refine aA.mk ⟨_,_,_,_,_,S4.trans (af ht _),by rw[eh];exact⟨t,rfl,SqT.of ad⟩,⟨ia,rfl,(af ht _).tup hia4⟩,rfl⟩
   .have nc:c≠6:=fun z=>c6 (congrArg V.int z)
    have eh:hl1 h0 bf (16,[a,c])=some (c,0):=by
     show(if (16:Nat)=16 then(if c=6 then some (bnO (bf.getD (0,[]))) else some (c,0)) else _)=_
     rw[if_pos rfl,if_neg nc]
    walk_at "g";intro t ht;walk_at "g";refine aA.mk ⟨_,_,_,_,_,S4.trans (af ht _),by rw[eh];exact⟨t,rfl,SqT.of ad⟩,⟨ia,rfl,(af ht _).tup hia4⟩,rfl⟩
  .have ns16:V.str (aI k)≠V.str "fit":=fun z=>k16 (seq hk19 (by decide) (show V.str (aI k)=V.str (aI 16) from z))
   have eh:hl1 h0 bf (k,ns)=(if fG (k,ns) h0=true then none else h0):=by
    unfold hl1;rw[if_neg k16]
   walk_at "g";refine aV (fun z=>absurd z ns16) (fun _=> ?_)
   walk_at "g";refine aV (fun z=>absurd z ns16) (fun _=> ?_)
   refine aA.mk ⟨_,_,_,_,_,S4,by rw[eh];exact hv4 k16,⟨ia,rfl,hia4⟩,rfl⟩
 .obtain rfl:r=[]:=by
   cases r with
   | nil=>rfl
   | cons m r'=>exact absurd (by rw[bo] at elw;have:=(gJ m.1).1;lia) c
  rw[List.append_nil] at ems;rw[<- ems] at hv;walk_at "g";exact q _ _ s1 hv
theorem TdA.at8 {H:Hp}:∀ {vs:List V}{r:List (Option (List SpM.Span))}{i:Nat}{sp:List SpM.Span},TdA K H vs r->r[i]? =some (some sp)->∃a,vs[i]? =some (.ref a)/\SpT K H a sp
 | [],[],i,sp,_,h=>by cases h
 | v::vs,none::r,0,sp,_,h=>by cases h
 | v::vs,none::r,i+1,sp,ht,h=>TdA.at8 (vs:=vs) (i:=i) ht.2 h
 | v::vs,some s::r,0,sp,ht,h=>by
  cases h
  obtain⟨a,e,z⟩:=ht.1;exact⟨a,by rw[e];rfl,z⟩
 | v::vs,some s::r,i+1,sp,ht,h=>TdA.at8 (vs:=vs) (i:=i) ht.2 h
 | [],none::_,_,_,h,_=>h.elim
 | [],some _::_,_,_,h,_=>h.elim
 | _::_,[],_,_,h,_=>h.elim
theorem Hi:∀k,k < 19->inV (.str (aI k)) [.str "load",.str "store"]=decide (k=11\/k=12):=by decide +kernel
theorem Ht {H:Hp}{o:Option (Int × Int)}{v:V}{p:Addr}{c n:Int}{Q:VK}(hv:xK K H o v) (hp:SqT K H p ([c,n].map V.int)) (h:Q (.bl (decide (o=some (c,n)))) H):FV K false v (.ref p) H Q:=by
 cases o with
 | none=>
  obtain rfl:v= .non:=hv;exact .inl ⟨rfl,p,[c,n],rfl,hp,h⟩
 | some q=>
  obtain⟨a,rfl,ha⟩:=hv;refine .inr ⟨a,p,[q.1,q.2],[c,n],rfl,rfl,ha,hp,?_⟩
  rw[if_neg (by decide)]
  rw[show decide ([q.1,q.2]=[c,n])=decide (some q=some (c,n)) from decide_eq_decide.mpr ⟨fun z=>by cases z;rfl,fun z=>by cases z;rfl⟩]
  exact h
def FX (K:Frag):Sp:=fun vs H Q _=>∃(pl cd td ia:Addr) (x:Pn) (ws:List Int) (tv:List V) (tds:List (Option (List SpM.Span))) (e nb:Nat) (kn:Ins) (ks:Kn),vs=[.ref pl,.ref cd,.ref td,.int (e:Nat),.ref ia]/\Pl H pl x.pk x.pb x.pm x.ps x.pg/\SqL K H cd (ws.map V.int)/\(∀ y∈ws,0<=y)/\SqL K H td tv/\TdA K H tv tds/\Bq ws tds e ks/\GI nb x.pg kn/\SqT K H ia (aE kn.1 kn.2)/\
 ∀l ts H',ay H H'->SqL K H' l (ts.map V.ref)->cf K H' ts ((thG x.pk x.pb ks kn).map (plc (8*2^x.ps)))->Q (.ref l) H'
theorem u8 (B:Bi mg) (D:pN K mg) (lM:Has P w K mg base 7 "_law_held" zq (Dr K)):Has P w K mg base 8 "_law_group" ["_law_plan","_law_code","_law_told","_law_at_here","_law_instruction"] (FX K):=by
 refine D.has cs (fun vs H Q E h=> ?_) (fun f cdv A outer s H vs Q E hr h=> ?_)
 .obtain⟨pl,cd,td,ia,x,ws,tv,tds,e,nb,kn,ks,rfl,_⟩:=h
  rfl
 obtain⟨pl,cd,td,ia,x,ws,tv,tds,e,nb,⟨k,ns⟩,ks,rfl,hpl,hcd,hw0,htd,hta,⟨see1,s8,b,ms,eb,b8,m8,hat,hho,hvi,hft⟩,gi,hia,q⟩:=h;have hk19:k < 19:=gi.v6.w8.lt;have i0:atI (aE k ns) 0=some (.str (aI k)):=lR;have hpa:=hpl.at_;have hia:SqT K H ia (aE k ns):=hia;have p0:atI [V.int x.pk,V.int x.pb,V.int x.pm,V.int x.ps,V.int x.pg] 0=some (.int x.pk):=a9 (j:=0) rfl;have p1:atI [V.int x.pk,V.int x.pb,V.int x.pm,V.int x.ps,V.int x.pg] 1=some (.int x.pb):=a9 (j:=1) rfl;have p3:atI [V.int x.pk,V.int x.pb,V.int x.pm,V.int x.ps,V.int x.pg] 3=some (.int x.ps):=a9 (j:=3) rfl;have hk20:=hpl.room.k20;have hms:=hpl.ms
 refine⟨_,(ac (psS 5 cs.nd (pX ai (pv 4) aa))
   (ac (ax (nA v_ (pv 5) (aT (bF (by rfl))) (by rfl)) (ac (tG (dm iT (pv 4) (dW aa) fz) (lL (n:=3) (by rfl) (bQ (aP (i:=6) cs.nd (by rfl) (by left;rfl)) (bQ (aP (i:=7) cs.nd (by rfl) (by left;rfl)) (bQ (aP (i:=8) cs.nd (by rfl) (by left;rfl)) iL)))))
   (ac (tG (pX ai (pX bP (pv 2) (pv 3)) (pv 7)) (lL (n:=3) (by rfl) (bQ (aP (i:=9) cs.nd (by rfl) (by left;rfl)) (bQ (aP (i:=10) cs.nd (by rfl) (by left;rfl)) (bQ (aP (i:=11) cs.nd (by rfl) (by left;rfl)) iL)))))
   (ac (aL (bn (ax (PW.pt (iy (pcT Dq (pX ai (pv 0) aa) (aj aO (pv 9) (pv 8))) (fr (pcT gD (aj aO (pv 10) (pv 8)) (aj aO (pX ai (pv 0) aa) (aj cU aa (pX ai (pv 0) aa))))))) (ae (ah (aT (pa1 (pv 4))))) al)))
   (ac (ax (pcT (yH (uU hr)) (pcH lM hr (pa2 (pv 1) (pv 3))) (aw (pa2 (pv 7) (pv 8)))) (ae (ah (aT (pa1 (aw (pa4 (pv 5) (pv 6) aa aa)))))) al)
   (ac (ax (pcT aG (pv 8) aa) (ae (ah (aT (pa2 (aw (pa3 au aa (pv 7))) (aw (pa4 (pv 5) (pv 6) aa aa)))))) al)
   (ae (ah (aT (pa3 (aw (pa4 au aa (pv 7) (pv 8))) (aw (bF (by rfl))) (aw (pa4 (pv 5) (pv 6) aa aa))))))))))) al)
   (ac (ax (pcT aG (pv 5) au) (ae (ah (aT (pa2 (aw (pa3 au aa (pX ai (pv 4) aa))) (aw (bF (by rfl))))))) al)
   (ac (aL (bn (ax (PW.pt (gk (pcT aG (pv 5) au) (d5 (pcT aG (pv 5) au)))) (ae (ah (aT (pa1 (aj xt (dm iT (pv 4) fz (dW (iM (v:= -1) (by rfl)))) (aw (pa1 (aj bz (pX ai (pv 4) (iM (v:= -1) (by rfl))) (aj cU aa (pX ai (pv 0) aa)))))))))) al)))
   (ae (ah (aT (pa1 (pv 4))))))))),?_⟩
 try dsimp only[aY]
 walk_at "g";intro p hp;have l1:upd H p (.lst [.str "load",.str "store"]) p=some (.lst [.str "load",.str "store"]):=ad;have s1:=af hp (.lst [.str "load",.str "store"]);generalize upd H p (.lst [.str "load",.str "store"])=H1 at*;walk_at "g";rw[if_neg (by decide),Hi k hk19]
 by_cases ha:k=11\/k=12
 .rw[decide_eq_true ha];obtain⟨a,c,n,rfl,a0,a1,c0,c1,n0,n1⟩:=aM.acc gi.v6 ha;have hia1:=s1.tup hia;walk_at "g";refine⟨fun z=>absurd z.1 (show ¬HT.sIx 4 0 (some 1)=0 by decide),fun p2 hp2=> ?_⟩
  have s2:=s1.trans (af hp2 (.tup [.int a,.int c,.int n]));have l2:upd H1 p2 (.tup [.int a,.int c,.int n]) p2=some (.tup [.int a,.int c,.int n]):=ad;rw[show fZ (aE k [a,c,n]) (some 1) none=[V.int a,.int c,.int n] from rfl];generalize upd H1 p2 (.tup [.int a,.int c,.int n])=H2 at*;obtain⟨ta,eta,as,hts,hsp⟩:=TdA.at8 hta see1;obtain⟨b1,e1,t1,v1⟩:=SpT.at (a:=ta) hsp s8 (i:=c) (by lia) (by lia)
  have td2:=s2.seq htd;have ets:atI tv ((e:Nat):Int)=some (.ref ta):=a9 eta;have ts2:=s2.tup hts;have t12:SqT K H2 b1 [V.int (spG ks.sp c).lo,V.int (spG ks.sp c).hi,V.int (spG ks.sp c).z]:=SqT.of (s2 _ _ t1);have l2q:SqT K H2 p2 [V.int a,V.int c,V.int n]:=SqT.of l2;have hia2:=s2.tup hia;have cd2:=s2.seq hcd;have pl2:=s2 _ _ hpa;clear htd hts t1 hta hsp l1 s1 hcd hia1 hp2 hp l2 hpa;have hcp:mQ 1 (x.pk:Int):=⟨by lia,by lia,by decide⟩
  have ep:(1:Int)*2^((x.pk:Nat):Int).toNat=2^x.pk:=by rw[Int.one_mul,Int.toNat_natCast]
  have pc:plc (8*2^x.ps) (k,[a,c,n])=(k,[a,c,n]):=by
   unfold plc;rw[if_neg (show ¬k=13 by lia),if_neg (show ¬k=14 by lia)]
  have pc6:plc (8*2^x.ps) (k,[a,6,0])=(k,[a,6,0]):=by
   unfold plc;rw[if_neg (show ¬k=13 by lia),if_neg (show ¬k=14 by lia)]
  have eout:lF x.pk x.pb [a,c,n] ks.sp↔((spG ks.sp c).lo+n < x.pb\/x.pb+2^x.pk<=(spG ks.sp c).hi+n):=Iff.rfl;have egr:grp (k,[a,c,n])=if n=0 then[(16,[6,c]),(k,[a,6,0])] else[(10,[6,c,n]),(16,[6,6]),(k,[a,6,0])]:=by
   unfold grp;rw[if_neg (show ¬k=15 by lia),if_pos ha]
   rfl
  walk_at "g";refine⟨fun Z' H'=>aA (H'=H2/\lF x.pk x.pb [a,c,n] ks.sp/\Z'=[some (.ref pl),some (.ref cd),some (.ref td),some (.int (e:Nat)),some (.ref ia),some (.str (aI k)),some (.int a),some (.int c),some (.int n),some (.int (spG ks.sp c).lo),some (.int (spG ks.sp c).hi),some (.int (spG ks.sp c).z)]),?_,?_⟩
  .walk_at "g"
   by_cases d1:x.pb<=(spG ks.sp c).lo+n
   .rw[decide_eq_true d1];walk_at "g";rw[ep]
    by_cases d2:(spG ks.sp c).hi+n < x.pb+2^x.pk
    .rw[decide_eq_true d2];walk_at "g";intro l hl;have eth:thG x.pk x.pb ks (k,[a,c,n])=[(k,[a,c,n])]:=by
      unfold thG;rw[if_neg (fun z=>z ha),if_pos (by rw[eout];lia)]
     refine q l [ia] _ (s2.trans (af hl _)) (SqL.of ad) ?_
     rw[eth,List.map_singleton,pc];exact⟨(af hl _).tup hia2,True.intro⟩
    .rw[decide_eq_false d2];walk_at "g";exact aA.mk ⟨rfl,by rw[eout];lia,rfl⟩
   .rw[decide_eq_false d1];walk_at "g";exact aA.mk ⟨rfl,by rw[eout];lia,rfl⟩
  rintro Z' H' ⟨rfl,ho,rfl⟩
  rw[<- eb];walk_at "g";rw[hft];intro v H3 s3 hv;have S3:=s2.trans s3;clear s2 cd2 td2 pl2 t12 l2q ts2 hat hho hvi hia2 hw0;walk_at "g";intro p4 hp4;have s4:=af hp4 (.tup [.int c,.int n]);have l4:SqT K (upd H3 p4 (.tup [.int c,.int n])) p4 ([c,n].map V.int):=SqT.of ad;have S4:=S3.trans s4;have hv4:=hv.same s4;generalize upd H3 p4 (.tup [.int c,.int n])=H4 at*;walk_at "g";refine Ht hv4 l4 ⟨_,rfl,?_⟩
  clear hv hv4 l4 s3 s4 S3 hp4
  by_cases hf:ks.ft=some (c,n)
  .rw[decide_eq_true hf];walk_at "g";intro t ht;walk_at "g";intro l hl;have eth:thG x.pk x.pb ks (k,[a,c,n])=[(k,[a,6,0])]:=by
    unfold thG;rw[if_neg (fun z=>z ha),if_neg (fun z=>z ho),if_pos (show ks.ft=some (bnO (k,[a,c,n])) from hf)]
    rfl
   refine q l [t] _ ((S4.trans (af ht _)).trans (af hl _)) (SqL.of ad) ?_
   rw[eth,List.map_singleton,pc6];exact⟨(af hl _).tup (SqT.of ad),True.intro⟩
  .rw[decide_eq_false hf];have eth:thG x.pk x.pb ks (k,[a,c,n])=grp (k,[a,c,n]):=by
    unfold thG;rw[if_neg (fun z=>z ha),if_neg (fun z=>z ho),if_neg (show ¬ks.ft=some (bnO (k,[a,c,n])) from hf)]
   rw[eth,egr] at q;clear eth egr;walk_at "g";refine aV (fun cn=> ?_) (fun cn=> ?_)
   .have n0:n=0:=V.int.inj cn;rw[if_pos n0,List.map_cons,List.map_singleton,pc6] at q;walk_at "g";intro t1 h1;walk_at "g";intro t2 h2;walk_at "g";intro l hl;exact q l [t1,t2] _ (((S4.trans (af h1 _)).trans (af h2 _)).trans (af hl _)) (SqL.of ad) ⟨(af hl _).tup ((af h2 _).tup (SqT.of ad)),(af hl _).tup (SqT.of ad),True.intro⟩
   .have n0:n≠0:=fun z=>cn (congrArg V.int z)
    rw[if_neg n0,List.map_cons,List.map_cons,List.map_singleton,pc6] at q;walk_at "g";intro t1 h1;walk_at "g";intro t2 h2;walk_at "g";intro t3 h3;walk_at "g";intro l hl;exact q l [t1,t2,t3] _ ((((S4.trans (af h1 _)).trans (af h2 _)).trans (af h3 _)).trans (af hl _)) (SqL.of ad) ⟨(af hl _).tup ((af h3 _).tup ((af h2 _).tup (SqT.of ad))),(af hl _).tup ((af h3 _).tup (SqT.of ad)),(af hl _).tup (SqT.of ad),True.intro⟩
 .rw[decide_eq_false ha];have eth:thG x.pk x.pb ks (k,ns)=grp (k,ns):=by
   unfold thG;rw[if_pos ha]
  rw[eth] at q;have hia1:=s1.tup hia;have pl1:=s1 _ _ hpa;walk_at "g";refine aV (fun c=> ?_) (fun c=> ?_)
  .have ek:k=15:=seq hk19 (by decide) (show V.str (aI k)=V.str (aI 15) from c)
   subst ek;obtain⟨a,rfl,a0,a1⟩:=aM.thr gi.v6 rfl;have i1:atI (aE 15 [a]) 1=some (.int a):=rfl;walk_at "g";intro t1 h1;walk_at "g";intro t2 h2;walk_at "g";intro l hl;exact q l [t1,t2] _ (((s1.trans (af h1 _)).trans (af h2 _)).trans (af hl _)) (SqL.of ad) ⟨(af hl _).tup ((af h2 _).tup (SqT.of ad)),(af hl _).tup (SqT.of ad),True.intro⟩
  .have k15:k≠15:=fun z=>c (by rw[z];rfl)
   have egr:grp (k,ns)=[(k,ns)]:=by
    unfold grp;rw[if_neg k15,if_neg ha]
   rw[egr,List.map_singleton] at q;clear c;have hcp:mQ 8 (x.ps:Int):=⟨by lia,by lia,by decide⟩
   have ep:(8:Int)*2^((x.ps:Nat):Int).toNat=((8*2^x.ps:Nat):Int):=by
    rw[Int.toNat_natCast,Int.natCast_mul,Int.natCast_pow]
    rfl
   have hS:8*2^x.ps<=1024:=Nat.mul_le_mul_left 8 (show 2^x.ps<=2^7 from Nat.pow_le_pow_right (by decide) (by lia))
   have cm:∀z:Int,0<=z->z < 262144->qm z (8*2^((x.ps:Nat):Int).toNat):=fun z z0 z1=>by rw[ep];exact .inr ⟨by lia,by lia⟩
   by_cases h13:k=13
   .obtain⟨z,rfl,z0,z1⟩:=aM.jmp gi.v6 h13;subst h13;have im:atI (aE 13 [z]) (-1)=some (.int z):=rfl;have hw:¬(HT.sIx (aE 13 [z]).length 0 none=0/\HT.sIx (aE 13 [z]).length (aE 13 [z]).length (some (-1))=(aE 13 [z]).length):=by show ¬(HT.sIx 2 0 none=0/\HT.sIx 2 2 (some (-1))=2);decide
    have cmz:=cm z z0 z1;walk_at "g";refine⟨fun Z' H'=>aA False,?_,fun _ _ z=>z.out.elim⟩
    walk_at "g";intro p1 hp1;rw[show fZ (aE 13 [z]) none (some (-1))=[.str "jump"] from rfl];have pl3:=af hp1 (.tup [.str "jump"]) _ _ pl1;have hia3:=(af hp1 (.tup [.str "jump"])).tup hia1;walk_at "g";rw[ep];intro p2 hp2;have hp3:upd (upd H1 p1 (.tup [.str "jump"])) p2 (.tup [.int (z*((8*2^x.ps:Nat):Int))]) p1=some (.tup [.str "jump"]):=by rw[az (aB ad hp2)];exact ad
    walk_at "g";refine⟨(fun z=>by cases z),fun _ p3 hp4=> ?_⟩
    walk_at "g";intro l hl;exact q l [p3] _ ((((s1.trans (af hp1 _)).trans (af hp2 _)).trans (af hp4 _)).trans (af hl _)) (SqL.of ad) ⟨(af hl _).tup (SqT.of ad),True.intro⟩
   by_cases h14:k=14
   .obtain⟨b',z,rfl,b0,b1,z0,z1⟩:=aM.jif gi.v6 h14;subst h14;have im:atI (aE 14 [b',z]) (-1)=some (.int z):=rfl;have hw:¬(HT.sIx (aE 14 [b',z]).length 0 none=0/\HT.sIx (aE 14 [b',z]).length (aE 14 [b',z]).length (some (-1))=(aE 14 [b',z]).length):=by show ¬(HT.sIx 3 0 none=0/\HT.sIx 3 3 (some (-1))=3);decide
    have cmz:=cm z z0 z1;walk_at "g";refine⟨fun Z' H'=>aA False,?_,fun _ _ z=>z.out.elim⟩
    walk_at "g";intro p1 hp1;rw[show fZ (aE 14 [b',z]) none (some (-1))=[.str "jumpif",.int b'] from rfl];have pl3:=af hp1 (.tup [.str "jumpif",.int b']) _ _ pl1;have hia3:=(af hp1 (.tup [.str "jumpif",.int b'])).tup hia1;walk_at "g";rw[ep];intro p2 hp2;have hp3:upd (upd H1 p1 (.tup [.str "jumpif",.int b'])) p2 (.tup [.int (z*((8*2^x.ps:Nat):Int))]) p1=some (.tup [.str "jumpif",.int b']):=by rw[az (aB ad hp2)];exact ad
    walk_at "g";refine⟨(fun z=>by cases z),Nat.le_of_ble_eq_true rfl,(fun z=>by cases z),fun _ p3 hp4=> ?_⟩
    walk_at "g";intro l hl;exact q l [p3] _ ((((s1.trans (af hp1 _)).trans (af hp2 _)).trans (af hp4 _)).trans (af hl _)) (SqL.of ad) ⟨(af hl _).tup (SqT.of ad),True.intro⟩
   have n13:V.str (aI k)≠V.str "jump":=fun z=>h13 (seq hk19 (by decide) (show V.str (aI k)=V.str (aI 13) from z))
   have n14:V.str (aI k)≠V.str "jumpif":=fun z=>h14 (seq hk19 (by decide) (show V.str (aI k)=V.str (aI 14) from z))
   have epl:plc (8*2^x.ps) (k,ns)=(k,ns):=by unfold plc;rw[if_neg h13,if_neg h14]
   rw[epl] at q;walk_at "g";refine⟨fun Z' H'=>aA (H'=H1/\∃i6 i7 i8 i9 i10 i11,Z'=[some (.ref pl),some (.ref cd),some (.ref td),some (.int (e:Nat)),some (.ref ia),some (.str (aI k)),i6,i7,i8,i9,i10,i11]),?_,?_⟩
   .walk_at "g";refine aV (fun z=>absurd z n13) (fun _=> ?_)
    walk_at "g";refine aV (fun z=>absurd z n14) (fun _=> ?_)
    walk_at "g";exact aA.mk ⟨rfl,_,_,_,_,_,_,rfl⟩
   rintro Z' H' ⟨rfl,i6,i7,i8,i9,i10,i11,rfl⟩
   walk_at "g";intro l hl;exact q l [ia] _ (s1.trans (af hl _)) (SqL.of ad) ⟨(af hl _).tup hia1,True.intro⟩
def DG (K:Frag):Sp:=fun vs H Q _=>∃(l:Addr) (ts:List Addr) (is:List Ins),vs=[.ref l]/\SqL K H l (ts.map V.ref)/\cf K H ts is/\(∀ m∈is,m.1 < 19)/\is.length<=10/\∀H',ay H H'->Q (.int (lnW is:Nat)) H'
theorem yl:∀is:List Ins,lnW is=is.length+(is.filter fun m=>m.1=1).length
 | []=>rfl
 | m::r=>by
  rw[bo,yl r,List.length_cons,List.filter_cons];unfold bw
  by_cases h:m.1=1
  .rw[if_pos h,if_pos (decide_eq_true h),List.length_cons]
   lia
  .rw[if_neg h,if_neg (fun z=>h (of_decide_eq_true z))]
   lia
theorem wZ (B:Bi mg) (D:rf K mg):Has P w K mg base 1 "_law_size" z_ (DG K):=by
 refine D.has w6 (fun vs H Q E h=> ?_) (fun f cdv A outer s H vs Q E hr h=> ?_)
 .obtain⟨l,ts,is,rfl,_⟩:=h
  rfl
 obtain⟨l,ts,is,rfl,hl,hin,hvi,h10,q⟩:=h;have hlen:=hin.len;have hll:(ts.map V.ref).length=is.length:=by rw[List.length_map,hlen]
 refine⟨_,(ae (ah (aj aO (aF aC (by rfl) B.len bT (pa1 (pv 0))) (aF aC (by rfl) B.len bT (pa1 (C0 (by rfl) (by rfl) (by rfl) (bk (sc0:=ag iP) (N0:=["_law_group_here"]) ["_law_one"] 1 []) (pi (pv 0)) (fun _ _ _ _=>(aP (i:=0) (show List.Nodup (["_law_one"]:List Str) by decide) (by rfl) (by left;rfl))) (fun _ _ _ _=>(pcT aG (pX (Bc (K:=K) (by rfl)) (pv 0) aa) au)) (fun _ _ _ _=>(pv 0)))))))),?_⟩
 try dsimp only[aY]
 walk_at "g";intro p hp;refine AF (a:=l) (xs:=ts.map V.ref) (fun i ys H'=>aA (ys.length=((is.take i).filter fun m=>m.1=1).length/\ys.length<=i/\H' p=some (.lst ys)/\ay H H')) ⟨rfl,Nat.le_refl _,ad,af hp _⟩ (fun i ys H' h=>h.out.2.2.2.seq hl) ?_ ?_
 .rintro i u ys H1 F hF hi ⟨h1,h2,h3,s1⟩
  obtain⟨t,et,rfl⟩:=bv hi;obtain⟨⟨k,ns⟩,ek,ht⟩:=hin.get et;have ht1:SqT K H1 t (aE k ns):=s1.tup ht;have hk19:k < 19:=hvi _ (List.mem_of_getElem? ek);have i0:atI (aE k ns) 0=some (.str (aI k)):=lR;have hi10:i < is.length:=(List.getElem?_eq_some_iff.mp ek).1;have etk:is.take (i+1)=is.take i++[(k,ns)]:=by rw[List.take_succ,ek];rfl
  walk_at "g"
  by_cases c:k=1
  .rw[decide_eq_true (show V.str (aI k)=V.str "put" by rw[c];rfl)]
   have hz:ys.length < sizeLine:=Nat.lt_of_le_of_lt (show ys.length<=10 by lia) (by decide)
   walk_at "g";refine hF _ _ (aA.mk ⟨?_,by rw[List.length_append];exact Nat.succ_le_succ h2,ad,eK hp s1⟩)
   rw[etk,List.filter_append,List.length_append,List.length_append,h1,List.filter_cons,if_pos (decide_eq_true c)]
   rfl
  .rw[decide_eq_false (p:=V.str (aI k)=V.str "put") (fun z=>c (seq hk19 (by decide) (show V.str (aI k)=V.str (aI 1) from z)))]
   refine hF _ _ (aA.mk ⟨?_,by lia,h3,s1⟩)
   rw[etk,List.filter_append,List.length_append,h1,List.filter_cons,if_neg (fun z=>c (of_decide_eq_true z))]
   rfl
 .rintro ys H1 ⟨h1,h2,h3,s1⟩
  rw[hll,List.take_length] at h1;walk_at "g";have e:((ts.map V.ref).length:Int)+(ys.length:Int)=(lnW is:Nat):=by rw[yl,hll,h1];lia
  show Q (V.int (((ts.map V.ref).length:Int)+(ys.length:Int))) H1
  rw[e];exact q _ s1
def FZ (K:Frag):Sp:=fun vs H Q _=>∃(cd:Addr) (ws:List Int) (p:Nat) (ms:List Ins) (n:Nat),vs=[.ref cd,.int (p:Nat),.int (n:Nat)]/\n=ms.length/\SqL K H cd (ws.map V.int)/\(∀ x∈ws,0<=x)/\AtI ws p ms/\(∀ m∈ms,VI m)/\ms.length<=10/\∀l ts H',ay H H'->SqL K H' l (ts.map V.ref)->cf K H' ts ms->Q (.ref l) H'
theorem Au (B:Bi mg) (D:vG K mg) (aS:Has P w K mg base 6 "instruction_at" zF (EF K)) (aU:Has P w K mg base 1 "length_of" cy (Aq K)):Has P w K mg base 7 "_law_at" yO (FZ K):=by
 refine D.has hZ (fun vs H Q E h=> ?_) (fun f cdv A outer s H vs Q E hr h=> ?_)
 .obtain⟨cd,ws,p,ms,n,rfl,_⟩:=h
  rfl
 obtain⟨cd,ws,p,ms,n,rfl,en,hcd,hw0,hat,hvi,h10,q⟩:=h
 refine⟨_,(ac (psS 3 hZ.nd (aT cY))
   (ac (d8 PassesOwn.never (by rfl) (dB (dU (by rfl) B.range (pa1 (pv 2)))) (aP (i:=4) hZ.nd (by rfl) (by left;rfl)) (ac (psS 5 hZ.nd (pcH aS hr (pa2 (pv 0) (pv 1))))
   (ac (ax (mB (qK (pv 5))) (ae (ah cQ)) al)
   (ac (bj (fe PySem.F.plainAttrs_list PySem.F.slot_list_append PySem.F.type_list_append bJ (pv 3) (pa1 (pv 5))))
   (ae (psS 1 hZ.nd (aj aO (pv 1) (pcH aU hr (pa1 (pv 5))))))))))
   (ae (ah (pv 3))))),?_⟩
 try dsimp only[aY]
 walk_at "g";intro l hl;have s1:=af hl (.lst []);have l1:upd H l (.lst []) l=some (.lst []):=ad;generalize upd H l (.lst [])=H1 at*;have b62: -(2^62)<=(n:Int)/\(n:Int) < 2^62:=by lia
 walk_at "g";refine⟨jz (fun i Z H'=>aA (∃ (ts:List Addr) (i4 i5:Option V),i<=ms.length/\ay H H'/\H' l=some (.lst (ts.map V.ref))/\cf K H' ts (ms.take i)/\Z=[some (.ref cd),some (.int ((p+lnW (ms.take i):Nat):Int)),some (.int (n:Nat)),some (.ref l),i4,i5])) ⟨[],none,none,Nat.zero_le _,s1,l1,True.intro,rfl⟩ ?_ ?_⟩
 .rintro i Z H2 hi ⟨ts,i4,i5,h1,s2,l2,hin,rfl⟩
  have hi':i < ms.length:=by simp at hi;lia
  have ek:ms[i]? =some ms[i]:=List.getElem?_eq_getElem hi';have hms:ms=ms.take i++ms[i]::ms.drop (i+1):=by rw[List.getElem_cons_drop,List.take_append_drop]
  have etk:ms.take (i+1)=ms.take i++[ms[i]]:=by rw[List.take_succ,ek];rfl
  have hins:jL ws ((p+lnW (ms.take i):Nat):Int)=some ms[i]:=by
   rw[hms] at hat;exact(AtI.app.mp hat).2.1
  have hvk:=hvi _ (List.getElem_mem hi');generalize ms[i]=kn at*;obtain⟨k,ns⟩:=kn;have hk19:k < 19:=aM.lt hvk;have cd2:=s2.seq hcd;have hlt:ts.length<=10:=by rw[hin.len,List.length_take];lia
  clear hi;walk_at "g";rw[hins];rintro _ H3 s3 ⟨ia,rfl,hia⟩
  have l3:=s3 _ _ l2;have hz:(ts.map V.ref).length < sizeLine:=Nat.lt_of_le_of_lt (show(ts.map V.ref).length<=10 by rw[List.length_map];exact hlt) (by decide)
  have hty:tyV K "list" (.ref l) H3:= .inl ⟨rfl,_,SqL.of l3⟩;have S4:=eK (o:= .lst (ts.map V.ref++[.ref ia])) hl (s2.trans s3);have l4:upd H3 l (.lst (ts.map V.ref++[.ref ia])) l=some (.lst (ts.map V.ref++[.ref ia])):=ad;have hin4:cf K (upd H3 l (.lst (ts.map V.ref++[.ref ia]))) (ts++[ia]) (ms.take i++[(k,ns)]):=((show cf K H3 [ia] [(k,ns)] from⟨hia,True.intro⟩).app (hin.same s3)).mono fun _ _ z=>rG l3 z
  have hia4:SqT K (upd H3 l (.lst (ts.map V.ref++[.ref ia]))) ia (aE k ns):=rG l3 hia;walk_at "g";refine aA.mk ⟨ts++[ia],some (.int (0+(i:Int))),some (.ref ia),by lia,S4,by rw[List.map_append];exact l4,by rw[etk];exact hin4,?_⟩
  rw[etk,a8,dC];have e1:((p+lnW (ms.take i):Nat):Int)+(if k=1 then 2 else 1)=((p+(lnW (ms.take i)+bw k):Nat):Int):=by
   unfold bw
   split <;> lia
  rw[<- e1]
  rfl
 .rintro Z H2 ⟨ts,i4,i5,h1,s2,l2,hin,rfl⟩
  rw[Int.toNat_natCast,en,List.take_length] at hin;walk_at "g";exact q l ts H2 s2 (SqL.of l2) hin
def FO (K:Frag):Sp:=fun vs H Q _=>∃(pl cd td bl po:Addr) (x:Pn) (ws:List Int) (tv:List V) (tds:List (Option (List SpM.Span))) (bk:List Ins) (qs:List Nat) (E:Nat->Nat) (nb:Nat) (b:Int),vs=[.ref pl,.ref cd,.ref td,.ref bl,.int b,.ref po]/\b=((E 0:Nat):Int)/\Pl H pl x.pk x.pb x.pm x.ps x.pg/\SqL K H cd (ws.map V.int)/\(∀ y∈ws,0<=y)/\SqL K H td tv/\TdA K H tv tds/\GBk K H bl bk/\SqL K H po (qs.map fun q=>V.int (q:Nat))/\qs.length=bk.length/\(∀ kn∈bk,GI nb x.pg kn)/\
 (∀ j kn q,bk[j]? =some kn->qs[j]? =some q->Bu x ws tds (E j) q kn (E (j+1)))/\bk.length<=30/\∀H',ay H H'->Q (.int (E bk.length:Nat)) H'
theorem GP {pk:Nat}{pb:Int}{S nb:Nat}{g:Int}{s:Kn}{kn:Ins}(gi:GI nb g kn):∀m∈(thG pk pb s kn).map (plc S),m.1 < 19:=fun m hm=>by
 obtain⟨m0,h0,rfl⟩:=List.mem_map.mp hm;rw[qW];exact aM.lt (jI gi.v6.w8 m0 h0)
theorem Fv {ws:List Int}{e:Nat}(h:AtI ws e (eB e)) {i:Nat}(hi:i < (8 - e %8) %8):jL ws ((e+i:Nat):Int)=some nop:=by
 unfold eB at h;obtain⟨d,ed⟩:∃d,(8 - e %8) %8=i+(d+1):=⟨(8 - e %8) %8 - i - 1,by lia⟩
 rw[ed, <-List.replicate_append_replicate] at h;have:=(AtI.app.mp h).2.1;rw[sZ] at this;exact this
theorem cf.same8 {H:Hp}{ts us:List Addr}{is:List Ins}(h1:cf K H ts is) (h2:cf K H us is) (j:Nat) (x y:V) (hx:(ts.map V.ref)[j]? =some x) (hy:(us.map V.ref)[j]? =some y):ie K H 32 x y:=by
 obtain⟨t,et,rfl⟩:=bv hx;obtain⟨u,eu,rfl⟩:=bv hy;obtain⟨kn,e1,f1⟩:=h1.get et;obtain⟨kn',e2,f2⟩:=h2.get eu;obtain rfl:kn=kn':=Option.some.inj (e1.symm.trans e2);refine .tup f1 f2 rfl (fun i a b ha hb=> ?_)
 obtain rfl:a=b:=Option.some.inj (ha.symm.trans hb)
 cases i with
 | zero=>
  obtain rfl:V.str (aI kn.1)=a:=Option.some.inj ha;exact .str _
 | succ i=>
  obtain⟨n,_,rfl⟩:=bv (show(kn.2.map V.int)[i]? =some a from ha);exact .int n
theorem vi (B:Bi mg) (D:oW K mg) (aS:Has P w K mg base 6 "instruction_at" zF (EF K)) (gN:Has P w K mg base 8 "_law_group" ["_law_plan","_law_code","_law_told","_law_at_here","_law_instruction"] (FX K)) (iR:Has P w K mg base 1 "_law_size" z_ (DG K)) (qI:Has P w K mg base 7 "_law_at" yO (FZ K)):
  Has P w K mg base 9 "_law_block" ["_law_plan","_law_code","_law_told","_law_block_here","_law_begin","_law_places"] (FO K):=by
 refine D.has cr (fun vs H Q E h=> ?_) (fun f cdv A outer s H vs Q E' hr h=> ?_)
 .obtain⟨pl,cd,td,bl,po,x,ws,tv,tds,bk,qs,E,nb,b,rfl,_⟩:=h
  rfl
 obtain⟨pl,cd,td,bl,po,x,ws,tv,tds,bk,qs,E,nb,b,rfl,rfl,hpl,hcd,hw0,htd,hta,⟨ts,hbl,hall⟩,hpo,hlq,hgi,hst,h30,q⟩:=h;have z1:Sq K H false bl (ts.map V.ref):=by unfold Sq;rw[if_neg (by decide)];exact hbl
 have z2:Sq K H true po (qs.map fun q=>V.int (q:Nat)):=by unfold Sq;rw[if_pos rfl];exact hpo
 refine⟨_,(ac (psS 6 cr.nd (pv 4))
   (ac (d8 PassesOwn.never (by rfl) (dB (An (by rfl) B.zip (pa2 (pv 3) (pv 5)))) (lL (n:=2) (by rfl) (bQ (aP (i:=7) cr.nd (by rfl) (by left;rfl)) (bQ (aP (i:=8) cr.nd (by rfl) (by left;rfl)) iL))) (ac (psS 9 cr.nd (pcH gN hr (pa5 (pv 0) (pv 1) (pv 2) (pv 6) (pv 7))))
   (ac (aL (bn (ax (pcT lf (aj aO (aj cD (pv 6) aa) (pcH iR hr (pa1 (pv 9)))) aa) (ac (aL (gW PassesOwn.never (pcT lf (aj cD (pv 6) aa) aa) (ac (ax (pcT (CP (uU hr)) (pcH aS hr (pa2 (pv 1) (pv 6))) (aw (bF (by rfl)))) (ae (ah cQ)) al)
   (ae (psS 6 cr.nd (aj aO (pv 6) aa))))))
   (ae (psS 9 cr.nd (pcH gN hr (pa5 (pv 0) (pv 1) (pv 2) (pv 6) (pv 7)))))) al)))
   (ac (aL (bn (ax (PW.pt (gk (pcT vA (pv 8) (pv 6)) (d5 (pcT (qX (uU hr)) (pcH qI hr (pa3 (pv 1) (pv 6) (aF aC (by rfl) B.len bT (pa1 (pv 9))))) (pv 9))))) (ae (ah cQ)) al)))
   (ae (psS 6 cr.nd (aj aO (pv 6) (pcH iR hr (pa1 (pv 9))))))))))
   (ae (ah (pv 6))))),?_⟩
 try dsimp only[aY]
 walk_at "g";refine⟨wt (b:=false) (c:=true) (xs:=ts.map V.ref) (ys:=qs.map fun q=>V.int (q:Nat)) (fun i Z H'=>aA (ay H H'/\∃i7 i8 i9,Z=[some (.ref pl),some (.ref cd),some (.ref td),some (.ref bl),some (.int (E 0:Nat)),some (.ref po),some (.int (E i:Nat)),i7,i8,i9])) ⟨ay.refl _,none,none,none,rfl⟩ ?_ ?_ ?_⟩
 .rintro i Z H1 ⟨s1,_⟩
  exact⟨by unfold Sq;rw[if_neg (by decide)];exact s1.tup hbl,by unfold Sq;rw[if_pos rfl];exact s1.seq hpo⟩
 .rintro i u v p Z H0 hu hv ⟨s0,i7,i8,i9,rfl⟩ hp
  obtain⟨t,et,rfl⟩:=bv hu;obtain⟨kn,ek,ht⟩:=hall.get et;obtain⟨qi,eq,rfl⟩:=bv hv;have gi:=hgi kn (List.mem_of_getElem? ek);obtain⟨kL,see,hs⟩:=hst i kn qi ek eq;have s1:=s0.trans (af hp (.tup [.ref t,.int (qi:Nat)]));have l1:SqT K (upd H0 p (.tup [.ref t,.int (qi:Nat)])) p [.ref t,.int (qi:Nat)]:=SqT.of ad;generalize upd H0 p (.tup [.ref t,.int (qi:Nat)])=H1 at*;have pl1:=hpl.mv s1;have cd1:=s1.seq hcd;have td1:=s1.seq htd;have ta1:=hta.same s1;have t1:=s1.tup ht;have g19:=fun ks=>GP (pk:=x.pk) (pb:=x.pb) (S:=8*2^x.ps) (s:=ks) gi
  have g10:∀ks,((thG x.pk x.pb ks kn).map (plc (8*2^x.ps))).length<=10:=fun ks=>by rw[List.length_map];have:=wS x.pk x.pb ks kn;lia
  have glw:∀ks,lnW ((thG x.pk x.pb ks kn).map (plc (8*2^x.ps)))=lnW (thG x.pk x.pb ks kn):=fun ks=>eG _ _
  walk_at "g";intro l us H2 s2 hl hin;have S2:=s1.trans s2;have h19:=g19 kL;have h10:=g10 kL;walk_at "g"
  refine⟨fun Z' H'=>aA (∃ (kU:Kn) (l2:Addr) (us2:List Addr),ay H H'/\SqL K H' l2 (us2.map V.ref)/\cf K H' us2 ((thG x.pk x.pb kU kn).map (plc (8*2^x.ps)))/\AtI ws qi ((thG x.pk x.pb kU kn).map (plc (8*2^x.ps)))/\(∀ m∈(thG x.pk x.pb kU kn).map (plc (8*2^x.ps)),VI m)/\E (i+1)=qi+lnW (thG x.pk x.pb kU kn)/\
   Z'=[some (.ref pl),some (.ref cd),some (.ref td),some (.ref bl),some (.int (E 0:Nat)),some (.ref po),some (.int (qi:Nat)),some (.ref t),some (.int (qi:Nat)),some (.ref l2)]),?_,?_⟩
  .walk_at "g";rw[glw];intro H3 s3;have S3:=S2.trans s3;walk_at "g";rcases hs with⟨hle,rfl,hat,hvi,eE⟩|⟨hgt,hfl,eqi,see2,hat,hvi,eE⟩
   .refine aV (fun c=>absurd c (by lia)) (fun _=> ?_)
    exact aA.mk ⟨kL,l,us,S3,s3.seq hl,hin.same s3,hat,hvi,eE,rfl⟩
   .refine aV (fun _=> ?_) (fun c=>absurd (by lia) c)
    clear see hl hin h19 h10 s2 s3 S2;walk_at "g";refine⟨fun m Z H'=>∃n,n+m=(8 - E i %8) %8/\ay H H'/\Z=[some (.ref pl),some (.ref cd),some (.ref td),some (.ref bl),some (.int (E 0:Nat)),some (.ref po),some (.int ((E i+n:Nat):Int)),some (.ref t),some (.int (qi:Nat)),some (.ref l)],⟨(8 - E i %8) %8,0,by lia,S3,rfl⟩,?_⟩
    rintro m Z H4 ⟨n,en,s4,rfl⟩
    have cd4:=s4.seq hcd;walk_at "g";refine aV (fun c=> ?_) (fun c=> ?_)
    .have hn:n < (8 - E i %8) %8:=by lia
     have hins:=Fv hfl hn;walk_at "n";refine⟨fun Z' H'=>aA (ay H H'/\Z'=[some (.ref pl),some (.ref cd),some (.ref td),some (.ref bl),some (.int (E 0:Nat)),some (.ref po),some (.int ((E i+(n+1):Nat):Int)),some (.ref t),some (.int (qi:Nat)),some (.ref l)]),fun Z' H' h=>⟨m - 1,by lia,n+1,by lia,h.out.1,h.out.2⟩,?_⟩
     walk_at "g";rw[hins];rintro _ H5 s5 ⟨ia,rfl,hia⟩
     have S5:=s4.trans s5;walk_at "g";intro p6 hp6;have S6:=S5.trans (af hp6 (.tup [.str "more",.int 0,.int 0,.int 0]));have ex:(!(decide (("more":Str)="more") && decide ([(0:Int),0,0]=[0,0,0])))=false:=by decide +kernel
     refine⟨ia,p6,"more","more",[0,0,0],[0,0,0],rfl,rfl,(af hp6 _).tup hia,SqT.of ad,by decide +kernel,by decide +kernel,false,congrArg V.bl ex,?_⟩
     walk_at "g";refine aA.mk ⟨S6,?_⟩
     rw[show E i+(n+1)=E i+n+1 by lia,Int.natCast_add (E i+n) 1]
     rfl
    .have hn:n=(8 - E i %8) %8:=by lia
     have eq2:E i+n=qi:=by lia
     rw[eq2];have pl4:=hpl.mv s4;have td4:=s4.seq htd;have ta4:=hta.same s4;have t4:=s4.tup ht;walk_at "g";intro l2 us2 H5 s5 hl5 hin5;walk_at "g";exact aA.mk ⟨kn0,l2,us2,s4.trans s5,hl5,hin5,hat,hvi,eE,rfl⟩
  rintro Z' H3 ⟨kU,l2,us2,s3,hl3,hin3,hat,hvi,eE,rfl⟩
  have cd3:=s3.seq hcd;have h10:=g10 kU;have hll:(us2.map V.ref).length=((thG x.pk x.pb kU kn).map (plc (8*2^x.ps))).length:=by rw[List.length_map,hin3.len]
  walk_at "g";refine⟨fun Z' H'=>aA (ay H3 H'/\Z'=[some (.ref pl),some (.ref cd),some (.ref td),some (.ref bl),some (.int (E 0:Nat)),some (.ref po),some (.int (qi:Nat)),some (.ref t),some (.int (qi:Nat)),some (.ref l2)]),?_,?_⟩
  .walk_at "g";refine yv rfl ?_
   walk_at "g";intro l3 us3 H4 s4 hl4 hin4;have hl24:=s4.seq hl3;have hel:(us3.map V.ref).length=(us2.map V.ref).length:=by rw[hll,List.length_map,hin4.len]
   have hsm:=cf.same8 hin4 (hin3.same s4);walk_at "g";exact aA.mk ⟨s4,rfl⟩
  rintro Z' H4 ⟨s4,rfl⟩
  have hl4:=s4.seq hl3;have hin4:=hin3.same s4;have h19:=g19 kU;walk_at "g";rw[glw];intro H5 s5;walk_at "g";refine aA.mk ⟨(s3.trans s4).trans s5,some (.ref t),some (.int (qi:Nat)),some (.ref l2),?_⟩
  rw[eE]
  rfl
 .rintro Z H1 ⟨s1,i7,i8,i9,rfl⟩
  have e:min (ts.map V.ref).length (qs.map fun q=>V.int (q:Nat)).length=bk.length:=by rw[List.length_map,List.length_map,hall.len,hlq,Nat.min_self]
  rw[e];walk_at "g";exact q _ s1
def GT (K:Frag):Sp:=fun vs H Q _=>∃(g pl en:Addr) (bls:List V) (x:Pn) (es:List Nat) (M:Nat),vs=[.ref g,.ref pl,.ref en]/\SqT K H g bls/\Pl H pl x.pk x.pb x.pm x.ps x.pg/\SqL K H en (es.map fun e=>V.int (e:Nat))/\es≠[]/\es.length<=100/\(∃ e∈es,(e+7) / 8=M)/\(∀ e∈es,(e+7) / 8<=M)/\iV bls.length x.pm/\iV M x.ps/\∀H',ay H H'->Q (.bl true) H'
theorem uj {m:Nat}(h:0 < m):(1:Int)*2^((m:Int) - 1).toNat=((2^(m - 1):Nat):Int):=by
 rw[Int.one_mul,show((m:Int) - 1).toNat=m - 1 by lia,Int.natCast_pow]
 rfl
theorem uD (B:Bi mg) (D:qd K mg):Has P w K mg base 1 "_law_least" ["_law_guest_here","_law_plan","_law_ends"] (GT K):=by
 refine D.has nZ (fun vs H Q E h=> ?_) (fun f cdv A outer s H vs Q E hr h=> ?_)
 .obtain⟨g,pl,en,bls,x,es,M,rfl,_⟩:=h
  rfl
 obtain⟨g,pl,en,bls,x,es,M,rfl,hg,hpl,hen,hne,h100,hM1,hM2,lm,ls,q⟩:=h;have hpa:=hpl.at_;have hms:=hpl.ms;have p2:atI [V.int x.pk,V.int x.pb,V.int x.pm,V.int x.ps,V.int x.pg] 2=some (.int x.pm):=a9 (j:=2) rfl;have p3:atI [V.int x.pk,V.int x.pb,V.int x.pm,V.int x.ps,V.int x.pg] 3=some (.int x.ps):=a9 (j:=3) rfl;have ep:∀n:Nat,(1:Int)*2^((n:Nat):Int).toNat=((2^n:Nat):Int):=fun n=>by
  rw[Int.one_mul,Int.toNat_natCast,Int.natCast_pow]
  rfl
 have cpm:mQ 1 (x.pm:Int):=⟨by lia,by lia,by decide⟩
 have cps:mQ 1 (x.ps:Int):=⟨by lia,by lia,by decide⟩
 refine⟨_,(ac (psS 3 nZ.nd (aF (vS (by rfl)) (by rfl) B.max ur (pa1 (kY (by rfl) (by rfl) (by rfl) (bk (sc0:=ag gO) (N0:=["_law_guest_here","_law_plan","_law_ends","_law_many"]) ["_law_end"] 1 []) (pi (pv 2)) (fun _ _ _ _=>(aP (i:=0) (show List.Nodup (["_law_end"]:List Str) by decide) (by rfl) (by left;rfl))) (fun _ _ _ _=>(aj dH (aj aO (pv 0) aa) aa))))))
   (ac (aL (bn (ax (PW.pt (gk (pcT lf (aF aC (by rfl) B.len bT (pa1 (pv 0))) (aj cU aa (pX ai (pv 1) aa))) (d5 (pcT lf (pv 3) (aj cU aa (pX ai (pv 1) aa)))))) (ae (ah vj)) al)))
   (ae (ah (En (pH (pcE aG (pX ai (pv 1) aa) aa) (iZ (pcE lf (aF aC (by rfl) B.len bT (pa1 (pv 0))) (aj cU aa (aj a_ (pX ai (pv 1) aa) aa))))) (iZ (pH (pcE aG (pX ai (pv 1) aa) aa) (iZ (pcE lf (pv 3) (aj cU aa (aj a_ (pX ai (pv 1) aa) aa))))))))))),?_⟩
 try dsimp only[aY]
 walk_at "g";intro p hp;refine vJ (a:=en) (xs:=es.map fun e=>V.int (e:Nat)) (fun i ys H'=>aA (ys=(es.take i).map (fun e=>V.int (((e+7) / 8:Nat):Int))/\H' p=some (.lst ys)/\ay H H')) ⟨rfl,ad,af hp _⟩ (fun i ys H' h=>h.out.2.2.seq hen) ?_ ?_
 .rintro i u ys H1 F hF hi ⟨rfl,h3,s1⟩
  obtain⟨e,ee,rfl⟩:=bv hi;have hz:((es.take i).map (fun e=>V.int (((e+7) / 8:Nat):Int))).length < sizeLine:=Nat.lt_of_le_of_lt (show _<=100 by rw[List.length_map,List.length_take];lia) (by decide)
  walk_at "g";refine hF _ _ (aA.mk ⟨?_,ad,eK hp s1⟩)
  rw[List.take_succ,ee,List.map_append]
  rfl
 .rintro ys H1 ⟨rfl,h3,s1⟩
  rw[List.length_map,List.take_length] at h3;have hq:SqL K H1 p ((es.map fun e=>(((e+7) / 8:Nat):Int)).map V.int):=by rw[List.map_map];exact SqL.of h3
  have hne2:(es.map fun e=>(((e+7) / 8:Nat):Int))≠[]:=fun z=>hne (List.map_eq_nil_iff.mp z)
  have pl1:=s1 _ _ hpa;have g1:=s1.tup hg;walk_at "g";intro m hm1 hm2;have em:m=(M:Nat):=by
   obtain⟨e1,h1,r1⟩:=List.mem_map.mp hm1;obtain⟨e2,h2,r2⟩:=hM1;have a1:=hM2 e1 h1;have a2:=hm2 _ (List.mem_map.mpr ⟨e2,h2,rfl⟩)
   lia
  subst em;clear hm1 hm2 hne hne2 hq h3;have g1':SqL K H1 g bls\/SqT K H1 g bls:= .inr g1;have h1:((bls.length:Nat):Int)<=((2^x.pm:Nat):Int):=Int.ofNat_le.mpr lm.1;have h2:((M:Nat):Int)<=((2^x.ps:Nat):Int):=Int.ofNat_le.mpr ls.1;walk_at "g";refine⟨fun Z' H'=>aA (H'=H1/\Z'=[some (.ref g),some (.ref pl),some (.ref en),some (.int (M:Nat))]),?_,?_⟩
  .walk_at "g";rw[ep];refine aV (fun c=>absurd c (by lia)) (fun _=> ?_)
   walk_at "g";rw[ep];refine aV (fun c=>absurd c (by lia)) (fun _=> ?_)
   exact aA.mk ⟨rfl,rfl⟩
  rintro Z' H' ⟨rfl,rfl⟩
  walk_at "g"
  by_cases zm:x.pm=0
  .refine aV (fun _=> ?_) (fun c=>absurd (by rw[zm];rfl) c)
   walk_at "g"
   by_cases zs:x.ps=0
   .refine aV (fun _=> ?_) (fun c=>absurd (by rw[zs];rfl) c)
    exact q _ s1
   .refine aV (fun c=>absurd (V.int.inj c) (by lia)) (fun _=> ?_)
    have h4:((2^(x.ps - 1):Nat):Int) < ((M:Nat):Int):=Int.ofNat_lt.mpr (ls.2 _ (by lia))
    have cp4:mQ 1 ((x.ps:Int) - 1):=⟨by lia,by lia,by decide⟩
    walk_at "g";rw[uj (by lia)]
    show Q (V.bl (decide (((2^(x.ps - 1):Nat):Int) < ((M:Nat):Int)))) H'
    rw[decide_eq_true h4];exact q _ s1
  .refine aV (fun c=>absurd (V.int.inj c) (by lia)) (fun _=> ?_)
   have h3:((2^(x.pm - 1):Nat):Int) < ((bls.length:Nat):Int):=Int.ofNat_lt.mpr (lm.2 _ (by lia))
   have cp3:mQ 1 ((x.pm:Int) - 1):=⟨by lia,by lia,by decide⟩
   walk_at "g";rw[uj (by lia),decide_eq_true h3]
   walk_at "g"
   by_cases zs:x.ps=0
   .refine aV (fun _=> ?_) (fun c=>absurd (by rw[zs];rfl) c)
    exact q _ s1
   .refine aV (fun c=>absurd (V.int.inj c) (by lia)) (fun _=> ?_)
    have h4:((2^(x.ps - 1):Nat):Int) < ((M:Nat):Int):=Int.ofNat_lt.mpr (ls.2 _ (by lia))
    have cp4:mQ 1 ((x.ps:Int) - 1):=⟨by lia,by lia,by decide⟩
    walk_at "g";rw[uj (by lia)]
    show Q (V.bl (decide (((2^(x.ps - 1):Nat):Int) < ((M:Nat):Int)))) H'
    rw[decide_eq_true h4];exact q _ s1
theorem zQ {κ:Type} [DecidableEq κ] {a b:List (κ × V)}{k:κ}:gI (a++b) k=(gI a k).or (gI b k):=by
 induction a with
 | nil=>rfl
 | cons p r ih=>
  rw[List.cons_append]
  by_cases e:p.1=k
  .rw[iA e,iA e]
   rfl
  .rw[gj e,gj e,ih]
theorem yC {n u:Nat}:∀ {a:Nat}{bs:List Nat}{j q:Nat},bs[j]? =some q->gI (gL n u a bs) (pk u (a+j))=some (.int ((u*n+q:Nat):Int))
 | a,b::r,0,q,h=>by
  have e:b=q:=by simpa using h
  subst e;exact iA rfl
 | a,b::r,j+1,q,h=>by
  rw[List.getElem?_cons_succ] at h;show gI ((pk u a,_)::gL n u (a+1) r) _=_
  rw[gj (fun z=>by have:=(wR z).2;lia),show a+(j+1)=a+1+j by lia]
  exact yC h
 | _,[],j,q,h=>by simp at h
theorem vX {n u v:Nat}(hv:v≠u):∀ {a:Nat}{bs:List Nat}{j:Nat},gI (gL n u a bs) (pk v j)=none
 | _,[],_=>rfl
 | a,b::r,j=>by
  show gI ((pk u a,_)::gL n u (a+1) r) _=_
  rw[gj (fun z=>hv (wR z).1.symm)]
  exact vX hv
theorem sL {n:Nat}:∀ {u:Nat}{bss:List (List Nat)}{b j q:Nat}{bs:List Nat},bss[b]? =some bs->bs[j]? =some q->gI (dL n u bss) (pk (u+b) j)=some (.int (((u+b)*n+q:Nat):Int))
 | u,c::r,0,j,q,bs,h,h2=>by
  have e:c=bs:=by simpa using h
  subst e;show gI (gL n u 0 c++dL n (u+1) r) _=_
  rw[zQ,Nat.add_zero];have:=yC (n:=n) (u:=u) (a:=0) h2;rw[Nat.zero_add] at this;rw[this]
  rfl
 | u,c::r,b+1,j,q,bs,h,h2=>by
  rw[List.getElem?_cons_succ] at h;show gI (gL n u 0 c++dL n (u+1) r) _=_
  rw[zQ,vX (by lia),show u+(b+1)=u+1+b by lia]
  exact sL h h2
 | _,[],_,_,_,_,h,_=>by simp at h
def nmF (u:Nat):List Nat->List (Int × Int)
 | []=>[]
 | n::r=>((List.range n).map fun j:Nat=>((u:Int),(j:Int)))++nmF (u+1) r
theorem wf {n u:Nat}:∀ {a:Nat}{bs:List Nat},(gL n u a bs).map (·.1)=((List.range' a bs.length).map fun j:Nat=>kP ((u:Int),(j:Int)))
 | _,[]=>rfl
 | a,b::r=>by
  show pk u a::(gL n u (a+1) r).map (·.1)=_
  rw[wf,List.length_cons,List.range'_succ,List.map_cons]
  rfl
theorem vp {n:Nat}:∀ {u:Nat}{bss:List (List Nat)},(dL n u bss).map (·.1)=(nmF u (bss.map List.length)).map kP
 | _,[]=>rfl
 | u,bs::r=>by
  show(gL n u 0 bs++dL n (u+1) r).map (·.1)=((((List.range bs.length).map fun j:Nat=>((u:Int),(j:Int)))++nmF (u+1) (r.map List.length)).map kP)
  rw[List.map_append,List.map_append,vp,wf,List.map_map, <-List.range_eq_range']
  rfl
theorem uM.app {a b:List (Int × Int)}(ha:uM a) (hb:uM b) (h:∀p∈a, ∀q∈b,LtP p q):uM (a++b):=by
 intro i p q e1 e2
 by_cases c:i+1 < a.length
 .rw[List.getElem?_append_left (by lia)] at e1
  rw[List.getElem?_append_left c] at e2;exact ha i p q e1 e2
 .by_cases c2:i < a.length
  .rw[List.getElem?_append_left c2] at e1;rw[List.getElem?_append_right (by lia)] at e2
   exact h p (List.mem_of_getElem? e1) q (List.mem_of_getElem? e2)
  .rw[List.getElem?_append_right (by lia)] at e1 e2
   rw[show i+1 - a.length=i - a.length+1 by lia] at e2
   exact hb _ p q e1 e2
theorem D3:∀ {ls:List Nat}{u:Nat}{p:Int × Int},p∈nmF u ls->(u:Int)<=p.1
 | [],_,_,h=>by cases h
 | n::r,u,p,h=>by
  rcases List.mem_append.mp h with h | h
  .obtain⟨j,_,rfl⟩:=List.mem_map.mp h;exact Int.le_refl _
  .have:=D3 h
   lia
theorem BJ:∀ {ls:List Nat}{u:Nat},uM (nmF u ls)
 | [],_=>fun i p q e=>by cases e
 | n::r,u=>by
  refine uM.app (fun i p q e1 e2=> ?_) BJ (fun p hp q hq=> ?_)
  .rw[List.getElem?_map] at e1 e2
   cases h1:(List.range n)[i]? with
   | none=>rw[h1] at e1;cases e1
   | some a=>
    cases h2:(List.range n)[i+1]? with
    | none=>rw[h2] at e2;cases e2
    | some b=>
     rw[h1] at e1;rw[h2] at e2
     cases e1
     cases e2
     have g1:=(List.getElem?_eq_some_iff.mp h1).2;have g2:=(List.getElem?_eq_some_iff.mp h2).2;rw[List.getElem_range] at g1 g2;exact .inr ⟨rfl,by show(a:Int) < (b:Int);lia⟩
  .obtain⟨j,_,rfl⟩:=List.mem_map.mp hp;have:=D3 hq;exact .inl (by show(u:Int) < q.1;lia)
theorem BA:∀ {a b:List Nat}{u:Nat},nmF u (a++b)=nmF u a++nmF (u+a.length) b
 | [],_,_=>rfl
 | n::r,b,u=>by
  show((List.range n).map fun j:Nat=>((u:Int),(j:Int)))++nmF (u+1) (r++b)=(((List.range n).map fun j:Nat=>((u:Int),(j:Int)))++nmF (u+1) r)++nmF (u+(r.length+1)) b
  rw[BA,List.append_assoc,show u+1+r.length=u+(r.length+1) by lia]
theorem wC:∀ {ls:List Nat}{u:Nat},(∀ n∈ls,n<=30)->(nmF u ls).length<=30*ls.length
 | [],_,_=>Nat.le_refl _
 | n::r,u,h=>by
  show(((List.range n).map fun j:Nat=>((u:Int),(j:Int)))++nmF (u+1) r).length<=30*(r.length+1)
  rw[List.length_append,List.length_map,List.length_range];have:=wC (ls:=r) (u:=u+1) fun z hz=>h z (List.mem_cons_of_mem _ hz)
  have:=h n List.mem_cons_self
  lia
structure BkL (x:Pn) (s2:Nat) (ws:List Int) (tds:List (Option (List SpM.Span))) (PL PL2:List (List Key × V)) (i:Nat) (bk:List Ins) (qs:List Nat) (E:Nat->Nat):Prop where
 len:qs.length=bk.length
 e0:E 0=i*(8*2^x.ps)
 st:∀j kn q,bk[j]? =some kn->qs[j]? =some q->Bu x ws tds (E j) q kn (E (j+1))
 pl:∀j q,qs[j]? =some q->gI PL (pk i j)=some (.int (q:Nat))/\∃q':Nat,gI PL2 (pk i j)=some (.int (q':Nat))/\i*(8*2^x.ps)<=q/\q+i*(8*2^s2)<=q'+i*(8*2^x.ps)
 en:E bk.length=i*(8*2^x.ps)+lnW (thD x.pk x.pb bk).1
 fit:lnW (thD x.pk x.pb bk).1<=8*2^x.ps
 zs:(ws.drop (E bk.length)).take ((i+1)*(8*2^x.ps) - E bk.length)=List.replicate ((i+1)*(8*2^x.ps) - E bk.length) 0
theorem Dv {S tot:Nat}{ds:List Bk}{b:Nat}{d:Bk}(hd:∀d∈ds,lnW d.1<=S) (hb:ds[b]? =some d):∃preB postB,bV S tot ds=preB++(d.1.map (plc S)++(List.replicate (S - lnW d.1) (0,[])++postB))/\lnW preB=b*S:=by
 obtain⟨hlt,ed⟩:=List.getElem?_eq_some_iff.mp hb;have e1:ds=ds.take b++d::ds.drop (b+1):=by rw[<- ed,List.getElem_cons_drop,List.take_append_drop]
 refine⟨(ds.take b).flatMap (fun b=>dJ S b.1),(ds.drop (b+1)).flatMap (fun b=>dJ S b.1)++List.replicate (tot - ds.length*S) (0,[]),?_,?_⟩
 .unfold bV
  conv=>{lhs;arg 1;rw[e1]}
  rw[List.flatMap_append,List.flatMap_cons]
  simp only[dJ,List.append_assoc]
 .rw[jy (fun z hz=>hd z (List.mem_of_mem_take hz)),List.length_take,Nat.min_eq_left (by lia)]
theorem mO:∀n:Nat,av (List.replicate n ((0,[]):Ins))=List.replicate n 0
 | 0=>rfl
 | n+1=>by
  rw[List.replicate_succ,lH,mO n,List.replicate_succ]
  rfl
theorem BL {x:Pn}{t:Int}{b:List Ins}:∀ {a:List Ins}{at_:Nat}{sp:List SpM.Span},okC x t at_ sp (a++b)->okC x t at_ sp a
 | [],_,_,_=>True.intro
 | _::_,_,_,h=>⟨h.1,h.2.1,h.2.2.1,BL h.2.2.2⟩
theorem Gx {x:Pn}{s2:Nat}{gs:List (List Ins)}(hR:SpM.Room x.pk x.pb) (hms:x.pm+x.ps<=7) (hg:GuT x.pg gs) (hm:gs.length<=2^x.pm) (hfit:∀bk∈gs,lnW (thD x.pk x.pb bk).1<=8*2^x.ps) {i:Nat}{bk:List Ins}(hb:gs[i]? =some bk):
  ∃qs E,BkL x s2 (av (bV (8*2^x.ps) (2^x.pm*(8*2^x.ps)) (gs.map (thD x.pk x.pb)))) (fL x 0 w8 (bV (8*2^x.ps) (2^x.pm*(8*2^x.ps)) (gs.map (thD x.pk x.pb)))) (dL (8*2^x.ps) 0 ((gs.map (thD x.pk x.pb)).map (·.2))) (dL (8*2^s2) 0 ((gs.map cz).map (·.2))) i bk qs E:=by
 have co:=mR hR hms hg hm hfit;have hmem:=List.mem_of_getElem? hb;obtain⟨hgi,_,_⟩:=hg.ok.blk bk hmem;have hd:(gs.map (thD x.pk x.pb))[i]? =some (thD x.pk x.pb bk):=by rw[List.getElem?_map,hb];rfl
 obtain⟨preB,postB,ec,ep⟩:=Dv (S:=8*2^x.ps) (tot:=2^x.pm*(8*2^x.ps)) (fun d hd=>by obtain⟨b,h1,rfl⟩:=List.mem_map.mp hd;exact hfit b h1) hd
 have hf:=hfit bk hmem;have hok:=co.ok;rw[ec] at hok ⊢;have ed:thD x.pk x.pb bk=(thB x.pk x.pb bk).1:=rfl;rw[ed] at hok hf ⊢;have hs8:=uy hR hms (BL hok) xZ;have hv:∀m∈(thB x.pk x.pb bk).1.1.map (plc (8*2^x.ps)),VI m:=fun m hmm=>by
  obtain⟨a,b,e⟩:=List.append_of_mem hmm;rw[e,List.append_assoc, <-List.append_assoc] at hok;exact(BN (pre:=preB++a) hok).1
 have stp:=fun {j:Nat}(hj:j < bk.length)=>Cl (postB:=List.replicate (8*2^x.ps - lnW (thB x.pk x.pb bk).1.1) (0,[])++postB) hR hms hgi hm (fun i hi kn e z=>hg.mid bk hmem i hi kn e (.inr (.inr z))) ep (by rw[show i*(8*2^x.ps)=8*(i*2^x.ps) by ac_rfl];exact Nat.mul_mod_right 8 _) hs8 hv hj
 have hbs:=ml x.pk x.pb bk bk.length (Nat.le_refl _);rw[List.take_length] at hbs;have hS:(i+1)*(8*2^x.ps)=i*(8*2^x.ps)+8*2^x.ps:=Nat.succ_mul _ _;refine⟨(thB x.pk x.pb bk).1.2.map (i*(8*2^x.ps)+ ·),fun j=>i*(8*2^x.ps)+lnW (thB x.pk x.pb (bk.take j)).1.1,by rw[List.length_map,hbs],rfl,fun j kn q e1 e2=> ?_,fun j q e=> ?_,by rw[List.take_length];rfl,hf,?_⟩
 .have hj:=(List.getElem?_eq_some_iff.mp e1).1;obtain⟨q0,h1,h2⟩:=stp hj;have ek:bk[j]=kn:=(List.getElem?_eq_some_iff.mp e1).2;rw[List.getElem?_map,h1] at e2;have e2:i*(8*2^x.ps)+q0=q:=Option.some.inj e2;rw[<- e2, <-ek];exact h2
 .rw[List.getElem?_map] at e;obtain⟨q0,h1,rfl⟩:∃q0,(thB x.pk x.pb bk).1.2[j]? =some q0/\i*(8*2^x.ps)+q0=q:=by
   cases h:(thB x.pk x.pb bk).1.2[j]? with
   | none=>rw[h] at e;cases e
   | some q0=>rw[h] at e;exact⟨q0,rfl,Option.some.inj e⟩
  have hj:j < bk.length:=by have:=(List.getElem?_eq_some_iff.mp h1).1;lia
  obtain⟨qa,qb,g1,g2,g3⟩:=DJ (pk:=x.pk) (pb:=x.pb) hj;rw[h1] at g1
  cases g1
  have v1:=sL (n:=8*2^x.ps) (u:=0) (bss:=(gs.map (thD x.pk x.pb)).map (·.2)) (b:=i) (j:=j) (q:=q0) (bs:=(thB x.pk x.pb bk).1.2) (by rw[List.getElem?_map,hd];rfl) h1
  have v2:=sL (n:=8*2^s2) (u:=0) (bss:=(gs.map cz).map (·.2)) (b:=i) (j:=j) (q:=qb) (bs:=(cz bk).2) (by rw[List.getElem?_map,List.getElem?_map,hb];rfl) g2
  rw[Nat.zero_add] at v1 v2;exact⟨v1,i*(8*2^s2)+qb,v2,by lia,by lia⟩
 .rw[List.take_length,hS,show i*(8*2^x.ps)+8*2^x.ps - (i*(8*2^x.ps)+lnW (thB x.pk x.pb bk).1.1)=8*2^x.ps - lnW (thB x.pk x.pb bk).1.1 by lia]
  have e1:i*(8*2^x.ps)+lnW (thB x.pk x.pb bk).1.1=(av (preB++(thB x.pk x.pb bk).1.1.map (plc (8*2^x.ps)))).length:=by rw[ci,a8,eG,ep]
  have e2:av (preB++((thB x.pk x.pb bk).1.1.map (plc (8*2^x.ps))++(List.replicate (8*2^x.ps - lnW (thB x.pk x.pb bk).1.1) (0,[])++postB)))=av (preB++(thB x.pk x.pb bk).1.1.map (plc (8*2^x.ps)))++(List.replicate (8*2^x.ps - lnW (thB x.pk x.pb bk).1.1) 0++av postB):=by
   rw[<- List.append_assoc,dO,dO (List.replicate _ _),mO]
  rw[e2,e1,List.drop_left,List.take_left' (by rw[List.length_replicate])]
theorem Ar:∀ {ds:List Bk},ds≠[]->∃M,pw M ds
 | [],h=>absurd rfl h
 | [d],_=>⟨bun d,⟨d,List.mem_cons_self,rfl⟩,fun e he=>by rw[List.mem_singleton.mp he];exact Nat.le_refl _⟩
 | d::e::r,_=>by
  obtain⟨M,h1,h2⟩:=Ar (ds:=e::r) (by intro z;cases z)
  by_cases c:M<=bun d
  .exact⟨bun d,⟨d,List.mem_cons_self,rfl⟩,fun f hf=>by
    rcases List.mem_cons.mp hf with rfl | hf
    .exact Nat.le_refl _
    .exact Nat.le_trans (h2 f hf) c⟩
  .obtain⟨f,hf,e1⟩:=h1
   exact⟨M,⟨f,List.mem_cons_of_mem _ hf,e1⟩,fun f hf=>by
    rcases List.mem_cons.mp hf with rfl | hf
    .lia
    .exact h2 f hf⟩
theorem zE {n b c:Nat}(h:iV n b) (hn:n<=2^c):b<=c:=by
 by_cases z:b<=c
 .exact z
 .have:=h.2 c (by lia)
  lia
def FF (K:Frag):Sp:=fun vs H Q _=>∃(gst rm:Addr) (bls:List Addr) (gs:List (List Ins)) (rk rb gt:Int) (M:Nat),vs=[.ref gst,.ref rm,.int gt]/\SqT K H gst (bls.map V.ref)/\GSt K H bls gs/\SqT K H rm [.int rk,.int rb]/\
 GuB gs/\pw M (gs.map cz)/\∀m s,iV gs.length m->iV M s->m+s<=7/\∀r H',ay H H'->sI H H' r (gs.map cz) rk rb gt m s->Q (.ref r) H'
theorem IF {CT:Addr}{vs:List V}{H:Hp}{Q:VK}{E:XK}(h:FF K vs H Q E):CN K CT vs H Q E0:=by
 obtain⟨gst,rm,bls,gs,rk,rb,gt,M,h1,h2,h3,h4,h5,h6,q⟩:=h;refine⟨gst,rm,bls,gs,rk,rb,gt,M,h1,h2,h3,h4,h5,h6,fun m s hm hs=> ?_⟩
 obtain⟨q1,q2⟩:=q m s hm hs;exact⟨fun z=>absurd q1 (by lia),fun _=>q2⟩
def EU (K:Frag):Sp:=fun vs H Q _=>∃(gst rm:Addr) (bls:List Addr) (gs:List (List Ins)) (rk:Nat) (rb gt:Int) (M:Nat),vs=[.ref gst,.ref rm,.int gt]/\SqT K H gst (bls.map V.ref)/\GSt K H bls gs/\SqT K H rm [.int rk,.int rb]/\
 GuB gs/\(∀ bk∈gs, ∀kn∈bk,kn.1≠16)/\SpM.Room rk rb/\pw M (gs.map (thD rk rb))/\∀m s,iV gs.length m->iV M s->m+s<=7/\∀r H',ay H H'->sI H H' r (gs.map (thD rk rb)) rk rb gt m s->Q (.ref r) H'
theorem HX {CT:Addr}{vs:List V}{H:Hp}{Q:VK}{E:XK}(h:EU K vs H Q E):EB K CT vs H Q E0:=by
 obtain⟨gst,rm,bls,gs,rk,rb,gt,M,h1,h2,h3,h4,h5,h6,h7,h8,q⟩:=h;refine⟨gst,rm,bls,gs,rk,rb,gt,M,h1,h2,h3,h4,h5,h6,h7,h8,fun m s hm hs=> ?_⟩
 obtain⟨q1,q2⟩:=q m s hm hs;exact⟨fun z=>absurd q1 (by lia),fun _=>q2⟩
theorem C8 {gs:List (List Ins)}{D:List Ins->Bk}{M s:Nat}(hM:pw M (gs.map D)) (hs:iV M s):∀bk∈gs,lnW (D bk).1<=8*2^s:=fun bk hb=>by
 have h1:=hM.le (D bk) (List.mem_map_of_mem hb);have h2:=hs.1;unfold bun at h1
 lia
theorem DH {gs:List (List Ins)}{D:List Ins->Bk}{M s:Nat}(hM:pw M (gs.map D)) (hs:iV M s) (h:∀bk∈gs,lnW (D bk).1<=if bk.length %2=0 then 4*bk.length else 4*(bk.length - 1)+3) (h30:∀bk∈gs,bk.length<=30):s<=4:=zE hs (by
 obtain⟨d,hd,e⟩:=hM.mem;obtain⟨bk,hb,rfl⟩:=List.mem_map.mp hd;have h1:=h bk hb;have h2:=h30 bk hb;unfold bun at e
 split at h1 <;> lia)
structure B81 (K:Frag) (H:Hp) (g pl cd td pd md m1 m2 m3:Addr) (x y:Pn) (ws:List Int) (tv:List V) (tds:List (Option (List SpM.Span))) (PL PL2:List (List Key × V)) (bls:List Addr) (gs:List (List Ins)):Prop where
 gu:SqT K H g (bls.map V.ref)
 gst:GSt K H bls gs
 pl:Pl H pl x.pk x.pb x.pm x.ps x.pg
 cd:SqL K H cd (ws.map V.int)
 td:SqL K H td tv
 ta:TdA K H tv tds
 pd:H pd=some (.dT PL)
 md:H md=some (.tup [.ref m1,.ref m2,.ref m3])
 m1:H m1=some (.tup [.int y.pk,.int y.pb,.int y.pm,.int y.ps,.int y.pg])
 m3:H m3=some (.dT PL2)
theorem B81.same {H H':Hp}{g pl cd td pd md m1 m2 m3:Addr}{x y:Pn}{ws:List Int}{tv:List V}{tds:List (Option (List SpM.Span))}{PL PL2:List (List Key × V)}{bls:List Addr}{gs:List (List Ins)}(h:B81 K H g pl cd td pd md m1 m2 m3 x y ws tv tds PL PL2 bls gs) (e:ay H H'):B81 K H' g pl cd td pd md m1 m2 m3 x y ws tv tds PL PL2 bls gs:=
 ⟨e.tup h.gu,h.gst.same e,h.pl.mv e,e.seq h.cd,e.seq h.td,h.ta.same e,e _ _ h.pd,e _ _ h.md,e _ _ h.m1,e _ _ h.m3⟩
theorem CM {ws:List Int}{a b:Nat}(h:a<=ws.length):fZ (ws.map V.int) (some ((a:Nat):Int)) (some ((b:Nat):Int))=((ws.drop a).take (b - a)).map V.int:=by
 unfold fZ;rw[HT.sIx_nat,HT.sIx_nat,List.length_map,Nat.min_eq_left h, <-List.map_drop, <-List.map_take]
 congr 1
 by_cases c:b<=ws.length
 .rw[Nat.min_eq_left c]
 .rw[Nat.min_eq_right (by lia),List.take_of_length_le (by rw[List.length_drop];exact Nat.le_refl _),List.take_of_length_le (by rw[List.length_drop];lia)]
theorem zp (n:Nat):(List.replicate n [V.int 0]).flatten=(List.replicate n (0:Int)).map V.int:=by
 induction n with
 | zero=>rfl
 | succ n ih=>rw[List.replicate_succ,List.flatten_cons,ih,List.replicate_succ,List.map_cons];rfl
def HR (K:Frag):Sp:=fun vs H Q _=>∃(g pl cd td pd md m1 m2 m3:Addr) (x y:Pn) (ws:List Int) (tv:List V) (tds:List (Option (List SpM.Span))) (PL PL2:List (List Key × V)) (bls:List Addr) (gs:List (List Ins)),vs=[.ref g,.ref pl,.ref cd,.ref td,.ref pd,.ref md]/\B81 K H g pl cd td pd md m1 m2 m3 x y ws tv tds PL PL2 bls gs/\(∀ z∈ws,0<=z)/\(∀ i,i < gs.length->(i+1)*(8*2^x.ps)<=ws.length)/\y.ps<=7/\gs.length<=16/\(∀ bk∈gs,bk.length<=30/\∀kn∈bk,GI gs.length x.pg kn)/\
 (∀ i bk,gs[i]? =some bk->∃qs E,BkL x y.ps ws tds PL PL2 i bk qs E)/\∀l H',ay H H'->SqL K H' l (gs.map fun bk=>V.int ((lnW (thD x.pk x.pb bk).1:Nat):Int))->Q (.ref l) H'
theorem tU (B:Bi mg) (D:oh K mg) (jR:Has P w K mg base 9 "_law_block" ["_law_plan","_law_code","_law_told","_law_block_here","_law_begin","_law_places"] (FO K)):Has P w K mg base 10 "_law_blocks" ["_law_guest_here","_law_plan","_law_code","_law_told","_law_places","_law_made"] (HR K):=by
 refine D.has bO (fun vs H Q E h=> ?_) (fun f cdv A outer s H vs Q E' hr h=> ?_)
 .obtain⟨g,pl,cd,td,pd,md,m1,m2,m3,x,y,ws,tv,tds,PL,PL2,bls,gs,rfl,_⟩:=h
  rfl
 obtain⟨g,pl,cd,td,pd,md,m1,m2,m3,x,y,ws,tv,tds,PL,PL2,bls,gs,rfl,J,hw0,hws,hy7,g16,hgb,hbk,q⟩:=h;have hpa:=J.pl.at_;have hms:=J.pl.ms;have p3:atI [V.int x.pk,V.int x.pb,V.int x.pm,V.int x.ps,V.int x.pg] 3=some (.int x.ps):=a9 (j:=3) rfl;have ep:∀n:Nat,(8:Int)*2^((n:Nat):Int).toNat=((8*2^n:Nat):Int):=fun n=>by
  rw[Int.toNat_natCast,Int.natCast_mul,Int.natCast_pow]
  rfl
 have cps:mQ 8 (x.ps:Int):=⟨by lia,by lia,by decide⟩
 have gl:(bls.map V.ref).length=gs.length:=by rw[List.length_map,J.gst.1]
 have gq:SqL K H g (bls.map V.ref)\/SqT K H g (bls.map V.ref):= .inr J.gu
 refine⟨_,(ac (psS 6 bO.nd (aT cY))
   (ac (psS 7 bO.nd (aj cU aa (pX ai (pv 1) aa)))
   (ac (d8 PassesOwn.never (by rfl) (dB (dU (by rfl) B.range (pa1 (aF aC (by rfl) B.len bT (pa1 (pv 0)))))) (aP (i:=8) bO.nd (by rfl) (by right;rfl)) (ac (xX (i:=9) (by rfl) (by rfl) (by rfl) (bk (sc0:=ag eC) (N0:=["_law_guest_here","_law_plan","_law_code","_law_told","_law_places","_law_made","_law_ends","_law_stretch","_law_i","_law_own","_law_theirs","_law_end","_law_at_here","_law_other"]) ["_law_j","_law_places","_law_i"] 1 [4,8]) bO.nd (by rfl) (by left;rfl) (dU (by rfl) B.range (pa1 (aF aC (by rfl) B.len bT (pa1 (pX ai (pv 0) (pv 8)))))) (fun _ _ _ _=>(aP (i:=0) (show List.Nodup (["_law_j","_law_places","_law_i"]:List Str) by decide) (by rfl) (by left;rfl))) (fun _ _ _ _=>(BX (Es hr) (pv 1) (aw (pa2 (pv 2) (pv 0))) (by intro _ _;rfl))))
   (ac (xX (i:=10) (by rfl) (by rfl) (by rfl) (bk (sc0:=ag eC) (N0:=["_law_guest_here","_law_plan","_law_code","_law_told","_law_places","_law_made","_law_ends","_law_stretch","_law_i","_law_own","_law_theirs","_law_end","_law_at_here","_law_other"]) ["_law_j","_law_made","_law_i"] 1 [5,8]) bO.nd (by rfl) (by left;rfl) (dU (by rfl) B.range (pa1 (aF aC (by rfl) B.len bT (pa1 (pX ai (pv 0) (pv 8)))))) (fun _ _ _ _=>(aP (i:=0) (show List.Nodup (["_law_j","_law_made","_law_i"]:List Str) by decide) (by rfl) (by left;rfl))) (fun _ _ _ _=>(BX (Es hr) (pX (Bc (K:=K) (by rfl)) (pv 1) aa) (aw (pa2 (pv 2) (pv 0))) (by intro _ _;rfl))))
   (ac (psS 11 bO.nd (pcH jR hr (aN (pv 1) (aN (pv 2) (aN (pv 3) (aN (pX ai (pv 0) (pv 8)) (aN (aj bz (pv 8) (pv 7)) (aN (pv 9) cY))))))))
   (ac (aL (bn (ax (PW.pt (gk (mB (qK (pv 11))) (d5 (pcT (Al (uU hr)) (dm BS (pv 2) (dW (pv 11)) (dW (aj bz (aj aO (pv 8) aa) (pv 7)))) (aj tw (aT (pa1 aa)) (aj a_ (aj bz (aj aO (pv 8) aa) (pv 7)) (pv 11))))))) (ae (ah cQ)) al)))
   (ac (d8 PassesOwn.never (by rfl) (dB (An (by rfl) B.zip (pa2 (pv 9) (pv 10)))) (lL (n:=2) (by rfl) (bQ (aP (i:=12) bO.nd (by rfl) (by left;rfl)) (bQ (aP (i:=13) bO.nd (by rfl) (by left;rfl)) iL))) (ae (ax (pcT lf (aj a_ (pv 12) (aj bz (pv 8) (pv 7))) (aj a_ (pv 13) (aj bz (pv 8) (aj cU aa (pX ai (pX ai (pv 5) aa) aa))))) (ae (ah cQ)) al)))
   (ae (bj (fe PySem.F.plainAttrs_list PySem.F.slot_list_append PySem.F.type_list_append bJ (pv 6) (pa1 (aj a_ (pv 11) (aj bz (pv 8) (pv 7)))))))))))))
   (ae (ah (pv 6)))))),?_⟩
 try dsimp only[aY]
 walk_at "g";intro l hl;have s0:=af hl (.lst []);have l0:upd H l (.lst []) l=some (.lst []):=ad;have J0:=J.same s0;generalize upd H l (.lst [])=H0 at*;have hpa0:=J0.pl.at_;have gq0:SqL K H0 g (bls.map V.ref)\/SqT K H0 g (bls.map V.ref):= .inr J0.gu;have b62: -(2^62)<=((bls.map V.ref).length:Int)/\((bls.map V.ref).length:Int) < 2^62:=by rw[gl];lia
 walk_at "g";refine⟨jz (fun i Z H'=>aA (∃ i8 i9 i10 i11 i12 i13:Option V,ay H H'/\H' l=some (.lst ((gs.take i).map fun bk=>V.int ((lnW (thD x.pk x.pb bk).1:Nat):Int)))/\Z=[some (.ref g),some (.ref pl),some (.ref cd),some (.ref td),some (.ref pd),some (.ref md),some (.ref l),some (.int ((8*2^x.ps:Nat):Int)),i8,i9,i10,i11,i12,i13])) ⟨none,none,none,none,none,none,s0,l0,(by rw[<- ep];rfl)⟩ ?_ ?_⟩
 .rintro i Z H1 hi ⟨i8,i9,i10,i11,i12,i13,s1,l1,rfl⟩
  have hig:i < gs.length:=by rw[gl] at hi;simp at hi;lia
  have hb:gs[i]? =some gs[i]:=List.getElem?_eq_getElem hig;generalize gs[i]=bk at*;have J1:=J.same s1;obtain⟨bt,ebt⟩:∃bt,bls[i]? =some bt:=⟨_,List.getElem?_eq_getElem (by rw[J.gst.1];exact hig)⟩
  obtain⟨ts,hts,hin⟩:=J1.gst.2 i bt bk ebt hb;have ebi:atI (bls.map V.ref) ((0:Int)+(i:Int))=some (.ref bt):=by rw[Int.zero_add];exact a9 (by rw[List.getElem?_map,ebt];rfl)
  have gq1:=J1.gu;have tq1:SqL K H1 bt (ts.map V.ref)\/SqT K H1 bt (ts.map V.ref):= .inr hts;obtain⟨qs,E,L⟩:=hbk i bk hb;obtain⟨h30,hgi⟩:=hgb bk (List.mem_of_getElem? hb);have tl:(ts.map V.ref).length=bk.length:=by rw[List.length_map,hin.len]
  have b62': -(2^62)<=((ts.map V.ref).length:Int)/\((ts.map V.ref).length:Int) < 2^62:=by rw[tl];lia
  have en:((ts.map V.ref).length:Int).toNat=bk.length:=by rw[tl];rfl
  have ebi2:atI (bls.map V.ref) (i:Int)=some (.ref bt):=by rw[Int.zero_add] at ebi;exact ebi
  clear hi;walk_at "g";rw[Int.zero_add,en];intro p hp;refine kX (lo:=0) (n:=bk.length) (fun j ys H'=>aA (ay H1 H'/\H' p=some (.lst ys)/\ys=(qs.take j).map fun q=>V.int (q:Nat))) ⟨af hp _,ad,rfl⟩ ?_ ?_
  .rintro j ys H2 F hF hj ⟨s2,h3,rfl⟩
   obtain⟨qj,eq⟩:∃qj,qs[j]? =some qj:=⟨_,List.getElem?_eq_getElem (by rw[L.len];exact hj)⟩
   have hz:((qs.take j).map fun q=>V.int (q:Nat)).length < sizeLine:=Nat.lt_of_le_of_lt (show _<=30 by rw[List.length_map,List.length_take,L.len];lia) (by decide)
   walk_at "g";rw[Int.zero_add];intro kt hkt;have s3:=af hkt (.tup [.int (i:Nat),.int (j:Nat)]);have dg:DK (upd H2 kt (.tup [.int (i:Nat),.int (j:Nat)])) pd (.ref kt) (some (.int (qj:Nat))):= .inr ⟨PL,pk i j,kt,.inl (s3 _ _ (s2 _ _ J1.pd)),rfl,ad,(L.pl j qj eq).1.symm⟩;have h33:=s3 _ _ h3;walk_at "g";refine hF _ _ (aA.mk ⟨eK hp (s2.trans s3),ad,?_⟩)
   rw[List.take_succ,eq,List.map_append]
   rfl
  rintro ys H2 ⟨s2,h2,rfl⟩
  rw[show qs.take bk.length=qs by rw[<- L.len,List.take_length]] at h2
  have J2:=J1.same s2;have gq2:=J2.gu;have tq2:SqL K H2 bt (ts.map V.ref)\/SqT K H2 bt (ts.map V.ref):= .inr (s2.tup hts);walk_at "g";rw[en];intro p3 hp3;have am:atI [V.ref m1,V.ref m2,V.ref m3] 2=some (.ref m3):=rfl;refine kX (lo:=0) (n:=bk.length) (fun j ys H'=>aA (ay H2 H'/\H' p3=some (.lst ys)/\∃rs:List Nat,ys=rs.map (fun q=>V.int (q:Nat))/\rs.length=j/\∀(k q r:Nat),qs[k]? =some q->rs[k]? =some r->i*(8*2^x.ps)<=q/\q+i*(8*2^y.ps)<=r+i*(8*2^x.ps))) ⟨af hp3 _,ad,[],rfl,rfl,fun k q r _ e=>by simp at e⟩ ?_ ?_
  .rintro j ys H3 F hF hj ⟨s3,h3,rs,rfl,hlr,hrs⟩
   obtain⟨qj,eq⟩:∃qj,qs[j]? =some qj:=⟨_,List.getElem?_eq_getElem (by rw[L.len];exact hj)⟩
   obtain⟨r,er,f1,f2⟩:=(L.pl j qj eq).2;have hz:(rs.map fun q=>V.int (q:Nat)).length < sizeLine:=Nat.lt_of_le_of_lt (show _<=30 by rw[List.length_map,hlr];lia) (by decide)
   have md3:SqT K H3 md [V.ref m1,V.ref m2,V.ref m3]:=SqT.of (s3 _ _ J2.md);walk_at "g";rw[Int.zero_add];intro kt hkt;have s4:=af hkt (.tup [.int (i:Nat),.int (j:Nat)]);have dg:DK (upd H3 kt (.tup [.int (i:Nat),.int (j:Nat)])) m3 (.ref kt) (some (.int (r:Nat))):= .inr ⟨PL2,pk i j,kt,.inl (s4 _ _ (s3 _ _ J2.m3)),rfl,ad,er.symm⟩;have h33:=s4 _ _ h3;walk_at "g";refine hF _ _ (aA.mk ⟨eK hp3 (s3.trans s4),ad,rs++[r],by rw[List.map_append];rfl,by rw[List.length_append,hlr];rfl,fun k q r' e1 e2=> ?_⟩)
   by_cases c:k < rs.length
   .rw[List.getElem?_append_left c] at e2;exact hrs k q r' e1 e2
   .have ek:k=j:=by
     have:=(List.getElem?_eq_some_iff.mp e2).1;rw[List.length_append,List.length_singleton] at this
     lia
    subst ek;rw[<- hlr,List.getElem?_append_right (Nat.le_refl _),Nat.sub_self] at e2
    cases e2
    rw[eq] at e1
    cases e1
    exact⟨f1,f2⟩
  rintro ys H3 ⟨s3,h3,rs,rfl,hlr,hrs⟩
  have J3:=J2.same s3;have h23:SqL K H3 p (qs.map fun q=>V.int (q:Nat)):=SqL.of (s3 _ _ h2)
  have h33:SqL K H3 p3 (rs.map fun q=>V.int (q:Nat)):=SqL.of h3
  have gb3:GBk K H3 bt bk:=⟨ts,(s2.trans s3).tup hts,hin.same (s2.trans s3)⟩;have hS:8*2^x.ps<=1024:=Nat.mul_le_mul_left 8 (show 2^x.ps<=2^7 from Nat.pow_le_pow_right (by decide) (by lia))
  have cm:qm (i:Int) ((8*2^x.ps:Nat):Int):= .inr ⟨by lia,by lia⟩
  have heb:(i:Int)*((8*2^x.ps:Nat):Int)=((E 0:Nat):Int):=by rw[L.e0];exact(Int.natCast_mul _ _).symm
  have pl3:=J3.pl;have cd3:=J3.cd;have td3:=J3.td;have ta3:=J3.ta;have gq3:=J3.gu;have hlen:=L.len;have hst:=L.st;walk_at "g";intro H4 s4;have J4:=J3.same s4;have e5:((i:Int)+1)*((8*2^x.ps:Nat):Int)=(((i+1)*(8*2^x.ps):Nat):Int):=by rw[Int.natCast_mul];rfl
  have hEl:E bk.length<=(i+1)*(8*2^x.ps):=by rw[L.en,show(i+1)*(8*2^x.ps)=i*(8*2^x.ps)+8*2^x.ps from Nat.succ_mul _ _];exact Nat.add_le_add_left L.fit _
  have hE2:(i+1)*(8*2^x.ps)<=16*1024:=Nat.mul_le_mul (by lia) hS
  have hlm:(rs.map fun q=>V.int (q:Nat)).length=(qs.map fun q=>V.int (q:Nat)).length:=by rw[List.length_map,List.length_map,hlr,L.len]
  have ezs:=L.zs;have een:=L.en;have h24:=s4.seq h23;have h34:=s4.seq h33;have l4:=((s2.trans s3).trans s4) _ _ l1;clear hst hlen L pl3 cd3 td3 ta3 gq3 gb3 h23 h33 h3 h2 J3 J2 cm heb;have cd4:=J4.cd;have cm:qm ((i:Int)+1) ((8*2^x.ps:Nat):Int):= .inr ⟨by lia,by lia⟩
  have hEw:E bk.length<=ws.length:=Nat.le_trans hEl (hws i hig);walk_at "g";refine⟨fun Z' H'=>aA (ay H4 H'/\∃i12 i13:Option V,Z'=[some (.ref g),some (.ref pl),some (.ref cd),some (.ref td),some (.ref pd),some (.ref md),some (.ref l),some (.int ((8*2^x.ps:Nat):Int)),some (.int (i:Nat)),some (.ref p),some (.ref p3),some (.int (E bk.length:Nat)),i12,i13]),?_,?_⟩
  .walk_at "g";rw[e5,CM hEw,ezs];intro q1 hq1;have s5:=af hq1 (.lst ((List.replicate ((i+1)*(8*2^x.ps) - E bk.length) (0:Int)).map V.int));have l5:upd H4 q1 (.lst ((List.replicate ((i+1)*(8*2^x.ps) - E bk.length) (0:Int)).map V.int)) q1=some (.lst ((List.replicate ((i+1)*(8*2^x.ps) - E bk.length) (0:Int)).map V.int)):=ad;generalize upd H4 q1 (.lst ((List.replicate ((i+1)*(8*2^x.ps) - E bk.length) (0:Int)).map V.int))=H5 at*;walk_at "g";intro q2 hq2;have s6:=af hq2 (.lst [.int 0]);have l6:upd H5 q2 (.lst [.int 0]) q2=some (.lst [.int 0]):=ad;have l56:SqL K (upd H5 q2 (.lst [.int 0])) q1 ((List.replicate ((i+1)*(8*2^x.ps) - E bk.length) (0:Int)).map V.int):=SqL.of (s6 _ _ l5);generalize upd H5 q2 (.lst [.int 0])=H6 at*;have e6:(((i:Int)+1)*((8*2^x.ps:Nat):Int) - ((E bk.length:Nat):Int)).toNat=(i+1)*(8*2^x.ps) - E bk.length:=by rw[e5];lia
   walk_at "g";rw[e6];refine⟨Nat.le_trans (show 1*((i+1)*(8*2^x.ps) - E bk.length)<=16384 by lia) (by decide),fun q3 hq3=> ?_⟩
   rw[zp];refine⟨q1,q3,_,_,rfl,rfl,(af hq3 _).seq l56,SqL.of ad,false,by rw[if_pos rfl,decide_eq_true rfl];rfl,?_⟩
   walk_at "g";exact aA.mk ⟨(s5.trans s6).trans (af hq3 _),_,_,rfl⟩
  rintro Z' H5 ⟨s5,j12,j13,rfl⟩
  have z1:Sq K H5 true p (qs.map fun q=>V.int (q:Nat)):=by unfold Sq;rw[if_pos rfl];exact s5.seq h24
  have z2:Sq K H5 true p3 (rs.map fun q=>V.int (q:Nat)):=by unfold Sq;rw[if_pos rfl];exact s5.seq h34
  have J5:=J4.same s5;have cmi:qm (i:Int) ((8*2^x.ps:Nat):Int):= .inr ⟨by lia,by lia⟩
  have hSy:8*2^y.ps<=1024:=Nat.mul_le_mul_left 8 (show 2^y.ps<=2^7 from Nat.pow_le_pow_right (by decide) hy7)
  have cpy:mQ 8 (y.ps:Int):=⟨by lia,by lia,by decide⟩
  have cmy:qm (i:Int) (8*2^((y.ps:Nat):Int).toNat):=by rw[ep];exact .inr ⟨by lia,by lia⟩
  have a0:atI [V.ref m1,V.ref m2,V.ref m3] 0=some (.ref m1):=rfl;have a3:atI [V.int y.pk,V.int y.pb,V.int y.pm,V.int y.ps,V.int y.pg] 3=some (.int y.ps):=rfl;walk_at "g";refine⟨wt (b:=true) (c:=true) (xs:=qs.map fun q=>V.int (q:Nat)) (ys:=rs.map fun q=>V.int (q:Nat)) (fun k Z H'=>aA (ay H5 H'/\∃i12 i13:Option V,Z=[some (.ref g),some (.ref pl),some (.ref cd),some (.ref td),some (.ref pd),some (.ref md),some (.ref l),some (.int ((8*2^x.ps:Nat):Int)),some (.int (i:Nat)),some (.ref p),some (.ref p3),some (.int (E bk.length:Nat)),i12,i13])) ⟨ay.refl _,_,_,rfl⟩ ?_ ?_ ?_⟩
  .rintro k Z H6 ⟨s6,_⟩
   exact⟨by unfold Sq;rw[if_pos rfl];exact s6.seq (s5.seq h24),by unfold Sq;rw[if_pos rfl];exact s6.seq (s5.seq h34)⟩
  .rintro k u v pp Z H6 hu hv ⟨s6,k12,k13,rfl⟩ hpp
   obtain⟨qk,eqk,rfl⟩:=bv hu;obtain⟨rk,erk,rfl⟩:=bv hv;obtain⟨f1,f2⟩:=hrs k qk rk eqk erk;have s7:=s6.trans (af hpp (.tup [.int (qk:Nat),.int (rk:Nat)]));have l7:SqT K (upd H6 pp (.tup [.int (qk:Nat),.int (rk:Nat)])) pp [.int (qk:Nat),.int (rk:Nat)]:=SqT.of ad;generalize upd H6 pp (.tup [.int (qk:Nat),.int (rk:Nat)])=H7 at*;have md7:SqT K H7 md [V.ref m1,V.ref m2,V.ref m3]:=SqT.of (s7 _ _ J5.md);have m17:SqT K H7 m1 [V.int y.pk,V.int y.pb,V.int y.pm,V.int y.ps,V.int y.pg]:=SqT.of (s7 _ _ J5.m1);walk_at "g";rw[ep];have f3:((qk:Nat):Int) - (i:Int)*((8*2^x.ps:Nat):Int)<=((rk:Nat):Int) - (i:Int)*((8*2^y.ps:Nat):Int):=by
    have h1:((qk+i*(8*2^y.ps):Nat):Int)<=((rk+i*(8*2^x.ps):Nat):Int):=Int.ofNat_le.mpr f2;rw[Int.natCast_add,Int.natCast_add,Int.natCast_mul,Int.natCast_mul i] at h1;generalize (i:Int)*((8*2^x.ps:Nat):Int)=A at*;generalize (i:Int)*((8*2^y.ps:Nat):Int)=B at*
    lia
   refine aV (fun c=>absurd c (by lia)) (fun _=> ?_)
   exact aA.mk ⟨s7,_,_,rfl⟩
  rintro Z H6 ⟨s6,k12,k13,rfl⟩
  have l6:=(s5.trans s6) _ _ l4;have hty:tyV K "list" (.ref l) H6:= .inl ⟨rfl,_,SqL.of l6⟩;have hz:((gs.take i).map fun bk=>V.int ((lnW (thD x.pk x.pb bk).1:Nat):Int)).length < sizeLine:=Nat.lt_of_le_of_lt (show _<=16 by rw[List.length_map,List.length_take];lia) (by decide)
  have eel:((E bk.length:Nat):Int) - (i:Int)*((8*2^x.ps:Nat):Int)=((lnW (thD x.pk x.pb bk).1:Nat):Int):=by
   rw[een,Int.natCast_add,Int.natCast_mul]
   lia
  walk_at "g";refine aA.mk ⟨_,_,_,_,_,_,eK hl ((((s1.trans s2).trans s3).trans s4).trans (s5.trans s6)),?_,rfl⟩
  rw[List.take_succ,hb,List.map_append,show(some bk).toList.map (fun bk=>V.int ((lnW (thD x.pk x.pb bk).1:Nat):Int))=[V.int (((E bk.length:Nat):Int) - (i:Int)*((8*2^x.ps:Nat):Int))] by rw[eel];rfl]
  exact ad
 .rintro Z H1 ⟨i8,i9,i10,i11,i12,i13,s1,l1,rfl⟩
  rw[gl,Int.toNat_natCast,List.take_length] at l1;walk_at "g";exact q l H1 s1 (SqL.of l1)
theorem Bg {n u:Nat}:∀ {a:Nat}{bs:List Nat},Bh (gL n u a bs)
 | _,[],kv,h=>nomatch h
 | a,b::r,kv,h=>by
  rcases List.mem_cons.mp h with rfl | h
  .exact⟨_,rfl⟩
  .exact Bg kv h
theorem BT {n:Nat}:∀ {u:Nat}{bss:List (List Nat)},Bh (dL n u bss)
 | _,[],kv,h=>nomatch h
 | u,bs::r,kv,h=>by
  rcases List.mem_append.mp h with h | h
  .exact Bg kv h
  .exact BT kv h
theorem FB {n u:Nat}{bss:List (List Nat)}:Ez (dL n u bss):=fun kv h k hk=>by
 obtain⟨v,j,e,_⟩:=sW h;rw[e] at hk;rcases List.mem_cons.mp hk with rfl | hk
 .exact⟨_,rfl⟩
 .rcases List.mem_cons.mp hk with rfl | hk
  .exact⟨_,rfl⟩
  .nomatch hk
theorem oo {H:Hp}{n:Nat}{ns:List Int}(j:Nat) (x y:V) (hx:(ns.map V.int)[j]? =some x) (hy:(ns.map V.int)[j]? =some y):ie K H n x y:=by
 obtain rfl:x=y:=Option.some.inj (hx.symm.trans hy);obtain⟨i,_,rfl⟩:=bv hx;exact .int i
structure Tld (H:Hp) (a1 a2 a3:Addr) (pn:List Int) (ws:List Int) (S:Nat) (bss:List (List Nat)):Prop where
 p:H a1=some (.tup (pn.map V.int))
 c:H a2=some (.lst (ws.map V.int))
 d:H a3=some (.dT (dL S 0 bss))
theorem Tld.same {H H':Hp}{a1 a2 a3:Addr}{pn ws:List Int}{S:Nat}{bss:List (List Nat)}(h:Tld H a1 a2 a3 pn ws S bss) (e:ay H H'):Tld H' a1 a2 a3 pn ws S bss:=⟨e _ _ h.p,e _ _ h.c,e _ _ h.d⟩
theorem Tld.alike {H:Hp}{a1 a2 a3 b1 b2 b3:Addr}{pn ws:List Int}{S:Nat}{bss:List (List Nat)}(h:Tld H a1 a2 a3 pn ws S bss) (g:Tld H b1 b2 b3 pn ws S bss) (j:Nat) (x y:V) (hx:[V.ref a1,.ref a2,.ref a3][j]? =some x) (hy:[V.ref b1,.ref b2,.ref b3][j]? =some y):zj K H x y:=by
 match j,hx,hy with
 | 0,hx,hy=>cases hx;cases hy;exact .inl (.tup (SqT.of h.p) (SqT.of g.p) rfl oo)
 | 1,hx,hy=>cases hx;cases hy;exact .inl (.lst (SqL.of h.c) (SqL.of g.c) rfl oo)
 | 2,hx,hy=>cases hx;cases hy;exact .inr ⟨a3,b3,_,rfl,rfl,.inl h.d,.inl g.d,FB,BT⟩
 | n+3,hx,_=>simp at hx
def PrA (K:Frag) (H:Hp) (ts:List Addr) (ps:List (Int × Int)):Prop:=Paired (fun t p=>SqT K H t [.int p.1,.int p.2]) ts ps
theorem PrA.mono {H H':Hp}(f:∀t xs,SqT K H t xs->SqT K H' t xs) {ts:List Addr}{ps:List (Int × Int)}(h:PrA K H ts ps):PrA K H' ts ps:=by
 unfold PrA at*
 induction h with
 | nil=>exact .nil
 | cons h _ ih=>exact .cons (f _ _ h) ih
theorem PrA.same {H H':Hp}(e:ay H H') {ts:List Addr}{ps:List (Int × Int)}(h:PrA K H ts ps):PrA K H' ts ps:=by
 unfold PrA at*
 induction h with
 | nil=>exact .nil
 | cons h _ ih=>exact .cons (e.tup h) ih
theorem PrA.app {H:Hp}{ts us:List Addr}{ps qs:List (Int × Int)}(h:PrA K H ts ps) (g:PrA K H us qs):PrA K H (ts++us) (ps++qs):=by
 unfold PrA at*
 induction h with
 | nil=>exact g
 | cons h _ ih=>exact .cons h ih
theorem PrA.len {H:Hp}{ts:List Addr}{ps:List (Int × Int)}(h:PrA K H ts ps):ts.length=ps.length:=Paired.length h
theorem PrA.get {H:Hp}{ts:List Addr}{ps:List (Int × Int)}(h:PrA K H ts ps):∀ {j:Nat}{t:Addr},ts[j]? =some t->∃p,ps[j]? =some p/\SqT K H t [.int p.1,.int p.2]:=by
 unfold PrA at h
 induction h with
 | nil=>intro j t e;simp at e
 | @cons t0 p0 ts ps h _ ih=>
  intro j t e
  cases j with
  | zero=>cases e;exact⟨p0,rfl,h⟩
  | succ j=>exact ih e
theorem PrA.alike {H:Hp}{ts us:List Addr}{ps:List (Int × Int)}(h:PrA K H ts ps) (g:PrA K H us ps) (j:Nat) (x y:V) (hx:(ts.map V.ref)[j]? =some x) (hy:(us.map V.ref)[j]? =some y):ie K H 32 x y:=by
 obtain⟨t,et,rfl⟩:=bv hx;obtain⟨u,eu,rfl⟩:=bv hy;obtain⟨p,e1,h1⟩:=h.get et;obtain⟨p',e2,h2⟩:=g.get eu;obtain rfl:p=p':=Option.some.inj (e1.symm.trans e2);exact .tup h1 h2 rfl (oo (ns:=[p.1,p.2]))
theorem PrA.of {H:Hp}{bs:List Addr}{ps:List (Int × Int)}(h:Paired (fun b p=>H b=some (.tup [.int p.1,.int p.2])) bs ps):PrA K H bs ps:=by
 unfold PrA
 induction h with
 | nil=>exact .nil
 | cons h _ ih=>exact .cons (SqT.of h) ih
theorem B2:bootBuiltins "sorted"=some (.builtin "sorted"):=by decide +kernel
theorem xy {n b c:Nat}(h:iV n b) (g:iV n c):b=c:=Nat.le_antisymm (zE h g.1) (zE g h.1)
theorem Fo {rk:Nat}{rb:Int}{gs:List (List Ins)}:((gs.map (thD rk rb)).map (·.2)).map List.length=gs.map List.length:=by
 rw[List.map_map,List.map_map];refine List.map_congr_left fun bk _=> ?_
 have:=ml rk rb bk bk.length (Nat.le_refl _);rw[List.take_length] at this;exact this
theorem A1 {S tot:Nat}{ds:List Bk}(hd:∀d∈ds,lnW d.1<=S):(av (bV S tot ds)).drop (ds.length*S)=List.replicate (tot - ds.length*S) 0:=by
 unfold bV;rw[dO,mO, <-jy hd, <-ci,List.drop_left]
theorem Cb {ws:List Int}{a:Nat}:fZ (ws.map V.int) (some ((a:Nat):Int)) none=(ws.drop a).map V.int:=by
 unfold fZ;rw[HT.sIx_nat,HT.sIx_none,List.length_map,List.take_of_length_le (by rw[List.length_drop,List.length_map];exact Nat.le_refl _), <-List.map_drop]
 congr 1
 by_cases c:a<=ws.length
 .rw[Nat.min_eq_left c]
 .rw[Nat.min_eq_right (by lia),List.drop_of_length_le (Nat.le_refl _),List.drop_of_length_le (by lia)]
theorem HJ {K:Frag}{h:Heap}{mg:Str->Option Value}{prm:Params}{as a:Addr}{n:Nat}{t0 t1 t2 t3 t4 t5 t6 t7 t8 t9 t10 t11 t12 t13 t14 t15 t16 t17 t18:Tok}{b0 b1 b2 b3 b4 b5 b6 b7 b8 b9 b10 b11 b12 b13 b14 b15 b16 b17 b18:Addr}(X:K.In h) (G:h.Ns mainGlobals mg) (hs:W.nsIn K mainGlobals "SORTS"=some (some (.ref as))) (ks:e_ K as (qP.map V.str))
  (ha:W.nsIn K mainGlobals "FIELDS"=some (some (.ref a))) (hl:K.lookup a=some {cls:= .type "dict",data:= .dict (zD prm [("stop",t0,.ref b0),("put",t1,.ref b1),("add",t2,.ref b2),("sub",t3,.ref b3),("and",t4,.ref b4),("or",t5,.ref b5),("xor",t6,.ref b6),("less",t7,.ref b7),("left",t8,.ref b8),("right",t9,.ref b9),("more",t10,.ref b10),("load",t11,.ref b11),("store",t12,.ref b12),("jump",t13,.ref b13),("jumpif",t14,.ref b14),("through",t15,.ref b15),("fit",t16,.ref b16),("aim",t17,.ref b17),("gate",t18,.ref b18)]) n})
  (k0:e_ K b0 ((aQ 0).map V.str)) (k1:e_ K b1 ((aQ 1).map V.str)) (k2:e_ K b2 ((aQ 2).map V.str)) (k3:e_ K b3 ((aQ 3).map V.str)) (k4:e_ K b4 ((aQ 4).map V.str)) (k5:e_ K b5 ((aQ 5).map V.str)) (k6:e_ K b6 ((aQ 6).map V.str)) (k7:e_ K b7 ((aQ 7).map V.str)) (k8:e_ K b8 ((aQ 8).map V.str)) (k9:e_ K b9 ((aQ 9).map V.str)) (k10:e_ K b10 ((aQ 10).map V.str)) (k11:e_ K b11 ((aQ 11).map V.str)) (k12:e_ K b12 ((aQ 12).map V.str)) (k13:e_ K b13 ((aQ 13).map V.str)) (k14:e_ K b14 ((aQ 14).map V.str)) (k15:e_ K b15 ((aQ 15).map V.str)) (k16:e_ K b16 ((aQ 16).map V.str)) (k17:e_ K b17 ((aQ 17).map V.str)) (k18:e_ K b18 ((aQ 18).map V.str)):Tb K mg prm:=by
 refine⟨⟨as,W.mg_of X G hs,ks⟩,a,[("stop",.ref b0),("put",.ref b1),("add",.ref b2),("sub",.ref b3),("and",.ref b4),("or",.ref b5),("xor",.ref b6),("less",.ref b7),("left",.ref b8),("right",.ref b9),("more",.ref b10),("load",.ref b11),("store",.ref b12),("jump",.ref b13),("jumpif",.ref b14),("through",.ref b15),("fit",.ref b16),("aim",.ref b17),("gate",.ref b18)],W.mg_of X G ha,⟨_,n,hl,?_⟩,fun k hk=> ?_⟩
 .repeat' (first | exact Paired.nil | refine Paired.cons ⟨rfl,rfl⟩ ?_)
 .match k,hk with
  | 0,_=>exact⟨b0,rfl,k0⟩
  | 1,_=>exact⟨b1,rfl,k1⟩
  | 2,_=>exact⟨b2,rfl,k2⟩
  | 3,_=>exact⟨b3,rfl,k3⟩
  | 4,_=>exact⟨b4,rfl,k4⟩
  | 5,_=>exact⟨b5,rfl,k5⟩
  | 6,_=>exact⟨b6,rfl,k6⟩
  | 7,_=>exact⟨b7,rfl,k7⟩
  | 8,_=>exact⟨b8,rfl,k8⟩
  | 9,_=>exact⟨b9,rfl,k9⟩
  | 10,_=>exact⟨b10,rfl,k10⟩
  | 11,_=>exact⟨b11,rfl,k11⟩
  | 12,_=>exact⟨b12,rfl,k12⟩
  | 13,_=>exact⟨b13,rfl,k13⟩
  | 14,_=>exact⟨b14,rfl,k14⟩
  | 15,_=>exact⟨b15,rfl,k15⟩
  | 16,_=>exact⟨b16,rfl,k16⟩
  | 17,_=>exact⟨b17,rfl,k17⟩
  | 18,_=>exact⟨b18,rfl,k18⟩
  | m+19,hk=>exact absurd hk (by lia)
theorem GA (B:Bi mg) (T:Tb K mg w.params) (T2:Tb2 K mg) (Tx:(∃ CT,mg "TooLong"=some (.ref CT)/\Cp K CT)/\mg "sorted"=none) {cG:Addr}(aZ:gF K mg "LaidBlock" cG) (bY:bX K cG) {iO:Addr}(gf:gF K mg "Known" iO) (kS:kO K iO) (gZ:lT K mg) (At:DB K mg) (wW:BC K mg) (tX:zw K mg) (jN:o3 K mg) (ii:mL K mg) (kC:pL K mg) (oE:uv K mg) (nu:rq K mg) (dk:fD K mg) (fS:jK K mg) (ol:tE K mg) (iz:lO K mg) (mJ:rJ K mg) (j_:pR K mg) (fU:jC K mg) (uo:zn K mg) (mi:qR K mg) (gU:mZ K mg) (mf:qV K mg) (oJ:sK K mg) (oO:tV K mg) (oC:tF K mg) (qA:vw K mg) (lD:qU K mg) (lX:rA K mg) (kr:pz K mg) (jb:nV K mg) (mh:q9 K mg) (oT:sM K mg) (oS:tY K mg) (jp:nY K mg) (mz:rn K mg) (iC:m_ K mg) (gA:ll K mg) (h9:mU K mg) (nz:rH K mg) (jM:qe K mg) (oj:tq K mg) (dR:gr K mg) (jh:nX K mg) (xD:BM K mg) (dI:dG K cG) (cH:cL K cG) (dA:dw K cG) (f_:f6 K cG) (cW:de K cG) (cR:cM K cG) (kK:pZ K mg) (kd:pS K mg) (tP:yB K mg) (wn:BQ K mg) (iU:n_ K mg) (nk:qT K mg) (fQ:jJ K mg) (ni:rB K mg) (fT:ju K mg) (gX:mP K mg) (ir:l_ K mg) (AS:D0 K mg) (fN:ga K iO) (iB:iu K iO) (eV:eO K iO) (d6:d_ K iO) (eQ:e9 K iO) (gy:lj K mg) (AR:Dy K mg) (lJ:rE K mg) (lW:rD K mg) (lZ:q_ K mg) (ky:pE K mg) (ko:pB K mg) (nj:qS K mg) (jU:oY K mg) (nr:qY K mg) (jY:pN K mg) (m7:rf K mg) (qy:vG K mg) (jO:oW K mg) (ki:qd K mg) (jg:oh K mg) {f:Addr}{fd:FuncData}(F:Fun K "law" "law" Ba f fd):iF P w K mg base CX0 12 f fd ["_law_script"] (zR K):=by
 obtain⟨⟨CT,qo,x_TooLong⟩,b_sorted⟩:=Tx;have ak:=su (P:=P) (w:=w) (base:=base) B gZ;have bE:=E7 B At ak;have gK:=CV (P:=P) (w:=w) (base:=base) B wW;have kW:=vd B jN bE;have di:=uQ B T kC kW;have ge:=yq B oE di;have aU:=xB (P:=P) (w:=w) (base:=base) B nu;have bB:=uT (P:=P) (w:=w) (base:=base) B j_;have fX:=pW B fU ak;have cj:=Ca B uo gK;have bK:=wp (P:=P) (w:=w) (base:=base) B mi;have aK:=sr B gU cj;have bR:=wU B mf fX aK;have oP:=yd B oJ bR;have ou:=y_ B oO bR;have hG:=rV B iz ak bE;have oH:=ym B oC bE aK;have nC:=AH B qA ak aK;have m5:=xq B lD cj;have nq:=xE B lX bK bB bE ak bR;have j8:=u9 B kr bK bE ak aK;have iX:=tT B jb cj bK hG oP ou oH nC m5 nq j8;have mD:=xJ B mh gK bR;have iH:=wB B mJ ak bE;have oA:=x6 B oT ak bE gK aK;have oR:=yJ B oS ak cj bK iH aK;have cZ:=Ac (P:=P) (w:=w) (base:=base) B T2 ol;have bN:=ua B jp bB;have mM:=wm B mz cj bB mD oA oR iX;have cS:=rP B iC bB cZ mM;have cE:=qg B gA ak;have bI:=lC (P:=P) (w:=w) (base:=base) B aZ bY dI;have bc:=iG (P:=P) (w:=w) (base:=base) B aZ bY cH;have cw:=o_ B aZ bY f_ aU;have bu:=jx B aZ bY cW cw;have bh:=i_ B aZ bY cR cw bc;have bA:=kI B aZ bY dA aU;have cF:=xu (P:=P) (w:=w) (base:=base) B ni;have aR:=o6 (P:=P) (w:=w) (base:=base) B fT;have cx:=rX B gX cF aR;have ij:=sy B aZ ir bI cx bA bh bu;have gM:=vc B kK ak;have kx:=uR (P:=P) (w:=w) (base:=base) B aZ bY kd;have sX:=Ch (P:=P) (w:=w) (base:=base) B tP;have nI:=C5 B wn ge;have jo:=uz B aZ bY iU ge sX nI;have mm:=wq (P:=P) (w:=w) (base:=base) B aZ bY nk;have cv:=o8 B x_TooLong qo fQ ak gM kx jo nI mm;have A3:=E8 B AS ij cv;have f8:=qf B gf kS fN bN;have ip:=sf B gf kS iB bN;have df:=nJ B gf kS eV cF aR cx cE;have eL:=nP B gf kS eQ cZ;have ez:=mn B gf kS d6 cS eL;have gB:=qp B aZ gf gy bI f8 df ip ez bc bA bh bu;have tM:=Fl B AR gB cv;have tO:=CB B tX ak;have ix:=rS B ii bE tO;have c_:=jr B T dk di ix;have aS:=pJ B fS c_;have g_:=sk (P:=P) (w:=w) (base:=base) B h9;have mq:=xU (P:=P) (w:=w) (base:=base) B nz;have jQ:=uB B jM aU;have oV:=yV B oj cZ cE g_ mq;have dM:=lA B dR aS jQ oV;have gh:=sU B T2 jh ak bN dM cS aU;have E_:=Ei B xD gh;have A3:=A3.has (fun vs H Q E h=>IF (E:=E) h)
 have tM:=tM.has (fun vs H Q E h=>HX (E:=E) h)
 have iJ:=xh (P:=P) (w:=w) (base:=base) B lJ;have ao:=xY (P:=P) (w:=w) (base:=base) B lW;have yX:=xx B lZ ao;have kJ:=uZ B ky ao;have j9:=uA B ko ao;have lY:=wV B nj ao kJ j9;have xC:=uY B jU iJ ao lY;have lM:=xA B nr aS aU;have gN:=u8 B jY lM;have iR:=wZ (P:=P) (w:=w) (base:=base) B m7;have qI:=Au B qy aS aU;have jR:=vi B jO aS gN iR qI;have wK:=uD (P:=P) (w:=w) (base:=base) B ki;have uC:=tU B jg jR;refine F.ok eP (fun vs H Q E h=> ?_) (fun cdv A outer s H vs Q E hr h=> ?_)
 .obtain⟨a,ns,rfl,_⟩:=h
  rfl
 obtain⟨a,ns,rfl,hS,h63,hO,q⟩:=h
 refine⟨_,(ac (psS 1 eP.nd (pcH iJ hr (pa2 (pv 0) aa)))
   (ac (psS 2 eP.nd (pcH yX hr (pa1 (pv 1))))
   (ac (psS 3 eP.nd (pcH ao hr (pa2 (pv 1) aa)))
   (ac (psS 4 eP.nd (pcH xC hr (pa4 (pv 0) (pv 1) (pv 2) (pv 3))))
   (ac (tG (pcH tM hr (pa3 (pv 4) (pv 2) (pv 3))) (lL (n:=3) (by rfl) (bQ (aP (i:=5) eP.nd (by rfl) (by left;rfl)) (bQ (aP (i:=6) eP.nd (by rfl) (by left;rfl)) (bQ (aP (i:=7) eP.nd (by rfl) (by left;rfl)) iL)))))
   (ac (psS 8 eP.nd (pcH A3 hr (pa3 (pv 4) (pv 2) (pv 3))))
   (ac (aL (bn (ax (PW.pt (gk (pcT (zL (uU hr)) (dm iT (pv 5) fz (dW aa)) (pv 2)) (gk (pcT vA (pX ai (pv 5) aa) (pv 3)) (d5 (mB (sA (pcH E_ hr (pa2 (pv 5) (pv 6))))))))) (ae (ah vj)) al)))
   (ac (psS 9 eP.nd (aT cY))
   (ac (d8 PassesOwn.never (by rfl) (dB (dU (by rfl) B.range (pa1 (aF aC (by rfl) B.len bT (pa1 (pv 4)))))) (aP (i:=10) eP.nd (by rfl) (by right;rfl)) (ae (psS 9 eP.nd (aj tI (pv 9) (kY (by rfl) (by rfl) (by rfl) (bk (sc0:=ag Ba) (N0:=["_law_script","_law_deal_here","_law_room_here","_law_gates","_law_guest_here","_law_plan","_law_code","_law_places","_law_made","_law_names","_law_i","_law_again","_law_ends","_law_behind"]) ["_law_j","_law_i"] 1 [10]) (dU (by rfl) B.range (pa1 (aF aC (by rfl) B.len bT (pa1 (pX ai (pv 4) (pv 10)))))) (fun _ _ _ _=>(aP (i:=0) (show List.Nodup (["_law_j","_law_i"]:List Str) by decide) (by rfl) (by left;rfl))) (fun _ _ _ _=>(aw (pa2 (pv 1) (pv 0)))))))))
   (ac (psS 11 eP.nd (pcH tM hr (pa3 (pv 4) (pv 2) (pv 3))))
   (ac (aL (bn (ax (PW.pt (gk (pcT (qX (uU hr)) (aF (wI (by rfl)) (by rfl) b_sorted B2 (pa1 (pv 7))) (pv 9)) (d5 (pcT (rz (uU hr)) (pv 11) (aw (pa3 (pv 5) (pv 6) (pv 7))))))) (ae (ah vj)) al)))
   (ac (bj (fe PySem.F.plainAttrs_list PySem.F.slot_list_append PySem.F.type_list_append bJ (pX ai (pv 11) aa) (pa1 aa)))
   (ac (bj (GX PySem.F.plainAttrs_dict PySem.F.slot_dict_clear PySem.F.type_dict_clear CC (pX ai (pv 11) aa)))
   (ac (ax (pcT (rz (uU hr)) (pcH tM hr (pa3 (pv 4) (pv 2) (pv 3))) (aw (pa3 (pv 5) (pv 6) (pv 7)))) (ae (ah vj)) al)
   (ac (psS 12 eP.nd (pcH uC hr (aN (pv 4) (aN (pv 5) (aN (pv 6) (aN (pcH gh hr (pa2 (pv 5) (pv 6))) (aN (pv 7) (aN (pv 8) cY))))))))
   (ac (aL (bn (ax (PW.pt (gk (mB (qK (pv 12))) (d5 (gx (cI (pcH wK hr (pa3 (pv 4) (pv 5) (pv 12)))))))) (ae (ah vj)) al)))
   (ac (psS 13 eP.nd (dm BS (pv 6) (dW (aj bz (aF aC (by rfl) B.len bT (pa1 (pv 4))) (aj cU aa (pX ai (pv 5) aa)))) fz))
   (ae (ah (pcE (Aj (uU hr)) (pv 13) (aj tw (aT (pa1 aa)) (aF aC (by rfl) B.len bT (pa1 (pv 13)))))))))))))))))))))))),?_⟩
 try dsimp only[aY]
 walk_at "g";intro d1 H1 f1 hD1 s1;walk_at "g";intro rm rk rb H2 r2 hR hD2 g2;have S2:ay H H2:=But.same s1 f1 g2;walk_at "g";intro gt H3 gt0 gt1 hD3 g3;have r3:=hD2.tup g3 r2;have S3:ay H H3:=But.same S2 f1 g3;have gt16:gt<=16:=by lia
 have hS3:∃H0,ay H0 H3/\H0 d1=none/\SqL K H0 a (ns.map V.int):=⟨H,S3,f1,hS⟩;clear gt1;walk_at "g";intro g bls gs H4 g4 hg4 gst4 gu g6;have r4:=hD3.tup g4 r3;clear gt0 gt16;clear s1 g2 g3 g4 S2 S3 r2 r3 hD1 hD2 hD3 hS3 hS;have hgub:=gu.ok.gub;have hne:gs≠[]:=fun z=>by have:=gu.ok.n0;rw[z] at this;exact absurd this (by decide)
 obtain⟨M1,hM1⟩:=Ar (ds:=gs.map cz) (fun z=>hne (List.map_eq_nil_iff.mp z))
 obtain⟨M2,hM2⟩:=Ar (ds:=gs.map (thD rk rb)) (fun z=>hne (List.map_eq_nil_iff.mp z))
 have h30:∀bk∈gs,bk.length<=30:=fun bk hb=>(gu.ok.blk bk hb).2.1
 have n16:∀bk∈gs, ∀kn∈bk,kn.1≠16:=fun bk hb kn hk=>((gu.ok.blk bk hb).1 kn hk).nm.1
 have rq4:SqT K H4 rm [.int rk,.int rb]:=SqT.of r4;walk_at "g";intro m1 t1 hm1 ht1;have m3:m1<=3:=zE hm1 (by lia)
 have t4:t1<=4:=DH hM2 ht1 (fun bk _=>by
  have:=o0 rk rb bk bk.length (Nat.le_refl _);rw[List.take_length] at this
  exact this) h30
 have mt1:m1+t1<=7:=by lia
 refine⟨mt1,?_⟩
 intro q1 H5 s5 ca;obtain⟨a1,a2,a3,c0,c1,c2,c3,f0,f1',f2,f3⟩:=ca;obtain⟨X,eX⟩:∃X:Pn,X=⟨rk,rb,m1,t1,gt⟩:=⟨_,rfl⟩;have hfit:=C8 hM2 ht1;have co:=mR (x:=X) (gs:=gs) (by rw[eX];exact hR) (by rw[eX];exact mt1) (by rw[eX];exact gu) (by rw[eX];exact hm1.1) (by rw[eX];exact hfit)
 have hbk:=fun(s2 i:Nat) (bk:List Ins) (hb:gs[i]? =some bk)=>Gx (x:=X) (s2:=s2) (gs:=gs) (by rw[eX];exact hR) (by rw[eX];exact mt1) (by rw[eX];exact gu) (by rw[eX];exact hm1.1) (by rw[eX];exact hfit) hb
 have ei:bV (8*2^t1) (2^m1*(8*2^t1)) (gs.map (thD rk rb))=bV (8*2^X.ps) (2^X.pm*(8*2^X.ps)) (gs.map (thD X.pk X.pb)):=by rw[eX]
 rw[ei] at c2;have TL5:Tld H5 a1 a2 a3 [(rk:Int),rb,(m1:Int),(t1:Int),gt] (av (bV (8*2^X.ps) (2^X.pm*(8*2^X.ps)) (gs.map (thD X.pk X.pb)))) (8*2^t1) ((gs.map (thD rk rb)).map (·.2)):=⟨c1,c2,c3⟩;have c0q:SqT K H5 q1 [.ref a1,.ref a2,.ref a3]:=SqT.of c0;have gu5:=s5.tup hg4;have gst5:=gst4.same s5;have rq5:=s5.tup rq4;clear c0 c1 c2 c3 f0 f1' f2 f3;walk_at "g";intro m2 t2 hm2 ht2;have m32:m2<=3:=zE hm2 (by lia)
 have t42:t2<=4:=DH hM1 ht2 (fun bk _=>by
  have:=nE bk bk.length (Nat.le_refl _);rw[List.take_length] at this
  exact this) h30
 refine⟨by lia,?_⟩
 intro q2 H6 s6 ca;obtain⟨b1,b2,b3,e0,e1,e2,e3,_⟩:=ca;have TL6:=TL5.same s6;have gu6:=s6.tup gu5;have gst6:=gst5.same s6;have rq6:=s6.tup rq5;have hpl6:Pl H6 a1 X.pk X.pb X.pm X.ps X.pg:=by rw[eX];exact⟨TL6.p,hR,mt1⟩
 have cd6:SqL K H6 a2 ((av (bV (8*2^X.ps) (2^X.pm*(8*2^X.ps)) (gs.map (thD X.pk X.pb)))).map V.int):=SqL.of TL6.c;have pq6:SqT K H6 a1 [V.int rk,.int rb,.int m1,.int t1,.int gt]:=SqT.of TL6.p;clear TL5 gu5 gst5 rq5 hM1 hm2 e2;walk_at "g";refine⟨fun Z' H'=>aA (ay H6 H'/\Z'=[some (.ref a),some (.ref d1),some (.ref rm),some (.int gt),some (.ref g),some (.ref a1),some (.ref a2),some (.ref a3),some (.ref q2),none,none,none,none,none]),?_,?_⟩
 .have hw:¬(HT.sIx [V.int rk,.int rb,.int m1,.int t1,.int gt].length 0 none=0/\HT.sIx [V.int rk,.int rb,.int m1,.int t1,.int gt].length [V.int rk,.int rb,.int m1,.int t1,.int gt].length (some 2)=[V.int rk,.int rb,.int m1,.int t1,.int gt].length):=by show ¬(HT.sIx 5 0 none=0/\HT.sIx 5 5 (some 2)=5);decide
  have i4:atI [V.int rk,.int rb,.int m1,.int t1,.int gt] 4=some (.int gt):=rfl;walk_at "g";rw[show fZ [V.int rk,.int rb,.int m1,.int t1,.int gt] none (some 2)=[(rk:Int),rb].map V.int from rfl];intro p7 hp7;have s7:=af hp7 (.tup ([(rk:Int),rb].map V.int));have l7:SqT K (upd H6 p7 (.tup ([(rk:Int),rb].map V.int))) p7 ([(rk:Int),rb].map V.int):=SqT.of ad;generalize upd H6 p7 (.tup ([(rk:Int),rb].map V.int))=H7 at*;have rq7:SqT K H7 rm ([(rk:Int),rb].map V.int):=s7.tup rq6;have pq7:=s7.tup pq6;have hpl7:=hpl6.mv s7;have cd7:=s7.seq cd6;walk_at "g";refine DN (by rw[if_pos rfl,decide_eq_true rfl];rfl) ?_
  walk_at "g";refine yv rfl ?_
  walk_at "g";intro H8 s8;walk_at "g";exact aA.mk ⟨s7.trans s8,rfl⟩
 rintro Z' H7 ⟨s7,rfl⟩
 have gu7:=s7.tup gu6;have gq7:SqL K H7 g (bls.map V.ref)\/SqT K H7 g (bls.map V.ref):= .inr gu7;have gl:(bls.map V.ref).length=gs.length:=by rw[List.length_map,gst4.1]
 have gst7:=gst6.same s7;walk_at "g";intro ln hln;have s8:=af hln (.lst []);have l8:upd H7 ln (.lst []) ln=some (.lst []):=ad;have gu8:=s8.tup gu7;have gq8:SqL K (upd H7 ln (.lst [])) g (bls.map V.ref)\/SqT K (upd H7 ln (.lst [])) g (bls.map V.ref):= .inr gu8;generalize upd H7 ln (.lst [])=H8 at*;walk_at "g";refine⟨jz (fun i Z H'=>aA (∃ (ln:Addr) (ts:List Addr) (i10:Option V),i<=gs.length/\ay H7 H'/\H' ln=some (.lst (ts.map V.ref))/\PrA K H' ts (nmF 0 ((gs.take i).map List.length))/\Z=[some (.ref a),some (.ref d1),some (.ref rm),some (.int gt),some (.ref g),some (.ref a1),some (.ref a2),some (.ref a3),some (.ref q2),some (.ref ln),i10,none,none,none])) ⟨ln,[],none,Nat.zero_le _,s8,l8,.nil,rfl⟩ ?_ ?_⟩
 .rintro i Z H9 hi ⟨ln2,ts,i10,hil,s9,l9,pr9,rfl⟩
  have hig:i < gs.length:=by rw[gl] at hi;simp at hi;lia
  have hb:gs[i]? =some gs[i]:=List.getElem?_eq_getElem hig;generalize gs[i]=bk at*;obtain⟨bt,ebt⟩:∃bt,bls[i]? =some bt:=⟨_,List.getElem?_eq_getElem (by rw[gst4.1];exact hig)⟩
  obtain⟨us0,hts,hin⟩:=(gst7.same s9).2 i bt bk ebt hb;have ebi:atI (bls.map V.ref) ((0:Int)+(i:Int))=some (.ref bt):=by rw[Int.zero_add];exact a9 (by rw[List.getElem?_map,ebt];rfl)
  have gq9:=s9.tup gu7;have tq9:SqL K H9 bt (us0.map V.ref)\/SqT K H9 bt (us0.map V.ref):= .inr hts;have h30b:=h30 bk (List.mem_of_getElem? hb);have tl:(us0.map V.ref).length=bk.length:=by rw[List.length_map,hin.len]
  have en:((us0.map V.ref).length:Int).toNat=bk.length:=by rw[tl];rfl
  clear hi;walk_at "g";rw[Int.zero_add,en];intro p10 hp10;refine kX (lo:=0) (n:=bk.length) (fun j ys H'=>aA (ay H9 H'/\H' p10=some (.lst ys)/\∃us:List Addr,ys=us.map V.ref/\PrA K H' us ((List.range j).map fun j:Nat=>((i:Int),(j:Int))))) ⟨af hp10 _,ad,[],rfl,.nil⟩ ?_ ?_
  .rintro j ys H10 F hF hj ⟨s10,h10,us,rfl,pr10⟩
   have hul:us.length=j:=by rw[pr10.len,List.length_map,List.length_range]
   have hz:(us.map V.ref).length < sizeLine:=Nat.lt_of_le_of_lt (show(us.map V.ref).length<=30 by rw[List.length_map,hul];lia) (by decide)
   walk_at "g";rw[Int.zero_add];intro kt hkt;have s11:=af hkt (.tup [.int (i:Nat),.int (j:Nat)]);have h11:=s11 _ _ h10;have pr11:PrA K (upd H10 kt (.tup [.int (i:Nat),.int (j:Nat)])) (us++[kt]) (((List.range j).map fun j:Nat=>((i:Int),(j:Int)))++[((i:Int),(j:Int))]):=(pr10.same s11).app (.cons (SqT.of ad) .nil)
   generalize upd H10 kt (.tup [.int (i:Nat),.int (j:Nat)])=H11 at*;walk_at "g";refine hF _ _ (aA.mk ⟨eK hp10 (s10.trans s11),ad,us++[kt],by rw[List.map_append];rfl,?_⟩)
   rw[List.range_succ,List.map_append];exact pr11.mono fun _ _ z=>rG h11 z
  rintro ys H10 ⟨s10,h10,us,rfl,pr10⟩
  have l10:=s10 _ _ l9;have htl:ts.length<=200:=by
   rw[pr9.len];refine Nat.le_trans (wC (fun n hn=> ?_)) (show 30*((gs.take i).map List.length).length<=200 by rw[List.length_map,List.length_take];lia)
   obtain⟨b,hb1,rfl⟩:=List.mem_map.mp hn;exact h30 b (List.mem_of_mem_take hb1)
  have hul:us.length<=30:=by rw[pr10.len,List.length_map,List.length_range];exact h30b
  have hz:(ts.map V.ref).length+(us.map V.ref).length<=sizeLine:=Nat.le_trans (show _<=300 by rw[List.length_map,List.length_map];lia) (by decide)
  walk_at "g";intro l11 hl11;have s11:=af hl11 (.lst (ts.map V.ref++us.map V.ref));refine aA.mk ⟨l11,ts++us,some (.int (i:Nat)),hig,(s9.trans s10).trans s11,by rw[List.map_append];exact ad,?_,rfl⟩
  rw[List.take_succ,hb,List.map_append,BA,List.length_map,List.length_take,Nat.min_eq_left (by lia),Nat.zero_add]
  refine((pr9.same s10).same s11).app ?_
  show PrA K _ us (((List.range bk.length).map fun j:Nat=>((i:Int),(j:Int)))++[])
  rw[List.append_nil];exact pr10.same s11
 .rintro Z H9 ⟨ln2,ts,i10,hil,s9,l9,pr9,rfl⟩
  rw[gl,Int.toNat_natCast,List.take_length] at pr9;have S9:=s7.trans s9;have gu9:=S9.tup gu6;have gst9:=gst6.same S9;have rq9:=S9.tup rq6;have TL9:=TL6.same S9;have e39:=S9 _ _ e3;have e19:=S9 _ _ e1;clear gu7 gq7 gst7 gu8 gq8 s8 l8;walk_at "g";intro m' s' hm' hs';obtain rfl:=xy hm' hm1;obtain rfl:=xy hs' ht1;refine⟨mt1,?_⟩
  intro q3 H10 s10 ca;obtain⟨g1,g2,g3,k0,k1,k2,k3,n0,n1,n2,n3⟩:=ca;rw[ei] at k2;have TM:Tld H10 g1 g2 g3 [(rk:Int),rb,(m':Int),(s':Int),gt] (av (bV (8*2^X.ps) (2^X.pm*(8*2^X.ps)) (gs.map (thD X.pk X.pb)))) (8*2^s') ((gs.map (thD rk rb)).map (·.2)):=⟨k1,k2,k3⟩;have k0q:SqT K H10 q3 [.ref g1,.ref g2,.ref g3]:=SqT.of k0;have TL10:=TL9.same s10;have gu10:=s10.tup gu9;have rq10:=s10.tup rq9;have l10:SqL K H10 ln2 (ts.map V.ref):=SqL.of (s10 _ _ l9);have pr10:=pr9.same s10;have rd10:Rd H10 a3 (.dT (dL (8*2^s') 0 ((gs.map (thD rk rb)).map (·.2)))):= .inl TL10.d;have hks:(dL (8*2^s') 0 ((gs.map (thD rk rb)).map (·.2))).map (·.1)=(nmF 0 (gs.map List.length)).map kP:=by rw[vp,Fo]
  have hasc:uM (nmF 0 (gs.map List.length)):=BJ;have hkl:(dL (8*2^s') 0 ((gs.map (thD rk rb)).map (·.2))).length<=1000:=by
   have h1:=congrArg List.length hks;rw[List.length_map,List.length_map] at h1;rw[h1];refine Nat.le_trans (wC (fun n hn=> ?_)) (show 30*(gs.map List.length).length<=1000 by rw[List.length_map];lia)
   obtain⟨b,hb1,rfl⟩:=List.mem_map.mp hn;exact h30 b hb1
  clear k1 k2 k3 n0 n1 hm' hs';walk_at "g";refine⟨fun Z' H'=>aA (ay H10 H'/\Z'=[some (.ref a),some (.ref d1),some (.ref rm),some (.int gt),some (.ref g),some (.ref a1),some (.ref a2),some (.ref a3),some (.ref q2),some (.ref ln2),i10,some (.ref q3),none,none]),?_,?_⟩
  .walk_at "g";intro l11 bs hl11 hbs;have s11:=af hl11 (.lst (bs.map V.ref));have l11q:SqL K (upd H10 l11 (.lst (bs.map V.ref))) l11 (bs.map V.ref):=SqL.of ad;have prb:PrA K (upd H10 l11 (.lst (bs.map V.ref))) bs (nmF 0 (gs.map List.length)):=(PrA.of hbs).same s11;generalize upd H10 l11 (.lst (bs.map V.ref))=H11 at*;have ln11:=s11.seq l10;have hel:(bs.map V.ref).length=(ts.map V.ref).length:=by rw[List.length_map,List.length_map,prb.len,pr10.len]
   have hsm:=prb.alike (pr10.same s11);have TL11:=TL10.same s11;have TM11:=TM.same s11;have k0q11:=s11.tup k0q;walk_at "g";intro p12 hp12;have s12:=af hp12 (.tup [.ref a1,.ref a2,.ref a3]);have l12:SqT K (upd H11 p12 (.tup [.ref a1,.ref a2,.ref a3])) p12 [.ref a1,.ref a2,.ref a3]:=SqT.of ad;generalize upd H11 p12 (.tup [.ref a1,.ref a2,.ref a3])=H12 at*;have k0q12:=s12.tup k0q11;have hsw:=(TM11.same s12).alike (K:=K) (TL11.same s12);have hlw:[V.ref g1,.ref g2,.ref g3].length=[V.ref a1,.ref a2,.ref a3].length:=rfl;walk_at "g";exact aA.mk ⟨s11.trans s12,rfl⟩
  rintro Z' H11 ⟨s11,rfl⟩
  have TL11:=TL10.same s11;have TM11:=TM.same s11;have k0q11:=s11.tup k0q;have i1:atI [V.ref g1,V.ref g2,V.ref g3] 1=some (.ref g2):=rfl;have i2:atI [V.ref g1,V.ref g2,V.ref g3] 2=some (.ref g3):=rfl;have ty2:tyV K "list" (.ref g2) H11:= .inl ⟨rfl,_,SqL.of TM11.c⟩;have hz2:((av (bV (8*2^X.ps) (2^X.pm*(8*2^X.ps)) (gs.map (thD X.pk X.pb)))).map V.int).length < sizeLine:=by
   rw[List.length_map,co.len];have h7:(2:Nat)^(X.pm+X.ps)<=2^7:=Nat.pow_le_pow_right (by decide) (by rw[eX];exact mt1)
   exact Nat.lt_of_le_of_lt (show 8*2^(X.pm+X.ps)<=1024 by lia) (by decide)
  have c11:=TM11.c;have d11:=TM11.d;have n32:g3≠g2:=fun z=>by rw[z,c11] at d11;cases d11
  obtain⟨W,eW⟩:∃W,W=(av (bV (8*2^X.ps) (2^X.pm*(8*2^X.ps)) (gs.map (thD X.pk X.pb)))).map V.int++[V.int 0]:=⟨_,rfl⟩;have uq:SqT K (upd H11 g2 (.lst ((av (bV (8*2^X.ps) (2^X.pm*(8*2^X.ps)) (gs.map (thD X.pk X.pb)))).map V.int++[V.int 0]))) q3 [V.ref g1,.ref g2,.ref g3]:=rG c11 k0q11;have u3:upd H11 g2 (.lst ((av (bV (8*2^X.ps) (2^X.pm*(8*2^X.ps)) (gs.map (thD X.pk X.pb)))).map V.int++[V.int 0])) g3=some (.dT (dL (8*2^s') 0 ((gs.map (thD rk rb)).map (·.2)))):=by rw[az n32];exact d11
  have ty3:tyV K "dict" (.ref g3) (upd H11 g2 (.lst ((av (bV (8*2^X.ps) (2^X.pm*(8*2^X.ps)) (gs.map (thD X.pk X.pb)))).map V.int++[V.int 0]))):= .inr (.inr (.inl ⟨rfl,.inr ⟨_,u3⟩⟩));have S12:ay H9 (upd (upd H11 g2 (.lst ((av (bV (8*2^X.ps) (2^X.pm*(8*2^X.ps)) (gs.map (thD X.pk X.pb)))).map V.int++[V.int 0]))) g3 (.dT [])):=eK n3 (eK n2 (s10.trans s11));have gu12:=S12.tup gu9;have gst12:=gst9.same S12;have rq12:=S12.tup rq9;walk_at "g";generalize upd (upd H11 g2 (.lst ((av (bV (8*2^X.ps) (2^X.pm*(8*2^X.ps)) (gs.map (thD X.pk X.pb)))).map V.int++[V.int 0]))) g3 (.dT [])=H12 at*;clear TL10 TM TM11 TL11 k0 k0q k0q11 c11 d11 n32 uq u3 ty2 ty3 hz2 gu10 rq10 l10 pr10 rd10 hks hasc hkl n2 n3 i1 i2 s11 s10;intro m'' s'' hm'' hs'';obtain rfl:=xy hm'' hm1;obtain rfl:=xy hs'' ht1;refine⟨mt1,?_⟩
  intro q4 H13 s13 ca;obtain⟨j1,j2,j3,k0,k1,k2,k3,_⟩:=ca;rw[ei] at k2;have TM:Tld H13 j1 j2 j3 [(rk:Int),rb,(m'':Int),(s'':Int),gt] (av (bV (8*2^X.ps) (2^X.pm*(8*2^X.ps)) (gs.map (thD X.pk X.pb)))) (8*2^s'') ((gs.map (thD rk rb)).map (·.2)):=⟨k1,k2,k3⟩;have k0q:SqT K H13 q4 [.ref j1,.ref j2,.ref j3]:=SqT.of k0;have S13:=S12.trans s13;have TL13:=TL9.same S13;walk_at "g";intro p14 hp14;have s14:=af hp14 (.tup [.ref a1,.ref a2,.ref a3]);have l14:SqT K (upd H13 p14 (.tup [.ref a1,.ref a2,.ref a3])) p14 [.ref a1,.ref a2,.ref a3]:=SqT.of ad;generalize upd H13 p14 (.tup [.ref a1,.ref a2,.ref a3])=H14 at*;have k0q14:=s14.tup k0q;have TL14:=TL13.same s14;have hsw:=(TM.same s14).alike (K:=K) TL14;have hlw:[V.ref j1,.ref j2,.ref j3].length=[V.ref a1,.ref a2,.ref a3].length:=rfl;have S14:=S13.trans s14;have hpl14:Pl H14 a1 X.pk X.pb X.pm X.ps X.pg:=by rw[eX];exact⟨TL14.p,hR,mt1⟩
  have cd14:SqL K H14 a2 ((av (bV (8*2^X.ps) (2^X.pm*(8*2^X.ps)) (gs.map (thD X.pk X.pb)))).map V.int):=SqL.of TL14.c;clear k0 k1 k2 k3 hm'' hs'' TM k0q;walk_at "g";intro p15 tv H15 s15 _ l15 ta15;have S15:=S14.trans s15;obtain⟨Y,eY⟩:∃Y:Pn,Y=⟨rk,rb,m2,t2,gt⟩:=⟨_,rfl⟩;have e39:=S15 _ _ e39;have e19:=S15 _ _ e19;have TL15:=TL14.same s15;have epl:dL (8*2^s'') 0 ((gs.map (thD rk rb)).map (·.2))=dL (8*2^X.ps) 0 ((gs.map (thD X.pk X.pb)).map (·.2)):=by rw[eX]
  have eyl:dL (8*2^t2) 0 ((gs.map cz).map (·.2))=dL (8*2^Y.ps) 0 ((gs.map cz).map (·.2)):=by rw[eY]
  have J:B81 K H15 g a1 a2 p15 a3 q2 b1 b2 b3 X Y (av (bV (8*2^X.ps) (2^X.pm*(8*2^X.ps)) (gs.map (thD X.pk X.pb)))) tv (fL X 0 w8 (bV (8*2^X.ps) (2^X.pm*(8*2^X.ps)) (gs.map (thD X.pk X.pb)))) (dL (8*2^X.ps) 0 ((gs.map (thD X.pk X.pb)).map (·.2))) (dL (8*2^Y.ps) 0 ((gs.map cz).map (·.2))) bls gs:=
   ⟨S15.tup gu9,gst9.same S15,hpl14.mv s15,s15.seq cd14,SqL.of l15,ta15,by rw[<- epl];exact TL15.d,(S9.trans S15) _ _ e0,by rw[eY];exact e19,by rw[<- eyl];exact e39⟩
  have hw0:∀z∈av (bV (8*2^X.ps) (2^X.pm*(8*2^X.ps)) (gs.map (thD X.pk X.pb))),0<=z:=fun z hz=>(co.rng z hz).1
  have hws:∀i,i < gs.length->(i+1)*(8*2^X.ps)<=(av (bV (8*2^X.ps) (2^X.pm*(8*2^X.ps)) (gs.map (thD X.pk X.pb)))).length:=fun i hi=>by
   rw[co.len,show 8*2^(X.pm+X.ps)=2^X.pm*(8*2^X.ps) by rw[Nat.pow_add];ac_rfl]
   exact Nat.mul_le_mul_right _ (Nat.le_trans hi (show gs.length<=2^X.pm by rw[eX];exact hm1.1))
  have hy7:Y.ps<=7:=by rw[eY];show t2<=7;lia
  have g16:gs.length<=16:=by lia
  have hgb:∀bk∈gs,bk.length<=30/\∀kn∈bk,GI gs.length X.pg kn:=fun bk hb=>⟨h30 bk hb,by rw[eX];exact(gu.ok.blk bk hb).1⟩
  have hbk2:=hbk Y.ps;have hm1X:iV gs.length X.pm:=by rw[eX];exact hm1
  have ht1X:iV M2 X.ps:=by rw[eX];exact ht1
  have hM2X:pw M2 (gs.map (thD X.pk X.pb)):=by rw[eX];exact hM2
  have hfitX:∀bk∈gs,lnW (thD X.pk X.pb bk).1<=8*2^X.ps:=by rw[eX];exact hfit
  clear hbk hm1 ht1 hM2 hfit e19 e39 TL14 TL13 TL9 TL6 k0q14 hsw hlw l14 s14 s13 gst12 gu12 rq12 S12 eW hpl6 cd6 pq6 ei epl eyl pr9 l9 gst9 rq9;walk_at "g";intro le H16 s16 hle;have J16:=J.same s16;have hen:SqL K H16 le ((gs.map fun bk=>lnW (thD X.pk X.pb bk).1).map fun e=>V.int (e:Nat)):=by rw[List.map_map];exact hle
  have hen0:(gs.map fun bk=>lnW (thD X.pk X.pb bk).1)≠[]:=fun z=>hne (List.map_eq_nil_iff.mp z)
  have hen1:(gs.map fun bk=>lnW (thD X.pk X.pb bk).1).length<=100:=by rw[List.length_map];lia
  have hen2:∃e∈gs.map fun bk=>lnW (thD X.pk X.pb bk).1,(e+7) / 8=M2:=by
   obtain⟨d,hd,e⟩:=hM2X.mem;obtain⟨bk,hb,rfl⟩:=List.mem_map.mp hd;exact⟨_,List.mem_map.mpr ⟨bk,hb,rfl⟩,e⟩
  have hen3:∀e∈gs.map fun bk=>lnW (thD X.pk X.pb bk).1,(e+7) / 8<=M2:=fun e he=>by
   obtain⟨bk,hb,rfl⟩:=List.mem_map.mp he;exact hM2X.le _ (List.mem_map_of_mem hb)
  have gl2:iV (bls.map V.ref).length X.pm:=by rw[gl];exact hm1X
  have gu16:=J16.gu;have hpl16:=J16.pl;walk_at "g";refine⟨fun Z' H'=>aA (ay H16 H'/\Z'=[some (.ref a),some (.ref d1),some (.ref rm),some (.int gt),some (.ref g),some (.ref a1),some (.ref a2),some (.ref a3),some (.ref q2),some (.ref ln2),i10,some (.ref q3),some (.ref le),none]),?_,?_⟩
  .walk_at "g";intro H17 s17;walk_at "g";exact aA.mk ⟨s17,rfl⟩
  rintro Z' H17 ⟨s17,rfl⟩
  have J17:=J16.same s17;have gq17:SqL K H17 g (bls.map V.ref)\/SqT K H17 g (bls.map V.ref):= .inr J17.gu;have pa17:=J17.pl.at_;have cd17:=J17.cd;have p3:atI [V.int X.pk,V.int X.pb,V.int X.pm,V.int X.ps,V.int X.pg] 3=some (.int X.ps):=a9 (j:=3) rfl;have hXs:X.ps<=7:=by have:=J17.pl.ms;lia
  have cps:mQ 8 (X.ps:Int):=⟨by lia,by lia,by decide⟩
  have ep:(8:Int)*2^((X.ps:Nat):Int).toNat=((8*2^X.ps:Nat):Int):=by
   rw[Int.toNat_natCast,Int.natCast_mul,Int.natCast_pow]
   rfl
  have hS:8*2^X.ps<=1024:=Nat.mul_le_mul_left 8 (show 2^X.ps<=2^7 from Nat.pow_le_pow_right (by decide) hXs)
  have cml:qm ((bls.map V.ref).length:Int) (8*2^((X.ps:Nat):Int).toNat):=by rw[ep];exact .inr ⟨by lia,by lia⟩
  have egl:((bls.map V.ref).length:Int)*((8*2^X.ps:Nat):Int)=((gs.length*(8*2^X.ps):Nat):Int):=by rw[gl];exact(Int.natCast_mul _ _).symm
  have hrest:=A1 (S:=8*2^X.ps) (tot:=2^X.pm*(8*2^X.ps)) (ds:=gs.map (thD X.pk X.pb)) (fun d hd=>by obtain⟨bk,hb,rfl⟩:=List.mem_map.mp hd;exact hfitX bk hb)
  rw[List.length_map] at hrest;walk_at "g";rw[ep,egl];rw[Cb,hrest];intro p18 hp18;obtain⟨R,eR⟩:∃R,R=2^X.pm*(8*2^X.ps) - gs.length*(8*2^X.ps):=⟨_,rfl⟩;rw[<- eR];have hRl:R<=1024:=by
   have h1:2^X.pm*(8*2^X.ps)=8*2^(X.pm+X.ps):=by rw[Nat.pow_add];ac_rfl
   have h2:2^(X.pm+X.ps)<=2^7:=Nat.pow_le_pow_right (by decide) J17.pl.ms
   lia
  have l18:SqL K (upd H17 p18 (.lst ((List.replicate R (0:Int)).map V.int))) p18 ((List.replicate R (0:Int)).map V.int):=SqL.of ad;have gq18:SqL K (upd H17 p18 (.lst ((List.replicate R (0:Int)).map V.int))) p18 ((List.replicate R (0:Int)).map V.int)\/SqT K (upd H17 p18 (.lst ((List.replicate R (0:Int)).map V.int))) p18 ((List.replicate R (0:Int)).map V.int):= .inl l18;generalize upd H17 p18 (.lst ((List.replicate R (0:Int)).map V.int))=H18 at*;walk_at "g";intro p19 hp19;have s19:=af hp19 (.lst [.int 0]);have l19:upd H18 p19 (.lst [.int 0]) p19=some (.lst [.int 0]):=ad;have l18':=s19.seq l18;have gq19:SqL K (upd H18 p19 (.lst [.int 0])) p18 ((List.replicate R (0:Int)).map V.int)\/SqT K (upd H18 p19 (.lst [.int 0])) p18 ((List.replicate R (0:Int)).map V.int):= .inl l18';generalize upd H18 p19 (.lst [.int 0])=H19 at*;have eln:(((List.replicate R (0:Int)).map V.int).length:Int).toNat=R:=by rw[List.length_map,List.length_replicate];rfl
  walk_at "g";rw[eln];refine⟨Nat.le_trans (show 1*R<=1024 by lia) (by decide),fun p20 hp20=> ?_⟩
  rw[zp];refine⟨p18,p20,_,_,rfl,rfl,(af hp20 _).seq l18',SqL.of ad,?_⟩
  rw[if_neg (by decide),decide_eq_true rfl]
  exact q _
end
end My
set_option Elab.async true
namespace PySem.Challenge.cw_fencemask_k81_masks_left_out_holds
def tw5254958214179974419:=0
def tw14958042631899311095:=0
def tw4952538798567403714:=0
def tw7927780108636251958:=0
def tw12849550558629467159:=0
def tw11636665530110420335:=0
def tw18306974312400474935:=0
def tw10497686605827990096:=0
def tw2260804419862878605:=0
def tw16520919969046969209:=0
def tw813081697739039631:=0
def tw4314167518902416540:=0
def tw14734520425984065271:=0
def tw4774477176068175984:=0
def tw4761277345531136857:=0
def tw9534273514520809635:=0
def tw5366075710654589827:=0
def tw6136125507275513914:=0
def tw3658904709064327268:=0
def tw6208979012324880517:=0
def tw2476780815787613252:=0
def tw11359382765232090374:=0
def tw11318897356541912791:=0
def tw6691065189662192495:=0
def tw2910942577124937515:=0
def tw12099685547584455403:=0
def tw15638650524983289675:=0
def tw12484167549097788890:=0
def tw11906501859229102303:=0
def tw3658340736905544611:=0
def tw3684651164895875300:=0
def tw3471703425383419358:=0
def tw16958813667598482788:=0
def tw9319580165320621336:=0
def tw11171682437615442231:=0
def tw9658821458886339701:=0
def tw17341239075158039653:=0
def tw4176955437947358773:=0
def tw4675807062425250746:=0
def tw1070936523128467096:=0
def tw13159363828774101707:=0
def tw3087352738326641385:=0
def tw8373042805907335973:=0
def tw18072464328766643708:=0
def tw17814108136340653363:=0
def tw12323403162020773960:=0
def tw11390899280485679177:=0
def tw7138315796731557931:=0
def tw16518171024964981458:=0
def tw11442863077596200394:=0
def tw3790567588987191892:=0
def tw1913062555447714984:=0
def tw7386970526758464700:=0
def tw4046157503569032443:=0
def tw15945883836535613874:=0
def tw4108061310857743827:=0
def tw6673480587365825200:=0
def tw4462129120935034824:=0
def tw7687707348073890725:=0
def tw5860422918144998861:=0
def tw4801847134012527185:=0
def tw16983760162821923310:=0
def tw14787931355870951714:=0
def tw18220540652613778601:=0
def tw11529813034659218830:=0
def tw10448019330248066946:=0
def tw9256168255071113672:=0
def tw3712812600505047782:=0
def tw17078549642829523234:=0
def tw18070734496777766116:=0
def tw12799166248988172807:=0
def tw5733095397630527963:=0
def tw13348372245652960158:=0
def tw858522224116885016:=0
def tw2611732161899832530:=0
def tw4085100541127207995:=0
def tw17797993527382552998:=0
def tw6012060326541074403:=0
def tw174883117428496285:=0
def tw6926607136405755345:=0
def tw12764482688616180979:=0
def tw11468776156681429295:=0
def tw13401288531315965653:=0
def tw9515093858520456093:=0
def tw2952962003216913750:=0
def tw7205541822788324041:=0
def tw11604366891942024030:=0
def tw11408173860319824278:=0
def tw15987187262109607710:=0
def tw11995149454267076919:=0
def tw6595324947037480284:=0
def tw14513546881602028592:=0
def tw1442622004206984727:=0
def tw15337950301423552292:=0
def tw18336729251293982137:=0
def tw17851190833145690087:=0
def tw18658180403934004:=0
def tw9932472015178306023:=0
def tw7024030416437422693:=0
def tw7373341379754413870:=0
def tw8403872131656383182:=0
def tw2596426530594979507:=0
def tw9151354361979159887:=0
def tw2199546491176032451:=0
def tw5959478487660211169:=0
def tw9470384924298603553:=0
def tw7691126742872933596:=0
def tw14470964647864054521:=0
def tw2897785392443109545:=0
def tw12691755218159556946:=0
def tw16307299090185513571:=0
def tw4724181783281998207:=0
def tw15561775662866811096:=0
def tw6101749030205898530:=0
def tw5378555316786768341:=0
def tw9613802022197579020:=0
def tw10189207747982877222:=0
def tw10037723520283353809:=0
def tw8509147412134518612:=0
def tw4332821173012503584:=0
def tw15006178102265630950:=0
def tw6481433091841982054:=0
def tw5675878416519201529:=0
def tw12520344850112743040:=0
def tw2430322232301628623:=0
def tw2680503615268906982:=0
def tw5818491947509420802:=0
def tw15601333009567894667:=0
def tw16228892189072586568:=0
def tw15575857697289737414:=0
def tw16772267202091497590:=0
def tw1519661107043170294:=0
def tw13173154886743458913:=0
def tw1867566082881686515:=0
def tw5378257974038036103:=0
def tw7137118496396041497:=0
def tw11286098895684448634:=0
def tw14705724472001910155:=0
def tw16252410451269334660:=0
def tw16750730183777602535:=0
def tw8933159698476019656:=0
def tw3637905530480831718:=0
def tw13247870497619294955:=0
def tw4722775692155929300:=0
def tw14740964247327259147:=0
def tw8225744220855695918:=0
def tw9583219181572855994:=0
def tw14856034348253425383:=0
def tw3151146899896653849:=0
def tw14146180668533810687:=0
def tw8526337111565561183:=0
def tw8716684030597826020:=0
def tw7820151973329565491:=0
def tw4072160552279698886:=0
def tw7878568868567093646:=0
def tw1838296190673571665:=0
def tw3839038600801504873:=0
def tw7641989607717526564:=0
def tw7515988143885639916:=0
def tw13486795117523744144:=0
def tw14235722918632315979:=0
def tw9084034229020893268:=0
def tw6643940186665530553:=0
def tw11536180468445525068:=0
def tw7643590625083475141:=0
def tw5162877931228153577:=0
def tw10370008284764748599:=0
def tw11328120485193931040:=0
def tw10544106231179277197:=0
def tw8857754757843593041:=0
def tw14681449100447453471:=0
def tw18284235374965579459:=0
def tw1324035056157782130:=0
def tw345687508999647878:=0
def tw7609289204334231488:=0
def tw6160461697705710960:=0
def tw17854585587385544788:=0
def tw4080529363132798741:=0
def tw7397261072734153525:=0
def tw8521525973205662195:=0
def tw14006969035773229887:=0
def tw377507032325712149:=0
def tw146349449772762046:=0
def tw14362938657383830637:=0
def tw16589459331264951188:=0
def tw9667809648971384710:=0
def tw17901694708255045258:=0
def tw5590367305774039689:=0
def tw16891093146744704686:=0
def tw13675281812277735699:=0
def tw17035289450989967144:=0
def tw9202382742718076515:=0
def tw15220550175259589211:=0
def tw10460735786568774865:=0
def tw3191646254747456826:=0
def tw12967204780589862282:=0
def tw6192895676303284890:=0
def tw11402690346477835486:=0
def tw16453465571390265952:=0
def tw18300571028681617677:=0
def tw1798772031973406639:=0
def tw12564345939056503676:=0
def tw4498160357788927917:=0
def tw310528221847149793:=0
def tw15914154062836757643:=0
def tw11208166182492657911:=0
def tw1688020104930090045:=0
def tw549712842176399466:=0
def tw10464016541162719304:=0
def tw16055787446118924596:=0
def tw16100665536086354010:=0
def tw16326189909972253254:=0
def tw5599050600522433951:=0
def tw15561283279817986139:=0
def tw18423280304180613535:=0
def tw17403921832509109871:=0
def tw15009267979442982474:=0
def tw10735173767717158577:=0
def tw18042137767251731202:=0
def tw4631852867426983720:=0
def tw15239219062451243101:=0
def tw7891685550966341455:=0
def tw13357278014284837983:=0
def tw9542947436847150022:=0
def tw13844082332094033059:=0
def tw17125420073863316357:=0
def tw15637131295320064470:=0
def tw5986013865429383107:=0
def tw10458010973442683435:=0
def tw11024814042133489353:=0
def tw15129592551130421448:=0
def tw7476732809529691784:=0
def tw10378460975082509992:=0
def tw16893698926543191084:=0
def tw12550342691559605702:=0
def tw4122333626901817272:=0
def tw8341675183376578948:=0
def tw1303612208968044200:=0
def tw10914788083624994905:=0
def tw13570042756870175882:=0
def tw12497914408386941885:=0
def tw15938184885837776439:=0
def tw13805022488226241094:=0
def tw3702348792170699049:=0
def tw16918018944599462863:=0
def tw18246743845026932137:=0
def tw2595064155452967426:=0
def tw15922190379094346301:=0
def tw9961599392651449903:=0
def tw18350647662386544650:=0
def tw15474477122833355563:=0
def tw2683261611578224471:=0
def tw13954469917238965163:=0
def tw6283744257583903528:=0
def tw3886123580960830385:=0
def tw12314278369636570427:=0
def tw10207865806850170469:=0
def tw10658346975656923825:=0
def tw16831084010854084711:=0
def tw9673891739747673092:=0
def tw1803853740184350545:=0
def tw12134976616112866578:=0
def tw16728785340477082671:=0
def tw16893971460614666545:=0
def tw8627990539526452046:=0
def tw3430556234186965410:=0
def tw14286074367676458581:=0
def tw6128327834787951263:=0
def tw18156507991480166678:=0
def tw13174045130960577596:=0
def tw14385438511143813471:=0
def tw1654143613482671681:=0
def tw16063527850291830008:=0
def tw1933626886158160425:=0
def tw16801617907072184491:=0
def tw16201119008502081876:=0
def tw13393484431795393030:=0
def tw2967145478171604572:=0
def tw12034201404920462802:=0
def tw12148216560090244011:=0
def tw9598589394349276429:=0
def tw13463579761847397205:=0
def tw798082103735955330:=0
def tw17032786859519404053:=0
def tw10143041959843613594:=0
def tw1015061564415836148:=0
def tw7902871055948805987:=0
def tw8263478591321567827:=0
def tw1319034322992710938:=0
def tw16024527876656608778:=0
def tw4348020058544924596:=0
def tw7945941350841839448:=0
def tw1945259245177638418:=0
def tw11035018208716070813:=0
def tw7330104878490775425:=0
def tw13814318956915760849:=0
def tw12390147655311422334:=0
def tw15163316067272949733:=0
def tw17731220302703596826:=0
def tw14856414981238340492:=0
def tw8864395527523009671:=0
def tw7992317708852993293:=0
def tw10368869313979770210:=0
def tw4403146554937370644:=0
def tw11089178070249064806:=0
def tw5232182872799061997:=0
def tw14296833120324738277:=0
def tw6334945134960387224:=0
def tw55258123022746114:=0
def tw6787359127623584429:=0
def tw14636874587280074683:=0
def tw281424382746468198:=0
def tw15527820040087355244:=0
def tw4408820497305561180:=0
def tw6341826644592405134:=0
def tw13239389455802784465:=0
def tw3886354243637448141:=0
def tw13342233912801552897:=0
def tw13960199854793729961:=0
def tw4326685316788824119:=0
def tw14143025373823998430:=0
def tw7483996708713776550:=0
def tw457380283400567571:=0
def tw13299732087790493649:=0
def tw8223036653344471113:=0
def tw486801159308386659:=0
def tw2117343237290441708:=0
def tw6662195557173755903:=0
def tw14625606744615596236:=0
def tw128137330951138619:=0
def tw14921674064424330860:=0
def tw7186031132662317532:=0
def tw8144112827555275067:=0
def tw2029573878564588500:=0
def tw11320573887428855002:=0
def tw439219837087004305:=0
def tw16483840248048020334:=0
def tw4425001116040188694:=0
def tw10936333749280189521:=0
def tw16759925032335471344:=0
def tw15012310869657393045:=0
def tw11766967122626262228:=0
def tw2496068427363395602:=0
def tw4699145608870817186:=0
def tw9762251889703945167:=0
def tw16612793735997913594:=0
def tw2747457400399855438:=0
end PySem.Challenge.cw_fencemask_k81_masks_left_out_holds
open PySem PySem.W PyProof.Rows
set_option maxRecDepth 100000 in
set_option maxHeartbeats 0 in
theorem PySem.Challenge.cw_fencemask_k81_masks_left_out_holds : PySem.Challenge.rw_fencemask_k81_masks_left_out.Holds := by
 w_on;o_law;k_head;(case hw=>w_witness2)
 k_fill
 refine L2.DO (l:=PySem.Challenge.rw_fencemask_k81_masks_left_out) (k:=12) (d:=_) (x:="_law_script") rfl rfl ⟨rfl,by decide,by decide⟩ (fun w h Y=>PySem.W.kIn_of Y) ?F
 case F=>
  intro w mg fa h KX G hmg;have B:L2.Bi mg:=by
   refine' L2.Ii KX G ?z0 ?z1 ?z2 ?z3 ?z4 ?z5 ?z6 ?z7 ?z8 ?z9 ?z10 ?z11 ?z12 ?z13 ?z14 ?z15
   (case z0=>k_is)
   (case z1=>k_is)
   (case z2=>k_is)
   (case z3=>k_is)
   (case z4=>k_is)
   (case z5=>k_is)
   (case z6=>k_is)
   (case z7=>k_is)
   (case z8=>k_is)
   (case z9=>k_is)
   (case z10=>k_is)
   (case z11=>k_is)
   (case z12=>k_is)
   (case z13=>k_is)
   (case z14=>k_is)
   (case z15=>k_is)
  have T:My.Tb (L2.KOf KX) mg w.params:=by
   dsimp only[L2.KOf];refine' My.HJ KX G ?s (L2.d0 ?sl ?sz ?sv) ?a ?l (L2.d0 ?l0 ?z0 ?v0) (L2.d0 ?l1 ?z1 ?v1) (L2.d0 ?l2 ?z2 ?v2) (L2.d0 ?l3 ?z3 ?v3) (L2.d0 ?l4 ?z4 ?v4) (L2.d0 ?l5 ?z5 ?v5) (L2.d0 ?l6 ?z6 ?v6) (L2.d0 ?l7 ?z7 ?v7) (L2.d0 ?l8 ?z8 ?v8) (L2.d0 ?l9 ?z9 ?v9) (L2.d0 ?l10 ?z10 ?v10) (L2.d0 ?l11 ?z11 ?v11) (L2.d0 ?l12 ?z12 ?v12) (L2.d0 ?l13 ?z13 ?v13) (L2.d0 ?l14 ?z14 ?v14) (L2.d0 ?l15 ?z15 ?v15) (L2.d0 ?l16 ?z16 ?v16) (L2.d0 ?l17 ?z17 ?v17) (L2.d0 ?l18 ?z18 ?v18)
   case s | sl | a | l | l0 | l1 | l2 | l3 | l4 | l5 | l6 | l7 | l8 | l9 | l10 | l11 | l12 | l13 | l14 | l15 | l16 | l17 | l18=>k_is
   case sz | z0 | z1 | z2 | z3 | z4 | z5 | z6 | z7 | z8 | z9 | z10 | z11 | z12 | z13 | z14 | z15 | z16 | z17 | z18=>exact Nat.le_of_ble_eq_true rfl
   case sv | v0 | v1 | v2 | v3 | v4 | v5 | v6 | v7 | v8 | v9 | v10 | v11 | v12 | v13 | v14 | v15 | v16 | v17 | v18=>repeat' (first | exact PySem.Paired.nil | refine PySem.Paired.cons ⟨_,rfl⟩ ?_)
  have T2:My.Tb2 (L2.KOf KX) mg:=by
   dsimp only[L2.KOf];refine' ⟨⟨_,PySem.W.mg_of KX G ?a1,L2.d0 ?l1 ?z1 ?v1⟩,⟨_,PySem.W.mg_of KX G ?a2,L2.d0 ?l2 ?z2 ?v2⟩⟩
   case a1 | l1 | a2 | l2=>k_is
   case z1 | z2=>exact Nat.le_of_ble_eq_true rfl
   case v1 | v2=>repeat' (first | exact PySem.Paired.nil | refine PySem.Paired.cons ⟨_,rfl⟩ ?_)
  have Tx:(∃ CT,mg "TooLong"=some (.ref CT)/\L2.Cp (L2.KOf KX) CT)/\mg "sorted"=none:=by
   dsimp only[L2.KOf];refine' ⟨⟨_,PySem.W.mg_of KX G ?a,⟨?b⟩⟩,PySem.W.mg_none_of KX G ?c⟩
   (case a=>k_is);(case b=>k_exc);(case c=>k_is)
  have⟨cG,aZ,bY,dI,cH,dA,f_,cW,cR⟩:∃C:Addr,L2.gF (L2.KOf KX) mg "LaidBlock" C/\My.bX (L2.KOf KX) C/\My.dG (L2.KOf KX) C/\My.cL (L2.KOf KX) C/\My.dw (L2.KOf KX) C/\My.f6 (L2.KOf KX) C/\My.de (L2.KOf KX) C/\My.cM (L2.KOf KX) C:=by
   dsimp only[L2.KOf];refine' ⟨_,L2.By KX G ?a ?pg ?hd ?po ?sa ?mk ?kp,⟨?n0,?n1,?n2⟩,L2.fo My.ly ?a0 ?l0 ?c0 ?f0 ?k0,L2.fo My.iE ?a1 ?l1 ?c1 ?f1 ?k1,L2.fo My.kD ?a2 ?l2 ?c2 ?f2 ?k2,L2.fo My.pf ?a3 ?l3 ?c3 ?f3 ?k3,L2.fo My.jB ?a4 ?l4 ?c4 ?f4 ?k4,L2.fo My.jj ?a5 ?l5 ?c5 ?f5 ?k5⟩
   (case a=>k_is);(case pg=>k_is);(case hd=>k_is);(case po=>k_is);(case sa=>k_is);(case mk=>k_is);(case kp=>k_is)
   (case n0=>k_is);(case n1=>k_is);(case n2=>k_is)
   (case a0=>k_is);(case l0=>k_is);(case c0=>k_is);(case f0=>k_is);(case k0=>k_is)
   (case a1=>k_is);(case l1=>k_is);(case c1=>k_is);(case f1=>k_is);(case k1=>k_is)
   (case a2=>k_is);(case l2=>k_is);(case c2=>k_is);(case f2=>k_is);(case k2=>k_is)
   (case a3=>k_is);(case l3=>k_is);(case c3=>k_is);(case f3=>k_is);(case k3=>k_is)
   (case a4=>k_is);(case l4=>k_is);(case c4=>k_is);(case f4=>k_is);(case k4=>k_is)
   (case a5=>k_is);(case l5=>k_is);(case c5=>k_is);(case f5=>k_is);(case k5=>k_is)
  have⟨iO,gf,kS,fN,iB,eV,d6,eQ⟩:∃C:Addr,L2.gF (L2.KOf KX) mg "Known" C/\My.kO (L2.KOf KX) C/\My.ga (L2.KOf KX) C/\My.iu (L2.KOf KX) C/\My.eO (L2.KOf KX) C/\My.d_ (L2.KOf KX) C/\My.e9 (L2.KOf KX) C:=by
   dsimp only[L2.KOf];refine' ⟨_,L2.By KX G ?a ?pg ?hd ?po ?sa ?mk ?kp,⟨?n0,?n1,?n2⟩,L2.fo My.pU ?a0 ?l0 ?c0 ?f0 ?k0,L2.fo My.rR ?a1 ?l1 ?c1 ?f1 ?k1,L2.fo My.nM ?a2 ?l2 ?c2 ?f2 ?k2,L2.fo My.ma ?a3 ?l3 ?c3 ?f3 ?k3,L2.fo My.nL ?a4 ?l4 ?c4 ?f4 ?k4⟩
   (case a=>k_is);(case pg=>k_is);(case hd=>k_is);(case po=>k_is);(case sa=>k_is);(case mk=>k_is);(case kp=>k_is)
   (case n0=>k_is);(case n1=>k_is);(case n2=>k_is)
   (case a0=>k_is);(case l0=>k_is);(case c0=>k_is);(case f0=>k_is);(case k0=>k_is)
   (case a1=>k_is);(case l1=>k_is);(case c1=>k_is);(case f1=>k_is);(case k1=>k_is)
   (case a2=>k_is);(case l2=>k_is);(case c2=>k_is);(case f2=>k_is);(case k2=>k_is)
   (case a3=>k_is);(case l3=>k_is);(case c3=>k_is);(case f3=>k_is);(case k3=>k_is)
   (case a4=>k_is);(case l4=>k_is);(case c4=>k_is);(case f4=>k_is);(case k4=>k_is)
  have gZ:=L2.aD My.rW KX G (by k_is) (by k_is) (by k_is) (by k_is)
  have At:=L2.aD My.Fc KX G (by k_is) (by k_is) (by k_is) (by k_is)
  have wW:=L2.aD My.DV KX G (by k_is) (by k_is) (by k_is) (by k_is)
  have tX:=L2.aD My.B7 KX G (by k_is) (by k_is) (by k_is) (by k_is)
  have jN:=L2.aD My.uG KX G (by k_is) (by k_is) (by k_is) (by k_is)
  have ii:=L2.aD My.sj KX G (by k_is) (by k_is) (by k_is) (by k_is)
  have kC:=L2.aD My.vg KX G (by k_is) (by k_is) (by k_is) (by k_is)
  have oE:=L2.aD My.yZ KX G (by k_is) (by k_is) (by k_is) (by k_is)
  have nu:=L2.aD My.xR KX G (by k_is) (by k_is) (by k_is) (by k_is)
  have dk:=L2.aD My.jt KX G (by k_is) (by k_is) (by k_is) (by k_is)
  have fS:=L2.aD My.o7 KX G (by k_is) (by k_is) (by k_is) (by k_is)
  have ol:=L2.aD My.yU KX G (by k_is) (by k_is) (by k_is) (by k_is)
  have iz:=L2.aD My.rN KX G (by k_is) (by k_is) (by k_is) (by k_is)
  have mJ:=L2.aD My.xm KX G (by k_is) (by k_is) (by k_is) (by k_is)
  have j_:=L2.aD My.uH KX G (by k_is) (by k_is) (by k_is) (by k_is)
  have fU:=L2.aD My.pT KX G (by k_is) (by k_is) (by k_is) (by k_is)
  have uo:=L2.aD My.CF KX G (by k_is) (by k_is) (by k_is) (by k_is)
  have mi:=L2.aD My.wl KX G (by k_is) (by k_is) (by k_is) (by k_is)
  have gU:=L2.aD My.rY KX G (by k_is) (by k_is) (by k_is) (by k_is)
  have mf:=L2.aD My.xk KX G (by k_is) (by k_is) (by k_is) (by k_is)
  have oJ:=L2.aD My.zG KX G (by k_is) (by k_is) (by k_is) (by k_is)
  have oO:=L2.aD My.Aa KX G (by k_is) (by k_is) (by k_is) (by k_is)
  have oC:=L2.aD My.zt KX G (by k_is) (by k_is) (by k_is) (by k_is)
  have qA:=L2.aD My.A4 KX G (by k_is) (by k_is) (by k_is) (by k_is)
  have lD:=L2.aD My.xw KX G (by k_is) (by k_is) (by k_is) (by k_is)
  have lX:=L2.aD My.xQ KX G (by k_is) (by k_is) (by k_is) (by k_is)
  have kr:=L2.aD My.uN KX G (by k_is) (by k_is) (by k_is) (by k_is)
  have jb:=L2.aD My.tW KX G (by k_is) (by k_is) (by k_is) (by k_is)
  have mh:=L2.aD My.wA KX G (by k_is) (by k_is) (by k_is) (by k_is)
  have oT:=L2.aD My.y9 KX G (by k_is) (by k_is) (by k_is) (by k_is)
  have oS:=L2.aD My.yT KX G (by k_is) (by k_is) (by k_is) (by k_is)
  have jp:=L2.aD My.sJ KX G (by k_is) (by k_is) (by k_is) (by k_is)
  have mz:=L2.aD My.wF KX G (by k_is) (by k_is) (by k_is) (by k_is)
  have iC:=L2.aD My.r_ KX G (by k_is) (by k_is) (by k_is) (by k_is)
  have gA:=L2.aD My.qu KX G (by k_is) (by k_is) (by k_is) (by k_is)
  have h9:=L2.aD My.r8 KX G (by k_is) (by k_is) (by k_is) (by k_is)
  have nz:=L2.aD My.xN KX G (by k_is) (by k_is) (by k_is) (by k_is)
  have jM:=L2.aD My.uL KX G (by k_is) (by k_is) (by k_is) (by k_is)
  have oj:=L2.aD My.yQ KX G (by k_is) (by k_is) (by k_is) (by k_is)
  have dR:=L2.aD My.lB KX G (by k_is) (by k_is) (by k_is) (by k_is)
  have jh:=L2.aD My.ud KX G (by k_is) (by k_is) (by k_is) (by k_is)
  have xD:=L2.aD My.D9 KX G (by k_is) (by k_is) (by k_is) (by k_is)
  have kK:=L2.aD My.uK KX G (by k_is) (by k_is) (by k_is) (by k_is)
  have kd:=L2.aD My.uO KX G (by k_is) (by k_is) (by k_is) (by k_is)
  have tP:=L2.aD My.Cs KX G (by k_is) (by k_is) (by k_is) (by k_is)
  have wn:=L2.aD My.Dd KX G (by k_is) (by k_is) (by k_is) (by k_is)
  have iU:=L2.aD My.s_ KX G (by k_is) (by k_is) (by k_is) (by k_is)
  have nk:=L2.aD My.xv KX G (by k_is) (by k_is) (by k_is) (by k_is)
  have fQ:=L2.aD My.qc KX G (by k_is) (by k_is) (by k_is) (by k_is)
  have ni:=L2.aD My.wE KX G (by k_is) (by k_is) (by k_is) (by k_is)
  have fT:=L2.aD My.ph KX G (by k_is) (by k_is) (by k_is) (by k_is)
  have gX:=L2.aD My.sw KX G (by k_is) (by k_is) (by k_is) (by k_is)
  have ir:=L2.aD My.sg KX G (by k_is) (by k_is) (by k_is) (by k_is)
  have AS:=L2.aD My.E5 KX G (by k_is) (by k_is) (by k_is) (by k_is)
  have gy:=L2.aD My.qD KX G (by k_is) (by k_is) (by k_is) (by k_is)
  have AR:=L2.aD My.FE KX G (by k_is) (by k_is) (by k_is) (by k_is)
  have lJ:=L2.aD My.xg KX G (by k_is) (by k_is) (by k_is) (by k_is)
  have lW:=L2.aD My.wY KX G (by k_is) (by k_is) (by k_is) (by k_is)
  have lZ:=L2.aD My.wP KX G (by k_is) (by k_is) (by k_is) (by k_is)
  have ky:=L2.aD My.uI KX G (by k_is) (by k_is) (by k_is) (by k_is)
  have ko:=L2.aD My.uP KX G (by k_is) (by k_is) (by k_is) (by k_is)
  have nj:=L2.aD My.xf KX G (by k_is) (by k_is) (by k_is) (by k_is)
  have jU:=L2.aD My.uJ KX G (by k_is) (by k_is) (by k_is) (by k_is)
  have nr:=L2.aD My.ww KX G (by k_is) (by k_is) (by k_is) (by k_is)
  have jY:=L2.aD My.uF KX G (by k_is) (by k_is) (by k_is) (by k_is)
  have m7:=L2.aD My.xl KX G (by k_is) (by k_is) (by k_is) (by k_is)
  have qy:=L2.aD My.AV KX G (by k_is) (by k_is) (by k_is) (by k_is)
  have jO:=L2.aD My.uS KX G (by k_is) (by k_is) (by k_is) (by k_is)
  have ki:=L2.aD My.u5 KX G (by k_is) (by k_is) (by k_is) (by k_is)
  have jg:=L2.aD My.sT KX G (by k_is) (by k_is) (by k_is) (by k_is)
  refine' L2.Ho My.Hm KX G hmg ?a ?l ?c ?k (fun f fd D base=>My.GA B T T2 Tx aZ bY gf kS gZ At wW tX jN ii kC oE nu dk fS ol iz mJ j_ fU uo mi gU mf oJ oO oC qA lD lX kr jb mh oT oS jp mz iC gA h9 nz jM oj dR jh xD dI cH dA f_ cW cR kK kd tP wn iU nk fQ ni fT gX ir AS fN iB eV d6 eQ gy AR lJ lW lZ ky ko nj jU nr jY m7 qy jO ki jg D)
  case a | l | c | k=>k_is
