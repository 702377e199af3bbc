import PyProof.Rows.All
import Wide.All
import OpenK.AllK
import Wide.FinOn
import Lean
import PyProof.EqAt
import PyProof.EqKinds
import PyProof.TupleCall
import PySem.Challenge.RW_fencemask_k97_whole_guests_from_any_bund
open PySem.W (Frag)
set_option Elab.async false
set_option linter.all false
set_option maxRecDepth 100000
namespace L2
open PySem PySem.Spec PyProof.Rows
abbrev Key:=Sum Int Str
def kJ:Key->Value->Bool
 | .inl k,v=>Value.isInt k v
 | .inr x,v=>Value.isStrOf x v
def ME (w:World):Key->Int
 | .inl k=>hashInt k
 | .inr x=>hashStr w x
theorem cB:∀ {k:Key}{v:Value},kJ k v=true->(∃ i t,k=Sum.inl i/\v=Value.int i t)\/(∃ x t,k=Sum.inr x/\v=Value.str x t)
 | .inl i,v,h=>by
  obtain⟨t,e⟩:=Value.isInt_shape (k:=i) (v:=v) h;exact .inl ⟨i,t,rfl,e⟩
 | .inr x,v,h=>by
  obtain⟨t,e⟩:=Value.isStrOf_shape (x:=x) (v:=v) h;exact .inr ⟨x,t,rfl,e⟩
theorem EG (i:Int) (t:Tok):kJ (.inl i) (.int i t)=true:=by simp [kJ,Value.isInt]
theorem xY (x:Str) (t:Tok):kJ (.inr x) (.str x t)=true:=by simp [kJ,Value.isStrOf]
theorem JJ (a b:Int):decide ((Sum.inl a:Key)=Sum.inl b)=(a == b):=by
 by_cases e:a=b
 .subst e;simp
 .have h:¬(Sum.inl a:Key)=Sum.inl b:=fun q=>e (Sum.inl.inj q)
  rw[decide_eq_false h];exact(beq_eq_false_iff_ne.mpr e).symm
theorem Ko (a b:Str):decide ((Sum.inr a:Key)=Sum.inr b)=decide (a=b):=by
 by_cases e:a=b
 .subst e;simp
 .have h:¬(Sum.inr a:Key)=Sum.inr b:=fun q=>e (Sum.inr.inj q)
  rw[decide_eq_false h,decide_eq_false e]
theorem J0 (a:Int) (b:Str):decide ((Sum.inl a:Key)=Sum.inr b)=false:=decide_eq_false (fun q=>nomatch q)
theorem JE (a:Str) (b:Int):decide ((Sum.inr a:Key)=Sum.inl b)=false:=decide_eq_false (fun q=>nomatch q)
def bP (prog:Program) (w:World):PySem.KeyKind prog w Key where
 is:=kJ
 hash:=ME w
 inj:=fun v a b ha hb=>by
  rcases cB ha with⟨i,t,rfl,rfl⟩|⟨x,t,rfl,rfl⟩
  .rcases cB hb with⟨j,u,rfl,e⟩|⟨y,u,rfl,e⟩
   .injection e with e1 _;rw[e1]
   .exact nomatch e
  .rcases cB hb with⟨j,u,rfl,e⟩|⟨y,u,rfl,e⟩
   .exact nomatch e
   .injection e with e1 _;rw[e1]
 byValue:=fun k v h=>by
  rcases cB h with⟨i,t,rfl,rfl⟩|⟨x,t,rfl,rfl⟩ <;> rfl
 pyHash:=fun hv h=>by
  rcases cB hv with⟨i,t,rfl,rfl⟩|⟨x,t,rfl,rfl⟩
  .exact wpAny_pyHash_int h
  .exact wpAny_pyHash_str h
 eqBool:=fun hu hv h=>by
  rcases cB hu with⟨i,t,rfl,rfl⟩|⟨x,t,rfl,rfl⟩
  .rcases cB hv with⟨j,u,rfl,rfl⟩|⟨y,u,rfl,rfl⟩
   .rw[JJ] at h;exact wpAny_eqBool_int h
   .rw[J0] at h;exact SeqAt.EqAt.int_str i t y u _ _ _ _ h
  .rcases cB hv with⟨j,u,rfl,rfl⟩|⟨y,u,rfl,rfl⟩
   .rw[JE] at h;exact SeqAt.EqAt.str_int x t j u _ _ _ _ h
   .rw[Ko] at h;exact wpAny_eqBool_str h
 «strs»:=fun k x t v h=>by
  rcases cB h with⟨i,u,rfl,e⟩|⟨y,u,rfl,e⟩
  .exact nomatch e
  .injection e with e1 _
   subst e1
   cases v <;> rfl
theorem Ck (prog:Program) (w:World) (i:Int) (t:Tok):(bP prog w).is (.inl i) (.int i t)=true:=EG i t
theorem tR (prog:Program) (w:World) (x:Str) (t:Tok):(bP prog w).is (.inr x) (.str x t)=true:=xY x t
inductive V where
 | non | bl (b:Bool) | int (i:Int) | str (x:Str) | byt (b:Array UInt8) | flt (b:UInt64) | ref (a:Addr) | ty (n:String)
 deriving DecidableEq
def bj:V->Value->Prop
 | .non,u=>u=Value.none
 | .bl b,u=>u=Value.bool b
 | .int i,u=>∃t,u=Value.int i t
 | .str x,u=>∃t,u=Value.str x t
 | .byt b,u=>∃t,u=Value.bytes b t
 | .flt b,u=>∃t,u=Value.float b t
 | .ref a,u=>u=Value.ref a
 | .ty n,u=>u=Value.type n
abbrev aW:List V->List Value->Prop:=Paired bj
theorem aW.length {xs:List V}{us:List Value}(r:aW xs us):xs.length=us.length:=Paired.length r
theorem aW.get:∀ {xs:List V}{us:List Value}{i:Nat}{x:V},aW xs us->xs[i]? =some x->∃u,us[i]? =some u/\bj x u
 | _,_,_,_,.nil,e=>by simp at e
 | _,_,0,_,.cons r _,e=>by simp at e;subst e;exact⟨_,rfl,r⟩
 | _,_,i+1,x,.cons _ t,e=>by
  obtain⟨u,h1,h2⟩:=aW.get (i:=i) (x:=x) t (by simpa using e)
  exact⟨u,by simpa using h1,h2⟩
theorem aW.set {x:V}{u:Value}(r:bj x u):∀ {xs:List V}{us:List Value}(i:Nat),aW xs us->aW (xs.set i x) (us.set i u)
 | _,_,_,.nil=> .nil
 | _,_,0,.cons _ t=> .cons r t
 | _,_,i+1,.cons q t=> .cons q (aW.set r i t)
theorem aW.append:∀ {xs ys:List V}{us ws:List Value},aW xs us->aW ys ws->aW (xs++ys) (us++ws)
 | _,_,_,_,.nil,s=>s
 | _,_,_,_,.cons r t,s=> .cons r (aW.append t s)
theorem aW.take:∀ {xs:List V}{us:List Value}(n:Nat),aW xs us->aW (xs.take n) (us.take n)
 | _,_,0,_=> .nil
 | _,_,_+1,.nil=> .nil
 | _,_,n+1,.cons r t=> .cons r (aW.take n t)
theorem aW.drop:∀ {xs:List V}{us:List Value}(n:Nat),aW xs us->aW (xs.drop n) (us.drop n)
 | _,_,0,r=>r
 | _,_,_+1,.nil=> .nil
 | _,_,n+1,.cons _ t=>aW.drop n t
def mQ:Option V->Option Value->Prop
 | some v,some u=>bj v u
 | none,none=>True
 | _,_=>False
def KV {κ:Type}:List (κ × V)->List (κ × Value)->Prop:=Paired fun(p:κ × V) (q:κ × Value)=>p.1=q.1/\bj p.2 q.2
def kV:Key->V
 | .inl i=> .int i
 | .inr x=> .str x
inductive HO where
 | lst (xs:List V)
 | tup (xs:List V)
 | dK (kvs:List (Key × V)) | dT (kvs:List (List Key × V))
 | set (S:Int->Bool) (n:Nat)
 | ins (C dx:Addr) (fs:List (Str × V))
 | own (x:Addr)
 | xd (fs:List (Str × V))
 | met (f x:Addr)
 | rng (lo hi:Int)
 | frz (o:Obj) (u:HO)
 | tbl (ps:Array Value)
 | ext (φ:Heap->Prop)
abbrev Hp:=Addr->Option HO
def upd (H:Hp) (a:Addr) (o:HO):Hp:=fun b=>if b=a then some o else H b
theorem ad {H:Hp}{a:Addr}{o:HO}:upd H a o a=some o:=by unfold upd;rw[if_pos rfl]
theorem ai {H:Hp}{a b:Addr}{o:HO}(h:b≠a):upd H a o b=H b:=by unfold upd;rw[if_neg h]
theorem dS {H:Hp}{a b:Addr}{o u:HO}(h:H a=some o) (h':H b=some u) (d:o≠u):a≠b:=by
 intro e;subst e;rw[h] at h';exact d (Option.some.inj h')
theorem aj {H:Hp}{a b:Addr}{o:HO}(h:H a=some o) (h':H b=none):a≠b:=by
 intro e;subst e;rw[h] at h';cases h'
section
variable (P : Program) (w : World)
def cn (H:Hp) (h:Heap) (a:Addr):HO->Prop
 | .lst xs=>xs.length<=sizeLine/\∃(its:List Value) (n:Nat),aW xs its/\h.get? a=some {cls:= .type "list",data:= .seq its.toArray n}
 | .tup xs=>xs.length<=sizeLine/\∃its:List Value,aW xs its/\IsTup h a its.toArray
 | .dK kvs=>kvs.length<=sizeLine/\(a == sysModules)=false/\∃vs,KV kvs vs/\h.DictOf (bP P w) a vs
 | .dT kvs=>kvs.length<=sizeLine/\(a == sysModules)=false/\∃xs:List (List Key × Addr × Value),
   Paired (fun(p:List Key × V) (q:List Key × Addr × Value)=>p.1=q.1/\H q.2.1=some (.tup (p.1.map kV))/\bj p.2 q.2.2) kvs xs/\
   ∃o es ep,h.get? a=some o/\o.ExactDict/\o.data= .dict es ep/\es.toList=xs.map (entryOfKey (tupleKind (bP P w)))/\(xs.map (·.1)).Nodup
 | .set S n=>h.SetOf (intKind P w) a S n
 | .ins C dx fs=>H dx=some (.own a)/\fs.length<=1000/\dx≠a/\h.get? a=some (W.instObj C dx)/\
   ∃mA,h.Ns1 dx mA/\(∀ f,mQ (fs.lookup f) (mA f))/\PySem.Within mA (fs.map (·.1))
 | .own _=>∃o,h.get? a=some o
 | .xd fs=>∃mA,h.Ns1 a mA/\∀f,mQ (fs.lookup f) (mA f)
 | .rng lo hi=>∃t u v,h.get? a=some {cls:= .type "range",data:= .fields #[.int lo t,.int hi u,.int 1 v]}
 | .frz o u=>h.get? a=some o/\cn H h a u
 | .tbl ps=>h.get? a=some {cls:= .none,data:= .fields ps}
 | .met f x=>h.get? a=some (W.methodObj (.ref f) (.ref x))
 | .ext φ=>φ h/\(∃ o,h.get? a=some o)/\∀h1 h2:Heap,φ h1->(∀ o,h1.get? a=some o->h2.get? a=some o)->φ h2
def HOk (H:Hp) (h:Heap):Prop:=∀a o,H a=some o->cn P w H h a o
end
section
variable {P : Program} {w : World} {H H' : Hp} {h h' : Heap} {a : Addr} {o : HO}
theorem cn.lt (x:cn P w H h a o):a < h.objs.size:=by
 cases o with
 | lst xs=>obtain⟨_,_,_,_,e⟩:=x;exact Heap.lt_size e
 | tup xs=>obtain⟨_,_,_,p⟩:=x;exact p.lt
 | dK kvs=>obtain⟨_,_,_,_,o,_,_,e,_⟩:=x;exact Heap.lt_size e
 | dT kvs=>obtain⟨_,_,_,_,o,_,_,e,_⟩:=x;exact Heap.lt_size e
 | set S n=>obtain⟨o,_,_,_,e,_⟩:=x;exact Heap.lt_size e
 | ins C dx fs=>obtain⟨_,_,_,e,_⟩:=x;exact Heap.lt_size e
 | own y=>obtain⟨_,e⟩:=x;exact Heap.lt_size e
 | xd fs=>obtain⟨_,⟨_,_,_,e,_⟩,_⟩:=x;exact Heap.lt_size e
 | rng lo hi=>obtain⟨_,_,_,e⟩:=x;exact Heap.lt_size e
 | frz ob u=>obtain⟨e,_⟩:=x;exact Heap.lt_size e
 | tbl ps=>exact Heap.lt_size (show h.get? a=some _ from x)
 | met f y=>exact Heap.lt_size (show h.get? a=some _ from x)
 | ext φ=>obtain⟨_,⟨_,e⟩,_⟩:=x;exact Heap.lt_size e
theorem Paired.mapP {α β:Type}{F G:α->β->Prop}:∀ {l₁:List α}{l₂:List β},Paired F l₁ l₂->(∀ a b,F a b->G a b)->Paired G l₁ l₂
 | _,_,.nil,_=> .nil
 | _,_,.cons r t,f=> .cons (f _ _ r) (Paired.mapP t f)
theorem cn.stay (x:cn P w H h a o) (k:∀b u,(b=a\/H b=some (.own a))->h.get? b=some u->h'.get? b=some u)
  (ho:∀b,H b=some (.own a)->H' b=some (.own a)) (ht:∀b xs,H b=some (.tup xs)->H' b=some (.tup xs)):cn P w H' h' a o:=by
 induction o with
 | lst xs=>obtain⟨z,its,n,r,e⟩:=x;exact⟨z,its,n,r,k _ _ (.inl rfl) e⟩
 | tup xs=>obtain⟨z,its,r,ob,e,c⟩:=x;exact⟨z,its,r,ob,k _ _ (.inl rfl) e,c⟩
 | dK kvs=>obtain⟨z,y,vs,r,ob,es,ep,e,c⟩:=x;exact⟨z,y,vs,r,ob,es,ep,k _ _ (.inl rfl) e,c⟩
 | dT kvs=>
  obtain⟨z,y,xs,r,ob,es,ep,e,c⟩:=x;exact⟨z,y,xs,Paired.mapP r fun p q z=>⟨z.1,ht _ _ z.2.1,z.2.2⟩,ob,es,ep,k _ _ (.inl rfl) e,c⟩
 | set S n=>obtain⟨ob,es,ep,t,e,c⟩:=x;exact⟨ob,es,ep,t,k _ _ (.inl rfl) e,c⟩
 | ins C dx fs=>
  obtain⟨d,z,ne,e,mA,⟨od,es,ep,e2,c⟩,r⟩:=x;exact⟨ho _ d,z,ne,k _ _ (.inl rfl) e,mA,⟨od,es,ep,k _ _ (.inr d) e2,c⟩,r⟩
 | own y=>obtain⟨ob,e⟩:=x;exact⟨ob,k _ _ (.inl rfl) e⟩
 | xd fs=>obtain⟨mA,⟨od,es,ep,e,c⟩,r⟩:=x;exact⟨mA,⟨od,es,ep,k _ _ (.inl rfl) e,c⟩,r⟩
 | rng lo hi=>obtain⟨t,u,v,e⟩:=x;exact⟨t,u,v,k _ _ (.inl rfl) e⟩
 | frz ob u ih=>obtain⟨e,q⟩:=x;exact⟨k _ _ (.inl rfl) e,ih q⟩
 | tbl ps=>
  have e:h.get? a=some {cls:= .none,data:= .fields ps}:=x;show h'.get? a=some {cls:= .none,data:= .fields ps}
  exact k a _ (.inl rfl) e
 | met f y=>
  have e:h.get? a=some (W.methodObj (.ref f) (.ref y)):=x;show h'.get? a=some (W.methodObj (.ref f) (.ref y))
  exact k a _ (.inl rfl) e
 | ext φ=>obtain⟨p,⟨o,e⟩,st⟩:=x;exact⟨st _ _ p fun o q=>k _ _ (.inl rfl) q,⟨o,k _ _ (.inl rfl) e⟩,st⟩
theorem HOk.lt (x:HOk P w H h) (e:H a=some o):a < h.objs.size:=(x a o e).lt
theorem HOk.fresh (x:HOk P w H h) (e:h.objs.size<=a):H a=none:=by
 cases q:H a with
 | none=>rfl
 | some u=>exact absurd (Nat.lt_of_lt_of_le (x.lt q) e) (Nat.lt_irrefl _)
theorem HOk.kept (x:HOk P w H h) (k:∀b u,h.get? b=some u->h'.get? b=some u):HOk P w H h':=fun a o e=>
 (x a o e).stay (fun b u _ q=>k b u q) (fun _ q=>q) fun _ _ q=>q
theorem HOk.laid (x:HOk P w H h) (k:∀b u,h.get? b=some u->h'.get? b=some u) (hp:h.objs.size<=a) (new:cn P w (upd H a o) h' a o):HOk P w (upd H a o) h':=fun b u e=>by
 have hn:=x.fresh hp
 by_cases hb:b=a
 .subst hb;rw[ad] at e;cases e;exact new
 .rw[ai hb] at e;exact(x b u e).stay (fun c v _ q=>k c v q) (fun c q=>by rw[ai (aj q hn)];exact q) fun c xs q=>by rw[ai (aj q hn)];exact q
end
def Rd (H:Hp) (a:Addr) (u:HO):Prop:=H a=some u\/∃o,H a=some (.frz o u)
theorem Rd.ok {P:Program}{w:World}{H:Hp}{h:Heap}{a:Addr}{u:HO}(r:Rd H a u) (x:HOk P w H h):cn P w H h a u:=by
 rcases r with r | ⟨o,r⟩
 .exact x a u r
 .obtain⟨_,q⟩:=x a _ r;exact q
def Mut:Option HO->Prop
 | some (.lst _)=>True
 | some (.dK _)=>True
 | some (.dT _)=>True
 | some (.set _ _)=>True
 | some (.ins _ _ _)=>True
 | some (.ext _)=>True
 | _=>False
section
variable {P : Program} {w : World} {H : Hp} {h h' : Heap} {x e : Addr} {o' : HO}
theorem HOk.write (ok:HOk P w H h) (mu:Mut (H x)) (he:e=x\/H e=some (.own x)) (k:∀b u,b≠e->h.get? b=some u->h'.get? b=some u) (heo:∃u,h'.get? e=some u)
  (new:cn P w (upd H x o') h' x o'):HOk P w (upd H x o') h':=fun b u q=>by
 have nown:∀c y,H c=some (.own y)->c≠x:=fun c y r z=>by subst z;rw[r] at mu;exact mu
 have ntup:∀c xs,H c=some (.tup xs)->c≠x:=fun c xs r z=>by subst z;rw[r] at mu;exact mu
 by_cases hb:b=x
 .subst hb;rw[ad] at q;cases q;exact new
 .rw[ai hb] at q
  by_cases hbe:b=e
  .have q':H b=some (.own x):=by
    rcases he with z | z
    .exact absurd (hbe.trans z) hb
    .rw[hbe];exact z
   rw[q] at q';cases q';obtain⟨v,hv⟩:=heo;exact⟨v,by rw[hbe];exact hv⟩
  .refine(ok b u q).stay (fun c v hc r=>k c v ?_ r) (fun c r=>by rw[ai (nown c b r)];exact r) fun c xs r=>by rw[ai (ntup c xs r)];exact r
   rcases hc with rfl | hc
   .exact hbe
   .rintro rfl
    rcases he with z | z
    .exact nown c b hc z
    .rw[hc] at z;cases z;exact hb rfl
end
structure Un (fs ex:List Addr) (H H':Hp) (h h':Heap):Prop where
 keep:∀b o,h.get? b=some o->H b=none->b ∉ fs->b ∉ ex->h'.get? b=some o
 slot:∀b o,h.get? b=some o->H b=none->b∈fs->b ∉ ex->∃sl,h'.get? b=some {o with slots:=sl}
 free:∀b o,h.get? b=some o->H b=none->b ∉ ex->H' b=none
 there:∀b o,h.get? b=some o->b ∉ ex->∃o',h'.get? b=some o'
 tups:∀b xs,H b=some (.tup xs)->H' b=some (.tup xs)
 frzs:∀b o u,H b=some (.frz o u)->H' b=some (.frz o u)
 tbls:∀b ps,H b=some (.tbl ps)->∃more,H' b=some (.tbl (ps++more))
section
variable {fs fs' ex ex' : List Addr} {H H1 H2 : Hp} {h h1 h2 h' : Heap} {a x e : Addr} {o : HO}
theorem Un.any (u:Un fs ex H H1 h h1) {b:Addr}{ob:Obj}(q:h.get? b=some ob) (n:H b=none) (hx:b ∉ ex):∃sl,h1.get? b=some {ob with slots:=sl}:=by
 by_cases hb:b∈fs
 .exact u.slot b ob q n hb hx
 .exact⟨ob.slots,u.keep b ob q n hb hx⟩
theorem Un.kept (k:∀b u,h.get? b=some u->h'.get? b=some u):Un fs ex H H h h':=
 ⟨fun b ob q _ _ _=>k b ob q,fun b ob q _ _ _=>⟨ob.slots,k b ob q⟩,fun _ _ _ n _=>n,fun b ob q _=>⟨ob,k b ob q⟩,fun _ _ q=>q,fun _ _ _ q=>q,fun _ ps q=>⟨#[],by rw[q];simp⟩⟩
theorem Un.refl:Un fs ex H H h h:=Un.kept fun _ _ q=>q
theorem Un.laid (k:∀b u,h.get? b=some u->h'.get? b=some u) (hp:h.objs.size<=a) (hn:H a=none):Un fs ex H (upd H a o) h h' where
 keep:=fun b u q _ _ _=>k b u q
 slot:=fun b u q _ _ _=>⟨u.slots,k b u q⟩
 free:=fun b u q n _=>by rw[ai (Nat.ne_of_lt (Nat.lt_of_lt_of_le (Heap.lt_size q) hp))];exact n
 there:=fun b u q _=>⟨u,k b u q⟩
 tups:=fun b xs q=>by rw[ai (aj q hn)];exact q
 frzs:=fun b u xs q=>by rw[ai (aj q hn)];exact q
 tbls:=fun b ps q=>⟨#[],by rw[ai (aj q hn),q];simp⟩
theorem Un.write (mu:Mut (H x)) (he:e=x\/H e=some (.own x)) (k:∀b u,b≠e->h.get? b=some u->h'.get? b=some u) (heo:∃u,h'.get? e=some u):Un fs ex H (upd H x o) h h':=by
 have hx:∀b,H b=none->b≠x:=fun b n z=>by subst z;rw[n] at mu;exact mu
 have hb:∀b,H b=none->b≠e:=fun b n z=>by
  subst z;rcases he with r | r
  .exact hx b n r
  .rw[n] at r;cases r
 have hm:∀b u,H b=some u->¬Mut (some u)->b≠x:=fun b u q nm z=>by subst z;rw[q] at mu;exact nm mu
 refine⟨fun b u q n _ _=>k b u (hb b n) q,fun b u q n _ _=>⟨u.slots,k b u (hb b n) q⟩,fun b u q n _=>by rw[ai (hx b n)];exact n,fun b u q _=> ?_,
  fun b xs q=>by rw[ai (hm b _ q fun z=>z)];exact q,fun b u xs q=>by rw[ai (hm b _ q fun z=>z)];exact q,fun b ps q=>⟨#[],by rw[ai (hm b _ q fun z=>z),q];simp⟩⟩
 by_cases hbe:b=e
 .subst hbe;exact heo
 .exact⟨u,k b u hbe q⟩
end
def trk (h:Heap) (H:Hp):List Addr:=(List.range h.objs.size).filter fun a=>(H a).isSome
def zk (h:Heap) (H:Hp):Heap:=W.hideAll h (trk h H)
theorem E4 (h:Heap) (H:Hp):(zk h H).objs.size=h.objs.size:=W.hideAll_size _ _
theorem GU {h:Heap}{H:Hp}{b:Addr}{o:Obj}(e:h.get? b=some o) (n:H b=none):(zk h H).get? b=some o:=
 W.hideAll_get _ e fun hm=>by
  have q:(H b).isSome=true:=(List.mem_filter.mp hm).2;rw[n] at q;simp at q
theorem Ii {h:Heap}{H:Hp}{b:Addr}{o:Obj}(e:(zk h H).get? b=some o):h.get? b=some o/\H b=none:=by
 have e':h.get? b=some o:=W.of_hideAll (trk h H) e;refine⟨e',?_⟩
 cases q:H b with
 | none=>rfl
 | some x=>
  have hm:b∈trk h H:=List.mem_filter.mpr ⟨List.mem_range.mpr (Heap.lt_size e'),by simp [q]⟩
  have z:(zk h H).get? b=none:=W.hideAll_none (trk h H) hm;rw[z] at e;cases e
def Hs (g h:Heap) (L:Addr):List (Addr × Obj):=(List.range h.objs.size).filterMap fun a=>if a=L\/(g.get? a).isSome=true then none else(h.get? a).map fun o=>(a,o)
def pZ (g h:Heap) (L d:Addr):List (Addr × Obj):=(Hs g h L).filter fun p=>decide (p.1≠d)
structure Mod (K:Frag) (mg:Str->Option Value) (base:Heap):Prop where
 kin:K.In base
 glob:base.Ns mainGlobals mg
 blt:∃mb,base.Ns builtinsNs mb/\∀x:Str,x≠"__name__"->mb x=bootBuiltins x
 nolimit:base.NoLimit
structure Cx where
 prog:Program
 w:World
 K:Frag
 mg:Str->Option Value
 base:Heap
 A:Around
 N:List Str
 s₀:Shared
 H₀:Hp
 env:Env
 outer:List Env
 stack:List Env
 ex:List Addr
 fn:Str->Bool
 calm:Bool
 pn:List (Addr × Obj)
 xe:Value->Shared->Prop
def frs (l:List Env):List Addr:=l.filterMap (·.frame)
abbrev Cx.fs (X:Cx):List Addr:=frs X.outer
def Vis (sc:Scope) (x:Str):Prop:=sc.names.lookup x=some .local\/sc.names.lookup x=some .cell\/sc.names.lookup x=some .free
def Loc (sc:Scope) (x:Str):Prop:=sc.names.lookup x=some .local\/sc.names.lookup x=some .cell
def Mi (env:Env) (h:Heap) (m:Str->Option Value) (x:Str) (u:Value):Prop:=
 (env.kindOf x=some .local/\m x=some u)\/((env.kindOf x=some .cell\/env.kindOf x=some .free)/\∃c,env.cells.lookup x=some c/\h.IsCell c (some u))
structure Cx.Ok (X:Cx):Prop where
 mod:Mod X.K X.mg X.base
 kind:X.env.scope.kind= .function
 glob:X.env.globals=mainGlobals
 blt:X.env.builtins=builtinsNs
 above:X.s₀.heap.objs.size<=X.env.locals
 inj:∀x y c,X.env.cells.lookup x=some c->X.env.cells.lookup y=some c->x=y
 has:∀x,(X.env.kindOf x=some .cell\/X.env.kindOf x=some .free)->∃c,X.env.cells.lookup x=some c
 cab:∀x c,X.fn x=true->X.env.cells.lookup x=some c->X.s₀.heap.objs.size<=c
 hd:X.calm=true->X.A.handled=none
 frames:X.A.frames=some X.stack
 stk:X.stack=X.outer\/(X.stack=X.env::X.outer/\X.env.frame=some X.env.locals)
 exf:∀b∈X.ex,b≠X.env.locals/\∀x c,X.env.cells.lookup x=some c->c≠b
 bs:∀b o,X.base.get? b=some o->X.s₀.heap.get? b=some o/\X.H₀ b=none
 bsz:X.base.objs.size<=X.s₀.heap.objs.size
 noex:∀b o,X.base.get? b=some o->b ∉ X.ex
 exfs:∀b∈X.ex,b ∉ X.fs
 funs:X.s₀.heap.FunFrames X.base X.outer
 frf:∀b∈X.fs,X.H₀ b=none
structure Inv (X:Cx) (pins:List (Addr × Obj)) (Z:List (Option V)) (H:Hp) (s:Shared):Prop where
 ok:X.Ok
 os:s.os=X.s₀.os
 bare:AllBare s.gens
 base:Un X.fs X.ex X.H₀ H X.s₀.heap s.heap
 loc:∃m,s.heap.Ns X.env.locals m/\∀(i:Nat) (x:Str) (v:V),X.N[i]? =some x->Z[i]? =some (some v)->Vis X.env.scope x->∃u,bj v u/\Mi X.env s.heap m x u
 cell:∀x c,X.env.cells.lookup x=some c->∃v,s.heap.IsCell c v
 free:H X.env.locals=none
 freeC:∀x c,X.env.cells.lookup x=some c->H c=none
 pin:∀p∈X.pn++pins,s.heap.get? p.1=some p.2/\H p.1=none/\p.1≠X.env.locals/\p.1 ∉ X.fs/\∀v,p.2.data≠ .cell v
 hok:HOk X.prog X.w H s.heap
 len:Z.length=X.N.length
section
variable {X : Cx} {pins : List (Addr × Obj)} {σ : List (Option V)} {H H' : Hp} {s : Shared} {h' : Heap}
theorem Cx.Ok.nofr (ok:X.Ok) {b:Addr}{o:Obj}(e:X.base.get? b=some o):b ∉ X.fs:=fun hb=>by
 have:=(ok.funs.mem hb).1;rw[e] at this;cases this
theorem Inv.bs (I:Inv X pins Z H s):∀b o,X.base.get? b=some o->s.heap.get? b=some o/\H b=none:=fun b o e=>
 ⟨I.base.keep b o (I.ok.bs b o e).1 (I.ok.bs b o e).2 (I.ok.nofr e) (I.ok.noex b o e),I.base.free b o (I.ok.bs b o e).1 (I.ok.bs b o e).2 (I.ok.noex b o e)⟩
theorem Inv.bk (I:Inv X pins Z H s):∀b o,X.base.get? b=some o->s.heap.get? b=some o:=fun b o e=>(I.bs b o e).1
theorem Inv.mod (I:Inv X pins Z H s):Mod X.K X.mg X.base:=I.ok.mod
theorem Inv.kIn (I:Inv X pins Z H s):X.K.In s.heap:=I.ok.mod.kin.keeps I.bk
theorem Inv.lt (I:Inv X pins Z H s):X.env.locals < s.heap.objs.size:=let ⟨_,hn,_⟩:=I.loc;hn.lt
theorem Inv.sz (I:Inv X pins Z H s):X.s₀.heap.objs.size<=s.heap.objs.size:=Nat.le_trans I.ok.above (Nat.le_of_lt I.lt)
theorem Inv.nofs (I:Inv X pins Z H s) {a:Addr}(h:s.heap.objs.size<=a):a ∉ X.fs:=fun hb=>by
 obtain⟨_,o,ho,_⟩:=I.ok.funs.mem hb;exact absurd (Nat.lt_of_lt_of_le (Heap.lt_size ho) (Nat.le_trans I.sz h)) (Nat.lt_irrefl _)
theorem Inv.cne (I:Inv X pins Z H s):∀x c,X.env.cells.lookup x=some c->c≠X.env.locals:=fun x c e z=>by
 obtain⟨v,o,ho,hd⟩:=I.cell x c e;obtain⟨m,⟨o',es,ep,ho',hd',_⟩,_⟩:=I.loc;rw[z,ho'] at ho;cases ho;rw[hd'] at hd;cases hd
theorem Inv.funs (I:Inv X pins Z H s):s.heap.FunFrames X.base X.outer:=by
 have all:∀(l:List Env),(∀ b∈frs l,b∈X.fs)->X.s₀.heap.FunFrames X.base l->s.heap.FunFrames X.base l:=by
  intro l
  induction l with
  | nil=>intro _ _;trivial
  | cons env r ih=>
   intro hs hl;obtain⟨hk,⟨L,o,hf,hn,ho,hd⟩,hr⟩:=hl;have hL:L∈X.fs:=hs L (by unfold frs;rw[List.filterMap_cons,hf];exact List.mem_cons_self)
   obtain⟨sl,e⟩:=I.base.slot L o ho (I.ok.frf L hL) hL fun z=>I.ok.exfs L z hL
   exact⟨hk,⟨L,_,hf,hn,e,hd⟩,ih (fun b hb=>hs b (by unfold frs;rw[List.filterMap_cons,hf];exact List.mem_cons_of_mem _ hb)) hr⟩
 exact all X.outer (fun _ hb=>hb) I.ok.funs
theorem Inv.stack (I:Inv X pins Z H s):s.heap.FunFrames X.base X.stack:=by
 rcases I.ok.stk with e | ⟨e,hf⟩
 .rw[e];exact I.funs
 .rw[e];obtain⟨m,hn,_⟩:=I.loc;refine .cons (by rw[I.ok.kind];decide) hf hn ?_ I.funs
  exact Heap.get?_none_of_le (Nat.le_trans I.ok.bsz I.ok.above)
theorem Inv.stkSub (I:Inv X pins Z H s):∀b∈frs X.stack,b∈X.env.locals::X.fs:=fun b hb=>by
 rcases I.ok.stk with e | ⟨e,hf⟩
 .rw[e] at hb;exact List.mem_cons_of_mem _ hb
 .rw[e] at hb;unfold frs at hb;rw[List.filterMap_cons,hf] at hb;exact hb
theorem Inv.stkFree (I:Inv X pins Z H s):∀b∈frs X.stack,H b=none:=fun b hb=>by
 rcases List.mem_cons.mp (I.stkSub b hb) with e | hb
 .rw[e];exact I.free
 .obtain⟨_,o,ho,_⟩:=I.ok.funs.mem hb;exact I.base.free b o ho (I.ok.frf b hb) fun z=>I.ok.exfs b z hb
theorem Inv.step {g':Array GenState}{t':Nat}{d':Drawn}{ch:List Addr}(I:Inv X pins Z H s)
  (hch:∀b∈ch,(b∈X.ex\/X.s₀.heap.objs.size<=b)/\b≠X.env.locals/\(∀ x c,X.env.cells.lookup x=some c->c≠b)/\∀p∈X.pn++pins,p.1≠b)
  (keep:∀b o,b≠X.env.locals->b ∉ X.fs->b ∉ ch->s.heap.get? b=some o->H b=none->h'.get? b=some o)
  (slot:∀b o,b≠X.env.locals->b∈X.fs->b ∉ ch->s.heap.get? b=some o->H b=none->∃sl,h'.get? b=some {o with slots:=sl}) (free:∀b o,b ∉ ch->s.heap.get? b=some o->H b=none->H' b=none)
  (there:∀b o,b ∉ ch->s.heap.get? b=some o->∃o',h'.get? b=some o')
  (tups:∀b xs,H b=some (.tup xs)->H' b=some (.tup xs)) (frzs:∀b o u,H b=some (.frz o u)->H' b=some (.frz o u)) (tbls:∀b ps,H b=some (.tbl ps)->∃more,H' b=some (.tbl (ps++more)))
  (ns:∀m,s.heap.Ns X.env.locals m->h'.Ns X.env.locals m) (hok:HOk X.prog X.w H' h') (hg:AllBare g'):
  Inv X pins Z H' {s with heap:=h',gens:=g',drawn:=d',toks:=t'}:=by
 have neL:∀b o,X.s₀.heap.get? b=some o->b≠X.env.locals:=fun b o e=>Nat.ne_of_lt (Nat.lt_of_lt_of_le (Heap.lt_size e) I.ok.above)
 have neC:∀b o,X.s₀.heap.get? b=some o->b ∉ X.ex->b ∉ ch:=fun b o e hx hb=>by
  rcases(hch b hb).1 with z | z
  .exact hx z
  .exact absurd (Nat.lt_of_lt_of_le (Heap.lt_size e) z) (Nat.lt_irrefl _)
 have cellK:∀x c,X.env.cells.lookup x=some c->∀v,s.heap.IsCell c v->h'.IsCell c v:=fun x c e v ⟨o,ho,hd⟩=>by
  have nch:c ∉ ch:=fun z=>(hch c z).2.2.1 x c e rfl
  by_cases hc:c∈X.fs
  .obtain⟨sl,q⟩:=slot c o (I.cne x c e) hc nch ho (I.freeC x c e);exact⟨_,q,hd⟩
  .exact⟨o,keep c o (I.cne x c e) hc nch ho (I.freeC x c e),hd⟩
 refine⟨I.ok,I.os,hg,⟨fun b o e n hb hx=> ?_,fun b o e n hb hx=> ?_,fun b o e n hx=> ?_,fun b o e hx=> ?_,fun b xs e=>tups b xs (I.base.tups b xs e),fun b o xs e=>frzs b o xs (I.base.frzs b o xs e),fun b ps e=> ?_⟩,?_,fun x c e=> ?_,?_,fun x c e=> ?_,fun p hp=> ?_,hok,I.len⟩
 .exact keep b o (neL b o e) hb (neC b o e hx) (I.base.keep b o e n hb hx) (I.base.free b o e n hx)
 .obtain⟨sl,e1⟩:=I.base.slot b o e n hb hx;obtain⟨sl',e2⟩:=slot b _ (neL b o e) hb (neC b o e hx) e1 (I.base.free b o e n hx);exact⟨sl',e2⟩
 .obtain⟨o',e1⟩:=I.base.there b o e hx;exact free b o' (neC b o e hx) e1 (I.base.free b o e n hx)
 .obtain⟨o',e1⟩:=I.base.there b o e hx;exact there b o' (neC b o e hx) e1
 .obtain⟨m1,e1⟩:=I.base.tbls b ps e;obtain⟨m2,e2⟩:=tbls b _ e1;exact⟨m1++m2,by rw[e2,Array.append_assoc]⟩
 .obtain⟨m,hn,hl⟩:=I.loc;refine⟨m,ns m hn,fun i x v e1 e2 e3=> ?_⟩
  obtain⟨u,r,l⟩:=hl i x v e1 e2 e3;refine⟨u,r,?_⟩
  rcases l with l | ⟨k,c,e,z⟩
  .exact .inl l
  .exact .inr ⟨k,c,e,cellK x c e _ z⟩
 .obtain⟨v,z⟩:=I.cell x c e;exact⟨v,cellK x c e v z⟩
 .obtain⟨m,⟨o,_,_,ho,_⟩,_⟩:=I.loc;exact free _ o (fun z=>(hch _ z).2.1 rfl) ho I.free
 .obtain⟨v,o,ho,hd⟩:=I.cell x c e;exact free c o (fun z=>(hch c z).2.2.1 x c e rfl) ho (I.freeC x c e)
 .obtain⟨e,n,ne,nf,d⟩:=I.pin p hp;have nch:p.1 ∉ ch:=fun z=>(hch p.1 z).2.2.2 p hp rfl
  exact⟨keep p.1 p.2 ne nf nch e n,free p.1 p.2 nch e n,ne,nf,d⟩
theorem Inv.un {t':Nat}(I:Inv X pins Z H s) (u:Un X.fs [] H H' s.heap h') (hok:HOk X.prog X.w H' h'):Inv X pins Z H' {s with heap:=h',toks:=t'}:=by
 obtain⟨m,⟨o,es,ep,ho,r⟩,_⟩:=id I.loc;obtain⟨sl,hL⟩:=u.any ho I.free (by simp)
 exact I.step (g':=s.gens) (d':=s.drawn) (ch:=[]) (fun _ z=>nomatch z) (fun b o _ hb _ e n=>u.keep b o e n hb (by simp)) (fun b o _ hb _ e n=>u.slot b o e n hb (by simp)) (fun b o _ e n=>u.free b o e n (by simp)) (fun b o _ e=>u.there b o e (by simp)) u.tups u.frzs u.tbls (fun m' hm=>by
  obtain⟨o',es',ep',ho',r'⟩:=hm;rw[ho] at ho';cases ho'
  exact⟨_,es',ep',hL,r'⟩) hok I.bare
theorem Inv.call {g':Array GenState}{t':Nat}{d':Drawn}{ch:List Addr}(I:Inv X pins Z H s) (u:Un (frs X.stack) ch H H' s.heap h') (hok:HOk X.prog X.w H' h') (hg:AllBare g')
  (hch:∀b∈ch,(b∈X.ex\/X.s₀.heap.objs.size<=b)/\b≠X.env.locals/\(∀ x c,X.env.cells.lookup x=some c->c≠b)/\∀p∈X.pn++pins,p.1≠b):
  Inv X pins Z H' {s with heap:=h',gens:=g',drawn:=d',toks:=t'}:=by
 obtain⟨m,⟨o,es,ep,ho,r⟩,_⟩:=id I.loc;obtain⟨sl,hL⟩:=u.any ho I.free fun z=>(hch _ z).2.1 rfl
 exact I.step (ch:=ch) hch (fun b o hL hb hc e n=>u.keep b o e n (fun z=>(List.mem_cons.mp (I.stkSub b z)).elim hL hb) hc) (fun b o _ _ hc e n=>u.any e n hc) (fun b o hc e n=>u.free b o e n hc) (fun b o hc e=>u.there b o e hc) u.tups u.frzs u.tbls (fun m' hm=>by
  obtain⟨o',es',ep',ho',r'⟩:=hm;rw[ho] at ho';cases ho'
  exact⟨_,es',ep',hL,r'⟩) hok hg
theorem Inv.turned {t':Nat}{it:Addr}(I:Inv X pins Z H s) (k:∀b o,b≠it->s.heap.get? b=some o->h'.get? b=some o) (hn:H it=none) (hL:it≠X.env.locals)
  (h1:it∈X.ex\/X.s₀.heap.objs.size<=it) (h2:∀x c,X.env.cells.lookup x=some c->c≠it) (h3:∀p∈X.pn++pins,p.1≠it):Inv X pins Z H {s with heap:=h',toks:=t'}:=by
 have nit:∀b u,H b=some u->b≠it:=fun b u e z=>by rw[z,hn] at e;cases e
 refine I.step (g':=s.gens) (d':=s.drawn) (ch:=[it]) (fun b hb=> ?_) (fun b o _ _ hc e _=>k b o (fun z=>hc (by simp [z])) e) (fun b o _ _ hc e _=>⟨o.slots,k b o (fun z=>hc (by simp [z])) e⟩) (fun _ _ _ _ n=>n)
  (fun b o hc e=>⟨o,k b o (fun z=>hc (by simp [z])) e⟩) (fun _ _ e=>e) (fun _ _ _ e=>e) (fun b ps e=>⟨#[],by rw[e];simp⟩) (fun m hm=> ?_) (fun b u e=> ?_) I.bare
 .have e:b=it:=by simpa using hb
  subst e;exact⟨h1,hL,h2,h3⟩
 .obtain⟨o,es,ep,ho,r⟩:=hm;exact⟨o,es,ep,k _ o (Ne.symm hL) ho,r⟩
 .refine(I.hok b u e).stay (fun c v hc q=>k c v ?_ q) (fun _ q=>q) fun _ _ q=>q
  rcases hc with z | z
  .rw[z];exact nit b u e
  .exact nit c _ z
theorem Inv.tok (I:Inv X pins Z H s) (t:Nat):Inv X pins Z H {s with toks:=t}:=I.un (h':=s.heap) (t':=t) Un.refl I.hok
theorem Inv.kept {t':Nat}(I:Inv X pins Z H s) (k:∀b u,s.heap.get? b=some u->h'.get? b=some u):Inv X pins Z H {s with heap:=h',toks:=t'}:=I.un (Un.kept k) (I.hok.kept k)
theorem Inv.laid {a:Addr}{o:HO}{t':Nat}(I:Inv X pins Z H s) (k:∀b u,s.heap.get? b=some u->h'.get? b=some u) (hp:s.heap.objs.size<=a) (new:cn X.prog X.w (upd H a o) h' a o):
  Inv X pins Z (upd H a o) {s with heap:=h',toks:=t'}:=I.un (Un.laid k hp (I.hok.fresh hp)) (I.hok.laid k hp new)
theorem Inv.write {x e:Addr}{o:HO}{t':Nat}(I:Inv X pins Z H s) (mu:Mut (H x)) (he:e=x\/H e=some (.own x)) (k:∀b u,b≠e->s.heap.get? b=some u->h'.get? b=some u) (heo:∃u,h'.get? e=some u)
  (new:cn X.prog X.w (upd H x o) h' x o):Inv X pins Z (upd H x o) {s with heap:=h',toks:=t'}:=I.un (Un.write mu he k heo) (I.hok.write mu he k heo new)
theorem Inv.weak {Z':List (Option V)}(I:Inv X pins Z H s) (hl:Z'.length=Z.length) (w:∀(i:Nat) v,Z'[i]? =some (some v)->Z[i]? =some (some v)):Inv X pins Z' H s:=
 ⟨I.ok,I.os,I.bare,I.base,let ⟨m,hn,hl'⟩:=I.loc;⟨m,hn,fun i x v e1 e2 e3=>hl' i x v e1 (w i v e2) e3⟩,I.cell,I.free,I.freeC,I.pin,I.hok,hl.trans I.len⟩
theorem Inv.pins_of {pins':List (Addr × Obj)}(I:Inv X pins Z H s) (h:∀p∈pins',s.heap.get? p.1=some p.2/\H p.1=none/\p.1≠X.env.locals/\p.1 ∉ X.fs/\∀v,p.2.data≠ .cell v):Inv X pins' Z H s:=
 ⟨I.ok,I.os,I.bare,I.base,I.loc,I.cell,I.free,I.freeC,fun p hp=>(List.mem_append.mp hp).elim (fun z=>I.pin p (List.mem_append_left _ z)) (h p),I.hok,I.len⟩
theorem AT {N:List Str}(hN:N.Nodup) {i j:Nat}{x:Str}(a:N[i]? =some x) (b:N[j]? =some x):i=j:=by
 obtain⟨h1,e1⟩:=List.getElem?_eq_some_iff.mp a;obtain⟨h2,e2⟩:=List.getElem?_eq_some_iff.mp b;exact(List.getElem_inj hN).mp (e1.trans e2.symm)
theorem x6 {M:Model}{A:Around}{E:Value->Shared->Prop}{i:Nat}{x:Str}{v:V}{u:Value}{Q:Unit->Shared->Prop}(I:Inv X pins Z H s) (hN:X.N.Nodup) (hi:X.N[i]? =some x) (hx:Loc X.env.scope x) (r:bj v u)
  (h:∀s',Inv X pins (Z.set i (some v)) H s'->(∃ a,Heap.SameBut a s.heap s'.heap/\(a=X.env.locals\/X.env.cells.lookup x=some a))->Q () s') (hf:X.fn x=true\/X.env.scope.names.lookup x=some .local:=by first | exact .inl rfl | exact .inr rfl | assumption):wpAny M A (storeName X.env x u) Q E s:=by
 obtain⟨m,hn,hl⟩:=id I.loc;have hcls:(X.env.scope.kind == .class || (X.env.scope.kind == .module && X.env.locals != X.env.globals))=false:=by rw[I.ok.kind];rfl
 have hiZ:i < Z.length:=by rw[I.len];exact(List.getElem?_eq_some_iff.mp hi).1
 have cne:=I.cne;have tracked:∀ {a:Addr}{h':Heap},(∃ o,s.heap.get? a=some o/\H a=none)->Heap.SameBut a s.heap h'->HOk X.prog X.w H h':=fun {a h'} ha hs b ob e=>by
  obtain⟨_,_,hfree⟩:=ha;refine(I.hok b ob e).stay (fun c w' hc q=>(hs.2 c ?_).trans q) (fun _ q=>q) fun _ _ q=>q
  rintro rfl
  rcases hc with rfl | hc
  .rw[hfree] at e;cases e
  .rw[hfree] at hc;cases hc
 rcases hx with hk | hk
 .refine wpAny_storeName_local hk hn (fun h' hn' hs=> ?_) hcls
  obtain⟨oL,_,_,hoL,_⟩:=id hn;refine h _ ⟨I.ok,I.os,I.bare,⟨fun b o e n hb hx=> ?_,fun b o e n hb hx=> ?_,I.base.free,fun b o e hx=> ?_,I.base.tups,I.base.frzs,I.base.tbls⟩,⟨_,hn',fun j y v' e1 e2 e3=> ?_⟩,fun y c e=> ?_,I.free,I.freeC,fun p hp=> ?_,tracked ⟨oL,hoL,I.free⟩ hs,by simpa using I.len⟩ ⟨_,hs,.inl rfl⟩
  .exact(hs.2 b (Nat.ne_of_lt (Nat.lt_of_lt_of_le (Heap.lt_size e) I.ok.above))).trans (I.base.keep b o e n hb hx)
  .obtain⟨sl,e1⟩:=I.base.slot b o e n hb hx;exact⟨sl,(hs.2 b (Nat.ne_of_lt (Nat.lt_of_lt_of_le (Heap.lt_size e) I.ok.above))).trans e1⟩
  .obtain⟨o',e1⟩:=I.base.there b o e hx;exact⟨o',(hs.2 b (Nat.ne_of_lt (Nat.lt_of_lt_of_le (Heap.lt_size e) I.ok.above))).trans e1⟩
  .by_cases hj:j=i
   .subst hj;rw[hi] at e1;cases e1;rw[List.getElem?_set_self hiZ] at e2
    cases e2
    exact⟨u,r,.inl ⟨hk,by simp⟩⟩
   .rw[List.getElem?_set_ne (Ne.symm hj)] at e2;obtain⟨u',r',q⟩:=hl j y v' e1 e2 e3;refine⟨u',r',?_⟩
    rcases q with⟨k,e⟩|⟨k,c,e,z⟩
    .refine .inl ⟨k,?_⟩
     have:y≠x:=fun e=>hj (AT hN e1 (e ▸ hi))
     simp [this,e]
    .exact .inr ⟨k,c,e,z.sameBut hs (cne y c e)⟩
  .obtain⟨w',z⟩:=I.cell y c e;exact⟨w',z.sameBut hs (cne y c e)⟩
  .obtain⟨e,n,ne,nf,d⟩:=I.pin p hp;exact⟨(hs.2 p.1 ne).trans e,n,ne,nf,d⟩
 .have hfn:X.fn x=true:=by
   rcases hf with z | z
   .exact z
   .rw[z] at hk;cases hk
  obtain⟨c,hc⟩:=I.ok.has x (.inl hk);obtain⟨w',z⟩:=I.cell x c hc;refine wpAny_storeName_cell I.ok.kind hk hc z (fun h' hc' hs=> ?_)
  obtain⟨oc,hoc,hocd⟩:=id z;refine h {s with heap:=h'} ⟨I.ok,I.os,I.bare,⟨fun b o e n hb hx=> ?_,fun b o e n hb hx=> ?_,I.base.free,fun b o e hx=> ?_,I.base.tups,I.base.frzs,I.base.tbls⟩,⟨m,hn.sameBut hs (Ne.symm (cne x c hc)),fun j y v' e1 e2 e3=> ?_⟩,fun y c' e=> ?_,I.free,I.freeC,fun p hp=> ?_,tracked ⟨oc,hoc,I.freeC x c hc⟩ hs,by simpa using I.len⟩ ⟨c,hs,.inr hc⟩
  .exact(hs.2 b (Nat.ne_of_lt (Nat.lt_of_lt_of_le (Heap.lt_size e) (I.ok.cab x c hfn hc)))).trans (I.base.keep b o e n hb hx)
  .obtain⟨sl,e1⟩:=I.base.slot b o e n hb hx;exact⟨sl,(hs.2 b (Nat.ne_of_lt (Nat.lt_of_lt_of_le (Heap.lt_size e) (I.ok.cab x c hfn hc)))).trans e1⟩
  .obtain⟨o',e1⟩:=I.base.there b o e hx;exact⟨o',(hs.2 b (Nat.ne_of_lt (Nat.lt_of_lt_of_le (Heap.lt_size e) (I.ok.cab x c hfn hc)))).trans e1⟩
  .by_cases hj:j=i
   .subst hj;rw[hi] at e1;cases e1;rw[List.getElem?_set_self hiZ] at e2
    cases e2
    exact⟨u,r,.inr ⟨.inl hk,c,hc,hc'⟩⟩
   .rw[List.getElem?_set_ne (Ne.symm hj)] at e2;obtain⟨u',r',q⟩:=hl j y v' e1 e2 e3;refine⟨u',r',?_⟩
    rcases q with q | ⟨k,c',e,z'⟩
    .exact .inl q
    .refine .inr ⟨k,c',e,z'.sameBut hs ?_⟩
     rintro rfl
     exact hj (AT hN e1 (I.ok.inj _ _ _ e hc ▸ hi))
  .by_cases hcc:c'=c
   .subst hcc;exact⟨_,hc'⟩
   .obtain⟨w2,z2⟩:=I.cell y c' e;exact⟨w2,z2.sameBut hs hcc⟩
  .obtain⟨e,n,ne,nf,d⟩:=I.pin p hp;refine⟨(hs.2 p.1 ?_).trans e,n,ne,nf,d⟩
   intro q;rw[q,hoc] at e;have q':oc=p.2:=Option.some.inj e;exact d w' (by rw[<- q'];exact hocd)
theorem Bx {M:Model}{A:Around}{E:Value->Shared->Prop}{i:Nat}{x:Str}{v:V}{u:Value}{Q:Unit->Shared->Prop}(I:Inv X pins Z H s) (hN:X.N.Nodup) (hi:X.N[i]? =some x) (hx:Loc X.env.scope x) (r:bj v u)
  (h:∀s',Inv X pins (Z.set i (some v)) H s'->Q () s') (hf:X.fn x=true\/X.env.scope.names.lookup x=some .local:=by first | exact .inl rfl | exact .inr rfl | assumption):wpAny M A (storeName X.env x u) Q E s:=
 x6 I hN hi hx r (fun s' I' _=>h s' I') hf
theorem Inv.call' {s':Shared}{ch:List Addr}(I:Inv X pins Z H s) (ho:s'.os=s.os) (u:Un (frs X.stack) ch H H' s.heap s'.heap) (hok:HOk X.prog X.w H' s'.heap) (hg:AllBare s'.gens)
  (hch:∀b∈ch,(b∈X.ex\/X.s₀.heap.objs.size<=b)/\b≠X.env.locals/\(∀ x c,X.env.cells.lookup x=some c->c≠b)/\∀p∈X.pn++pins,p.1≠b):Inv X pins Z H' s':=by
 obtain⟨h',g',d',t',o'⟩:=s';have e:o'=s.os:=ho;subst e;exact I.call (g':=g') (t':=t') (d':=d') u hok hg hch
end
abbrev XK:=Value->Option Addr->Hp->Prop
abbrev St:=List (Option V)
abbrev VK:=V->Hp->Prop
abbrev TE:=St->Hp->VK->Prop
abbrev TT:=St->Hp->(Bool->Hp->Prop)->Prop
abbrev TA:=St->Hp->(List V->Hp->Prop)->Prop
structure uJ where
 nx:St->Hp->Prop
 rt:VK
 bk:St->Hp->Prop:=fun _ _=>False
 ct:St->Hp->Prop:=fun _ _=>False
abbrev TS:=uJ->St->Hp->Prop
def EP (X:Cx) (pins:List (Addr × Obj)) (Z:St) (Q:VK) (u:Value) (s':Shared):Prop:=∃v H',Inv X pins Z H' s'/\bj v u/\Q v H'
def TP (X:Cx) (pins:List (Addr × Obj)) (Z:St) (Q:Bool->Hp->Prop) (b:Bool) (s':Shared):Prop:=∃H',Inv X pins Z H' s'/\Q b H'
def AP (X:Cx) (pins:List (Addr × Obj)) (Z:St) (Q:List V->Hp->Prop) (us:List Value) (s':Shared):Prop:=∃vs H',Inv X pins Z H' s'/\aW vs us/\Q vs H'
def SP (X:Cx) (pins:List (Addr × Obj)) (D:uJ) (f:Flow) (s':Shared):Prop:=
 match f with
 | .next=>∃Z' H',Inv X pins Z' H' s'/\D.nx Z' H'
 | .brk=>∃Z' H',Inv X pins Z' H' s'/\D.bk Z' H'
 | .cont=>∃Z' H',Inv X pins Z' H' s'/\D.ct Z' H'
 | .ret u=>∃v Z' H',Inv X pins Z' H' s'/\bj v u/\D.rt v H'
def PE (X:Cx) (e:Expr) (t:TE):Prop:=
 ∀(pins:List (Addr × Obj)) (s:Shared) (Z:St) (H:Hp) (Q:VK),Inv X pins Z H s->t Z H Q->wpAny (model X.prog X.w) X.A (eval e X.env) (EP X pins Z Q) X.xe s
def PT (X:Cx) (e:Expr) (t:TT):Prop:=
 ∀(pins:List (Addr × Obj)) (s:Shared) (Z:St) (H:Hp) (Q:Bool->Hp->Prop),Inv X pins Z H s->t Z H Q->wpAny (model X.prog X.w) X.A (isTrue e X.env (eval e X.env)) (TP X pins Z Q) X.xe s
def PW (X:Cx) (e:Expr) (t:TT):Prop:=
 ∀(whole:Sem Value) (pins:List (Addr × Obj)) (s:Shared) (Z:St) (H:Hp) (Q:Bool->Hp->Prop),Inv X pins Z H s->t Z H Q->wpAny (model X.prog X.w) X.A (isTrue e X.env whole) (TP X pins Z Q) X.xe s
theorem PW.pt {X:Cx}{e:Expr}{t:TT}(h:PW X e t):PT X e t:=h _
def PA (X:Cx) (es:List Expr) (t:TA):Prop:=
 ∀(pos:Pos) (pins:List (Addr × Obj)) (s:Shared) (Z:St) (H:Hp) (Q:List V->Hp->Prop),Inv X pins Z H s->t Z H Q->wpAny (model X.prog X.w) X.A (spliced (backTo pos (starEach es X.env))) (AP X pins Z Q) X.xe s
def PS (X:Cx) (st:Stmt) (t:TS):Prop:=
 ∀(pins:List (Addr × Obj)) (s:Shared) (Z:St) (H:Hp) (D:uJ),Inv X pins Z H s->t D Z H->wpAny (model X.prog X.w) X.A (exec st X.env) (SP X pins D) X.xe s
def PSs (X:Cx) (st:List Stmt) (t:TS):Prop:=
 ∀(pins:List (Addr × Obj)) (s:Shared) (Z:St) (H:Hp) (D:uJ),Inv X pins Z H s->t D Z H->wpAny (model X.prog X.w) X.A (execs st X.env) (SP X pins D) X.xe s
theorem thn {α:Type}{t:Sem α}{Q Q':α->Shared->Prop}{M:Model}{A:Around}{E:Value->Shared->Prop}{s:Shared}(h:wpAny M A t Q E s) (hQ:∀a s,Q a s->Q' a s):wpAny M A t Q' E s:=wpAny_mono h hQ fun _ _ x=>x
theorem BA {α β:Type}{p q:α->Shared->β->Prop}{t:Sem α}{Q':α->Shared->Prop}{M:Model}{A:Around}{E:Value->Shared->Prop}{s:Shared}(h:wpAny M A t (fun a s=>∃x,p a s x/\q a s x) E s) (hQ:∀a s x,p a s x->q a s x->Q' a s):wpAny M A t Q' E s:=thn h fun a s h=>Exists.elim h fun x h=>hQ a s x h.1 h.2
theorem Lb {α β γ:Type}{p q:α->Shared->β->γ->Prop}{t:Sem α}{Q':α->Shared->Prop}{M:Model}{A:Around}{E:Value->Shared->Prop}{s:Shared}(h:wpAny M A t (fun a s=>∃x y,p a s x y/\q a s x y) E s) (hQ:∀a s x y,p a s x y->q a s x y->Q' a s):wpAny M A t Q' E s:=thn h fun a s h=>Exists.elim h fun x h=>Exists.elim h fun y h=>hQ a s x y h.1 h.2
theorem dg {α β γ:Type}{p r q:α->Shared->β->γ->Prop}{t:Sem α}{Q':α->Shared->Prop}{M:Model}{A:Around}{E:Value->Shared->Prop}{s:Shared}(h:wpAny M A t (fun a s=>∃x y,p a s x y/\r a s x y/\q a s x y) E s) (hQ:∀a s x y,p a s x y->r a s x y->q a s x y->Q' a s):wpAny M A t Q' E s:=thn h fun a s h=>Exists.elim h fun x h=>Exists.elim h fun y h=>hQ a s x y h.1 h.2.1 h.2.2
section
variable {X : Cx}
def Kp (i:Nat):TE:=fun Z H Q=>∃v,Z[i]? =some (some v)/\Q v H
def tC (v:V):TE:=fun _ H Q=>Q v H
theorem J1 {i:Nat}{x:Str}{pos:Pos}(hN:X.N[i]? =some x) (hv:Vis X.env.scope x) (hd:(x == ("__debug__":Str))=false:=by decide) (hcd:(x == ("__classdict__":Str))=false:=by decide):PE X (.Name x pos) (Kp i):=by
 intro pins s Z H Q I h;obtain⟨v,e,h⟩:=h;obtain⟨m,hn,hl⟩:=I.loc;obtain⟨u,r,l⟩:=hl i x v hN e hv;have fin:EP X pins Z Q u s:=⟨v,H,I,r,h⟩;rcases l with⟨hk,hm⟩|⟨hk,c,hc,hcell⟩
 .exact wpAny_Name (wpAny_loadName_local I.ok.kind hk hn hm fin) hd
 .rcases hk with hk | hk
  .exact wpAny_Name (wpAny_loadName_cell I.ok.kind hk hc hcell fin) hd
  .exact wpAny_Name (wpAny_loadName_free I.ok.kind hk hc hcell fin hcd) hd
theorem ac {i j pos}:PE X (.Constant (.int i) j pos) (tC (.int i)):=fun _ _ _ H _ I h=>wpAny_Constant_int ⟨.int i,H,I.tok _,⟨_,rfl⟩,h⟩
theorem nG {b j pos}:PE X (.Constant (.bool b) j pos) (tC (.bl b)):=fun _ _ _ H _ I h=>Constant_bool ⟨.bl b,H,I,rfl,h⟩
theorem d5 {j pos}:PE X (.Constant .none j pos) (tC .non):=fun _ _ _ H _ I h=>Constant_none ⟨.non,H,I,rfl,h⟩
theorem aw {x j pos}:PE X (.Constant (.str x) j pos) (tC (.str x)):=fun _ _ _ H _ I h=>Calls.Constant_str ⟨.str x,H,I.tok _,⟨_,rfl⟩,h⟩
def Gl (X:Cx) (x:Str):Prop:=X.env.kindOf x=some .globalImplicit
theorem jG {E:Value->Shared->Prop}{pins:List (Addr × Obj)}{s:Shared}{Z:St}{H:Hp}{x:Str}{u:Value}{pos:Pos}{Q:Value->Shared->Prop}(I:Inv X pins Z H s) (hg:Gl X x) (hm:X.mg x=some u) (h:Q u s)
  (hd:(x == ("__debug__":Str))=false:=by decide):wpAny (model X.prog X.w) X.A (eval (.Name x pos) X.env) Q E s:=
 Calls.Name_function_global I.ok.kind hg (Calls.loadGlobal_global (by rw[I.ok.glob];exact I.mod.glob.keeps I.bk) hm h) hd
theorem v_ {E:Value->Shared->Prop}{pins:List (Addr × Obj)}{s:Shared}{Z:St}{H:Hp}{x:Str}{u:Value}{pos:Pos}{Q:Value->Shared->Prop}(I:Inv X pins Z H s) (hg:Gl X x) (hm:X.mg x=none) (hv:bootBuiltins x=some u) (h:Q u s)
  (hn:x≠"__name__":=by decide) (hd:(x == ("__debug__":Str))=false:=by decide):wpAny (model X.prog X.w) X.A (eval (.Name x pos) X.env) Q E s:=by
 obtain⟨mb,h1,h2⟩:=I.mod.blt;exact Calls.Name_function_global I.ok.kind hg (Calls.loadGlobal_builtin (by rw[I.ok.glob];exact I.mod.glob.keeps I.bk) hm (by rw[I.ok.blt];exact h1.keeps I.bk) ((h2 x hn).trans hv) h) hd
theorem lC {x:Str}{v:V}{u:Value}{pos:Pos}(hg:Gl X x) (hm:X.mg x=some u) (r:bj v u) (hd:(x == ("__debug__":Str))=false:=by decide):PE X (.Name x pos) (tC v):=
 fun _ _ _ H _ I h=>jG I hg hm ⟨v,H,I,r,h⟩ hd
variable {a b : Expr} {ta tb : TE} {pos : Pos}
def PC (X:Cx) (op:CmpOp) (a b:Expr) (t:TE):Prop:=
 ∀(pins:List (Addr × Obj)) (s:Shared) (Z:St) (H:Hp) (Q:VK),Inv X pins Z H s->t Z H Q->
  wpAny (model X.prog X.w) X.A (eval a X.env) (fun v s₁=>wpAny (model X.prog X.w) X.A (eval b X.env) (fun u s₂=>wpAny (model X.prog X.w) X.A (compareOp op v u) (EP X pins Z Q) X.xe s₂) X.xe s₁) X.xe s
theorem AU (b:Expr) {op:CmpOp}(h:op≠ .In) (h2:op≠ .NotIn):behindInMarks op b=false:=by
 have e1:(op == CmpOp.In)=false:=by cases op <;> first | rfl | exact absurd rfl h
 have e2:(op == CmpOp.NotIn)=false:=by cases op <;> first | rfl | exact absurd rfl h2
 cases b <;> simp [behindInMarks,e1,e2]
def MB (ta:TE):TE:=fun Z H Q=>ta Z H fun x H1=>Q (.bl (decide (x= .non))) H1
def K4 (ta:TE):TE:=fun Z H Q=>ta Z H fun x H1=>Q (.bl (!decide (x= .non))) H1
theorem bj.none_iff {x:V}{v:Value}(r:bj x v):(v == Value.none)=decide (x= .non):=by
 cases x with
 | non=>cases r;rfl
 | bl _=>cases r;rfl
 | int _=>obtain⟨t,rfl⟩:=r;rfl
 | str _=>obtain⟨t,rfl⟩:=r;rfl
 | byt _=>obtain⟨t,rfl⟩:=r;rfl
 | flt _=>obtain⟨t,rfl⟩:=r;rfl
 | ref _=>cases r;rfl
 | ty _=>cases r;rfl
theorem qD {j pos'} (ha:PE X a ta):PC X .Is a (.Constant .none j pos') (MB ta):=by
 intro pins s Z H Q I h;refine dg (ha pins s Z H _ I h) fun v s1 x H1 I1 r1 q1=> ?_
 exact Constant_none (is_none_gen ⟨.bl _,H1,I1,by rw[r1.none_iff];rfl,q1⟩)
theorem uR {j pos'} (ha:PE X a ta):PC X .IsNot a (.Constant .none j pos') (K4 ta):=by
 intro pins s Z H Q I h;refine dg (ha pins s Z H _ I h) fun v s1 x H1 I1 r1 q1=> ?_
 exact Constant_none (isnot_none_gen ⟨.bl _,H1,I1,by rw[r1.none_iff];rfl,q1⟩)
def tB (t:TE):TT:=fun Z H Q=>t Z H fun x H1=>∃c,x= .bl c/\Q c H1
theorem F8 {op:CmpOp}{t:TE}(h:PC X op a b t) (h1:behindInMarks op b=false:=by first | exact AU _ (by decide) (by decide) | rfl):PE X (.Compare a [op] [b] pos) t:=fun pins s Z H Q I hw=>wpAny_Compare1 (h pins s Z H Q I hw) h1
theorem lZ {op:CmpOp}{t:TE}(h:PC X op a b t) (h1:behindInMarks op b=false:=by first | exact AU _ (by decide) (by decide) | rfl):PT X (.Compare a [op] [b] pos) (tB t):=by
 intro pins s Z H Q I hw;refine wpAny_isTrue_Compare1 (thn (h pins s Z H _ I hw) fun v s1 h1=>thn h1 fun u s2 h2=>thn h2 fun c s3 ⟨x,H1,I1,r1,q1⟩=> ?_) h1
 obtain⟨d,rfl,q⟩:=q1
 cases r1
 exact wpAny_truthy_bool ⟨H1,I1,q⟩
theorem ce {e:Expr}{t:TE}(h:PE X e t) (he:∀whole,isTrue e X.env whole=(do let v <-whole;standAt e.pos;holding [v] (truthy v)):=by intro _;rfl):PT X e (tB t):=by
 intro pins s Z H Q I hw;refine isTrue_plain (dg (h pins s Z H _ I hw) fun v s1 x H1 I1 r1 q1=> ?_) (he _)
 obtain⟨d,rfl,q⟩:=q1
 cases r1
 exact wpAny_truthy_bool ⟨H1,I1,q⟩
variable {tA tB' : TT} {pZ : List Expr}
def L9 (t u:TT):TT:=fun Z H Q=>t Z H fun c H1=>if c=true then u Z H1 Q else Q false H1
def tOr (t u:TT):TT:=fun Z H Q=>t Z H fun c H1=>if c=true then Q true H1 else u Z H1 Q
def Mh (t:TT):TT:=fun Z H Q=>t Z H fun c H1=>Q (!c) H1
theorem iP (ha:PT X a tA):PW X (.BoolOp .And [a] pos) tA:=by
 intro wh pins s Z H Q I h;refine isTrue_and (thn (ha pins s Z H Q I h) fun c s1 e=> ?_)
 cases c with
 | true=>exact isTrue_and_nil e
 | false=>exact e
theorem gf (ha:PT X a tA):PW X (.BoolOp .Or [a] pos) tA:=by
 intro wh pins s Z H Q I h;refine isTrue_or (thn (ha pins s Z H Q I h) fun c s1 e=> ?_)
 cases c with
 | false=>exact isTrue_or_nil e
 | true=>exact e
theorem kY (ha:PT X a tA) (hb:PW X (.BoolOp .And (b::pZ) pos) tB'):PW X (.BoolOp .And (a::b::pZ) pos) (L9 tA tB'):=by
 intro wh pins s Z H Q I h;refine isTrue_and (BA (ha pins s Z H _ I h) fun c s1 H1 I1 q1=> ?_)
 cases c with
 | true=>exact hb wh pins s1 Z H1 Q I1 q1
 | false=>exact⟨H1,I1,q1⟩
theorem iF (ha:PT X a tA) (hb:PW X (.BoolOp .Or (b::pZ) pos) tB'):PW X (.BoolOp .Or (a::b::pZ) pos) (tOr tA tB'):=by
 intro wh pins s Z H Q I h;refine isTrue_or (BA (ha pins s Z H _ I h) fun c s1 H1 I1 q1=> ?_)
 cases c with
 | true=>exact⟨H1,I1,q1⟩
 | false=>exact hb wh pins s1 Z H1 Q I1 q1
theorem dZ (ha:PT X a tA):PT X (.UnaryOp .Not a pos) (Mh tA):=by
 intro pins s Z H Q I h;exact isTrue_not (ha pins s Z H (fun c H1=>Q (!c) H1) I h)
def Lr (ta tb:TE):TE:=fun Z H Q=>ta Z H fun x H1=>∃c,x= .bl c/\if c=true then tb Z H1 Q else Q (.bl false) H1
def Mf (ta tb:TE):TE:=fun Z H Q=>ta Z H fun x H1=>∃c,x= .bl c/\if c=true then Q (.bl true) H1 else tb Z H1 Q
theorem mW {op} {t:TE}(h:PE X a t):PE X (.BoolOp op [a] pos) t:=fun pins s Z H Q I hw=>BoolOp_one (h pins s Z H Q I hw)
theorem FQ (ha:PE X a ta) (hb:PE X (.BoolOp .And (b::pZ) pos) tb):PE X (.BoolOp .And (a::b::pZ) pos) (Lr ta tb):=by
 intro pins s Z H Q I h;refine BoolOp_and (dg (ha pins s Z H _ I h) fun v s1 x H1 I1 r1 q1=> ?_)
 obtain⟨c,rfl,q1⟩:=q1
 cases r1
 refine wpAny_truthy_bool ?_
 cases c with
 | true=>exact hb pins s1 Z H1 Q I1 q1
 | false=>exact⟨.bl false,H1,I1,rfl,q1⟩
theorem wz (ha:PE X a ta) (hb:PE X (.BoolOp .Or (b::pZ) pos) tb):PE X (.BoolOp .Or (a::b::pZ) pos) (Mf ta tb):=by
 intro pins s Z H Q I h;refine BoolOp_or (dg (ha pins s Z H _ I h) fun v s1 x H1 I1 r1 q1=> ?_)
 obtain⟨c,rfl,q1⟩:=q1
 cases r1
 refine wpAny_truthy_bool ?_
 cases c with
 | false=>exact hb pins s1 Z H1 Q I1 q1
 | true=>exact⟨.bl true,H1,I1,rfl,q1⟩
def tIf (t:TT) (ta tb:TE):TE:=fun Z H Q=>t Z H fun c H1=>if c=true then ta Z H1 Q else tb Z H1 Q
theorem vS {c:Expr}(hc:PT X c tA) (ha:PE X a ta) (hb:PE X b tb):PE X (.IfExp c a b pos) (tIf tA ta tb):=by
 intro pins s Z H Q I h;refine wpAny_IfExp (BA (hc pins s Z H _ I h) fun d s1 H1 I1 q1=> ?_)
 cases d with
 | true=>exact ha pins s1 Z H1 Q I1 q1
 | false=>exact hb pins s1 Z H1 Q I1 q1
end
def SqL (K:Frag) (H:Hp) (a:Addr) (xs:List V):Prop:=
 Rd H a (.lst xs)\/
  ∃(o:Obj) (its:Array Value) (n:Nat),K.lookup a=some o/\o.cls= .type "list"/\o.dict=none/\o.data= .seq its n/\its.size<=sizeLine/\aW xs its.toList
def SqT (K:Frag) (H:Hp) (a:Addr) (xs:List V):Prop:=
 Rd H a (.tup xs)\/
  ∃(o:Obj) (its:Array Value) (n:Nat),K.lookup a=some o/\o.cls= .type "tuple"/\o.data= .seq its n/\its.size<=sizeLine/\aW xs its.toList
def Mv:Value->Option V
 | .none=>some .non
 | .bool b=>some (.bl b)
 | .int i _=>some (.int i)
 | .str x _=>some (.str x)
 | .bytes b _=>some (.byt b)
 | .float b _=>some (.flt b)
 | .ref a=>some (.ref a)
 | .type n=>some (.ty n)
 | _=>none
theorem bj.abs {x:V}{u:Value}(r:bj x u):Mv u=some x:=by
 cases x with
 | non=>cases r;rfl
 | bl _=>cases r;rfl
 | int _=>obtain⟨t,rfl⟩:=r;rfl
 | str _=>obtain⟨t,rfl⟩:=r;rfl
 | byt _=>obtain⟨t,rfl⟩:=r;rfl
 | flt _=>obtain⟨t,rfl⟩:=r;rfl
 | ref _=>cases r;rfl
 | ty _=>cases r;rfl
theorem bj.inj {x y:V}{u:Value}(r:bj x u) (q:bj y u):x=y:=Option.some.inj (r.abs.symm.trans q.abs)
theorem aW.inj:∀ {xs ys:List V}{us:List Value},aW xs us->aW ys us->xs=ys
 | _,_,_,.nil,.nil=>rfl
 | _,_,_,.cons r t,.cons r' t'=>by rw[r.inj r',aW.inj t t']
section
variable {X : Cx} {pins : List (Addr × Obj)} {σ : St} {H : Hp} {s : Shared} {a : Addr} {xs ys : List V}
theorem SqL.of {K:Frag}(h:H a=some (.lst xs)):SqL K H a xs:= .inl (.inl h)
theorem SqT.of {K:Frag}(h:H a=some (.tup xs)):SqT K H a xs:= .inl (.inl h)
theorem Inv.list (I:Inv X pins Z H s) (h:SqL X.K H a xs):∃its:List Value,aW xs its/\PlainL s.heap a its.toArray/\xs.length<=sizeLine:=by
 rcases h with h | ⟨o,its,n,hk,hc,hd,hs,hz,r⟩
 .obtain⟨z,its,n,r,e⟩:=h.ok I.hok;exact⟨its,r,⟨_,n,e,rfl,rfl,rfl⟩,z⟩
 .refine⟨its.toList,r,⟨o,n,I.kIn a o hk,hc,hd,by simpa using hs⟩,?_⟩
  have e:=r.length
  simp only[Array.length_toList] at e
  lia
theorem Inv.tuple (I:Inv X pins Z H s) (h:SqT X.K H a xs):∃its:List Value,aW xs its/\IsTup s.heap a its.toArray/\xs.length<=sizeLine:=by
 rcases h with h | ⟨o,its,n,hk,hc,hs,hz,r⟩
 .obtain⟨z,its,r,p⟩:=h.ok I.hok;exact⟨its,r,p,z⟩
 .refine⟨its.toList,r,⟨o,I.kIn a o hk,hc,n,by simpa using hs⟩,?_⟩
  have e:=r.length
  simp only[Array.length_toList] at e
  lia
theorem Inv.list_inj (I:Inv X pins Z H s) (h:SqL X.K H a xs) (h':SqL X.K H a ys):xs=ys:=by
 obtain⟨its,r,⟨o,n,e,_,_,d⟩,_⟩:=I.list h;obtain⟨its',r',⟨o',n',e',_,_,d'⟩,_⟩:=I.list h';rw[e] at e';cases e';rw[d] at d'
 injection d' with d1 _
 have:its=its':=by simpa using congrArg Array.toList d1
 subst this;exact r.inj r'
theorem Inv.tuple_inj (I:Inv X pins Z H s) (h:SqT X.K H a xs) (h':SqT X.K H a ys):xs=ys:=by
 obtain⟨its,r,⟨o,e,_,n,d⟩,_⟩:=I.tuple h;obtain⟨its',r',⟨o',e',_,n',d'⟩,_⟩:=I.tuple h';rw[e] at e';cases e';rw[d] at d'
 injection d' with d1 _
 have:its=its':=by simpa using congrArg Array.toList d1
 subst this;exact r.inj r'
end
abbrev Cx.wish (X:Cx) (E:Value->Shared->Prop):Cx:={X with xe:=E}
abbrev Cx.nox (X:Cx):Cx:=X.wish fun _ _=>False
theorem Cx.Ok.wish {X:Cx}(ok:X.Ok) (E:Value->Shared->Prop):(X.wish E).Ok:=
 ⟨ok.mod,ok.kind,ok.glob,ok.blt,ok.above,ok.inj,ok.has,ok.cab,ok.hd,ok.frames,ok.stk,ok.exf,ok.bs,ok.bsz,ok.noex,ok.exfs,ok.funs,ok.frf⟩
theorem Cx.Ok.unwish {X:Cx}{E:Value->Shared->Prop}(ok:(X.wish E).Ok):X.Ok:=
 ⟨ok.mod,ok.kind,ok.glob,ok.blt,ok.above,ok.inj,ok.has,ok.cab,ok.hd,ok.frames,ok.stk,ok.exf,ok.bs,ok.bsz,ok.noex,ok.exfs,ok.funs,ok.frf⟩
section
variable {X : Cx} {pins : List (Addr × Obj)} {σ : St} {H : Hp} {s : Shared} {E : Value → Shared → Prop}
theorem Inv.wish (I:Inv X pins Z H s) (E:Value->Shared->Prop):Inv (X.wish E) pins Z H s:=⟨I.ok.wish E,I.os,I.bare,I.base,I.loc,I.cell,I.free,I.freeC,I.pin,I.hok,I.len⟩
theorem Inv.unwish (I:Inv (X.wish E) pins Z H s):Inv X pins Z H s:=⟨I.ok.unwish,I.os,I.bare,I.base,I.loc,I.cell,I.free,I.freeC,I.pin,I.hok,I.len⟩
theorem SP.unwish {D:uJ}{f:Flow}{s':Shared}(h:SP (X.wish E) pins D f s'):SP X pins D f s':=by
 cases f with
 | next=>obtain⟨Z',H',I,q⟩:=h;exact⟨Z',H',I.unwish,q⟩
 | brk=>obtain⟨Z',H',I,q⟩:=h;exact⟨Z',H',I.unwish,q⟩
 | cont=>obtain⟨Z',H',I,q⟩:=h;exact⟨Z',H',I.unwish,q⟩
 | ret u=>obtain⟨v,Z',H',I,r,q⟩:=h;exact⟨v,Z',H',I.unwish,r,q⟩
theorem PE.nox {e:Expr}{t:TE}(h:PE X.nox e t):PE X e t:=fun pins s Z H Q I hw=>
 wpAny_mono (h pins s Z H Q (I.wish _) hw) (fun _ _ ⟨v,H',I',r,q⟩=>⟨v,H',I'.unwish,r,q⟩) fun _ _ z=>False.elim z
theorem PSs.nox {st:List Stmt}{t:TS}(h:PSs X.nox st t):PSs X st t:=fun pins s Z H D I hw=>
 wpAny_mono (h pins s Z H D (I.wish _) hw) (fun _ _ q=>q.unwish) fun _ _ z=>False.elim z
end
section
variable {X : Cx} {st : Stmt} {pZ : List Stmt} {t u : TS} {e : Expr} {te : TE} {pos : Pos}
def Lv:TS:=fun D Z H=>D.nx Z H
def LG (t u:TS):TS:=fun D Z H=>t {D with nx:=u D} Z H
theorem al:PSs X [] Lv:=fun _ _ Z H _ I h=>wpAny_execs_nil ⟨Z,H,I,h⟩
theorem aa (h1:PS X st t) (h2:PSs X pZ u):PSs X (st::pZ) (LG t u):=by
 intro pins s Z H D I h;refine wpAny_execs_cons (thn (h1 pins s Z H {D with nx:=u D} I h) fun f s1 q=> ?_)
 cases f with
 | next=>
  obtain⟨Z',H',I',q⟩:=q;exact h2 pins s1 Z' H' D I' q
 | ret v=>exact q
 | brk=>exact q
 | cont=>exact q
theorem ae (h1:PS X st t):PSs X [st] t:=by
 intro pins s Z H D I h;refine wpAny_execs_cons (thn (h1 pins s Z H D I h) fun f s1 q=> ?_)
 cases f with
 | next=>exact wpAny_execs_nil q
 | ret v=>exact q
 | brk=>exact q
 | cont=>exact q
theorem Inv.quiet {pins:List (Addr × Obj)}{Z:St}{H:Hp}{s:Shared}(I:Inv X pins Z H s):interactive X.env=false:=by simp [interactive,I.ok.kind]
def K9 (te:TE):TS:=fun D Z H=>te Z H fun _ H1=>D.nx Z H1
theorem cu (he:PE X e te) (hs:swapsWith e none pos.line X.env=pure false:=by rfl):PS X (.Expr e pos) (K9 te):=by
 intro pins s Z H D I h;exact wpAny_Expr_any (dg (he pins s Z H _ I h) fun v s1 x H1 I1 r1 q1=>⟨Z,H1,I1,q1⟩) I.quiet hs
def L_ (te:TE):TS:=fun D Z H=>te Z H D.rt
theorem ah (he:PE X e te):PS X (.Return (some e) pos) (L_ te):=by
 intro pins s Z H D I h;exact wpAny_Return_some (dg (he pins s Z H _ I h) fun v s1 x H1 I1 r1 q1=>⟨x,Z,H1,I1,r1,q1⟩)
def LT (c:TT) (t u:TS):TS:=fun D Z H=>c Z H fun b H1=>if b=true then t D Z H1 else u D Z H1
theorem ax {c:Expr}{a b:List Stmt}{tc:TT}(hc:PT X c tc) (ha:PSs X a t) (hb:PSs X b u):PS X (.If c a b pos) (LT tc t u):=by
 intro pins s Z H D I h;refine wpAny_If (BA (hc pins s Z H _ I h) fun d s1 H1 I1 q1=> ?_)
 cases d with
 | true=>exact ha pins s1 Z H1 D I1 q1
 | false=>exact hb pins s1 Z H1 D I1 q1
def KD:TS:=fun _ _ _=>False
theorem qY:PS X st KD:=fun _ _ _ _ _ _ h=>h.elim
end
abbrev TG:=V->St->Hp->(St->Hp->Prop)->Prop
abbrev TGs:=List V->St->Hp->(St->Hp->Prop)->Prop
def PG (X:Cx) (target:Expr) (t:TG):Prop:=
 ∀(pins:List (Addr × Obj)) (s:Shared) (Z:St) (H:Hp) (v:V) (u:Value) (Q:St->Hp->Prop),Inv X pins Z H s->bj v u->t v Z H Q->
  wpAny (model X.prog X.w) X.A (assign target X.env u) (fun _ s'=>∃Z' H',Inv X pins Z' H' s'/\Q Z' H') X.xe s
def PGs (X:Cx) (ts:List Expr) (t:TGs):Prop:=
 ∀(pins:List (Addr × Obj)) (s:Shared) (Z:St) (H:Hp) (vs:List V) (us:List Value) (Q:St->Hp->Prop),Inv X pins Z H s->aW vs us->t vs Z H Q->
  wpAny (model X.prog X.w) X.A (assignInOrder ((assignEach ts X.env).map (·.2)) us) (fun _ s'=>∃Z' H',Inv X pins Z' H' s'/\Q Z' H') X.xe s
abbrev Ks:=V->V->V->Hp->(Hp->Prop)->Prop
def Lc (X:Cx) (t:Ks):Prop:=
 ∀(pins:List (Addr × Obj)) (s:Shared) (Z:St) (H:Hp) (o i v:V) (ov iv u:Value) (Q:Hp->Prop),Inv X pins Z H s->bj o ov->bj i iv->bj v u->t o i v H Q->
  wpAny (model X.prog X.w) X.A (setItem ov iv u) (fun _ s'=>∃H',Inv X pins Z H' s'/\Q H') X.xe s
section
variable {X : Cx} {pos : Pos}
def Cb (i:Nat):TG:=fun v Z H Q=>Q (Z.set i (some v)) H
theorem aN {i:Nat}{x:Str}(hN:X.N.Nodup) (hi:X.N[i]? =some x) (hx:Loc X.env.scope x) (hf:X.fn x=true\/X.env.scope.names.lookup x=some .local:=by first | exact .inl rfl | exact .inr rfl | assumption):PG X (.Name x pos) (Cb i):=by
 intro pins s Z H v u Q I r h;exact wpAny_assign_Name (Bx I hN hi hx r (fun s' I'=>⟨_,H,I',h⟩) hf)
def LV:TGs:=fun vs Z H Q=>vs=[]/\Q Z H
def KQ (t:TG) (u:TGs):TGs:=fun vs Z H Q=>∃v r,vs=v::r/\t v Z H fun Z' H'=>u r Z' H' Q
theorem jM:PGs X [] LV:=by
 intro pins s Z H vs us Q I r h;obtain⟨e,h⟩:=h;subst e
 cases r
 exact assignInOrder_nil ⟨Z,H,I,h⟩
theorem bE {e:Expr}{es:List Expr}{t:TG}{u:TGs}(h1:PG X e t) (h2:PGs X es u)
  (hs:(assignEach (e::es) X.env).map (·.2)=assign e X.env::(assignEach es X.env).map (·.2):=by rfl):PGs X (e::es) (KQ t u):=by
 intro pins s Z H vs us Q I r h;obtain⟨v,vr,e1,h⟩:=h;subst e1
 cases r with
 | cons r rr=>
  rw[hs];refine assignInOrder_cons (Lb (h1 pins s Z H _ _ _ I r h) fun _ s1 Z1 H1 I1 q1=> ?_)
  exact h2 pins s1 Z1 H1 _ _ Q I1 rr q1
def L7 (K:Frag) (n:Nat) (t:TGs):TG:=fun v Z H Q=>∃a xs,v= .ref a/\SqT K H a xs/\xs.length=n/\t xs Z H Q
theorem sO {es:List Expr}{k:Nat}{t:TGs}{n:Nat}(hc:X.calm=true) (h:PGs X es t)
  (hn:(assignEach es X.env).length=n:=by rfl) (hst:(assignEach es X.env).findIdx? (·.1)=none:=by rfl):PG X (.Tuple es k pos) (L7 X.K n t):=by
 intro pins s Z H v u Q I r hw;obtain⟨a,xs,e1,hq,hl,hw⟩:=hw;subst e1
 cases r
 obtain⟨its,rv,ht,hz⟩:=I.tuple hq;refine assign_Tuple_tuple (I.ok.hd hc) ht (by simp [hn, <-hl,rv.length]) hst fun h' hx=> ?_
 have I1:Inv X pins Z H {s with heap:=h'}:=I.kept (t':=s.toks) fun b o e=>hx b o (Nat.ne_of_lt (Heap.lt_size e)) e
 exact h pins _ Z H xs _ Q I1 (by simpa using rv) hw
def Mx (to ti:TE) (t:Ks):TG:=fun v Z H Q=>to Z H fun o H1=>ti Z H1 fun i H2=>t o i v H2 fun H3=>Q Z H3
theorem wH {o i:Expr}{to ti:TE}{t:Ks}(ho:PE X o to) (hi:PE X i ti) (hs:Lc X t)
  (ha:∀v,assign (.Subscript o i pos) X.env v=(do
   let ov <-holding [v] (eval o X.env)
   let iv <-holding [v,ov] (eval i X.env)
   standAt pos
   holding [v,ov,iv] (setItem ov iv v)
   release [v,ov,iv] []):=by intro _;rfl):PG X (.Subscript o i pos) (Mx to ti t):=by
 intro pins s Z H v u Q I r h;rw[ha];refine wpAny_bind (wpAny_holding (dg (ho pins s Z H _ I h) fun ov s1 x H1 I1 r1 q1=> ?_))
 refine wpAny_bind (wpAny_holding (dg (hi pins s1 Z H1 _ I1 q1) fun iv s2 y H2 I2 r2 q2=> ?_))
 refine wpAny_bind (wpAny_standAt (wpAny_bind (wpAny_holding (BA (hs pins s2 Z H2 x y v ov iv u _ I2 r1 r2 r q2) fun _ s3 H3 I3 q3=> ?_))))
 exact wpAny_release ⟨Z,H3,I3,q3⟩
def HE (te:TE) (g:TG):TS:=fun D Z H=>te Z H fun x H1=>g x Z H1 D.nx
theorem mi {tg e:Expr}{te:TE}{g:TG}(he:PE X e te) (hg:PG X tg g) (hs:swapsWithSole [tg] e pos.line X.env=pure false:=by rfl) (hw:swappedStores [tg] e X.env=pure none:=by rfl)
  (h1:(assignEach [tg] X.env).map (·.2)=[assign tg X.env]:=by rfl):PS X (.Assign [tg] e pos) (HE te g):=by
 intro pins s Z H D I h;refine wpAny_Assign_stores (dg (he pins s Z H _ I h) fun v s1 x H1 I1 r1 q1=> ?_) hs hw
 rw[h1];exact thn (hg pins s1 Z H1 x v _ I1 r1 q1) fun _ s2 q=>q
theorem J_ {i:Nat}{x:Str}{e:Expr}{te:TE}{pos':Pos}(hN:X.N.Nodup) (hi:X.N[i]? =some x) (hx:Loc X.env.scope x) (he:PE X e te) (hs:swapsWith e (some (.Name x pos')) pos.line X.env=pure false:=by rfl) (hf:X.fn x=true\/X.env.scope.names.lookup x=some .local:=by first | exact .inl rfl | exact .inr rfl | assumption):
  PS X (.Assign [.Name x pos'] e pos) (HE te (Cb i)):=by
 intro pins s Z H D I h;refine wpAny_Assign_Name (dg (he pins s Z H _ I h) fun v s1 y H1 I1 r1 q1=> ?_) hs
 exact Bx I1 hN hi hx r1 (fun s2 I2=>⟨_,H1,I2,q1⟩) hf
end
section
variable {X : Cx} {pos : Pos}
def J9 (c:TT) (tb:TS):TS:=fun D Z H=>∃W:Nat->St->Hp->Prop,(∃ m,W m Z H)/\∀m Z H,W m Z H->
 c Z H fun b H1=>if b=true then ∃N:St->Hp->Prop,(∀ Z' H',N Z' H'->∃m',m' < m/\W m' Z' H')/\tb {D with nx:=N,ct:=N,bk:=D.nx} Z H1 else D.nx Z H1
theorem kE {c:Expr}{body:List Stmt}{tc:TT}{tb:TS}(hp:PassesOwn (model X.prog X.w) X.A X.env X.xe) (hc:PT X c tc) (hb:PSs X body tb):PS X (.While c body [] pos) (J9 tc tb):=by
 intro pins s Z H D I h;obtain⟨W,⟨m0,w0⟩,turn⟩:=h;refine wpAny_While (codeAny_whileLoop (fun n s'=>∃Z' H',Inv X pins Z' H' s'/\W n Z' H') ?_ m0 ⟨Z,H,I,w0⟩)
 rintro n s1 ⟨Z1,H1,I1,w1⟩
 refine wpAny_passesOwn hp (BA (hc pins s1 Z1 H1 _ I1 (turn n Z1 H1 w1)) fun b s2 H2 I2 q2=> ?_)
 cases b with
 | true=>
  obtain⟨N,hN,q2⟩:=q2;rw[if_pos rfl];refine wpAny_passesOwn hp (thn (hb pins s2 Z1 H2 _ I2 q2) fun f s3 q3=> ?_)
  cases f with
  | next=>
   obtain⟨Z3,H3,I3,n3⟩:=q3;obtain⟨m',hm,w3⟩:=hN Z3 H3 n3;exact⟨m',hm,Z3,H3,I3,w3⟩
  | cont=>
   obtain⟨Z3,H3,I3,n3⟩:=q3;obtain⟨m',hm,w3⟩:=hN Z3 H3 n3;exact⟨m',hm,Z3,H3,I3,w3⟩
  | brk=>exact q3
  | ret v=>exact q3
 | false=>
  rw[if_neg Bool.false_ne_true];exact wpAny_execs_nil ⟨Z1,H2,I2,q2⟩
end
structure It where
 go:Nat->Hp->Prop
 yld:Nat->Hp->V->Hp->Prop
 stop:Nat->Hp->Prop
def sY (X:Cx) (pins:List (Addr × Obj)) (H:Hp) (b:Addr):Prop:=
 H b=none/\b≠X.env.locals/\b ∉ X.fs/\(b∈X.ex\/X.s₀.heap.objs.size<=b)/\(∀ x c,X.env.cells.lookup x=some c->c≠b)/\∀p∈X.pn++pins,p.1≠b
theorem Inv.fpOk {X:Cx}{pins:List (Addr × Obj)}{Z:St}{H H':Hp}{s:Shared}{b:Addr}(I:Inv X pins Z H s) (hb:s.heap.objs.size<=b) (hn:H' b=none):sY X pins H' b:=by
 refine⟨hn,Nat.ne_of_gt (Nat.lt_of_lt_of_le I.lt hb),I.nofs hb,.inr (Nat.le_trans I.sz hb),fun x c e z=> ?_,fun p hp z=> ?_⟩
 .obtain⟨v,q⟩:=I.cell x c e;exact absurd (Nat.lt_of_lt_of_le q.lt (by rw[z];exact hb)) (Nat.lt_irrefl _)
 .exact absurd (Nat.lt_of_lt_of_le (Heap.lt_size (I.pin p hp).1) (by rw[z];exact hb)) (Nat.lt_irrefl _)
structure A0 (P:Program) (w:World) (K:Frag) (tg:Expr) (J:It) (fp:List Addr) (it:Addr) (tn:Nat->Heap->Prop):Prop where
 mem:it∈fp
 obj:∀i h,tn i h->∀b∈fp, ∃o,h.get? b=some o/\∀v,o.data≠ .cell v
 keep:∀i h h',tn i h->(∀ b∈fp, ∀o,h.get? b=some o->h'.get? b=some o)->tn i h'
 item:∀(X:Cx),X.prog=P->X.w=w->X.K=K->X.calm=true->∀(i:Nat) (pins:List (Addr × Obj)) (s:Shared) (Z:St) (H:Hp) (E:Value->Shared->Prop),Inv X pins Z H s->(∀ b∈fp,sY X pins H b)->tn i s.heap->J.go i H->
  wpAny (model P w) X.A (pyNext (.ref it)) (fun r s1=>∃u,r=some u/\
   wpAny (model P w) X.A (letOwnedTupleGo tg (.ref it) u) (fun _ s2=>∃x H',Inv X pins Z H' s2/\bj x u/\J.yld i H x H'/\tn (i+1) s2.heap/\∀b∈fp,H' b=none) E s1) E s
 done:∀(X:Cx),X.prog=P->X.w=w->X.K=K->X.calm=true->∀(i:Nat) (pins:List (Addr × Obj)) (s:Shared) (Z:St) (H:Hp) (E:Value->Shared->Prop),Inv X pins Z H s->(∀ b∈fp,sY X pins H b)->tn i s.heap->J.stop i H->
  wpAny (model P w) X.A (pyNext (.ref it)) (fun r s1=>r=none/\Inv X pins Z H s1) E s
 self:∀(A:Around) (i:Nat) (s:Shared) (Q:Value->Shared->Prop) (E:Value->Shared->Prop),tn i s.heap->Q (.ref it) s->wpAny (model P w) A (pyIter (.ref it)) Q E s
abbrev TI:=St->Hp->(It->Hp->Prop)->Prop
def PIE (X:Cx) (pins:List (Addr × Obj)) (Z:St) (tg:Expr) (R:It->Hp->Prop) (itv:Value) (s2:Shared):Prop:=
 ∃(it:Addr) (fp:List Addr) (tn:Nat->Heap->Prop) (J:It) (H':Hp),itv= .ref it/\Inv X pins Z H' s2/\A0 X.prog X.w X.K tg J fp it tn/\tn 0 s2.heap/\(∀ b∈fp,sY X pins H' b)/\R J H'
def PI (X:Cx) (tg iter:Expr) (wi:TI):Prop:=
 ∀(pins:List (Addr × Obj)) (s:Shared) (Z:St) (H:Hp) (R:It->Hp->Prop),Inv X pins Z H s->wi Z H R->
  wpAny (model X.prog X.w) X.A (eval iter X.env) (fun v s1=>wpAny (model X.prog X.w) X.A (pyIter v) (PIE X pins Z tg R) X.xe s1) X.xe s
theorem Ey {M : Model}{A : Around}{E : Value → Shared → Prop}{s : Shared}{tg : Expr}{it : Addr}{u : Value}{o : Obj}{n : String}{vs : Array Value}{Q : Unit → Shared → Prop}(ho : s.heap.get? it = some o) (hc : o.cls = .type n) (hd : o.data = .fields vs)
    (hn : ["enumerate", "zip", "dict_itemiterator", "dict_reverseitemiterator", "odict_iterator", "itertools.zip_longest", "itertools.pairwise"].contains n = false) (hQ : Q () s) : wpAny M A (letOwnedTupleGo tg (.ref it) u) Q E s := by
  unfold letOwnedTupleGo
  cases tg <;> first
    | exact wpAny_pure hQ
    | (cases u <;> first
        | exact wpAny_pure hQ
        | (refine wpAny_bind (wpAny_load ho ?_)
           rw[hc, hd]
           show wpAny M A (if (["enumerate", "zip", "dict_itemiterator", "dict_reverseitemiterator", "odict_iterator", "itertools.zip_longest", "itertools.pairwise"].contains n && vs[0]? == some (rawInt _)) = true then _ else _) Q E s
           rw[if_neg (by intro h; rw[hn, Bool.false_and] at h; cases h)]
           exact wpAny_pure hQ))
def Itl (K:Frag) (a:Addr):It:=
 ⟨fun i H=>∃xs x,SqL K H a xs/\xs[i]? =some x,fun i H x H'=>H'=H/\∀xs,SqL K H a xs->xs[i]? =some x,fun i H=>∃xs,SqL K H a xs/\xs.length<=i⟩
def Itt (K:Frag) (a:Addr):It:=
 ⟨fun i H=>∃xs x,SqT K H a xs/\xs[i]? =some x,fun i H x H'=>H'=H/\∀xs,SqT K H a xs->xs[i]? =some x,fun i H=>∃xs,SqT K H a xs/\xs.length<=i⟩
def Itr (lo:Int) (n:Nat):It:=⟨fun i _=>i < n,fun i H x H'=>H'=H/\x= .int (lo+i),fun i _=>n<=i⟩
theorem Ff {P:Program}{w:World}{K:Frag}{tg:Expr}(a it:Addr):A0 P w K tg (Itl K a) [it] it (fun i h=>h.IsListIter it a i) where
 mem:=by simp
 obj:=fun i h st b hb=>by
  have e:b=it:=by simpa using hb
  subst e;obtain⟨o,e,c,d⟩:=st;exact⟨o,e,fun v z=>by rw[d] at z;cases z⟩
 keep:=fun i h h' st k=>st.at fun o e=>k it (by simp) o e
 item:=by
  intro X hP hw hK hc i pins s Z H E I hf st hg;subst hP hw hK;obtain⟨xs,x,hq,hx⟩:=hg;obtain⟨its,rv,p,hz⟩:=I.list hq;obtain⟨u,hu,ru⟩:=rv.get hx;obtain⟨f0,f1,f2,f3,f4,f5⟩:=hf it (by simp)
  refine wpAny_pyNext_list_item st p.isList (x:=u) (by simpa using hu) fun h' st' sb=> ?_
  have I1:Inv X pins Z H {s with heap:=h'}:=I.turned (t':=s.toks) (fun b o hb e=>(sb.2 b hb).trans e) f0 f1 f3 f4 f5
  obtain⟨o,e,c,d⟩:=id st';exact⟨u,rfl,Ey (s:={s with heap:=h'}) e c d (by decide) ⟨x,H,I1,ru,⟨rfl,fun ys hy=>by rw[I.list_inj hy hq];exact hx⟩,st',fun b hb=>(hf b hb).1⟩⟩
 done:=by
  intro X hP hw hK hc i pins s Z H E I hf st hg;subst hP hw hK;obtain⟨xs,hq,hx⟩:=hg;obtain⟨its,rv,p,hz⟩:=I.list hq;obtain⟨f0,f1,f2,f3,f4,f5⟩:=hf it (by simp)
  have hl:=rv.length;exact wpAny_pyNext_list_end (I.ok.hd hc) st p.isList (by simp;lia) fun h' eb=>⟨rfl,I.turned (t':=s.toks) (fun b o hb e=>eb b o hb e) f0 f1 f3 f4 f5⟩
 self:=fun _ _ _ _ _ st h=>wpAny_pyIter_listiter st h
theorem CA {P:Program}{w:World}{K:Frag}{tg:Expr}(a it:Addr):A0 P w K tg (Itt K a) [it] it (fun i h=>h.IsTupleIter it a i) where
 mem:=by simp
 obj:=fun i h st b hb=>by
  have e:b=it:=by simpa using hb
  subst e;obtain⟨o,e,c,d⟩:=st;exact⟨o,e,fun v z=>by rw[d] at z;cases z⟩
 keep:=fun i h h' st k=>st.at fun o e=>k it (by simp) o e
 item:=by
  intro X hP hw hK hc i pins s Z H E I hf st hg;subst hP hw hK;obtain⟨xs,x,hq,hx⟩:=hg;obtain⟨its,rv,p,hz⟩:=I.tuple hq;obtain⟨u,hu,ru⟩:=rv.get hx;obtain⟨f0,f1,f2,f3,f4,f5⟩:=hf it (by simp)
  refine wpAny_pyNext_tuple_item st (show s.heap.IsTuple a its.toArray from p) (x:=u) (by simpa using hu) fun h' st' sb=> ?_
  have I1:Inv X pins Z H {s with heap:=h'}:=I.turned (t':=s.toks) (fun b o hb e=>(sb.2 b hb).trans e) f0 f1 f3 f4 f5
  obtain⟨o,e,c,d⟩:=id st';exact⟨u,rfl,Ey (s:={s with heap:=h'}) e c d (by decide) ⟨x,H,I1,ru,⟨rfl,fun ys hy=>by rw[I.tuple_inj hy hq];exact hx⟩,st',fun b hb=>(hf b hb).1⟩⟩
 done:=by
  intro X hP hw hK hc i pins s Z H E I hf st hg;subst hP hw hK;obtain⟨xs,hq,hx⟩:=hg;obtain⟨its,rv,p,hz⟩:=I.tuple hq;obtain⟨f0,f1,f2,f3,f4,f5⟩:=hf it (by simp)
  have hl:=rv.length;exact wpAny_pyNext_tuple_end (I.ok.hd hc) st (show s.heap.IsTuple a its.toArray from p) (by simp;lia) fun h' eb=>⟨rfl,I.turned (t':=s.toks) (fun b o hb e=>eb b o hb e) f0 f1 f3 f4 f5⟩
 self:=fun _ _ _ _ _ st h=>wpAny_pyIter_tupleiter st h
theorem Dj {P:Program}{w:World}{K:Frag}{tg:Expr}(it:Addr) (lo:Int) (n:Nat):A0 P w K tg (Itr lo n) [it] it (fun i h=>IsRangeIter h it (lo+(i:Nat)*1) ((n:Int) - (i:Nat)) 1) where
 mem:=by simp
 obj:=fun i h st b hb=>by
  have e:b=it:=by simpa using hb
  subst e
  exact⟨_,st,fun v z=>by
   have z':Data.fields _=Data.cell v:=z
   cases z'⟩
 keep:=fun i h h' st k=>k it (by simp) _ st
 item:=by
  intro X hP hw hK hc i pins s Z H E I hf st hg;subst hP hw hK;obtain⟨f0,f1,f2,f3,f4,f5⟩:=hf it (by simp)
  have W:=Walks.range (prog:=X.prog) (w:=X.w) (I.ok.hd hc) it lo 1 n;refine W.item i s _ _ hg st fun v h' tk hv st' kk=> ?_
  obtain⟨t,rfl⟩:=hv;have I1:Inv X pins Z H {s with heap:=h',toks:=tk}:=I.turned (fun b o hb e=>kk b o (by simpa using hb) e) f0 f1 f3 f4 f5
  refine⟨_,rfl,Ey (s:={s with heap:=h',toks:=tk}) (n:="range_iterator") st' rfl rfl (by decide) ⟨.int (lo+i),H,I1,⟨t,?_⟩,⟨rfl,rfl⟩,st',fun b hb=>(hf b hb).1⟩⟩
  rw[Int.mul_one]
 done:=by
  intro X hP hw hK hc i pins s Z H E I hf st hg;subst hP hw hK;obtain⟨f0,f1,f2,f3,f4,f5⟩:=hf it (by simp)
  exact wpAny_pyNext_range_end (I.ok.hd hc) st (by have:n<=i:=hg;lia) fun h' eb=>⟨rfl,I.turned (t':=s.toks) (fun b o hb e=>eb b o hb e) f0 f1 f3 f4 f5⟩
 self:=fun _ _ _ _ _ st h=>wpAny_pyIter_rangeiter st h
section
variable {X : Cx} {tg : Expr}
def K8 (K:Frag) (tl:TE):TI:=fun Z H R=>tl Z H fun x H1=>∃a,x= .ref a/\(∃ xs,SqL K H1 a xs)/\R (Itl K a) H1
def Ma (K:Frag) (tl:TE):TI:=fun Z H R=>tl Z H fun x H1=>∃a,x= .ref a/\(∃ xs,SqT K H1 a xs)/\R (Itt K a) H1
theorem uV {l:Expr}{tl:TE}(hl:PE X l tl):PI X tg l (K8 X.K tl):=by
 intro pins s Z H R I h;refine dg (hl pins s Z H _ I h) fun v s1 x H1 I1 r1 q1=> ?_
 obtain⟨a,e,⟨xs,hq⟩,q⟩:=q1;subst e
 cases r1
 obtain⟨its,rv,p,hz⟩:=I1.list hq;refine wpAny_pyIter_list p.isList ?_
 refine⟨s1.heap.objs.size,[s1.heap.objs.size],_,_,H1,rfl,I1.kept (t':=s1.toks) fun b o e=>Heap.get?_push_of_some _ e,Ff a _,⟨_,Heap.get?_push_size _ rfl,rfl,rfl⟩,fun b hb=> ?_,q⟩
 have e:b=s1.heap.objs.size:=by simpa using hb
 subst e;exact I1.fpOk (Nat.le_refl _) (I1.hok.fresh (Nat.le_refl _))
theorem ll {l:Expr}{tl:TE}(hl:PE X l tl):PI X tg l (Ma X.K tl):=by
 intro pins s Z H R I h;refine dg (hl pins s Z H _ I h) fun v s1 x H1 I1 r1 q1=> ?_
 obtain⟨a,e,⟨xs,hq⟩,q⟩:=q1;subst e
 cases r1
 obtain⟨its,rv,p,hz⟩:=I1.tuple hq;refine wpAny_pyIter_tuple (show s1.heap.IsTuple a its.toArray from p) ?_
 refine⟨s1.heap.objs.size,[s1.heap.objs.size],_,_,H1,rfl,I1.kept (t':=s1.toks) fun b o e=>Heap.get?_push_of_some _ e,CA a _,⟨_,Heap.get?_push_size _ rfl,rfl,rfl⟩,fun b hb=> ?_,q⟩
 have e:b=s1.heap.objs.size:=by simpa using hb
 subst e;exact I1.fpOk (Nat.le_refl _) (I1.hok.fresh (Nat.le_refl _))
theorem F4 {pins:List (Addr × Obj)}{Z:St}{H:Hp}{s:Shared}{R:It->Hp->Prop}{E:Value->Shared->Prop}{lo hi:Int}{t u v:Tok}{tk:Nat}(I:Inv X pins Z H s) (h1: -(2^62)<=lo) (h2:lo < 2^62) (h3: -(2^62)<=hi) (h4:hi < 2^62)
  (q:R (Itr lo (hi - lo).toNat) H):wpAny (model X.prog X.w) X.A (pyIter (.ref s.heap.objs.size)) (PIE X pins Z tg R) E {s with heap:=s.heap.push {cls:= .type "range",data:= .fields #[.int lo t,.int hi u,.int 1 v]},toks:=tk}:=by
 refine wpAny_pyIter_range (IsRange.new ..) (small_one h1 h2 h3 h4) ?_
 have I1:Inv X pins Z H {s with heap:=s.heap.push {cls:= .type "range",data:= .fields #[.int lo t,.int hi u,.int 1 v]},toks:=tk}:=I.kept fun b o e=>Heap.get?_push_of_some _ e
 refine⟨(s.heap.push {cls:= .type "range",data:= .fields #[.int lo t,.int hi u,.int 1 v]}).objs.size,[(s.heap.push {cls:= .type "range",data:= .fields #[.int lo t,.int hi u,.int 1 v]}).objs.size],_,_,H,rfl,
  I1.kept (t':=tk) fun b o e=>Heap.get?_push_of_some _ e,Dj _ lo (hi - lo).toNat,?_,fun b hb=> ?_,q⟩
 .have e1:lo+((0:Nat):Int)*1=lo:=by simp
  have e2:(((hi - lo).toNat:Nat):Int) - ((0:Nat):Int)=Builtin.Range.rangeSize lo hi 1:=by rw[rangeSize_one];split <;> lia
  show IsRangeIter _ _ (lo+((0:Nat):Int)*1) ((((hi - lo).toNat:Nat):Int) - ((0:Nat):Int)) 1
  rw[e1,e2];exact Heap.get?_push_size _ rfl
 .have e:b=(s.heap.push {cls:= .type "range",data:= .fields #[.int lo t,.int hi u,.int 1 v]}).objs.size:=by simpa using hb
  subst e;exact I1.fpOk (Nat.le_refl _) (I1.hok.fresh (Nat.le_refl _))
def Lh (ta:TA):TI:=fun Z H R=>ta Z H fun vs H1=>∃j:Int,vs=[.int j]/\ -(2^62)<=j/\j < 2^62/\R (Itr 0 j.toNat) H1
theorem f_ {a:Expr}{ta:TA}{p pos:Pos}(hg:Gl X "range") (hm:X.mg "range"=none) (ha:PA X [a] ta) (hs:starEach [a] X.env=[(false,eval a X.env)]:=by rfl):PI X tg (.Call (.Name "range" p) [a] [] pos) (Lh ta):=by
 intro pins s Z H R I h;refine Call_ (v_ I hg hm boot_range (PyProof.Rows.callWith_type1 (dg (ha pos pins s Z H _ I h) fun us s1 vs H1 I1 r1 q1=> ?_) hs rfl))
 obtain⟨j,e,q1,q2,q⟩:=q1;subst e
 cases r1 with
 | cons r rr=>
  cases rr
  obtain⟨t,rfl⟩:=r;exact call_range_1 (F4 I1 (by lia) (by lia) q1 q2 (by simpa using q))
def Mw (wi:TI) (g:TG) (tb:TS):TS:=fun D Z H=>wi Z H fun J H1=>∃W:Nat->Nat->St->Hp->Prop,(∃ m,W 0 m Z H1)/\∀i m Z H,W i m Z H->
 (J.stop i H/\D.nx Z H)\/(J.go i H/\∃N:St->Hp->Prop,(∀ Z' H',N Z' H'->∃m',m' < m/\W (i+1) m' Z' H')/\∀x H',J.yld i H x H'->g x Z H' fun Z2 H2=>tb {D with nx:=N,ct:=N,bk:=D.nx} Z2 H2)
def zA (fp:List Addr) (h:Heap):List (Addr × Obj):=fp.filterMap fun b=>(h.get? b).map fun o=>(b,o)
theorem lB {fp:List Addr}{h:Heap}{b:Addr}{o:Obj}(hb:b∈fp) (e:h.get? b=some o):(b,o)∈zA fp h:=List.mem_filterMap.mpr ⟨b,hb,by rw[e];rfl⟩
theorem ET {fp:List Addr}{h:Heap}{p:Addr × Obj}(hp:p∈zA fp h):p.1∈fp/\h.get? p.1=some p.2:=by
 obtain⟨b,hb,e⟩:=List.mem_filterMap.mp hp
 cases q:h.get? b with
 | none=>rw[q] at e;cases e
 | some o=>
  rw[q] at e;have e':(b,o)=p:=Option.some.inj e;subst e';exact⟨hb,q⟩
theorem Inv.pinned {pins:List (Addr × Obj)}{Z:St}{H:Hp}{s:Shared}{fp:List Addr}(I:Inv X pins Z H s) (hf:∀b∈fp,sY X pins H b) (ho:∀b∈fp, ∃o,s.heap.get? b=some o/\∀v,o.data≠ .cell v):Inv X (pins++zA fp s.heap) Z H s:=
 I.pins_of fun p hp=>(List.mem_append.mp hp).elim (fun z=>I.pin p (List.mem_append_right _ z)) fun z=>by
  obtain⟨hb,e⟩:=ET z;obtain⟨f0,f1,f2,_⟩:=hf p.1 hb;obtain⟨o,e',d⟩:=ho p.1 hb;rw[e] at e';cases e';exact⟨e,f0,f1,f2,d⟩
theorem Inv.unpinned {pins pl:List (Addr × Obj)}{Z:St}{H:Hp}{s:Shared}(I:Inv X (pins++pl) Z H s):Inv X pins Z H s:=I.pins_of fun p hp=>I.pin p (List.mem_append_right _ (List.mem_append_left _ hp))
theorem fB {iter:Expr}{body:List Stmt}{wi:TI}{g:TG}{tb:TS}{pos:Pos}(hp:PassesOwn (model X.prog X.w) X.A X.env X.xe) (hc:X.calm=true) (hi:PI X tg iter wi) (hg:PG X tg g) (hb:PSs X body tb)
  (hs:∀x,foldedSetIterable iter X.env x=pure x:=by intro _;rfl):PS X (.For tg iter body [] pos) (Mw wi g tb):=by
 intro pins s Z H D I h;refine wpAny_For (thn (hi pins s Z H _ I h) fun v s1 h1=>thn h1 fun itv s2 h2=> ?_) hs
 obtain⟨it,fp,tn,J,H2,e,I2,T,st2,f2,W,⟨m0,w0⟩,turn⟩:=h2;subst e;have stat:∀ {H':Hp},(∀ b∈fp,H' b=none)->∀b∈fp,sY X pins H' b:=fun hn b hb=>⟨hn b hb,(f2 b hb).2⟩
 refine codeAny_forLoop_any (fun n s'=>∃i Z' H',Inv X pins Z' H' s'/\tn i s'.heap/\(∀ b∈fp,H' b=none)/\W i n Z' H') ?_ m0 ⟨0,Z,H2,I2,st2,fun b hb=>(f2 b hb).1,w0⟩
 rintro n s3 ⟨i,Z3,H3,I3,st3,fr3,w3⟩
 rcases turn i n Z3 H3 w3 with⟨stop,qn⟩|⟨go,N,hN,step⟩
 .refine wpAny_passesOwn hp (thn (T.done X rfl rfl rfl hc i pins s3 Z3 H3 X.xe I3 (stat fr3) st3 stop) fun r s4 ⟨hr,I4⟩=> ?_)
  subst hr;exact wpAny_execs_nil ⟨Z3,H3,I4,qn⟩
 .refine wpAny_passesOwn hp (BA (T.item X rfl rfl rfl hc i pins s3 Z3 H3 X.xe I3 (stat fr3) st3 go) fun r s4 u hr h4=> ?_)
  subst hr;refine wpAny_passesOwn hp (thn h4 fun _ s5 ⟨x,H5,I5,r5,y5,st5,fr5⟩=> ?_)
  have I5':=I5.pinned (stat fr5) (T.obj _ _ st5);refine wpAny_passesOwn hp (Lb (hg _ s5 Z3 H5 x u _ I5' r5 (step x H5 y5)) fun _ s6 Z6 H6 I6 q6=> ?_)
  refine wpAny_passesOwn hp (thn (hb _ s6 Z6 H6 _ I6 q6) fun f s7 q7=> ?_)
  have again:∀ {Z7:St}{H7:Hp},Inv X (pins++zA fp s5.heap) Z7 H7 s7->N Z7 H7->∃m,m < n/\∃i Z' H',Inv X pins Z' H' s7/\tn i s7.heap/\(∀ b∈fp,H' b=none)/\W i m Z' H':=fun {Z7 H7} I7 n7=>by
   obtain⟨m',hm,w7⟩:=hN Z7 H7 n7;refine⟨m',hm,i+1,Z7,H7,I7.unpinned,T.keep _ _ _ st5 fun b hb o e=>(I7.pin (b,o) (List.mem_append_right _ (List.mem_append_right _ (lB hb e)))).1,fun b hb=> ?_,w7⟩
   obtain⟨o,e,d⟩:=T.obj _ _ st5 b hb;exact(I7.pin (b,o) (List.mem_append_right _ (List.mem_append_right _ (lB hb e)))).2.1
  cases f with
  | next=>obtain⟨Z7,H7,I7,n7⟩:=q7;exact again I7 n7
  | cont=>obtain⟨Z7,H7,I7,n7⟩:=q7;exact again I7 n7
  | brk=>obtain⟨Z7,H7,I7,q7⟩:=q7;exact⟨Z7,H7,I7.unpinned,q7⟩
  | ret v=>obtain⟨x7,Z7,H7,I7,r7,q7⟩:=q7;exact⟨x7,Z7,H7,I7.unpinned,r7,q7⟩
end
theorem Ao {K:Frag}{a:Addr}{xs:List V}{g:TG}{tb:TS}{D:uJ}{Z:St}{H:Hp}(Pv:Nat->St->Hp->Prop) (h0:Pv 0 Z H) (hl:∀i Z H,i<=xs.length->Pv i Z H->SqL K H a xs)
  (hs:∀i x Z H,xs[i]? =some x->Pv i Z H->g x Z H fun Z2 H2=>tb {D with nx:=Pv (i+1),ct:=Pv (i+1),bk:=D.nx} Z2 H2) (hd:∀Z H,Pv xs.length Z H->D.nx Z H):
  ∃W:Nat->Nat->St->Hp->Prop,(∃ m,W 0 m Z H)/\∀i m Z H,W i m Z H->
   ((Itl K a).stop i H/\D.nx Z H)\/((Itl K a).go i H/\∃N:St->Hp->Prop,(∀ Z' H',N Z' H'->∃m',m' < m/\W (i+1) m' Z' H')/\∀x H',(Itl K a).yld i H x H'->g x Z H' fun Z2 H2=>tb {D with nx:=N,ct:=N,bk:=D.nx} Z2 H2):=by
 refine⟨fun i m Z H=>m=xs.length - i/\i<=xs.length/\Pv i Z H,⟨xs.length,by simp,Nat.zero_le _,h0⟩,?_⟩
 rintro i m Z H ⟨rfl,hi,p⟩
 have q:=hl i Z H hi p
 by_cases hlt:i < xs.length
 .refine .inr ⟨⟨xs,xs[i],q,by simp [hlt]⟩,Pv (i+1),fun Z' H' p'=>⟨xs.length - (i+1),by lia,rfl,hlt,p'⟩,fun x H' y=> ?_⟩
  obtain⟨e,y⟩:=y;subst e;exact hs i x Z _ (y xs q) p
 .have e:i=xs.length:=by lia
  subst e;exact .inl ⟨⟨xs,q,Nat.le_refl _⟩,hd Z H p⟩
theorem r_ {K:Frag}{a:Addr}{xs:List V}{g:TG}{tb:TS}{D:uJ}{Z:St}{H:Hp}(Pv:Nat->St->Hp->Prop) (h0:Pv 0 Z H) (hl:∀i Z H,i<=xs.length->Pv i Z H->SqT K H a xs)
  (hs:∀i x Z H,xs[i]? =some x->Pv i Z H->g x Z H fun Z2 H2=>tb {D with nx:=Pv (i+1),ct:=Pv (i+1),bk:=D.nx} Z2 H2) (hd:∀Z H,Pv xs.length Z H->D.nx Z H):
  ∃W:Nat->Nat->St->Hp->Prop,(∃ m,W 0 m Z H)/\∀i m Z H,W i m Z H->
   ((Itt K a).stop i H/\D.nx Z H)\/((Itt K a).go i H/\∃N:St->Hp->Prop,(∀ Z' H',N Z' H'->∃m',m' < m/\W (i+1) m' Z' H')/\∀x H',(Itt K a).yld i H x H'->g x Z H' fun Z2 H2=>tb {D with nx:=N,ct:=N,bk:=D.nx} Z2 H2):=by
 refine⟨fun i m Z H=>m=xs.length - i/\i<=xs.length/\Pv i Z H,⟨xs.length,by simp,Nat.zero_le _,h0⟩,?_⟩
 rintro i m Z H ⟨rfl,hi,p⟩
 have q:=hl i Z H hi p
 by_cases hlt:i < xs.length
 .refine .inr ⟨⟨xs,xs[i],q,by simp [hlt]⟩,Pv (i+1),fun Z' H' p'=>⟨xs.length - (i+1),by lia,rfl,hlt,p'⟩,fun x H' y=> ?_⟩
  obtain⟨e,y⟩:=y;subst e;exact hs i x Z _ (y xs q) p
 .have e:i=xs.length:=by lia
  subst e;exact .inl ⟨⟨xs,q,Nat.le_refl _⟩,hd Z H p⟩
theorem oU {lo:Int}{n:Nat}{g:TG}{tb:TS}{D:uJ}{Z:St}{H:Hp}(Pv:Nat->St->Hp->Prop) (h0:Pv 0 Z H)
  (hs:∀i Z H,i < n->Pv i Z H->g (.int (lo+i)) Z H fun Z2 H2=>tb {D with nx:=Pv (i+1),ct:=Pv (i+1),bk:=D.nx} Z2 H2) (hd:∀Z H,Pv n Z H->D.nx Z H):
  ∃W:Nat->Nat->St->Hp->Prop,(∃ m,W 0 m Z H)/\∀i m Z H,W i m Z H->
   ((Itr lo n).stop i H/\D.nx Z H)\/((Itr lo n).go i H/\∃N:St->Hp->Prop,(∀ Z' H',N Z' H'->∃m',m' < m/\W (i+1) m' Z' H')/\∀x H',(Itr lo n).yld i H x H'->g x Z H' fun Z2 H2=>tb {D with nx:=N,ct:=N,bk:=D.nx} Z2 H2):=by
 refine⟨fun i m Z H=>m=n - i/\i<=n/\Pv i Z H,⟨n,by simp,Nat.zero_le _,h0⟩,?_⟩
 rintro i m Z H ⟨rfl,hi,p⟩
 by_cases hlt:i < n
 .refine .inr ⟨hlt,Pv (i+1),fun Z' H' p'=>⟨n - (i+1),by lia,rfl,hlt,p'⟩,fun x H' y=> ?_⟩
  obtain⟨e,y⟩:=y;subst e y;exact hs i Z _ hlt p
 .have e:i=n:=by lia
  subst e;exact .inl ⟨Nat.le_refl _,hd Z H p⟩
abbrev R2:=V->V->Hp->VK->Prop
def OpR (X:Cx) (f:Value->Value->Sem Value) (r:R2):Prop:=
 ∀(pins:List (Addr × Obj)) (s:Shared) (Z:St) (H:Hp) (x y:V) (v u:Value) (Q:VK),Inv X pins Z H s->bj x v->bj y u->r x y H Q->
  wpAny (model X.prog X.w) X.A (f v u) (EP X pins Z Q) X.xe s
def UnR (X:Cx) (f:Value->Sem Value) (r:V->Hp->VK->Prop):Prop:=
 ∀(pins:List (Addr × Obj)) (s:Shared) (Z:St) (H:Hp) (x:V) (v:Value) (Q:VK),Inv X pins Z H s->bj x v->r x H Q->
  wpAny (model X.prog X.w) X.A (f v) (EP X pins Z Q) X.xe s
def jh (X:Cx) (f:Value) (r:List V->Hp->VK->Prop):Prop:=
 ∀(pins:List (Addr × Obj)) (s:Shared) (Z:St) (H:Hp) (xs:List V) (us:List Value) (Q:VK),Inv X pins Z H s->aW xs us->r xs H Q->
  wpAny (model X.prog X.w) X.A (call f us) (EP X pins Z Q) X.xe s
def Mq (X:Cx) (r:V->Hp->(Bool->Hp->Prop)->Prop):Prop:=
 ∀(pins:List (Addr × Obj)) (s:Shared) (Z:St) (H:Hp) (x:V) (v:Value) (Q:Bool->Hp->Prop),Inv X pins Z H s->bj x v->r x H Q->
  wpAny (model X.prog X.w) X.A (truthy v) (TP X pins Z Q) X.xe s
def tOp (r:R2) (ta tb:TE):TE:=fun Z H Q=>ta Z H fun x H1=>tb Z H1 fun y H2=>r x y H2 Q
def tUn (r:V->Hp->VK->Prop) (ta:TE):TE:=fun Z H Q=>ta Z H fun x H1=>r x H1 Q
def rI (C:Int->Int->Prop) (g:Int->Int->V):R2:=fun x y H Q=>∃i j,x= .int i/\y= .int j/\C i j/\Q (g i j) H
def rI0 (g:Int->Int->V):R2:=fun x y H Q=>∃i j,x= .int i/\y= .int j/\Q (g i j) H
def rU (g:Int->V):V->Hp->VK->Prop:=fun x H Q=>∃i,x= .int i/\Q (g i) H
section
variable {X : Cx} {a b c : Expr} {ta tb tc : TE} {pos : Pos}
theorem Ke (ha:PE X a ta) (hb:PE X b tb) {pins:List (Addr × Obj)}{s:Shared}{Z:St}{H:Hp}{R:V->V->Hp->Prop}(I:Inv X pins Z H s)
  (h:ta Z H fun x H1=>tb Z H1 fun y H2=>R x y H2) {Q:Value->Shared->Prop}{f:Value->Value->Sem Value}
  (hf:∀v u s2 x y H2,Inv X pins Z H2 s2->bj x v->bj y u->R x y H2->wpAny (model X.prog X.w) X.A (f v u) Q X.xe s2):
  wpAny (model X.prog X.w) X.A (eval a X.env) (fun v s₁=>wpAny (model X.prog X.w) X.A (eval b X.env) (fun u s₂=>wpAny (model X.prog X.w) X.A (f v u) Q X.xe s₂) X.xe s₁) X.xe s:=by
 refine dg (ha pins s Z H _ I h) fun v s1 x H1 I1 r1 q1=> ?_
 refine dg (hb pins s1 Z H1 _ I1 q1) fun u s2 y H2 I2 r2 q2=> ?_
 exact hf v u s2 x y H2 I2 r1 r2 q2
theorem av {op:Operator}{r:R2}(ho:OpR X (binaryOp op) r) (ha:PE X a ta) (hb:PE X b tb):PE X (.BinOp a op b pos) (tOp r ta tb):=by
 intro pins s Z H Q I h;exact wpAny_BinOp (Ke ha hb I h fun v u s2 x y H2 I2 rx ry q=>ho pins s2 Z H2 x y v u Q I2 rx ry q)
theorem KZ {op:UnaryOp}{r:V->Hp->VK->Prop}(ho:UnR X (unaryOp op) r) (ha:PE X a ta):PE X (.UnaryOp op a pos) (tUn r ta):=by
 intro pins s Z H Q I h;exact UnaryOp_ (dg (ha pins s Z H _ I h) fun v s1 x H1 I1 r1 q1=>ho pins s1 Z H1 x v Q I1 r1 q1)
theorem opI {f:Value->Value->Sem Value}{C:Int->Int->Prop}{g:Int->Int->Int}
  (rule:∀(i j:Int) (t u:Tok) (s:Shared) (Q:Value->Shared->Prop) (E:Value->Shared->Prop),C i j->Q (.int (g i j) s.toks) {s with toks:=s.toks+1}->wpAny (model X.prog X.w) X.A (f (.int i t) (.int j u)) Q E s):
  OpR X f (rI C fun i j=> .int (g i j)):=by
 intro pins s Z H x y v u Q I rx ry h;obtain⟨i,j,rfl,rfl,hc,q⟩:=h;obtain⟨t,rfl⟩:=rx;obtain⟨t',rfl⟩:=ry;exact rule i j t t' s _ _ hc ⟨.int (g i j),H,I.tok _,⟨_,rfl⟩,q⟩
theorem G0 {f:Value->Value->Sem Value}{g:Int->Int->Int}
  (rule:∀(i j:Int) (t u:Tok) (s:Shared) (Q:Value->Shared->Prop) (E:Value->Shared->Prop),Q (.int (g i j) s.toks) {s with toks:=s.toks+1}->wpAny (model X.prog X.w) X.A (f (.int i t) (.int j u)) Q E s):
  OpR X f (rI0 fun i j=> .int (g i j)):=by
 intro pins s Z H x y v u Q I rx ry h;obtain⟨i,j,rfl,rfl,q⟩:=h;obtain⟨t,rfl⟩:=rx;obtain⟨t',rfl⟩:=ry;exact rule i j t t' s _ _ ⟨.int (g i j),H,I.tok _,⟨_,rfl⟩,q⟩
theorem II {f:Value->Value->Sem Value}{g:Int->Int->Bool}
  (rule:∀(i j:Int) (t u:Tok) (s:Shared) (Q:Value->Shared->Prop) (E:Value->Shared->Prop),Q (.bool (g i j)) s->wpAny (model X.prog X.w) X.A (f (.int i t) (.int j u)) Q E s):
  OpR X f (rI0 fun i j=> .bl (g i j)):=by
 intro pins s Z H x y v u Q I rx ry h;obtain⟨i,j,rfl,rfl,q⟩:=h;obtain⟨t,rfl⟩:=rx;obtain⟨t',rfl⟩:=ry;exact rule i j t t' s _ _ ⟨.bl (g i j),H,I,rfl,q⟩
def Gx (i j:Int):Prop:=0<=j/\j<=1000000/\i.natAbs < 2^64
def zB (i j:Int):Prop:=(-(2^64) < i/\i < 2^64)\/(-(2^64) < j/\j < 2^64)
theorem zB.ok {i j:Int}(h:zB i j):IntMulOk i j:=by
 rcases h with⟨h1,h2⟩|⟨h1,h2⟩
 .exact .of_left (intBits_le_64 h1 h2)
 .exact .of_right (intBits_le_64 h1 h2)
theorem aU:OpR X (binaryOp .Add) (rI0 fun i j=> .int (i+j)):=G0 fun _ _ _ _ _ _ _ q=>add_int q
theorem bL:OpR X (binaryOp .Sub) (rI0 fun i j=> .int (i - j)):=G0 fun _ _ _ _ _ _ _ q=>sub_int q
theorem cf:OpR X (binaryOp .Mult) (rI zB fun i j=> .int (i*j)):=opI fun _ _ _ _ _ _ _ hc q=>mul_int q hc.ok
theorem dJ:OpR X (binaryOp .Mod) (rI (fun _ j=>0 < j) fun i j=> .int (i %j)):=opI fun i j _ _ _ _ _ hc q=>by
 have h1:(0:Int) < j:=hc;exact mod_int' (by lia) (by rw[Int.fmod_eq_emod_of_nonneg i (by lia)];exact q)
theorem Kh:OpR X (binaryOp .Pow) (rI Gx fun i j=> .int (i^j.toNat)):=opI fun _ _ _ _ _ _ _ hc q=>pow_int_small hc.1 hc.2.1 hc.2.2 q
theorem nO:OpR X (binaryOp .LShift) (rI Gx fun i j=> .int (i*2^j.toNat)):=opI fun _ _ _ _ _ _ _ hc q=>lshift_int_small hc.1 hc.2.1 hc.2.2 q
theorem JL:OpR X (binaryOp .BitAnd) (rI0 fun i j=> .int (Builtin.bitAnd i j)):=G0 fun _ _ _ _ _ _ _ q=>and_int q
theorem K5:OpR X (binaryOp .BitOr) (rI0 fun i j=> .int (Builtin.bitOr i j)):=G0 fun _ _ _ _ _ _ _ q=>or_int q
theorem JO:OpR X (binaryOp .BitXor) (rI0 fun i j=> .int (Builtin.bitXor i j)):=G0 fun _ _ _ _ _ _ _ q=>xor_int q
theorem unI {f:Value->Sem Value}{g:Int->Int}
  (rule:∀(i:Int) (t:Tok) (s:Shared) (Q:Value->Shared->Prop) (E:Value->Shared->Prop),Q (.int (g i) s.toks) {s with toks:=s.toks+1}->wpAny (model X.prog X.w) X.A (f (.int i t)) Q E s):
  UnR X f (rU fun i=> .int (g i)):=by
 intro pins s Z H x v Q I rx h;obtain⟨i,rfl,q⟩:=h;obtain⟨t,rfl⟩:=rx;exact rule i t s _ _ ⟨.int (g i),H,I.tok _,⟨_,rfl⟩,q⟩
theorem KH:UnR X (unaryOp .USub) (rU fun i=> .int (-i)):=unI fun _ _ _ _ _ q=>neg_int q
end
def LK:V->V->Bool
 | .non,.non=>true | .non,.int _=>true | .int _,.non=>true | .non,.bl _=>true | .bl _,.non=>true | .non,.str _=>true | .str _,.non=>true
 | .int _,.int _=>true | .bl _,.bl _=>true | .str _,.str _=>true | .byt _,.byt _=>true
 | .int _,.str _=>true | .str _,.int _=>true | .bl _,.str _=>true | .str _,.bl _=>true
 | _,_=>false
def rEq:R2:=fun x y H Q=>LK x y=true/\Q (.bl (decide (x=y))) H
def rNe:R2:=fun x y H Q=>LK x y=true/\Q (.bl (!decide (x=y))) H
theorem Er {i j:Int}:decide (V.int i=V.int j)=(i == j):=by
 rw[Bool.eq_iff_iff]
 simp
theorem FZ {i j:Bool}:decide (V.bl i=V.bl j)=(i == j):=by
 rw[Bool.eq_iff_iff]
 simp
theorem DJ {i j:Str}:decide (V.str i=V.str j)=(i == j):=by
 rw[Bool.eq_iff_iff]
 simp
theorem DZ {i j:Array UInt8}:decide (V.byt i=V.byt j)=(i.toList == j.toList):=by
 rw[Bool.eq_iff_iff]
 cases i
 cases j
 simp
section
variable {X : Cx} {a b c : Expr} {ta tb tc : TE} {pos : Pos}
theorem bH {pins:List (Addr × Obj)}{Z:St}{H:Hp}{s:Shared}{Q:VK}{k k':Bool}(I:Inv X pins Z H s) (q:Q (.bl k) H) (e:k=k'):EP X pins Z Q (.bool k') s:=by
 subst e;exact⟨.bl k,H,I,rfl,q⟩
theorem aD:OpR X (compareOp .Eq) rEq:=by
 intro pins s Z H x y v u Q I rx ry h;obtain⟨hs,q⟩:=h
 cases x with
 | non=>
  cases rx
  cases y with
  | non=>cases ry;exact PySem.EqNone.eq_none_none (bH I q (by simp))
  | bl j=>cases ry;exact PySem.EqNone.eq_none_bool (bH I q (by simp))
  | int j=>obtain⟨t',rfl⟩:=ry;exact PySem.EqNone.eq_none_int (bH I q (by simp))
  | str j=>obtain⟨t',rfl⟩:=ry;exact PySem.EqNone.eq_none_str (bH I q (by simp))
  | _=>exact absurd (show false=true from hs) Bool.false_ne_true
 | bl i=>
  cases rx
  cases y with
  | non=>cases ry;exact PySem.EqNone.eq_bool_none (bH I q (by simp))
  | bl j=>cases ry;exact eq_bool (bH I q FZ)
  | str j=>obtain⟨t',rfl⟩:=ry;exact PySem.EqMixed.eq_bool_str (bH I q (by simp))
  | _=>exact absurd (show false=true from hs) Bool.false_ne_true
 | int i=>
  obtain⟨t,rfl⟩:=rx
  cases y with
  | non=>cases ry;exact PySem.EqNone.eq_int_none (bH I q (by simp))
  | int j=>obtain⟨t',rfl⟩:=ry;exact eq_int (bH I q Er)
  | str j=>obtain⟨t',rfl⟩:=ry;exact PySem.EqMixed.eq_int_str (bH I q (by simp))
  | _=>exact absurd (show false=true from hs) Bool.false_ne_true
 | str i=>
  obtain⟨t,rfl⟩:=rx
  cases y with
  | non=>cases ry;exact PySem.EqNone.eq_str_none (bH I q (by simp))
  | bl j=>cases ry;exact PySem.EqMixed.eq_str_bool (bH I q (by simp))
  | int j=>obtain⟨t',rfl⟩:=ry;exact PySem.EqMixed.eq_str_int (bH I q (by simp))
  | str j=>obtain⟨t',rfl⟩:=ry;exact eq_str (bH I q DJ)
  | _=>exact absurd (show false=true from hs) Bool.false_ne_true
 | byt i=>
  obtain⟨t,rfl⟩:=rx
  cases y with
  | byt j=>obtain⟨t',rfl⟩:=ry;exact W.eq_bytes (bH I q DZ)
  | _=>exact absurd (show false=true from hs) Bool.false_ne_true
 | _=>cases y <;> exact absurd (show false=true from hs) Bool.false_ne_true
theorem ug:OpR X (compareOp .NotEq) rNe:=by
 intro pins s Z H x y v u Q I rx ry h;obtain⟨hs,q⟩:=h
 cases x with
 | non=>
  cases rx
  cases y with
  | non=>cases ry;exact PySem.EqNone.ne_none_none (bH I q (by simp))
  | bl j=>cases ry;exact PySem.EqNone.ne_none_bool (bH I q (by simp))
  | int j=>obtain⟨t',rfl⟩:=ry;exact PySem.EqNone.ne_none_int (bH I q (by simp))
  | str j=>obtain⟨t',rfl⟩:=ry;exact PySem.EqNone.ne_none_str (bH I q (by simp))
  | _=>exact absurd (show false=true from hs) Bool.false_ne_true
 | bl i=>
  cases rx
  cases y with
  | non=>cases ry;exact PySem.EqNone.ne_bool_none (bH I q (by simp))
  | bl j=>cases ry;exact ne_bool (bH I q (congrArg not FZ))
  | str j=>obtain⟨t',rfl⟩:=ry;exact PySem.EqMixed.ne_bool_str (bH I q (by simp))
  | _=>exact absurd (show false=true from hs) Bool.false_ne_true
 | int i=>
  obtain⟨t,rfl⟩:=rx
  cases y with
  | non=>cases ry;exact PySem.EqNone.ne_int_none (bH I q (by simp))
  | int j=>obtain⟨t',rfl⟩:=ry;exact ne_int (bH I q (congrArg not Er))
  | str j=>obtain⟨t',rfl⟩:=ry;exact PySem.EqMixed.ne_int_str (bH I q (by simp))
  | _=>exact absurd (show false=true from hs) Bool.false_ne_true
 | str i=>
  obtain⟨t,rfl⟩:=rx
  cases y with
  | non=>cases ry;exact PySem.EqNone.ne_str_none (bH I q (by simp))
  | bl j=>cases ry;exact PySem.EqMixed.ne_str_bool (bH I q (by simp))
  | int j=>obtain⟨t',rfl⟩:=ry;exact PySem.EqMixed.ne_str_int (bH I q (by simp))
  | str j=>obtain⟨t',rfl⟩:=ry;exact ne_str (bH I q (congrArg not DJ))
  | _=>exact absurd (show false=true from hs) Bool.false_ne_true
 | byt i=>
  obtain⟨t,rfl⟩:=rx
  cases y with
  | byt j=>obtain⟨t',rfl⟩:=ry;exact W.ne_bytes (bH I q (congrArg not DZ))
  | _=>exact absurd (show false=true from hs) Bool.false_ne_true
 | _=>cases y <;> exact absurd (show false=true from hs) Bool.false_ne_true
theorem iI:OpR X (compareOp .Lt) (rI0 fun i j=> .bl (decide (i < j))):=II fun _ _ _ _ _ _ _ q=>lt_int q
theorem yf:OpR X (compareOp .LtE) (rI0 fun i j=> .bl (decide (i<=j))):=II fun _ _ _ _ _ _ _ q=>le_int q
theorem xO:OpR X (compareOp .Gt) (rI0 fun i j=> .bl (decide (j < i))):=II fun _ _ _ _ _ _ _ q=>gt_int q
theorem jH:OpR X (compareOp .GtE) (rI0 fun i j=> .bl (decide (j<=i))):=II fun _ _ _ _ _ _ _ q=>ge_int q
theorem C3 (b:Expr) {op:CmpOp}(h:op≠ .In:=by decide) (h2:op≠ .NotIn:=by decide):behindInMarks op b=false:=by
 have e1:(op == CmpOp.In)=false:=by cases op <;> first | rfl | exact absurd rfl h
 have e2:(op == CmpOp.NotIn)=false:=by cases op <;> first | rfl | exact absurd rfl h2
 cases b <;> simp [behindInMarks,e1,e2]
theorem Ev {op:CmpOp}{r:R2}(ho:OpR X (compareOp op) r) (ha:PE X a ta) (hb:PE X b tb) (hm:behindInMarks op b=false):PE X (.Compare a [op] [b] pos) (tOp r ta tb):=by
 intro pins s Z H Q I h;exact wpAny_Compare1 (Ke ha hb I h fun v u s2 x y H2 I2 rx ry q=>ho pins s2 Z H2 x y v u Q I2 rx ry q) hm
def FG (t:TE):TT:=fun Z H Q=>t Z H fun x H'=>∃k,x= .bl k/\Q k H'
theorem zb {op:CmpOp}{r:R2}(ho:OpR X (compareOp op) r) (ha:PE X a ta) (hb:PE X b tb) (hm:behindInMarks op b=false):PT X (.Compare a [op] [b] pos) (FG (tOp r ta tb)):=by
 intro pins s Z H Q I h
 refine wpAny_isTrue_Compare1 (dg (ha pins s Z H _ I h) fun v s1 x H1 I1 r1 q1=>dg (hb pins s1 Z H1 _ I1 q1) fun u s2 y H2 I2 r2 q2=>
  thn (ho pins s2 Z H2 x y v u _ I2 r1 r2 q2) fun c s3 ⟨z,H3,I3,r3,k,e,q3⟩=> ?_) hm
 subst e
 cases r3
 exact wpAny_truthy_bool ⟨H3,I3,q3⟩
def KI (r r':R2) (ta tb tc:TE):TE:=fun Z H Q=>ta Z H fun x H1=>tb Z H1 fun y H2=>r x y H2 fun z H3=>∃k,z= .bl k/\
 (if k=true then tc Z H3 fun w' H4=>r' y w' H4 Q else Q (.bl false) H3)
theorem BT {op op':CmpOp}{r r':R2}(ho:OpR X (compareOp op) r) (ho':OpR X (compareOp op') r') (ha:PE X a ta) (hb:PE X b tb) (hc:PE X c tc)
  (hm:lastMarks [op,op'] [b,c]=false:=by with_unfolding_all rfl):PT X (.Compare a [op,op'] [b,c] pos) (FG (KI r r' ta tb tc)):=by
 intro pins s Z H Q I h
 refine isTrue_chain (dg (ha pins s Z H _ I h) fun v s1 x H1 I1 r1 q1=>test_link (dg (hb pins s1 Z H1 _ I1 q1) fun u s2 y H2 I2 r2 q2=>
  thn (ho pins s2 Z H2 x y v u _ I2 r1 r2 q2) fun d s3 ⟨z,H3,I3,r3,k,e,q3⟩=> ?_)) hm
 subst e
 cases r3
 refine wpAny_truthy_bool ?_
 cases k with
 | false=>
  obtain⟨k',e',q'⟩:=q3
  cases e'
  exact ite_ff ⟨H3,I3,q'⟩
 | true=>
  refine ite_tt (test_last (thn (hc pins s3 Z H3 _ I3 q3) fun w' s4 ⟨z',H4,I4,r4,q4⟩=>thn (ho' pins s4 Z H4 y z' u w' _ I4 r2 r4 q4) fun d' s5 ⟨z2,H5,I5,r5,k2,e2,q5⟩=> ?_))
  subst e2
  cases r5
  exact wpAny_truthy_bool ⟨H5,I5,q5⟩
def LN (K:Frag) (x:V) (H:Hp) (k:Bool):Prop:=
 match x with
 | .non=>k=false
 | .bl b=>k=b
 | .int i=>k=(i != 0)
 | .str y=>y.length<=sizeLine/\k=((y.length:Int) != 0)
 | .byt y=>y.size<=sizeLine/\k=((y.size:Int) != 0)
 | .ref p=>(∃ xs,SqL K H p xs/\k= !xs.isEmpty)\/(∃ xs,SqT K H p xs/\k= !xs.isEmpty)\/∃kvs,H p=some (.dK kvs)/\k= !kvs.isEmpty
 | _=>False
theorem Ct {κ:Type}{kvs:List (κ × V)}{vs:List (κ × Value)}(r:KV kvs vs):(!vs.isEmpty)= !kvs.isEmpty:=by
 cases r <;> rfl
theorem vL {xs:List V}{its:List Value}(r:aW xs its):(!its.toArray.isEmpty)= !xs.isEmpty:=by
 cases r <;> simp
theorem wf:(sizeLine:Nat) < 2^63:=by rw[sizeLine_eq];decide
theorem JQ:Mq X (fun x H Q=>∃k,LN X.K x H k/\Q k H):=by
 intro pins s Z H x v Q I rx h;obtain⟨k,e,q⟩:=h;have hl:=wf;have hs:sizeLine=16777216:=sizeLine_eq
 cases x with
 | non=>
  cases rx
  have e':k=false:=e;subst e';exact truthy_none ⟨H,I,q⟩
 | bl b=>
  cases rx
  have e':k=b:=e;subst e';exact wpAny_truthy_bool ⟨H,I,q⟩
 | int i=>
  obtain⟨t,rfl⟩:=rx;have e':k=(i != 0):=e;subst e';exact PySem.P.truthy_int ⟨H,I,q⟩
 | str y=>
  obtain⟨t,rfl⟩:=rx;obtain⟨hy,e'⟩:y.length<=sizeLine/\k=((y.length:Int) != 0):=e;subst e';exact PySem.P.truthy_str (by lia) ⟨H,I.tok _,q⟩
 | byt y=>
  obtain⟨t,rfl⟩:=rx;obtain⟨hy,e'⟩:y.size<=sizeLine/\k=((y.size:Int) != 0):=e;subst e';exact W.truthy_bytes (by lia) ⟨H,I.tok _,q⟩
 | ref p=>
  cases rx
  have e':(∃ xs,SqL X.K H p xs/\k= !xs.isEmpty)\/(∃ xs,SqT X.K H p xs/\k= !xs.isEmpty)\/∃kvs,H p=some (.dK kvs)/\k= !kvs.isEmpty:=e;rcases e' with⟨xs,hx,e'⟩|⟨xs,hx,e'⟩|⟨kvs,hx,e'⟩
  .subst e';obtain⟨its,r,pl,hz⟩:=I.list hx;have hlen:=r.length;exact wpAny_truthy_list pl.isList (by simp only[List.size_toArray];lia) ⟨H,I.tok _,by rw[vL r];exact q⟩
  .subst e';obtain⟨its,r,pl,hz⟩:=I.tuple hx;have hlen:=r.length;exact truthy_tuple pl (by simp only[List.size_toArray];lia) ⟨H,I.tok _,by rw[vL r];exact q⟩
  .subst e';obtain⟨hz,hS,vs,r,m⟩:kvs.length<=sizeLine/\(p == sysModules)=false/\∃vs,KV kvs vs/\s.heap.DictOf (bP X.prog X.w) p vs:=I.hok p _ hx;have hlen:kvs.length=vs.length:=Paired.length r;exact wpAny_truthy_dict hS m (by lia) ⟨H,I.tok _,by rw[Ct r];exact q⟩
 | _=>exact(show False from e).elim
theorem Hc (ha:PE X a ta) (he:∀whole,isTrue a X.env whole=(do let v <-whole;standAt a.pos;holding [v] (truthy v))):
  PT X a (fun Z H Q=>ta Z H fun x H'=>∃k,LN X.K x H' k/\Q k H'):=by
 intro pins s Z H Q I h;exact isTrue_plain (dg (ha pins s Z H _ I h) fun v s1 x H1 I1 r1 q1=>JQ pins s1 Z H1 x v Q I1 r1 q1) (he _)
theorem om {x:V}{us:List Value}(r:aW [x] us):∃u,us=[u]/\bj x u:=by
 cases r with
 | cons r1 r2=>cases r2;exact⟨_,rfl,r1⟩
theorem G9 {x y:V}{us:List Value}(r:aW [x,y] us):∃u w',us=[u,w']/\bj x u/\bj y w':=by
 cases r with
 | cons r1 r2=>
  cases r2 with
  | cons r3 r4=>cases r4;exact⟨_,_,rfl,r1,r3⟩
theorem vZ:jh X (.builtin "abs") (fun xs H Q=>∃i,xs=[.int i]/\Q (.int (if i < 0 then -i else i)) H):=by
 intro pins s Z H xs us Q I r h;obtain⟨i,rfl,q⟩:=h;obtain⟨u,rfl,t,rfl⟩:=om r;exact call_abs_int fun u tk=>⟨.int (if i < 0 then -i else i),H,I.tok _,⟨_,rfl⟩,q⟩
theorem sQ (hc:X.calm=true):jh X (.builtin "max") (fun xs H Q=>∃i j,xs=[.int i,.int j]/\Q (.int (if j >i then j else i)) H):=by
 intro pins s Z H xs us Q I r h;obtain⟨i,j,rfl,q⟩:=h;obtain⟨u,w',rfl,⟨t,rfl⟩,⟨t',rfl⟩⟩:=G9 r;refine max_two_ints (I.ok.hd hc) fun h' tk k=>⟨_,H,I.kept k,?_,q⟩
 by_cases hj:j >i
 .rw[if_pos hj,if_pos hj];exact⟨_,rfl⟩
 .rw[if_neg hj,if_neg hj];exact⟨_,rfl⟩
theorem gG (hc:X.calm=true):jh X (.builtin "min") (fun xs H Q=>∃i j,xs=[.int i,.int j]/\Q (.int (if j < i then j else i)) H):=by
 intro pins s Z H xs us Q I r h;obtain⟨i,j,rfl,q⟩:=h;obtain⟨u,w',rfl,⟨t,rfl⟩,⟨t',rfl⟩⟩:=G9 r;refine min_two_ints (I.ok.hd hc) fun h' tk k=>⟨_,H,I.kept k,?_,q⟩
 by_cases hj:j < i
 .rw[if_pos hj,if_pos hj];exact⟨_,rfl⟩
 .rw[if_neg hj,if_neg hj];exact⟨_,rfl⟩
theorem EJ:jh X (.type "int") (fun xs H Q=>(∃ i,xs=[.int i]/\Q (.int i) H)\/∃k,xs=[.bl k]/\Q (.int (if k then 1 else 0)) H):=by
 intro pins s Z H xs us Q I r h;rcases h with⟨i,rfl,q⟩|⟨k,rfl,q⟩
 .obtain⟨u,rfl,t,rfl⟩:=om r;exact call_int_int ⟨.int i,H,I,⟨_,rfl⟩,q⟩
 .obtain⟨u,rfl,r1⟩:=om r
  cases r1
  exact call_int_bool ⟨.int (if k then 1 else 0),H,I.tok _,⟨_,rfl⟩,q⟩
end
structure CI (h:Heap) (x dx C:Addr) (mA:Str->Option Value):Prop where
 obj:h.get? x=some (W.instObj C dx)
 ns:h.Ns1 dx mA
 ne:dx≠x
theorem E3 {h:Heap}{dx:Addr}{mA:Str->Option Value}(n:h.Ns1 dx mA):∃od,h.get? dx=some od/\∀name,W.lookIn name od=some (mA name):=by
 obtain⟨o,es,ep,ho,hd,hk,_,hm⟩:=n;refine⟨o,ho,fun name=> ?_⟩
 have e:=hm name;unfold nsFind findBy at e;rw[<- Array.find?_toList] at e;unfold W.lookIn;rw[hd];dsimp only
 split
 .rename_i y q
  rw[q] at e;exact congrArg some e
 .rename_i q
  rw[q] at e;have a:es.toList.any (·.refKey)=false:=by
   rw[List.any_eq_false];intro y hy;obtain⟨z,t,hkey⟩:=hk y (Array.mem_toList_iff.mp hy)
   simp [DictEntry.refKey,hkey]
  have a':¬es.toList.any (·.refKey)=true:=by rw[a];exact Bool.false_ne_true
  rw[if_neg a'];exact congrArg some e
theorem CI.look {h:Heap}{x dx C:Addr}{mA:Str->Option Value}(I:CI h x dx C mA):∃od,PySem.W.InstAt h x (W.instObj C dx) C (some od)/\∀name,W.lookIn name od=some (mA name):=
 let ⟨od,ho,hl⟩:=E3 I.ns
 ⟨od,⟨I.obj,rfl,rfl,ho⟩,hl⟩
section
variable {prog : Program} {w : World} {A : Around} {E : Value → Shared → Prop} {s : Shared} {K : Frag} {x dx C f : Addr} {mA : Str → Option Value} {name : Str} {v : Value}
theorem Io {expr:Bool}{Q:Value->Shared->Prop}(X:K.In s.heap) (I:CI s.heap x dx C mA) (hg:W.plainGet K C name=true) (hh:W.hasDictIn K C=true)
  (ha:W.findIn K (.ref C) name=some none) (hv:mA name=some v) (hv':W.handedIn v=true) (h:Q v {s with toks:=s.toks+1}):
  wpAny (model prog w) A (getAttr (.ref x) name expr) Q E s:=by
 obtain⟨od,J,hl⟩:=I.look;exact W.get_value X J (W.plainGet_of hg).1 (W.findObj_own hh ha rfl (by rw[hl,hv])) hv' h
theorem GB {pl:Sem Bool}{Q:Value × List Value->Shared->Prop}(X:K.In s.heap) (I:CI s.heap x dx C mA) (hg:W.plainGet K C name=true)
  (hf:W.findIn K (.ref C) name=some (some (.ref f))) (ht:W.isFn K (.ref f)=true) (hv:mA name=none) (h:Q (.ref f,[.ref x]) s):
  wpAny (model prog w) A (getMethod (.ref x) name pl) Q E s:=by
 obtain⟨od,J,hl⟩:=I.look;exact W.method_fn X J (W.plainGet_of hg).1 (W.plainGet_of hg).2 hf (beq_iff_eq.mp ht) (by show(W.lookIn name od).map (·.isSome)=some false;rw[hl,hv];rfl) h
theorem HB {ns:List Str}{Q:Unit->Shared->Prop}(X:K.In s.heap) (I:CI s.heap x dx C mA)
  (hs:W.findIn K (.ref C) "__setattr__"=some (some (.builtin "object.__setattr__"))) (hp:W.plainOver K C=true) (ht:W.takerIn K C name=some none) (hh:W.hasDictIn K C=true)
  (hw:PySem.Within mA ns) (hsz:ns.length<=sizeLine)
  (h:∀h',CI h' x dx C (fun y=>if y=name then some v else mA y)->Heap.SameBut dx s.heap h'->Q () {s with heap:=h',toks:=s.toks+2}):
  wpAny (model prog w) A (setAttr (.ref x) name v) Q E s:=by
 obtain⟨od,J,hl⟩:=I.look;refine W.set_plain X J hs (W.osa_open (s:={s with toks:=s.toks+1}) (r:=none) X J hp ht fun b=> ?_)
 obtain⟨cd,hc,hd'⟩:=W.any_some hh;have hx:s.heap.get? x=some ⟨.ref C,some dx,.plain, #[]⟩:=I.obj;refine wpAny_bind (wpAny_pure (wpAny_bind (wpAny_bind (wpAny_loadPart hx (wpAny_bind (PySem.W.Looks.here (s:={s with toks:=s.toks+1}) (W.looks_clsIn X hc) ?_))))))
 rw[hd'];refine wpAny_pure (a:=some dx) (wpAny_bind (wpAny_pure (wpAny_bind ?_)))
 refine wpAny_nsSet1 (s:={s with toks:=s.toks+1}) I.ns fun h' hn2 hs2=> ?_
 obtain⟨oD,esD,epD,hoD,hdD,hcD⟩:=hn2.count (PySem.Within.cons name v hw);refine wpAny_bind (wpAny_lookBehind hoD (by rw[hdD];exact pastItsLine_dict (Nat.le_trans hcD (by rw[List.length_cons];lia))) ?_)
 exact wpAny_pure (h _ ⟨(hs2.2 _ (Ne.symm I.ne)).trans I.obj,hn2,I.ne⟩ hs2)
theorem GN {R:Result->Shared->Prop}{vs:List Value}{kw:List (Str × Value)}(X:K.In s.heap) (hm:W.makesIn K C=true)
  (hi:W.findIn K (.ref C) "__init__"=some (some (.ref f))) (hf:W.typeIn K (.ref f)=some (.type "function"))
  (h:codeAny (model prog w) (A.under (.builtin "type.__call__" ⟨.ref C::vs,kw⟩)) (.call (.ref f) ⟨.ref (s.heap.objs.size+1)::vs,kw⟩) (PySem.W.InitBack (s.heap.objs.size+1) R)
   {s with heap:=(s.heap.push W.emptyDict).push (W.instObj C s.heap.objs.size)}):
  codeAny (model prog w) A (.call (.ref C) ⟨vs,kw⟩) R s:=by
 obtain⟨hh,g,d,t,os⟩:=s;exact W.make_core (W.makes_of X hm) (W.looks_findIn X hi) (fun self=>W.bind_fn X self hf) (.inl rfl) h
end
def bG (f:Str) (v:V):List (Str × V)->List (Str × V)
 | []=>[(f,v)]
 | (g,x)::r=>if g=f then(g,v)::r else(g,x)::bG f v r
theorem tz (f g:Str) (v:V):∀fs:List (Str × V),(bG f v fs).lookup g=if g=f then some v else fs.lookup g
 | []=>by
  show List.lookup g [(f,v)]=_
  by_cases h:g=f
  .have hb:(g == f)=true:=beq_iff_eq.mpr h
   simp only[List.lookup,hb,if_pos h]
  .have hb:(g == f)=false:=beq_eq_false_iff_ne.mpr h
   simp only[List.lookup,hb,if_neg h]
 | (k,x)::r=>by
  have ih:=tz f g v r;rw[show bG f v ((k,x)::r)=(if k=f then(k,v)::r else(k,x)::bG f v r) from rfl]
  by_cases hk:k=f
  .rw[if_pos hk]
   by_cases h:g=k
   .have hb:(g == k)=true:=beq_iff_eq.mpr h
    simp only[List.lookup,hb,if_pos (h.trans hk)]
   .have hb:(g == k)=false:=beq_eq_false_iff_ne.mpr h
    simp only[List.lookup,hb,if_neg (fun e:g=f=>h (e.trans hk.symm))]
  .rw[if_neg hk]
   by_cases h:g=k
   .have hb:(g == k)=true:=beq_iff_eq.mpr h
    simp only[List.lookup,hb,if_neg (fun e:g=f=>hk (h.symm.trans e))]
   .have hb:(g == k)=false:=beq_eq_false_iff_ne.mpr h
    simp only[List.lookup,hb]
    exact ih
theorem sL (f:Str) (v:V):∀fs:List (Str × V),f∈(bG f v fs).map (·.1)/\∀g,g∈fs.map (·.1)->g∈(bG f v fs).map (·.1)
 | []=>⟨by simp [bG],fun g h=>by simp at h⟩
 | (k,x)::r=>by
  obtain⟨i1,i2⟩:=sL f v r;rw[show bG f v ((k,x)::r)=(if k=f then(k,v)::r else(k,x)::bG f v r) from rfl]
  by_cases hk:k=f
  .rw[if_pos hk];subst hk;exact⟨by simp,fun g h=>by simpa using h⟩
  .rw[if_neg hk];refine⟨?_,fun g h=> ?_⟩
   .rw[List.map_cons];exact List.mem_cons_of_mem _ i1
   .rw[List.map_cons] at h ⊢;rcases List.mem_cons.mp h with e | e
    .exact List.mem_cons.mpr (.inl e)
    .exact List.mem_cons_of_mem _ (i2 g e)
theorem tL (f:Str) (v:V):∀fs:List (Str × V),(bG f v fs).length<=fs.length+1
 | []=>by simp [bG]
 | (k,x)::r=>by
  have ih:=tL f v r;rw[show bG f v ((k,x)::r)=(if k=f then(k,v)::r else(k,x)::bG f v r) from rfl]
  by_cases hk:k=f
  .rw[if_pos hk,List.length_cons,List.length_cons];lia
  .rw[if_neg hk,List.length_cons,List.length_cons];lia
theorem mQ.some_of {v:V}{o:Option Value}(r:mQ (some v) o):∃u,o=some u/\bj v u:=by
 cases o with
 | none=>exact(show False from r).elim
 | some u=>exact⟨u,rfl,r⟩
theorem mQ.none_of {o:Option Value}(r:mQ none o):o=none:=by
 cases o with
 | none=>rfl
 | some u=>exact(show False from r).elim
theorem Fg {v:V}{u:Value}(r:bj v u):W.handedIn u=true:=by
 cases v with
 | non=>cases(show u=Value.none from r);rfl
 | bl b=>cases(show u=Value.bool b from r);rfl
 | int i=>obtain⟨t,e⟩:=(show ∃t,u=Value.int i t from r);cases e;rfl
 | str x=>obtain⟨t,e⟩:=(show ∃t,u=Value.str x t from r);cases e;rfl
 | byt b=>obtain⟨t,e⟩:=(show ∃t,u=Value.bytes b t from r);cases e;rfl
 | flt b=>obtain⟨t,e⟩:=(show ∃t,u=Value.float b t from r);cases e;rfl
 | ref a=>cases(show u=Value.ref a from r);rfl
 | ty n=>cases(show u=Value.type n from r);rfl
section
variable {P : Program} {w : World} {H H' : Hp} {h h' : Heap} {a C dx : Addr} {fs fs' : List (Str × V)}
theorem yS (hok:HOk P w H h) (e:H a=some (.ins C dx fs)):∃mA,CI h a dx C mA/\(∀ f,mQ (fs.lookup f) (mA f))/\PySem.Within mA (fs.map (·.1))/\fs.length<=1000/\H dx=some (.own a):=by
 obtain⟨d,z,ne,ob,mA,n,r,q⟩:=(show cn P w H h a (.ins C dx fs) from hok a _ e);exact⟨mA,⟨ob,n,ne⟩,r,q,z,d⟩
end
structure Cls (K:Frag) (C:Addr):Prop where
 pg:W.plainGet K C Str.empty=true
 hd:W.hasDictIn K C=true
 po:W.plainOver K C=true
 sa:W.findIn K (.ref C) "__setattr__"=some (some (.builtin "object.__setattr__"))
theorem Cls.get {K:Frag}{C:Addr}(c:Cls K C) (f:Str):W.plainGet K C f=true:=c.pg
def sR (K:Frag) (C:Addr) (f:Str):Prop:=W.findIn K (.ref C) f=some none
theorem sR.taker {K:Frag}{C:Addr}{f:Str}(n:sR K C f):W.takerIn K C f=some none:=by
 unfold W.takerIn;rw[show W.findIn K (.ref C) f=some none from n]
 rfl
structure Gn (K:Frag) (C:Addr) (m:Str) (f:Addr):Prop where
 at_:W.findIn K (.ref C) m=some (some (.ref f))
 fn:W.isFn K (.ref f)=true
 kp:W.keepIn K (.ref f)=true
section
variable {X : Cx} {pins : List (Addr × Obj)} {σ : St} {H : Hp} {s : Shared} {a C dx : Addr} {fs : List (Str × V)} {f : Str} {v : V} {A : Around} {E : Value → Shared → Prop}
theorem CU {b:Bool}{Q:Value->Shared->Prop}(I:Inv X pins Z H s) (e:H a=some (.ins C dx fs)) (c:Cls X.K C) (n:sR X.K C f) (l:fs.lookup f=some v)
  (h:∀u s',Inv X pins Z H s'->bj v u->Q u s'):wpAny (model X.prog X.w) A (getAttr (.ref a) f b) Q E s:=by
 obtain⟨mA,O,r,_,_,_⟩:=yS I.hok e;obtain⟨u,hu,ru⟩:=mQ.some_of (v:=v) (o:=mA f) (by rw[<- l];exact r f)
 exact Io I.kIn O (c.get f) c.hd n hu (Fg ru) (h u _ (I.tok _) ru)
theorem vC {m:Str}{g:Addr}{pl:Sem Bool}{Q:Value × List Value->Shared->Prop}(I:Inv X pins Z H s) (e:H a=some (.ins C dx fs)) (c:Cls X.K C) (k:Gn X.K C m g) (l:fs.lookup m=none)
  (h:Q (.ref g,[.ref a]) s):wpAny (model X.prog X.w) A (getMethod (.ref a) m pl) Q E s:=by
 obtain⟨mA,O,r,_,_,_⟩:=yS I.hok e;have hn:mA m=none:=mQ.none_of (by rw[<- l];exact r m)
 exact GB I.kIn O (c.get m) k.at_ k.fn hn h
theorem C4 {y:V}{u:Value}{Q:Unit->Shared->Prop}(I:Inv X pins Z H s) (e:H a=some (.ins C dx fs)) (c:Cls X.K C) (n:sR X.K C f) (hl:fs.length < 1000) (ry:bj y u)
  (h:∀s',Inv X pins Z (upd H a (.ins C dx (bG f y fs))) s'->Q () s'):wpAny (model X.prog X.w) A (setAttr (.ref a) f u) Q E s:=by
 obtain⟨mA,O,r,wi,_,ho⟩:=yS I.hok e;have hz:(fs.map (·.1)).length<=sizeLine:=by rw[List.length_map,sizeLine_eq];lia
 refine HB I.kIn O c.sa c.po n.taker c.hd wi hz fun h' O' sb=>h _ ?_
 have hd:∃o,h'.get? dx=some o:=let ⟨o,_,_,e',_⟩:=O'.ns;⟨o,e'⟩
 refine I.write (x:=a) (e:=dx) (by rw[e];exact True.intro) (.inr ho) (fun b q hb z=>(sb.2 b hb).trans z) hd ?_
 refine⟨by rw[ai O.ne];exact ho,?_,O.ne,O'.obj,_,O'.ns,fun g=> ?_,fun g hg=> ?_⟩
 .have:=tL f y fs;lia
 .show mQ ((bG f y fs).lookup g) (if g=f then some u else mA g)
  rw[tz]
  by_cases q:g=f
  .rw[if_pos q,if_pos q];exact ry
  .rw[if_neg q,if_neg q];exact r g
 .by_cases q:g=f
  .rw[q];exact(sL f y fs).1
  .refine(sL f y fs).2 g (wi g fun z=>hg ?_)
   show(if g=f then some u else mA g)=none
   rw[if_neg q];exact z
theorem Inv.made (I:Inv X pins Z H s):Inv X pins Z (upd (upd H s.heap.objs.size (.own (s.heap.objs.size+1))) (s.heap.objs.size+1) (.ins C s.heap.objs.size []))
  {s with heap:=(s.heap.push W.emptyDict).push (W.instObj C s.heap.objs.size)}:=by
 have e1:(s.heap.push W.emptyDict).get? s.heap.objs.size=some W.emptyDict:=Heap.get?_push_size s.heap rfl;have e2:((s.heap.push W.emptyDict).push (W.instObj C s.heap.objs.size)).get? (s.heap.objs.size+1)=some (W.instObj C s.heap.objs.size):=by
  have:=Heap.get?_push_size (s.heap.push W.emptyDict) (o:=W.instObj C s.heap.objs.size) rfl
  rwa [Heap.size_push] at this
 have e3:(s.heap.push W.emptyDict).Ns s.heap.objs.size (fun _=>none):=⟨W.emptyDict, #[],_,e1,rfl,(fun e he=>absurd he (by simp)),fun _=>rfl⟩
 have I1:=I.laid (a:=s.heap.objs.size) (o:= .own (s.heap.objs.size+1)) (h':=s.heap.push W.emptyDict) (t':=s.toks) (fun b u q=>Heap.get?_push_of_some _ q) (Nat.le_refl _) ⟨_,e1⟩
 refine I1.laid (a:=s.heap.objs.size+1) (o:= .ins C s.heap.objs.size []) (t':=s.toks) (fun b u q=>Heap.get?_push_of_some _ q) (Nat.le_of_eq (Heap.size_push _ _)) ?_
 have ne:s.heap.objs.size≠s.heap.objs.size+1:=Nat.ne_of_lt (Nat.lt_succ_self _);refine⟨by rw[ai ne,ad],Nat.zero_le _,ne,e2,fun _=>none,(Heap.Ns1.of_empty e3).at fun o q=>Heap.get?_push_of_some _ q,fun _=>True.intro,fun y hy=>absurd rfl hy⟩
theorem HP {prog:Program}{w:World}{env:Env}{e:Expr}{f:Str}{pos:Pos}{s:Shared}{Q:Value->Shared->Prop}(hb:attributeBase e f env (eval e env)=eval e env)
  (h:wpAny (model prog w) A (eval e env) (fun o s₁=>wpAny (model prog w) A (getAttr o f true) Q E s₁) E s):wpAny (model prog w) A (eval (.Attribute e f pos) env) Q E s:=
 Attribute_any_ h (by rw[arm_eval_Attribute,hb])
end
def Mc (K:Frag) (ta:TE) (f:Str):TE:=fun Z H Q=>ta Z H fun x H1=>∃a C dx fs v,x= .ref a/\H1 a=some (.ins C dx fs)/\Cls K C/\sR K C f/\fs.lookup f=some v/\Q v H1
def MA (K:Frag) (ta tv:TE) (f:Str):TS:=fun D Z H=>tv Z H fun y H1=>ta Z H1 fun x H2=>∃a C dx fs,x= .ref a/\H2 a=some (.ins C dx fs)/\Cls K C/\sR K C f/\fs.length < 1000/\
 D.nx Z (upd H2 a (.ins C dx (bG f y fs)))
section
variable {X : Cx} {o e value : Expr} {f : Str} {pos pos' tpos : Pos} {ta tv : TE}
theorem aP (he:PE X e ta) (hb:attributeBase e f X.env (eval e X.env)=eval e X.env):PE X (.Attribute e f pos) (Mc X.K ta f):=by
 intro pins s Z H Q I h;refine HP hb (thn (he pins s Z H _ I h) fun u s1 ⟨x,H1,I1,rx,a,C,dx,fs,v,ex,ea,c,n,l,q⟩=> ?_)
 subst ex;obtain rfl:u=Value.ref a:=rx;exact CU I1 ea c n l fun u' s2 I2 ru=>⟨v,H1,I2,ru,q⟩
theorem bU (ha:PE X o ta) (hv:PE X value tv) (hs:swapsWith value (some (.Attribute o f pos')) pos.line X.env=pure false):PS X (.Assign [.Attribute o f pos'] value pos) (MA X.K ta tv f):=by
 intro pins s Z H D I h;refine plainObj_wpAny_Assign_Attribute (dg (hv pins s Z H _ I h) fun u s1 y H1 I1 ry q=>thn (ha pins s1 Z H1 _ I1 q) fun ov s2 ⟨x,H2,I2,rx,a,C,dx,fs,ex,ea,c,n,l,q2⟩=> ?_) hs
 subst ex;obtain rfl:ov=Value.ref a:=rx;exact C4 I2 ea c n l ry fun s3 I3=>⟨Z,_,I3,q2⟩
end
section
variable {X : Cx} {pins : List (Addr × Obj)} {σ : St} {H : Hp} {s : Shared} {A : Around} {E : Value → Shared → Prop} {Q : Value → Shared → Prop} {c : Value} {b : Bool}
inductive uz (K:Frag) (H:Hp):V->Value->Prop where
 | non:uz K H .non (.type "NoneType")
 | bl (x:Bool):uz K H (.bl x) (.type "bool")
 | int (i:Int):uz K H (.int i) (.type "int")
 | str (x:Str):uz K H (.str x) (.type "str")
 | flt (x:UInt64):uz K H (.flt x) (.type "float")
 | lst {a:Addr}{xs:List V}(e:H a=some (.lst xs)):uz K H (.ref a) (.type "list")
 | frz {a:Addr}{o:Obj}{xs:List V}(e:H a=some (.frz o (.lst xs))):uz K H (.ref a) (.type "list")
 | tup {a:Addr}{xs:List V}(e:H a=some (.tup xs)):uz K H (.ref a) (.type "tuple")
 | dK {a:Addr}{kvs:List (Key × V)}(e:H a=some (.dK kvs)):uz K H (.ref a) (.type "dict")
 | dT {a:Addr}{kvs:List (List Key × V)}(e:H a=some (.dT kvs)):uz K H (.ref a) (.type "dict")
 | ins {a C dx:Addr}{fs:List (Str × V)}(e:H a=some (.ins C dx fs)) (cl:Cls K C) (ha:W.findIn K (.ref C) "__class__"=some (some (.builtin "object.__class__")))
   (hn:W.specialIn K (.builtin "object.__class__") "__get__"=some (some (.builtin "getset_descriptor.__get__"))) (htk:W.takesIn K (.builtin "object.__class__")=some true)
   (hm:W.mroIn K C (.type "object")=some true):uz K H (.ref a) (.ref C)
end
structure Room (k:Nat) (A:Around):Prop where
 hd:A.handled=none
 dp:A.depth+3*k+5 < recursionLimit
 un:A.units+16*k+200 < cLine
theorem Room.mono {j k:Nat}{A:Around}(r:Room k A) (h:j<=k):Room j A:=⟨r.hd,by have:=r.dp;lia,by have:=r.un;lia⟩
theorem Room.deeper {k:Nat}{A:Around}(r:Room (k+1) A) (env:Env):Room k (A.deeper env):=
 ⟨r.hd,by have:=r.dp;show A.depth+1+3*k+5 < _;lia,by have:=r.un;show A.units+3+16*k+200 < _;lia⟩
theorem Cy {A:Around}{C:Addr}{us:List Value}{kw:List (Str × Value)}:(A.under (.builtin "type.__call__" ⟨.ref C::us,kw⟩)).depth=A.depth+1:=by
 first | rfl | simp [Around.under,Code.weight,Code.isCreation,Code.isGuard,Code.isCaller,Code.frames,Code.isFrame,guardIds]
theorem CH {A:Around}{C:Addr}{us:List Value}{kw:List (Str × Value)}:(A.under (.builtin "type.__call__" ⟨.ref C::us,kw⟩)).units=A.units+1:=by
 first | rfl | simp [Around.under,Code.cUnits,Code.frames,Code.isFrame]
theorem Room.make {k:Nat}{A:Around}(r:Room (k+1) A) (C:Addr) (us:List Value) (kw:List (Str × Value)):Room k (A.under (.builtin "type.__call__" ⟨.ref C::us,kw⟩)):=
 ⟨r.hd,by have:=r.dp;rw[Cy];lia,by have:=r.un;rw[CH];lia⟩
theorem Room.depth {k:Nat}{A:Around}(r:Room k A):A.depth < recursionLimit:=by have:=r.dp;lia
theorem Room.units {k:Nat}{A:Around}(r:Room k A):A.units+64 < cLine:=by have:=r.un;lia
def vd:TA:=fun _ H Q=>Q [] H
def iH (ta:TE) (tr:TA):TA:=fun Z H Q=>ta Z H fun x H1=>tr Z H1 fun xs H2=>Q (x::xs) H2
section
variable {X : Cx} {e : Expr} {es : List Expr} {te : TE} {t : TA} {pos : Pos}
theorem gU:PA X [] vd:=fun _ _ _ _ H Q I h=>Calls.spliced_nil ⟨[],H,I,.nil,h⟩
theorem dt (ha:PE X e te) (hr:PA X es t) (hs:starEach (e::es) X.env=(false,eval e X.env)::starEach es X.env:=by rfl):PA X (e::es) (iH te t):=by
 intro pos pins s Z H Q I h;rw[hs];show wpAny _ _ (spliced ((false,eval e X.env)::backTo pos (starEach es X.env))) _ _ s
 refine Calls.spliced_cons (dg (ha pins s Z H _ I h) fun u s1 x H1 I1 r1 q1=> ?_)
 exact dg (hr pos pins s1 Z H1 _ I1 q1) fun us s2 xs H2 I2 r2 q2=>⟨x::xs,H2,I2,.cons r1 r2,q2⟩
def Ms (t:TA):TE:=fun Z H Q=>t Z H fun xs H1=>xs.length<=sizeLine/\∀p,H1 p=none->Q (.ref p) (upd H1 p (.tup xs))
def MF (t:TA):TE:=fun Z H Q=>t Z H fun xs H1=>xs.length<=sizeLine/\∀p,H1 p=none->Q (.ref p) (upd H1 p (.lst xs))
theorem aA {x1} (h:PA X es t):PE X (.Tuple es x1 pos) (Ms t):=by
 intro pins s Z H Q I hq;refine wpAny_Tuple_spliced (thn (h pos pins s Z H _ I hq) fun us s1 ⟨xs,H1,I1,r,z,q⟩=>⟨by rw[<- r.length];exact z,?_⟩)
 have hf:H1 s1.heap.objs.size=none:=I1.hok.fresh (Nat.le_refl _);refine⟨.ref s1.heap.objs.size,upd H1 s1.heap.objs.size (.tup xs),I1.laid (t':=s1.toks) (fun b u e=>Heap.get?_push_of_some _ e) (Nat.le_refl _) ?_,rfl,q _ hf⟩
 exact⟨z,us,r,⟨_,Heap.get?_push_size _ rfl,rfl,_,rfl⟩⟩
theorem cw (h:PA X es t):PE X (.List es pos) (MF t):=by
 intro pins s Z H Q I hq;refine wpAny_List_spliced (thn (h pos pins s Z H _ I hq) fun us s1 ⟨xs,H1,I1,r,z,q⟩=>⟨by rw[<- r.length];exact z,?_⟩)
 have hf:H1 s1.heap.objs.size=none:=I1.hok.fresh (Nat.le_refl _);refine⟨.ref s1.heap.objs.size,upd H1 s1.heap.objs.size (.lst xs),I1.laid (t':=s1.toks) (fun b u e=>Heap.get?_push_of_some _ e) (Nat.le_refl _) ?_,rfl,q _ hf⟩
 exact⟨z,us,0,r,Heap.get?_push_size _ rfl⟩
end
abbrev Sp:=List V->Hp->VK->XK->Prop
abbrev CXT:=List Env->Hp->Shared->XK->Value->Shared->Prop
structure Dx (P:Program) (w:World) (K:Frag) (mg:Str->Option Value) (base:Heap) (A:Around) (outer:List Env) (s:Shared) (H:Hp):Prop where
 frames:A.frames=some outer
 mod:Mod K mg base
 bs:∀b o,base.get? b=some o->s.heap.get? b=some o/\H b=none
 bsz:base.objs.size<=s.heap.objs.size
 funs:s.heap.FunFrames base outer
 frf:∀b∈frs outer,H b=none
 hok:HOk P w H s.heap
 bare:AllBare s.gens
def CE (outer:List Env) (P:Program) (w:World) (H:Hp) (s:Shared) (Q:VK) (u:Value) (s':Shared):Prop:=
 ∃v H',s'.os=s.os/\AllBare s'.gens/\Un (frs outer) [] H H' s.heap s'.heap/\HOk P w H' s'.heap/\bj v u/\Q v H'
def CR (CX:CXT) (outer:List Env) (P:Program) (w:World) (H:Hp) (s:Shared) (Q:VK) (E:XK) (r:Result) (s':Shared):Prop:=
 match r with
 | .ok (.ret u)=>CE outer P w H s Q u s'
 | .ok _=>False
 | .error e=>CX outer H s E e s'
structure iC (P:Program) (w:World) (K:Frag) (mg:Str->Option Value) (base:Heap) (CX:CXT) (k:Nat) (f:Addr) (fd:FuncData) (ps:List Str) (sp:Sp):Prop where
 len:∀vs H Q E,sp vs H Q E->vs.length=ps.length
 run:∀(A:Around) (outer:List Env) (s:Shared) (H:Hp) (args:Args) (us:List Value) (vs:List V) (Q:VK) (E:XK),Room k A->Dx P w K mg base A outer s H->BindsTo s fd args (ps.zip us)->aW vs us->sp vs H Q E->
  codeAny (model P w) A (.call (.ref f) args) (CR CX outer P w H s Q E) s
theorem iC.mono {P:Program}{w:World}{K:Frag}{mg:Str->Option Value}{base:Heap}{CX:CXT}{j k:Nat}{f:Addr}{fd:FuncData}{ps:List Str}{sp:Sp}(F:iC P w K mg base CX j f fd ps sp) (h:j<=k):
  iC P w K mg base CX k f fd ps sp:=⟨F.len,fun A outer s H args us vs Q E hr=>F.run A outer s H args us vs Q E (hr.mono h)⟩
theorem iC.imp {P:Program}{w:World}{K:Frag}{mg:Str->Option Value}{base:Heap}{CX:CXT}{k:Nat}{f:Addr}{fd:FuncData}{ps:List Str}{sp sp':Sp}(F:iC P w K mg base CX k f fd ps sp)
  (h:∀vs H Q E,sp' vs H Q E->sp vs H Q E):iC P w K mg base CX k f fd ps sp':=
 ⟨fun vs H Q E q=>F.len vs H Q E (h _ _ _ _ q),fun A outer s H args us vs Q E hr he hb hv hs=>F.run A outer s H args us vs Q E hr he hb hv (h _ _ _ _ hs)⟩
theorem Dx.make {P:Program}{w:World}{K:Frag}{mg:Str->Option Value}{base:Heap}{A:Around}{outer:List Env}{s:Shared}{H:Hp}(e:Dx P w K mg base A outer s H) (C:Addr) (us:List Value) (kw:List (Str × Value)):
  Dx P w K mg base (A.under (.builtin "type.__call__" ⟨.ref C::us,kw⟩)) outer s H:=⟨by first | exact e.frames | (simpa [Around.under,Code.envs,Code.isFrame,pushEnvs] using e.frames),e.mod,e.bs,e.bsz,e.funs,e.frf,e.hok,e.bare⟩
section
variable {X : Cx} {pins : List (Addr × Obj)} {σ : St} {H : Hp} {s s' : Shared}
theorem Inv.env0 (I:Inv X pins Z H s):Dx X.prog X.w X.K X.mg X.base X.A X.stack s H:=
 ⟨I.ok.frames,I.ok.mod,I.bs,Nat.le_trans I.ok.bsz I.sz,I.stack,I.stkFree,I.hok,I.bare⟩
theorem Inv.after {Q:VK}{u:Value}(I:Inv X pins Z H s) (h:CE X.stack X.prog X.w H s Q u s'):EP X pins Z Q u s':=by
 obtain⟨v,H',os,bare,un,hok,r,q⟩:=h;obtain⟨hh,g,d,t,os'⟩:=s';obtain rfl:os'=s.os:=os;exact⟨v,H',I.call (h':=hh) (g':=g) (d':=d) (t':=t) (ch:=[]) un hok bare (fun b z=>absurd z (by simp)),r,q⟩
end
def Es (sp:Sp) (dvs:List V) (E:XK) (t:TA):TE:=fun Z H Q=>t Z H fun vs H1=>sp (vs++dvs) H1 Q E
def DB (C:Addr) (m:Str) (sp:Sp) (dvs:List V) (E:XK) (ta:TE) (t:TA):TE:=fun Z H Q=>ta Z H fun x H1=>∃a dx fs,x= .ref a/\H1 a=some (.ins C dx fs)/\fs.lookup m=none/\
 t Z H1 fun vs H2=>sp (x::(vs++dvs)) H2 Q E
def DW (C:Addr) (sp:Sp) (dvs:List V) (E:XK) (t:TA):TE:=fun Z H Q=>t Z H fun vs H1=>∀x dx,H1 x=none->H1 dx=none->dx≠x->
 sp (.ref x::(vs++dvs)) (upd (upd H1 dx (.own x)) x (.ins C dx [])) (fun v H2=>v= .non/\Q (.ref x) H2) E
def ie (K:Frag) (fd:FuncData) (ps:List Str) (ds:List Value):Prop:=
 ∀(s:Shared) (us:List Value),K.In s.heap->(us++ds).length=ps.length->BindsTo s fd ⟨us,[]⟩ (ps.zip (us++ds))
theorem ie.all {K:Frag}{fd:FuncData}{ps:List Str}(h:∀us:List Value,us.length=ps.length->bindArgs fd ⟨us,[]⟩=pure (ps.zip us)):ie K fd ps []:=fun s us _ hl=>by
 rw[List.append_nil] at hl ⊢;exact .of_eq (h us hl)
def kT (CX:CXT) (X:Cx) (E:XK):Prop:=∀(pins:List (Addr × Obj)) (Z:St) (H:Hp) (s:Shared) (e:Value) (s':Shared),Inv X pins Z H s->CX X.stack H s E e s'->X.xe e s'
section
variable {X : Cx} {CX : CXT} {k : Nat} {f C : Addr} {fd : FuncData} {ps : List Str} {sp : Sp} {dvs : List V} {ds : List Value} {E : XK} {x m : Str} {p pos apos : Pos} {e o : Expr} {es : List Expr} {ta : TE} {t : TA}
theorem zN {pins:List (Addr × Obj)}{Z:St}{H:Hp}{s:Shared}{Q:VK}{us:List Value}{vs:List V}(F:iC X.prog X.w X.K X.mg X.base CX k f fd ps sp) (hr:Room k X.A) (hb:ie X.K fd ps ds) (hd:aW dvs ds) (hx:kT CX X E)
  (I:Inv X pins Z H s) (r:aW vs us) (h:sp (vs++dvs) H Q E):wpAny (model X.prog X.w) X.A (call (.ref f) us) (EP X pins Z Q) X.xe s:=by
 have r2:aW (vs++dvs) (us++ds):=r.append hd;have hl:(us++ds).length=ps.length:=by rw[<- r2.length];exact F.len _ _ _ _ h
 refine wpAny_call (codeAny_mono (F.run X.A X.stack s H ⟨us,[]⟩ (us++ds) (vs++dvs) Q E hr I.env0 (hb s us I.kIn hl) r2 h) fun r s' hq=> ?_)
 cases r with
 | error e=>exact hx pins Z H s e s' I hq
 | ok fl=>
  cases fl with
  | ret u=>exact I.after hq
  | next=>exact False.elim hq
  | brk=>exact False.elim hq
  | cont=>exact False.elim hq
theorem Im (F:iC X.prog X.w X.K X.mg X.base CX k f fd ps sp) (hr:Room k X.A) (hg:Gl X x) (hm:X.mg x=some (.ref f)) (hk:W.keepIn X.K (.ref f)=true) (hb:ie X.K fd ps ds) (hd:aW dvs ds) (hx:kT CX X E)
  (ha:PA X (e::es) t) (hdb:(x == ("__debug__":Str))=false:=by decide) (he:starEach (e::es) X.env=(false,eval e X.env)::starEach es X.env:=by rfl) (hpl:(backTo pos (starEach es X.env)).any (·.1)=false:=by rfl):
  PE X (.Call (.Name x p) (e::es) [] pos) (Es sp dvs E t):=by
 intro pins s Z H Q I h;refine wpAny_Call_Name_kw (jG I hg hm ?_ hdb)
 refine W.callWith_K (h₀:=X.base) I.ok.mod.kin hk (dg (ha pos pins s Z H _ I h) fun us s1 vs H1 I1 r q=>⟨I1.kIn,?_⟩) he hpl
 exact zN F hr hb hd hx I1 r q
theorem Gf (F:iC X.prog X.w X.K X.mg X.base CX k f fd ps sp) (hr:Room k X.A) (hg:Gl X x) (hm:X.mg x=some (.ref f)) (hk:W.keepIn X.K (.ref f)=true) (hb:ie X.K fd ps ds) (hd:aW dvs ds) (hx:kT CX X E)
  (hdb:(x == ("__debug__":Str))=false:=by decide):PE X (.Call (.Name x p) [] [] pos) (Es sp dvs E vd):=by
 intro pins s Z H Q I h;refine wpAny_Call_Name_kw (jG I hg hm ?_ hdb)
 exact W.callWith_K0 I.kIn hk (zN (us:=[]) F hr hb hd hx I .nil h)
theorem HU {pl:Sem Bool}(he:PE X o ta) (c:Cls X.K C) (hm:Gn X.K C m f) (F:iC X.prog X.w X.K X.mg X.base CX k f fd ps sp) (hr:Room k X.A) (hb:ie X.K fd ps ds) (hd:aW dvs ds) (hx:kT CX X E) (ha:PA X (e::es) t)
  (hst:starEach (e::es) X.env=(false,eval e X.env)::starEach es X.env:=by rfl) (hpl:(backTo pos (starEach es X.env)).any (·.1)=false:=by rfl)
  (ht:eval (.Call (.Attribute o m apos) (e::es) [] pos) X.env=(do
   let ov <-eval o X.env
   standAt apos.atName
   let (f,first) <-holding [ov] (getMethod ov m pl)
   callWith pos f first (backTo pos (starEach (e::es) X.env)) (backToKw pos (keywordEach [] X.env))):=by rfl):
  PE X (.Call (.Attribute o m apos) (e::es) [] pos) (DB C m sp dvs E ta t):=by
 intro pins s Z H Q I h;refine W.methodCall_KW (pl:=pl) (thn (he pins s Z H _ I h) fun u s1 ⟨x,H1,I1,rx,a,dx,fs,ex,ea,l,q⟩=> ?_) ht
 subst ex;obtain rfl:u=Value.ref a:=rx;refine vC I1 ea c hm l ?_
 refine W.callWith_K (first:=[.ref a]) (h₀:=X.base) I.ok.mod.kin hm.kp (dg (ha pos pins s1 Z H1 _ I1 q) fun us s2 vs H2 I2 r q2=>⟨I2.kIn,?_⟩) hst hpl
 exact zN (us:= .ref a::us) (vs:= .ref a::vs) F hr hb hd hx I2 (.cons rfl r) q2
theorem FB {pl:Sem Bool}(he:PE X o ta) (c:Cls X.K C) (hm:Gn X.K C m f) (F:iC X.prog X.w X.K X.mg X.base CX k f fd ps sp) (hr:Room k X.A) (hb:ie X.K fd ps ds) (hd:aW dvs ds) (hx:kT CX X E)
  (ht:eval (.Call (.Attribute o m apos) [] [] pos) X.env=(do
   let ov <-eval o X.env
   standAt apos.atName
   let (f,first) <-holding [ov] (getMethod ov m pl)
   callWith pos f first (backTo pos (starEach [] X.env)) (backToKw pos (keywordEach [] X.env))):=by rfl):
  PE X (.Call (.Attribute o m apos) [] [] pos) (DB C m sp dvs E ta vd):=by
 intro pins s Z H Q I h;refine W.methodCall_KW (pl:=pl) (thn (he pins s Z H _ I h) fun u s1 ⟨x,H1,I1,rx,a,dx,fs,ex,ea,l,q⟩=> ?_) ht
 subst ex;obtain rfl:u=Value.ref a:=rx;refine vC I1 ea c hm l ?_
 exact W.callWith_K0 (first:=[.ref a]) I1.kIn hm.kp (zN (us:=[.ref a]) (vs:=[.ref a]) F hr hb hd hx I1 (.cons rfl .nil) q)
structure Mk (K:Frag) (C f:Addr):Prop where
 makes:W.makesIn K C=true
 init:W.findIn K (.ref C) "__init__"=some (some (.ref f))
 fn:W.isFn K (.ref f)=true
 kp:W.keepIn K (.ref C)=true
theorem AZ {pins:List (Addr × Obj)}{Z:St}{H:Hp}{s:Shared}{Q:VK}{us:List Value}{vs:List V}(M:Mk X.K C f) (F:iC X.prog X.w X.K X.mg X.base CX k f fd ps sp) (hr:Room (k+1) X.A) (hb:ie X.K fd ps ds) (hd:aW dvs ds)
  (hx:kT CX X E) (I:Inv X pins Z H s) (r:aW vs us)
  (h:∀x dx,H x=none->H dx=none->dx≠x->sp (.ref x::(vs++dvs)) (upd (upd H dx (.own x)) x (.ins C dx [])) (fun v H2=>v= .non/\Q (.ref x) H2) E):
  wpAny (model X.prog X.w) X.A (call (.ref C) us) (EP X pins Z Q) X.xe s:=by
 have hq:=h (s.heap.objs.size+1) s.heap.objs.size (I.hok.fresh (Nat.le_succ _)) (I.hok.fresh (Nat.le_refl _)) (Nat.ne_of_lt (Nat.lt_succ_self _));have I2:=Inv.made (C:=C) I;have r2:aW (V.ref (s.heap.objs.size+1)::(vs++dvs)) (Value.ref (s.heap.objs.size+1)::(us++ds)):= .cons rfl (r.append hd);have hl:(Value.ref (s.heap.objs.size+1)::us++ds).length=ps.length:=by
  have e:=r2.length;rw[F.len _ _ _ _ hq] at e;exact e.symm
 refine wpAny_call (GN (f:=f) I.kIn M.makes M.init (beq_iff_eq.mp M.fn) (codeAny_mono (F.run _ X.stack _ _ ⟨Value.ref (s.heap.objs.size+1)::us,[]⟩ (Value.ref (s.heap.objs.size+1)::(us++ds)) _ _ E (hr.make C us [])
  (I2.env0.make C us []) (hb _ (Value.ref (s.heap.objs.size+1)::us) I2.kIn hl) r2 hq) fun r s' hq'=> ?_))
 cases r with
 | error e=>exact hx pins Z _ _ e s' I2 hq'
 | ok fl=>
  cases fl with
  | ret u=>
   obtain⟨v,H',I3,rv,ev,q3⟩:=I2.after hq';subst ev;exact⟨rv,⟨V.ref (s.heap.objs.size+1),H',I3,rfl,q3⟩⟩
  | next=>exact False.elim hq'
  | brk=>exact False.elim hq'
  | cont=>exact False.elim hq'
theorem Hv (M:Mk X.K C f) (F:iC X.prog X.w X.K X.mg X.base CX k f fd ps sp) (hr:Room (k+1) X.A) (hg:Gl X x) (hm:X.mg x=some (.ref C)) (hb:ie X.K fd ps ds) (hd:aW dvs ds) (hx:kT CX X E)
  (ha:PA X (e::es) t) (hdb:(x == ("__debug__":Str))=false:=by decide) (he:starEach (e::es) X.env=(false,eval e X.env)::starEach es X.env:=by rfl) (hpl:(backTo pos (starEach es X.env)).any (·.1)=false:=by rfl):
  PE X (.Call (.Name x p) (e::es) [] pos) (DW C sp dvs E t):=by
 intro pins s Z H Q I h;refine wpAny_Call_Name_kw (jG I hg hm ?_ hdb)
 refine W.callWith_K (h₀:=X.base) I.ok.mod.kin M.kp (dg (ha pos pins s Z H _ I h) fun us s1 vs H1 I1 r q=>⟨I1.kIn,?_⟩) he hpl
 exact AZ M F hr hb hd hx I1 r q
theorem FT (M:Mk X.K C f) (F:iC X.prog X.w X.K X.mg X.base CX k f fd ps sp) (hr:Room (k+1) X.A) (hg:Gl X x) (hm:X.mg x=some (.ref C)) (hb:ie X.K fd ps ds) (hd:aW dvs ds) (hx:kT CX X E)
  (hdb:(x == ("__debug__":Str))=false:=by decide):PE X (.Call (.Name x p) [] [] pos) (DW C sp dvs E vd):=by
 intro pins s Z H Q I h;refine wpAny_Call_Name_kw (jG I hg hm ?_ hdb)
 exact W.callWith_K0 I.kIn M.kp (AZ (us:=[]) M F hr hb hd hx I .nil h)
end
structure aq (N P:List Str) (sc:Scope):Prop where
 kind:sc.kind= .function
 co:sc.isCoroutine=false
 gen:sc.isGenerator=false
 nd:N.Nodup
 pre:N.take P.length=P
 par:∀x∈P,sc.names.lookup x=some .local\/sc.names.lookup x=some .cell
 nofree:∀y∈sc.names,y.2≠ .free
theorem yi {kindOf:Str->Option NameKind}{x:Str}:∀ {binds:List (Str × Value)}{m:Str->Option Value},(∀ v,(x,v) ∉ binds)->bindL kindOf binds m x=m x
 | [],_,_=>rfl
 | (n,v)::r,m,h=>by
  unfold bindL;rw[yi fun w hw=>h w (List.mem_cons_of_mem _ hw)]
  split
  .have:x≠n:=by rintro rfl;exact h v List.mem_cons_self
   simp [this]
  .rfl
theorem yj {kindOf:Str->Option NameKind}{x:Str}:∀ {binds:List (Str × Value)}{m:Str->Option Value},(∀ v,(x,v) ∉ binds)->bindC kindOf binds m x=m x
 | [],_,_=>rfl
 | (n,v)::r,m,h=>by
  unfold bindC;rw[yj fun w hw=>h w (List.mem_cons_of_mem _ hw)]
  split
  .rfl
  .have:x≠n:=by rintro rfl;exact h v List.mem_cons_self
   simp [this]
theorem xR {kindOf:Str->Option NameKind}{x:Str}{v:Value}:∀ {P:List Str}{vs:List Value}{i:Nat}{m:Str->Option Value},P.Nodup->P[i]? =some x->vs[i]? =some v->kindOf x=some .local->
  bindL kindOf (P.zip vs) m x=some v
 | [],_,_,_,_,h,_,_=>by simp at h
 | _::_,[],_,_,_,_,h,_=>by simp at h
 | p::P,w::vs,0,m,nd,h1,h2,hk=>by
  simp at h1 h2;subst h1;subst h2
  show bindL kindOf ((p,w)::P.zip vs) m p=_
  unfold bindL;rw[yi fun v hv=>(List.nodup_cons.mp nd).1 (List.of_mem_zip hv).1,if_pos hk]
  simp
 | p::P,w::vs,i+1,m,nd,h1,h2,hk=>by
  show bindL kindOf ((p,w)::P.zip vs) m x=_
  unfold bindL;exact xR (i:=i) (List.nodup_cons.mp nd).2 (by simpa using h1) (by simpa using h2) hk
theorem yd {kindOf:Str->Option NameKind}{x:Str}{v:Value}:∀ {P:List Str}{vs:List Value}{i:Nat}{m:Str->Option Value},P.Nodup->P[i]? =some x->vs[i]? =some v->kindOf x≠some .local->
  bindC kindOf (P.zip vs) m x=some v
 | [],_,_,_,_,h,_,_=>by simp at h
 | _::_,[],_,_,_,_,h,_=>by simp at h
 | p::P,w::vs,0,m,nd,h1,h2,hk=>by
  simp at h1 h2;subst h1;subst h2
  show bindC kindOf ((p,w)::P.zip vs) m p=_
  unfold bindC;rw[yj fun v hv=>(List.nodup_cons.mp nd).1 (List.of_mem_zip hv).1,if_neg hk]
  simp
 | p::P,w::vs,i+1,m,nd,h1,h2,hk=>by
  show bindC kindOf ((p,w)::P.zip vs) m x=_
  unfold bindC;exact yd (i:=i) (List.nodup_cons.mp nd).2 (by simpa using h1) (by simpa using h2) hk
def start (N:List Str) (vs:List V):St:=vs.map some++List.replicate (N.length - vs.length) none
def fP (CX:CXT) (P:Program) (w:World) (K:Frag) (mg:Str->Option Value) (base:Heap) (N:List Str) (qual:Str) (scope:Scope) (f:Addr) (cd:Value) (A:Around) (outer:List Env) (s:Shared) (H:Hp) (E:XK):Cx where
 prog:=P
 w:=w
 K:=K
 mg:=mg
 base:=base
 A:=A.deeper (envOfC qual scope s.heap.objs.size f cd)
 N:=N
 s₀:=s
 H₀:=H
 env:=envOfC qual scope s.heap.objs.size f cd
 outer:=outer
 stack:=envOfC qual scope s.heap.objs.size f cd::outer
 ex:=[]
 calm:=true
 fn:=fun _=>true
 pn:=[]
 xe:=fun e s'=>wpAny (model P w) (A.deeper (envOfC qual scope s.heap.objs.size f cd)) (leaving (envOfC qual scope s.heap.objs.size f cd) e) (fun _ s''=>CX outer H s E e s'') (fun e' s''=>CX outer H s E e' s'') s'
theorem AR {sc:Scope}{n:Nat}{x:Str}(h:sc.names.lookup x=some .cell):∃c,(cellsFrom n sc.names []).lookup x=some c:=by
 have q:=W.cellsFrom_some sc.names n [] (.inl h);exact Option.isSome_iff_exists.mp q
theorem E6 {CX:CXT}{P:Program}{w:World}{K:Frag}{mg:Str->Option Value}{base:Heap}{N ps:List Str}{qual:Str}{scope:Scope}{f:Addr}{cd:Value}{A:Around}{outer:List Env}{s s1:Shared}{H:Hp}{E:XK}{us:List Value}{vs:List V}
  (S:aq N ps scope) (hd:A.handled=none) (e0:Dx P w K mg base A outer s H) (hl:vs.length=ps.length) (r:aW vs us)
  (x:InCallC s s.heap.objs.size (bindL (envOfC qual scope s.heap.objs.size f cd).kindOf (ps.zip us) fun _=>none) (cellsFrom (s.heap.objs.size+1) scope.names []) (bindC (envOfC qual scope s.heap.objs.size f cd).kindOf (ps.zip us) fun _=>none) s1):
  Inv (fP CX P w K mg base N qual scope f cd A outer s H E) [] (start N vs) H s1:=by
 have hpl:ps.length<=N.length:=by have:=congrArg List.length S.pre;rw[List.length_take] at this;lia
 obtain⟨h1,tk,rfl,hk⟩:=x.done;have noA:∀b:Addr,b ∉ (fP CX P w K mg base N qual scope f cd A outer s H E).ex:=fun b z=>absurd (show b∈([]:List Addr) from z) (by simp)
 refine⟨⟨e0.mod,S.kind,rfl,rfl,Nat.le_refl _,fun y z c h1 h2=> ?_,fun y hy=> ?_,fun y c _ h=> ?_,fun _=>hd,Around.frames_deeper e0.frames,.inr ⟨rfl,rfl⟩,fun b z=>absurd z (noA b),e0.bs,e0.bsz,fun b _ _=>noA b,fun b z=>absurd z (noA b),e0.funs,e0.frf⟩,
  rfl,e0.bare,Un.kept hk,⟨_,x.toInCall.ns,fun i y v h1 h2 h3=> ?_⟩,fun y c h=>⟨_,x.cell y c h⟩,e0.hok.fresh (Nat.le_refl _),fun y c h=> ?_,fun p hp=>absurd (show p∈([]:List (Addr × Obj)) from hp) (by simp),e0.hok.kept hk,?_⟩
 .exact name_of_addr x.apart (PySem.mem_of_lookup h1) (PySem.mem_of_lookup h2)
 .have hy:scope.names.lookup y=some .cell\/scope.names.lookup y=some .free:=hy;rcases hy with hy | hy
  .exact AR hy
  .exact absurd rfl (S.nofree _ (PySem.mem_of_lookup hy))
 .exact Nat.le_of_lt (x.above y c (PySem.mem_of_lookup h))
 .have hi:i < vs.length:=by
   unfold start at h2
   by_cases hi:i < vs.length
   .exact hi
   .rw[List.getElem?_append_right (by simpa using hi)] at h2
    rw[List.getElem?_replicate] at h2
    split at h2 <;> cases h2
  have ha:vs[i]? =some v:=by
   unfold start at h2;rw[List.getElem?_append_left (by simpa using hi),List.getElem?_map] at h2
   cases e:vs[i]? with
   | none=>rw[e] at h2;cases h2
   | some a=>rw[e] at h2;cases h2;rfl
  obtain⟨u,hu,rv⟩:=r.get ha;have hp:ps[i]? =some y:=by
   rw[<- S.pre,List.getElem?_take_of_lt (by lia)];exact h1
  have ndP:ps.Nodup:=by rw[<- S.pre];exact S.nd.sublist (List.take_sublist _ _)
  refine⟨u,rv,?_⟩
  rcases S.par y (List.mem_of_getElem? hp) with k | k
  .exact .inl ⟨k,xR ndP hp hu k⟩
  .obtain⟨c,e⟩:=AR (n:=s.heap.objs.size+1) k;refine .inr ⟨.inl k,c,e,?_⟩
   have q:=x.cell y c e;rw[yd ndP hp hu (by show scope.names.lookup y≠_;rw[k];decide)] at q
   exact q
 .exact e0.hok.fresh (Nat.le_of_lt (x.above y c (PySem.mem_of_lookup h)))
 .unfold start;show _=N.length
  rw[List.length_append,List.length_map,List.length_replicate]
  lia
theorem Jq {CX:CXT}{P:Program}{w:World}{K:Frag}{mg:Str->Option Value}{base:Heap}{k:Nat}{f:Addr}{name qual:Str}{params:Arguments}{body:List Stmt}{scope:Scope}{dV kV doc pm cdv ct oc:Value}{an od:Option Addr}
  {osl:Array (Option Value)}{N ps:List Str}{sp:Sp}(lk:K.lookup f=some ⟨oc,od,.func (W.fnOf name qual params body scope dV kV doc pm an cdv ct),osl⟩) (hcd:W.codeIn K cdv qual=true) (S:aq N ps scope)
  (len:∀vs H Q E,sp vs H Q E->vs.length=ps.length)
  (hbody:∀(A:Around) (outer:List Env) (s:Shared) (H:Hp) (vs:List V) (Q:VK) (E:XK),Room k (A.deeper (envOfC qual scope s.heap.objs.size f cdv))->sp vs H Q E->
   ∃t,PSs (fP CX P w K mg base N qual scope f cdv A outer s H E) body t/\t {nx:=fun _ H'=>Q .non H',rt:=Q} (start N vs) H):
  iC P w K mg base CX (k+1) f (W.fnOf name qual params body scope dV kV doc pm an cdv ct) ps sp:=by
 refine⟨len,fun A outer s H args us vs Q E hr e0 hb r hsp=> ?_⟩
 have hl:=len _ _ _ _ hsp;have KX:K.In s.heap:=e0.mod.kin.keeps fun b o e=>(e0.bs b o e).1
 have lim:s.heap.NoLimit:=e0.mod.nolimit.keeps fun b o e=>(e0.bs b o e).1
 have hkind:∀y∈ps.zip us,scope.names.lookup y.1=some .local\/(scope.names.lookup y.1=some .cell/\((cellsFrom (s.heap.objs.size+1) scope.names []).lookup y.1).isSome=true):=fun⟨n,v⟩ hy=>by
  rcases S.par n (List.of_mem_zip hy).1 with q | q
  .exact .inl q
  .exact .inr ⟨q,W.cellsFrom_some _ _ _ (.inl q)⟩
 refine codeAny_call_function hr.depth (KX _ _ lk) rfl S.co S.gen rfl (W.codeRec_of KX hcd) (hb _ _ _ _ ?_)
 refine wpAny_newFunctionEnv_cells S.kind hkind fun env he s1 x=> ?_
 subst he;refine⟨lim.keeps x.toInCall.keep,codeAny_func ?_⟩
 obtain⟨t,ht,hq⟩:=hbody A outer s H vs Q E (hr.deeper _) hsp;have I:Inv (fP CX P w K mg base N qual scope f cdv A outer s H E) [] (start N vs) H s1:=E6 S hr.hd e0 hl r x;refine wpAny_mono (ht [] s1 (start N vs) H _ I hq) (fun fl s' hs=> ?_) fun e s' hs=>hs
 have fin:∀ {Z':St}{H':Hp}{v:V}{u:Value},Inv (fP CX P w K mg base N qual scope f cdv A outer s H E) [] Z' H' s'->bj v u->Q v H'->CE outer P w H s Q u s':=
  fun {Z' H' v u} J rv q=>⟨v,H',J.os,J.bare,J.base,J.hok,rv,q⟩
 cases fl with
 | ret u=>
  obtain⟨v,Z',H',J,rv,q⟩:=hs;exact fin J rv q
 | next=>
  obtain⟨Z',H',J,q⟩:=hs;exact fin (v:=V.non) (u:=Value.none) J rfl q
 | brk=>
  obtain⟨_,_,_,q⟩:=hs;exact False.elim q
 | cont=>
  obtain⟨_,_,_,q⟩:=hs;exact False.elim q
section
variable {X : Cx} {x : Str} {p pos : Pos} {e : Expr} {es : List Expr} {t : TA} {id T : String} {r : List V → Hp → VK → Prop}
def tCB (r:List V->Hp->VK->Prop) (t:TA):TE:=fun Z H Q=>t Z H fun vs H1=>r vs H1 Q
theorem aI (hc:jh X (.builtin id) r) (hg:Gl X x) (hm:X.mg x=none) (hv:bootBuiltins x=some (.builtin id)) (ha:PA X (e::es) t) (hn:x≠"__name__":=by decide) (hdb:(x == ("__debug__":Str))=false:=by decide)
  (he:starEach (e::es) X.env=(false,eval e X.env)::starEach es X.env:=by rfl) (hpl:(backTo pos (starEach es X.env)).any (·.1)=false:=by rfl):PE X (.Call (.Name x p) (e::es) [] pos) (tCB r t):=by
 intro pins s Z H Q I h;refine wpAny_Call_Name_kw (v_ I hg hm hv ?_ hn hdb)
 exact PyProof.Rows.callWith_builtin1 (dg (ha pos pins s Z H _ I h) fun us s1 vs H1 I1 r1 q1=>hc pins s1 Z H1 vs us Q I1 r1 q1) he hpl
theorem bN (hc:jh X (.type T) r) (hg:Gl X x) (hm:X.mg x=none) (hv:bootBuiltins x=some (.type T)) (ha:PA X (e::es) t) (hn:x≠"__name__":=by decide) (hdb:(x == ("__debug__":Str))=false:=by decide)
  (he:starEach (e::es) X.env=(false,eval e X.env)::starEach es X.env:=by rfl) (hpl:(backTo pos (starEach es X.env)).any (·.1)=false:=by rfl):PE X (.Call (.Name x p) (e::es) [] pos) (tCB r t):=by
 intro pins s Z H Q I h;refine wpAny_Call_Name_kw (v_ I hg hm hv ?_ hn hdb)
 exact PyProof.Rows.callWith_type1 (dg (ha pos pins s Z H _ I h) fun us s1 vs H1 I1 r1 q1=>hc pins s1 Z H1 vs us Q I1 r1 q1) he hpl
end
end L2
namespace HT
open PySem PyProof.Rows
section
variable {prog : Program} {w : World} {A : Around} {E : Value → Shared → Prop} {s : Shared}
theorem cat_tup {t b:Addr}{vs ws:List Value}{Q:Value->Shared->Prop}(ht:IsTup s.heap t vs.toArray) (hb:IsTup s.heap b ws.toArray) (hv:vs≠[])
  (h1:ws=[]->Q (.ref t) s) (h2:ws≠[]->Q (.ref s.heap.objs.size) {s with heap:=s.heap.push {cls:= .type "tuple",data:= .seq (vs++ws).toArray}})
  (hsz:vs.length+ws.length<=sizeLine):wpAny (model prog w) A (binaryOp .Add (.ref t) (.ref b)) Q E s:=by
 obtain⟨⟨cls,dd,data,sl⟩,ho,hc,n,hd⟩:=id ht;obtain⟨⟨cls2,dd2,data2,sl2⟩,ho2,hc2,n2,hd2⟩:=id hb
 simp only at hc hd hc2 hd2
 subst hc hd hc2 hd2;have e:vs.toArray++ws.toArray=(vs++ws).toArray:=by simp
 by_cases hw:ws=[]
 .exact concat_meets ⟨_,ho,rfl⟩ ⟨_,ho2,rfl⟩ noFill_tuple_add seq_tuple_add PySem.F.slot_tuple_add PySem.F.entry_tuple_add (PySem.F.args_tuple_add_2 _ _)
   (tuple_addW1 t b vs.toArray ws.toArray n n2 dd dd2 sl sl2 (by simpa using hv) (by simp [hw])) ⟨ho,ho2,h1 hw⟩
 .refine concat_meets ⟨_,ho,rfl⟩ ⟨_,ho2,rfl⟩ noFill_tuple_add seq_tuple_add PySem.F.slot_tuple_add PySem.F.entry_tuple_add (PySem.F.args_tuple_add_2 _ _)
   (tuple_addW2 t b vs.toArray ws.toArray n n2 dd dd2 sl sl2 (by simpa using hv) (by simpa using hw) (by rw[List.size_toArray,List.size_toArray];exact hsz)) ⟨ho,ho2,?_⟩
  rw[e];exact h2 hw
def sIx (n d:Nat):Option Int->Nat
 | none=>d
 | some v=>if v < 0 then(v+(n:Int)).toNat else min v.toNat n
theorem sIx_nat (n d k:Nat):sIx n d (some (k:Int))=min k n:=by
 show(if (k:Int) < 0 then((k:Int)+(n:Int)).toNat else min (k:Int).toNat n)=min k n
 rw[if_neg (by lia),Int.toNat_natCast]
theorem Kk (n d:Nat) (hd:d<=n) (o:Option Int):sIx n d o<=n:=by
 cases o with
 | none=>exact hd
 | some v=>
  show(if v < 0 then(v+(n:Int)).toNat else min v.toNat n)<=n
  by_cases hv:v < 0
  .rw[if_pos hv];lia
  .rw[if_neg hv];exact Nat.min_le_right _ _
theorem D3 (v:Int) (n d:Nat):(if v < 0 then max (v+(n:Int)) 0 else min v (n:Int))=((sIx n d (some v):Nat):Int):=by
 show(if v < 0 then max (v+(n:Int)) 0 else min v (n:Int))=(((if v < 0 then(v+(n:Int)).toNat else min v.toNat n):Nat):Int)
 by_cases hv:v < 0
 .simp only[if_pos hv];lia
 .simp only[if_neg hv];lia
theorem CY (lo hi:Option Int) (n:Nat):Builtin.Slice.sliceAdjust lo hi 1 (n:Int)=(((sIx n 0 lo:Nat):Int),((sIx n n hi:Nat):Int)):=by
 have h1:¬((1:Int) < 0):=by lia
 unfold Builtin.Slice.sliceAdjust
 simp only[h1,if_false]
 refine Prod.ext ?_ ?_
 .cases lo with
  | none=>rfl
  | some v=>exact D3 v n 0
 .cases hi with
  | none=>rfl
  | some v=>exact D3 v n n
theorem Di (i j:Nat):Builtin.Slice.slicePlaces (i:Int) (j:Int) 1=j - i:=by
 unfold Builtin.Slice.slicePlaces;have h1:(1:Int) >0:=by lia
 simp only[h1,if_true,Int.ediv_one]
 split <;> lia
theorem ww {v:Value}{o:Option Int}{Q:Option Int->Shared->Prop}(p:IsPart v o) (h:Q o s):wpAny (model prog w) A (Builtin.Slice.slicePartIndex v) Q E s:=by
 cases p with
 | none=>exact slicePart_none h
 | int i t=>exact slicePart_int h
theorem sliceApplied_gen {sl:Addr}{vl vu:Value}{lo hi:Option Int}{n:Nat}{Q:Int × Int × Nat->Shared->Prop}(hs:s.heap.IsSliceOf sl vl vu .none) (pl:IsPart vl lo) (pu:IsPart vu hi)
  (h:Q (((sIx n 0 lo:Nat):Int),1,sIx n n hi - sIx n 0 lo) s):wpAny (model prog w) A (Builtin.Slice.sliceApplied (.ref sl) (pure (n:Int))) Q E s:=by
 obtain⟨os,hos,hcs,hds⟩:=id hs;unfold Builtin.Slice.sliceApplied Builtin.Slice.sliceFields;refine wpAny_bind (wpAny_bind (wpAny_field hos hds (x:=vl) rfl (wpAny_bind (wpAny_field hos hds (x:=vu) rfl (wpAny_bind (wpAny_field hos hds (x:= .none) rfl (wpAny_pure ?_)))))))
 refine wpAny_bind (slicePart_none ?_)
 show wpAny _ _ (if ((1:Int) == 0)=true then _ else _) _ _ s
 rw[if_neg (by decide)]
 refine wpAny_bind (ww pl (wpAny_bind (ww pu (wpAny_bind (wpAny_pure ?_)))))
 show wpAny _ _ (match Builtin.Slice.sliceAdjust lo hi 1 (n:Int) with | (lo,hi)=>pure (lo,(1:Int),Builtin.Slice.slicePlaces lo hi 1)) _ _ s
 rw[CY lo hi n];show wpAny _ _ (pure (((sIx n 0 lo:Nat):Int),(1:Int),Builtin.Slice.slicePlaces ((sIx n 0 lo:Nat):Int) ((sIx n n hi:Nat):Int) 1)) _ _ s
 rw[Di];exact wpAny_pure h
theorem Hd (xs:Array Value) (i k:Nat):((List.range k).filterMap fun(m:Nat)=>xs[((i:Int)+(m:Int)*1).toNat]?).toArray=((xs.toList.drop i).take k).toArray:=by
 have e:(fun(m:Nat)=>xs[((i:Int)+(m:Int)*1).toNat]?)=fun m=>xs[i+m]? :=by
  funext m
  have:((i:Int)+(m:Int)*1).toNat=i+m:=by lia
  rw[this]
 rw[e];have:=pick_run xs i k;rw[List.filterMap_map] at this;have e2:((fun x=>xs[x]?) ∘ fun x=>i+x)=fun m=>xs[i+m]? :=rfl
 rw[e2] at this;rw[this]
theorem getItem_tuple_cut {t sl:Addr}{items:Array Value}{vl vu:Value}{lo hi:Option Int}{Q:Value->Shared->Prop}(ht:IsTup s.heap t items) (hs:s.heap.IsSliceOf sl vl vu .none) (pl:IsPart vl lo) (pu:IsPart vu hi)
  (hw:¬(sIx items.size 0 lo=0/\sIx items.size items.size hi=items.size))
  (h:Q (.ref s.heap.objs.size) {s with heap:=s.heap.push {cls:= .type "tuple",data:= .seq ((items.toList.drop (sIx items.size 0 lo)).take (sIx items.size items.size hi - sIx items.size 0 lo)).toArray}})
  (hsz:items.size<=sizeLine):wpAny (model prog w) A (getItem (.ref t) (.ref sl)) Q E s:=by
 have htake:sizeOk (.seq ((items.toList.drop (sIx items.size 0 lo)).take (sIx items.size items.size hi - sIx items.size 0 lo)).toArray):=by
  show((items.toList.drop (sIx items.size 0 lo)).take (sIx items.size items.size hi - sIx items.size 0 lo)).toArray.size<=sizeLine
  rw[List.size_toArray,List.length_take,List.length_drop,Array.length_toList]
  lia
 have hj:sIx items.size items.size hi<=items.size:=Kk _ _ (Nat.le_refl _) hi;obtain⟨os,hos,hcs,hds⟩:=id hs;have hTs:s.TypeIs (.ref sl) "slice":=⟨os,hos,hcs⟩;unfold getItem
 try with_reducible refine wpAny_holding ?_
 first | refine wpAny_bind (wpAny_pure ?_) | skip
 refine wpAny_bind (wpAny_sequenceKey ht.typeIs (by decide) ?_)
 refine wpAny_bind (wpAny_callSpecial?_slot (name:=Str.ofString "__getitem__") ht.typeIs PyProof.Rows.slot_tuple_getitem
  (wpAny_call_entry PyProof.Rows.slot_tuple_getitem ht.typeIs entry_tuple_getitem ?_ (args_tuple_getitem _ _)))
 show wpAny _ _ (Builtin.Tuple.tupleItemsOf (.ref t) >>= _) _ _ s
 refine wpAny_bind (tupleItemsOf_ ht ?_)
 refine wpAny_bind (wpAny_typeOf hTs ?_)
 rw[if_pos (by decide)]
 refine wpAny_bind (sliceApplied_gen hs pl pu ?_)
 have hno:¬((((sIx items.size 0 lo:Nat):Int) == 0 && (1:Int) == 1 && (sIx items.size items.size hi - sIx items.size 0 lo) == items.size)=true):=by
  intro q;rw[Bool.and_eq_true,Bool.and_eq_true] at q;have q1:((sIx items.size 0 lo:Nat):Int)=0:=eq_of_beq q.1.1;have q2:sIx items.size items.size hi - sIx items.size 0 lo=items.size:=eq_of_beq q.2;exact hw ⟨by lia,by lia⟩
 show wpAny _ _ (if (((sIx items.size 0 lo:Nat):Int) == 0 && (1:Int) == 1 && (sIx items.size items.size hi - sIx items.size 0 lo) == items.size)=true then _ else _) _ _ s
 rw[if_neg hno,Hd]
 first
  | exact wpAny_bind (m:=Builtin.Tuple.tupleExact _) (wpAny_newObj_type (wpAny_pure ⟨_,rfl,wpAny_pure h⟩) htake)
  | exact wpAny_bind (m:=Builtin.Tuple.tupleExact _) (wpAny_newObj_type (wpAny_bind (wpAny_pure (wpAny_pure ⟨_,rfl,wpAny_pure h⟩))) htake)
  | exact wpAny_bind (wpAny_bind (m:=Builtin.Tuple.tupleExact _) (wpAny_newObj_type (wpAny_pure (wpAny_pure ⟨_,rfl,wpAny_pure h⟩)) htake))
  | exact wpAny_bind (wpAny_bind (m:=Builtin.Tuple.tupleExact _) (wpAny_newObj_type (wpAny_pure ⟨_,rfl,wpAny_pure h⟩) htake))
end
end HT
namespace L2
open PySem PySem.Spec PyProof.Rows
abbrev TO:=St->Hp->(Option Int->Hp->Prop)->Prop
def PO (X:Cx) (e:Option Expr) (t:TO):Prop:=
 ∀(pins:List (Addr × Obj)) (s:Shared) (Z:St) (H:Hp) (Q:Option Int->Hp->Prop),Inv X pins Z H s->t Z H Q->
  wpAny (model X.prog X.w) X.A (evalPart e X.env) (fun u s'=>∃o H',Inv X pins Z H' s'/\IsPart u o/\Q o H') X.xe s
def HX:TO:=fun _ H Q=>Q none H
def K2 (t:TE):TO:=fun Z H Q=>t Z H fun x H1=>∃i,x= .int i/\Q (some i) H1
theorem gS {ns:List Int}:∀ {us:List Value},aW (ns.map V.int) us->IntsAre us ns:=by
 induction ns with
 | nil=>intro us r;rw[List.map_nil] at r;cases r;exact .nil
 | cons n ns ih=>
  intro us r;rw[List.map_cons] at r
  cases r with
  | cons r1 r2=>
   obtain⟨t,e⟩:=r1;subst e;exact .cons n t (ih r2)
section
variable {X : Cx} {e : Expr} {te : TE} {lo hi : Option Expr} {tl th : TO} {pos p2 : Pos}
theorem eB:PO X none HX:=by
 intro pins s Z H Q I h;rw[evalPart_none];exact wpAny_pure ⟨none,H,I,.none,h⟩
theorem eC (h:PE X e te):PO X (some e) (K2 te):=by
 intro pins s Z H Q I hw;rw[evalPart_some];refine dg (h pins s Z H _ I hw) fun u s1 x H1 I1 r1 q1=> ?_
 obtain⟨i,rfl,q⟩:=q1;obtain⟨t,rfl⟩:=r1;exact⟨some i,H1,I1,.int i t,q⟩
def SlR (X:Cx) (r:V->Option Int->Option Int->Hp->VK->Prop):Prop:=
 ∀(pins:List (Addr × Obj)) (s:Shared) (Z:St) (H:Hp) (x:V) (v vl vu:Value) (lo hi:Option Int) (sl:Addr) (Q:VK),Inv X pins Z H s->bj x v->s.heap.IsSliceOf sl vl vu .none->IsPart vl lo->IsPart vu hi->r x lo hi H Q->
  ∃T id,typeLookup (.type T) "__getitem__"=pure (some (.builtin id))/\s.TypeIs v T/\wpAny (model X.prog X.w) X.A (getItem v (.ref sl)) (EP X pins Z Q) X.xe s
def tSl (r:V->Option Int->Option Int->Hp->VK->Prop) (te:TE) (tl th:TO):TE:=fun Z H Q=>te Z H fun x H1=>tl Z H1 fun l H2=>th Z H2 fun u H3=>r x l u H3 Q
theorem c_ {r:V->Option Int->Option Int->Hp->VK->Prop}(hr:SlR X r) (he:PE X e te) (hl:PO X lo tl) (hu:PO X hi th):PE X (.Subscript e (.Slice lo hi none p2) pos) (tSl r te tl th):=by
 intro pins s Z H Q I h;refine Subscript_ (dg (he pins s Z H _ I h) fun v s1 x H1 I1 r1 q1=> ?_)
 refine wpAny_Slice (dg (hl pins s1 Z H1 _ I1 q1) fun vl s2 l H2 I2 pl q2=>dg (hu pins s2 Z H2 _ I2 q2) fun vu s3 u H3 I3 pu q3=> ?_)
 rw[evalPart_none];refine wpAny_pure ?_
 have I4:Inv X pins Z H3 {s3 with heap:=s3.heap.push {cls:= .type "slice",data:= .fields #[vl,vu,.none]}}:=I3.kept (t':=s3.toks) fun b ob q=>Heap.get?_push_of_some _ q
 obtain⟨T,id,hT,ht,hg⟩:=hr pins {s3 with heap:=s3.heap.push {cls:= .type "slice",data:= .fields #[vl,vu,.none]}} Z H3 x v vl vu l u s3.heap.objs.size Q I4 r1 (Heap.IsSliceOf.new ..) pl pu q3
 show wpAny (model X.prog X.w) X.A (subscriptTail e (.Slice lo hi none p2) v (.ref s3.heap.objs.size)) (EP X pins Z Q) X.xe {s3 with heap:=s3.heap.push {cls:= .type "slice",data:= .fields #[vl,vu,.none]}}
 exact tail_any (ops:=[.ref s3.heap.objs.size,v]) ht hT hg (by with_unfolding_all rfl)
def fe (xs:List V) (lo hi:Option Int):List V:=(xs.drop (HT.sIx xs.length 0 lo)).take (HT.sIx xs.length xs.length hi - HT.sIx xs.length 0 lo)
theorem tN (xs:List V) (lo hi:Option Int):(fe xs lo hi).length<=xs.length:=by
 unfold fe;rw[List.length_take,List.length_drop]
 lia
def Lw (K:Frag):V->Option Int->Option Int->Hp->VK->Prop:=fun x lo hi H Q=>∃a xs,x= .ref a/\SqT K H a xs/\
 ¬(HT.sIx xs.length 0 lo=0/\HT.sIx xs.length xs.length hi=xs.length)/\∀p,H p=none->Q (.ref p) (upd H p (.tup (fe xs lo hi)))
theorem kc:SlR X (Lw X.K):=by
 intro pins s Z H x v vl vu lo hi sl Q I rx hs pl pu h;obtain⟨a,xs,rfl,hx,hw,q⟩:=h
 cases rx
 obtain⟨its,r,ht,hz⟩:=I.tuple hx;have hlen:its.toArray.size=xs.length:=by rw[List.size_toArray];exact r.length.symm
 refine⟨"tuple",_,PyProof.Rows.slot_tuple_getitem.lookup,ht.typeIs,?_⟩
 refine HT.getItem_tuple_cut ht hs pl pu (by rw[hlen];exact hw) ?_ (by rw[hlen];exact hz)
 rw[hlen];refine⟨.ref s.heap.objs.size,_,I.laid (t':=s.toks) (o:= .tup (fe xs lo hi)) (fun b ob q=>Heap.get?_push_of_some _ q) (Nat.le_refl _) ?_,rfl,q _ (I.hok.fresh (Nat.le_refl _))⟩
 exact⟨Nat.le_trans (tN xs lo hi) hz,_,(r.drop (HT.sIx xs.length 0 lo)).take (HT.sIx xs.length xs.length hi - HT.sIx xs.length 0 lo),IsTup.new _ _⟩
def LD (K:Frag):R2:=fun x y H Q=>∃a b xs ys,x= .ref a/\y= .ref b/\SqT K H a xs/\SqT K H b ys/\xs≠[]/\xs.length+ys.length<=sizeLine/\
 (ys=[]->Q (.ref a) H)/\(ys≠[]->∀p,H p=none->Q (.ref p) (upd H p (.tup (xs++ys))))
theorem aW.nil_iff {xs:List V}{us:List Value}(r:aW xs us):us=[]↔xs=[]:=by
 cases r with
 | nil=>simp
 | cons _ _=>simp
theorem DY:OpR X (binaryOp .Add) (LD X.K):=by
 intro pins s Z H x y v u Q I rx ry h;obtain⟨a,b,xs,ys,rfl,rfl,ha,hb,hx,hz,q1,q2⟩:=h
 cases rx
 cases ry
 obtain⟨its,r1,p1,_⟩:=I.tuple ha;obtain⟨its2,r2,p2,_⟩:=I.tuple hb;refine HT.cat_tup p1 p2 (fun z=>hx (r1.nil_iff.mp z)) (fun z=>⟨.ref a,H,I,rfl,q1 (r2.nil_iff.mp z)⟩) (fun z=> ?_) (by rw[<- r1.length, <-r2.length];exact hz)
 refine⟨.ref s.heap.objs.size,_,I.laid (t':=s.toks) (o:= .tup (xs++ys)) (fun b ob q=>Heap.get?_push_of_some _ q) (Nat.le_refl _) ?_,rfl,q2 (fun w=>z (r2.nil_iff.mpr w)) _ (I.hok.fresh (Nat.le_refl _))⟩
 exact⟨by rw[List.length_append];exact hz,_,r1.append r2,IsTup.new _ _⟩
end
def ixN (n:Nat) (i:Int):Option Nat:=if 0<=i then(if i < n then some i.toNat else none) else if -(n:Int)<=i then some (i+n).toNat else none
def atI {α:Type}(xs:List α) (i:Int):Option α:=(ixN xs.length i).bind fun j=>xs[j]?
theorem DG {n:Nat}{i:Int}{j:Nat}(h:ixN n i=some j):seqIndex? i n=some j/\j < n/\ -(n:Int)<=i/\i < n:=by
 unfold ixN at h
 by_cases h0:0<=i
 .rw[if_pos h0] at h
  by_cases h1:i < n
  .rw[if_pos h1] at h;have e:i.toNat=j:=Option.some.inj h;exact⟨by rw[seqIndex_of h0 h1,e],by lia,by lia,h1⟩
  .rw[if_neg h1] at h;cases h
 .rw[if_neg h0] at h
  by_cases h1: -(n:Int)<=i
  .rw[if_pos h1] at h;have e:(i+n).toNat=j:=Option.some.inj h;exact⟨by rw[seqIndex_neg (by lia) h1,e],by lia,h1,by lia⟩
  .rw[if_neg h1] at h;cases h
theorem EA {α:Type}{xs:List α}{i:Int}{v:α}(h:atI xs i=some v):∃j,seqIndex? i xs.length=some j/\xs[j]? =some v/\j < xs.length/\ -(xs.length:Int)<=i/\i < xs.length:=by
 unfold atI at h
 cases e:ixN xs.length i with
 | none=>rw[e] at h;cases h
 | some j=>
  rw[e] at h;obtain⟨h1,h2,h3,h4⟩:=DG e;exact⟨j,h1,h,h2,h3,h4⟩
theorem aJ {α:Type}{xs:List α}{j:Nat}{v:α}(h:xs[j]? =some v):atI xs (j:Int)=some v:=by
 have hj:j < xs.length:=(List.getElem?_eq_some_iff.mp h).1;have e:ixN xs.length (j:Int)=some j:=by
  unfold ixN;rw[if_pos (by lia),if_pos (by lia)];simp
 unfold atI;rw[e];exact h
def D7 (b:Expr):Prop:=∀o i,subscripted b false o i=operate [o,i] (getItem o i)
def IxR (X:Cx) (r:R2):Prop:=
 ∀(value slice:Expr) (pins:List (Addr × Obj)) (s:Shared) (Z:St) (H:Hp) (x y:V) (v u:Value) (Q:VK),Inv X pins Z H s->bj x v->bj y u->r x y H Q->
  subscripted slice false v u=operate [v,u] (getItem v u)->wpAny (model X.prog X.w) X.A (subscriptTail value slice v u) (EP X pins Z Q) X.xe s
def MtR (X:Cx) (id:String) (r:V->List V->Hp->VK->Prop):Prop:=
 ∀(pins:List (Addr × Obj)) (s:Shared) (Z:St) (H:Hp) (x:V) (xs:List V) (v:Value) (us:List Value) (Q:VK),Inv X pins Z H s->bj x v->aW xs us->r x xs H Q->
  wpAny (model X.prog X.w) X.A (call (.builtin id) (v::us)) (EP X pins Z Q) X.xe s
section
variable {X : Cx} {a b : Expr} {ta tb : TE} {pos : Pos}
theorem FR {r:R2}(hr:IxR X r) (ha:PE X a ta) (hb:PE X b tb) (hs:D7 b):PE X (.Subscript a b pos) (tOp r ta tb):=by
 intro pins s Z H Q I h;exact Subscript_ (Ke ha hb I h fun v u s2 x y H2 I2 rx ry q=>hr a b pins s2 Z H2 x y v u Q I2 rx ry q (hs _ _))
def LX (K:Frag):R2:=fun x y H Q=>∃p xs i v,x= .ref p/\y= .int i/\SqL K H p xs/\atI xs i=some v/\Q v H
def KR (K:Frag):R2:=fun x y H Q=>∃p xs i v,x= .ref p/\y= .int i/\SqT K H p xs/\atI xs i=some v/\Q v H
theorem bF:IxR X (LX X.K):=by
 intro value slice pins s Z H x y v u Q I rx ry h hs;obtain⟨p,xs,i,z,rfl,rfl,hq,he,q⟩:=h
 cases rx
 obtain⟨t,rfl⟩:=ry;obtain⟨its,r,pl,hz⟩:=I.list hq;obtain⟨j,h1,h2,h3,h4,h5⟩:=EA he;obtain⟨w,ew,rw'⟩:=r.get h2;have hl:=r.length;have hn:=wf;have fin:EP X pins Z Q w s:=⟨z,H,I,rw',q⟩
 by_cases h0:0<=i
 .have hj:i.toNat=j:=by
   rw[seqIndex_of h0 h5] at h1;exact Option.some.inj h1
  exact item_listR pl.isList h0 (by lia) (by rw[hj];simpa using ew) fin hs
 .have hj:(i+(its.toArray.size:Int)).toNat=j:=by
   rw[seqIndex_neg (by lia) h4] at h1
   rw[List.size_toArray, <-hl];exact Option.some.inj h1
  exact subscriptTail_builtinR (x:=w) pl.isList.typeIs slot_list_getitem.lookup
   (wpAny_getItem_list_neg (Q:=fun r s'=>r=w/\EP X pins Z Q r s') pl.isList (by lia) (by rw[List.size_toArray] <;> lia) (by lia) (by rw[hj];simpa using ew) ⟨rfl,fin⟩) hs
theorem ak:IxR X (KR X.K):=by
 intro value slice pins s Z H x y v u Q I rx ry h hs;obtain⟨p,xs,i,z,rfl,rfl,hq,he,q⟩:=h
 cases rx
 obtain⟨t,rfl⟩:=ry;obtain⟨its,r,pl,hz⟩:=I.tuple hq;obtain⟨j,h1,h2,h3,h4,h5⟩:=EA he;obtain⟨w,ew,rw'⟩:=r.get h2;have hl:=r.length;have hn:=wf;have fin:EP X pins Z Q w s:=⟨z,H,I,rw',q⟩;exact subscriptTail_builtinR (x:=w) pl.typeIs slot_tuple_getitem.lookup
  (getItem_tuple (j:=j) (Q:=fun r s'=>r=w/\EP X pins Z Q r s') pl (by lia) (by lia) (by rw[List.size_toArray, <-hl];exact h1) (by simpa using ew) ⟨rfl,fin⟩) hs
theorem C1 (its:List Value) (n j:Nat) (u:Value):Obj.mapSeq (·.setIfInBounds j u) {cls:= .type "list",data:= .seq its.toArray n}={cls:= .type "list",data:= .seq (its.set j u).toArray n}:=by
 simp [Obj.mapSeq]
theorem Inv.lst {pins:List (Addr × Obj)}{Z:St}{H:Hp}{s:Shared}{p:Addr}{xs:List V}(I:Inv X pins Z H s) (h:H p=some (.lst xs)):
  ∃(its:List Value) (n:Nat),aW xs its/\s.heap.get? p=some {cls:= .type "list",data:= .seq its.toArray n}/\xs.length<=sizeLine:=by
 obtain⟨z,its,n,r,e⟩:=I.hok p _ h;exact⟨its,n,r,e,z⟩
theorem Inv.lstUpd {pins:List (Addr × Obj)}{Z:St}{H:Hp}{s:Shared}{p:Addr}{xs ys:List V}{its its':List Value}{n n':Nat}{f:Obj->Obj}(I:Inv X pins Z H s) (h:H p=some (.lst xs))
  (ho:s.heap.get? p=some {cls:= .type "list",data:= .seq its.toArray n}) (hf:f {cls:= .type "list",data:= .seq its.toArray n}={cls:= .type "list",data:= .seq its'.toArray n'}) (r:aW ys its') (hz:ys.length<=sizeLine) (t:Nat):
  Inv X pins Z (upd H p (.lst ys)) {s with heap:=s.heap.update p f,toks:=t}:=by
 have e:(s.heap.update p f).get? p=some {cls:= .type "list",data:= .seq its'.toArray n'}:=by
  rw[Heap.get?_update_self f ho (by rw[hf] <;> rfl),hf]
 refine I.write (x:=p) (e:=p) (by rw[h];trivial) (.inl rfl) (fun b u hb q=>(Heap.get?_update_other _ _ (Ne.symm hb)).trans q) ⟨_,e⟩ ?_
 exact⟨hz,its',n',r,e⟩
def K1:V->V->V->Hp->(Hp->Prop)->Prop:=fun o i v H Q=>∃p xs k j,o= .ref p/\i= .int k/\H p=some (.lst xs)/\ixN xs.length k=some j/\Q (upd H p (.lst (xs.set j v)))
theorem oR:Lc X K1:=by
 intro pins s Z H o i v ov iv u Q I ro ri rv h;obtain⟨p,xs,k,j,rfl,rfl,hp,hj,q⟩:=h
 cases ro
 obtain⟨t,rfl⟩:=ri;obtain⟨its,n,r,ho,hz⟩:=I.lst hp;obtain⟨h1,h2,h3,h4⟩:=DG hj;have hl:=r.length;have hn:=wf;have I':Inv X pins Z (upd H p (.lst (xs.set j v))) {s with heap:=s.heap.update p (Obj.mapSeq (·.setIfInBounds j u))}:=
  I.lstUpd hp ho (C1 its n j u) (r.set rv j) (by rw[List.length_set];exact hz) s.toks
 by_cases h0:0<=k
 .have hk:k.toNat=j:=by
   rw[seqIndex_of h0 h4] at h1;exact Option.some.inj h1
  exact W.ki_setAt ho h0 (by lia) (by rw[List.size_toArray, <-hl];exact h4) (by rw[hk];exact⟨_,I',q⟩)
 .have hk:(k+(its.toArray.size:Int)).toNat=j:=by
   rw[seqIndex_neg (by lia) h3] at h1
   rw[List.size_toArray, <-hl];exact Option.some.inj h1
  exact W.ki_setBack ho (by lia) (by rw[List.size_toArray, <-hl];exact h3) (by lia) (by rw[hk];exact⟨_,I',q⟩)
theorem yL (lo hi:Option Int) (n:Nat):(sliceBounds lo hi none n).1=((HT.sIx n 0 lo:Nat):Int)/\(sliceBounds lo hi none n).2.1=((HT.sIx n n hi:Nat):Int)/\(sliceBounds lo hi none n).2.2=1:=by
 refine⟨?_,?_,rfl⟩
 .cases lo with
  | none=>simp [sliceBounds,HT.sIx]
  | some i=>
   simp only[sliceBounds,HT.sIx,Option.getD_none,show(1:Int) >0 by decide,if_true]
   by_cases h:i < 0
   .simp only[h,if_true] <;> lia
   .simp only[h,if_false] <;> lia
 .cases hi with
  | none=>simp [sliceBounds,HT.sIx]
  | some i=>
   simp only[sliceBounds,HT.sIx,Option.getD_none,show(1:Int) >0 by decide,if_true]
   by_cases h:i < 0
   .simp only[h,if_true] <;> lia
   .simp only[h,if_false] <;> lia
theorem xz (its:List Value) (lo hi:Option Int):slicePick its.toArray lo hi none=((its.drop (HT.sIx its.length 0 lo)).take (HT.sIx its.length its.length hi - HT.sIx its.length 0 lo)).toArray:=by
 obtain⟨h1,h2,h3⟩:=yL lo hi its.toArray.size;unfold slicePick;rw[h1,h2,h3]
 simp only[sliceRange_one,pick_run,List.size_toArray] <;> rfl
def Mr (K:Frag):V->Option Int->Option Int->Hp->VK->Prop:=fun x lo hi H Q=>∃a xs,x= .ref a/\SqL K H a xs/\∀p,H p=none->Q (.ref p) (upd H p (.lst (fe xs lo hi)))
theorem zD:SlR X (Mr X.K):=by
 intro pins s Z H x v vl vu lo hi sl Q I rx hs pl pu h;obtain⟨a,xs,rfl,hx,q⟩:=h
 cases rx
 obtain⟨its,r,ht,hz⟩:=I.list hx;have hlen:=r.length;refine⟨"list",_,slot_list_getitem.lookup,ht.isList.typeIs,?_⟩
 refine wpAny_getItem_list_slice ht.isList hs pl pu .none (by simp) ?_ (by rw[List.size_toArray] <;> lia)
 rw[xz, <-hlen];refine⟨.ref s.heap.objs.size,_,I.laid (t':=s.toks) (o:= .lst (fe xs lo hi)) (fun b ob q=>Heap.get?_push_of_some _ q) (Nat.le_refl _) ?_,rfl,q _ (I.hok.fresh (Nat.le_refl _))⟩
 exact⟨Nat.le_trans (tN xs lo hi) hz,_,0,(r.drop (HT.sIx xs.length 0 lo)).take (HT.sIx xs.length xs.length hi - HT.sIx xs.length 0 lo),Heap.get?_push_size _ rfl⟩
def mH:V->Bool
 | .non=>true
 | .bl _=>true
 | .int _=>true
 | .str _=>true
 | _=>false
def eqV:V->V->Bool
 | .non,.non=>true
 | .bl a,.bl b=>a == b
 | .bl a,.int b=>(if a then 1 else 0) == b
 | .int a,.bl b=>a == (if b then 1 else 0)
 | .int a,.int b=>a == b
 | .str a,.str b=>a == b
 | _,_=>false
theorem JZ {A:Around}{s:Shared}{y x:V}{u v:Value}(ry:bj y u) (rx:bj x v) (fy:mH y=true) (fx:mH x=true):SeqAt.EqAt A s u v (eqV y x):=by
 cases y with
 | non=>
  cases ry
  cases x with
  | non=>cases rx;exact SeqAt.EqAt.same _
  | bl b=>cases rx;exact SeqAt.EqAt.none_bool b
  | int b=>obtain⟨t,rfl⟩:=rx;exact SeqAt.EqAt.none_int b t
  | str b=>obtain⟨t,rfl⟩:=rx;exact SeqAt.EqAt.none_str b t
  | _=>exact absurd (show false=true from fx) Bool.false_ne_true
 | bl a=>
  cases ry
  cases x with
  | non=>cases rx;exact SeqAt.EqAt.bool_none a
  | bl b=>cases rx;exact SeqAt.EqAt.bool_bool a b
  | int b=>obtain⟨t,rfl⟩:=rx;exact SeqAt.EqAt.bool_int a b t
  | str b=>obtain⟨t,rfl⟩:=rx;exact SeqAt.EqAt.bool_str a b t
  | _=>exact absurd (show false=true from fx) Bool.false_ne_true
 | int a=>
  obtain⟨t',rfl⟩:=ry
  cases x with
  | non=>cases rx;exact SeqAt.EqAt.int_none a t'
  | bl b=>cases rx;exact SeqAt.EqAt.int_bool a t' b
  | int b=>obtain⟨t,rfl⟩:=rx;exact SeqAt.EqAt.int_int a t' b t
  | str b=>obtain⟨t,rfl⟩:=rx;exact SeqAt.EqAt.int_str a t' b t
  | _=>exact absurd (show false=true from fx) Bool.false_ne_true
 | str a=>
  obtain⟨t',rfl⟩:=ry
  cases x with
  | non=>cases rx;exact SeqAt.EqAt.str_none a t'
  | bl b=>cases rx;exact SeqAt.EqAt.str_bool a t' b
  | int b=>obtain⟨t,rfl⟩:=rx;exact SeqAt.EqAt.str_int a t' b t
  | str b=>obtain⟨t,rfl⟩:=rx;exact SeqAt.EqAt.str_str a t' b t
  | _=>exact absurd (show false=true from fx) Bool.false_ne_true
 | _=>exact absurd (show false=true from fy) Bool.false_ne_true
def eqU (x:V) (u:Value):Bool:=match u with
 | .none=>eqV .non x
 | .bool b=>eqV (.bl b) x
 | .int i _=>eqV (.int i) x
 | .str z _=>eqV (.str z) x
 | _=>false
theorem zU {x y:V}{u:Value}(r:bj y u) (f:mH y=true):eqU x u=eqV y x:=by
 cases y with
 | non=>cases r;rfl
 | bl b=>cases r;rfl
 | int i=>obtain⟨t,rfl⟩:=r;rfl
 | str z=>obtain⟨t,rfl⟩:=r;rfl
 | _=>exact absurd (show false=true from f) Bool.false_ne_true
theorem qL {x:V}:∀ {xs:List V}{us:List Value},aW xs us->xs.all mH=true->us.any (eqU x)=xs.any fun y=>eqV y x
 | _,_,.nil,_=>rfl
 | y::xs,u::us,.cons r t,f=>by
  rw[List.all_cons,Bool.and_eq_true] at f;rw[List.any_cons,List.any_cons,zU r f.1,qL t f.2]
theorem kD {A:Around}{s:Shared}{x:V}{v:Value}(rx:bj x v) (fx:mH x=true):∀ {xs:List V}{us:List Value},aW xs us->xs.all mH=true->∀u∈us,SeqAt.EqAt A s u v (eqU x u)
 | _,_,.nil,_=>fun u hu=>by cases hu
 | y::xs,u::us,.cons r t,f=>fun u' hu=>by
  rw[List.all_cons,Bool.and_eq_true] at f;rcases List.mem_cons.mp hu with rfl | hu
  .rw[zU r f.1];exact JZ r rx f.1 fx
  .exact kD rx fx t f.2 u' hu
def inV (x:V) (xs:List V):Bool:=xs.any fun y=>eqV y x
def rIn (K:Frag) (neg:Bool):R2:=fun x y H Q=>∃p xs,y= .ref p/\(SqL K H p xs\/SqT K H p xs)/\mH x=true/\xs.all mH=true/\Q (.bl (if neg then !inV x xs else inV x xs)) H
theorem xV:OpR X (compareOp .In) (rIn X.K false):=by
 intro pins s Z H x y v u Q I rx ry h;obtain⟨p,xs,rfl,hq,fx,fs,q⟩:=h
 cases ry
 rcases hq with hq | hq
 .obtain⟨its,r,pl,hz⟩:=I.list hq;refine SeqAt.in_listAt (eqU x) pl.isList (fun w hw=>kD rx fx r fs w (by simpa using hw)) ⟨.bl _,H,I,rfl,?_⟩
  rw[show its.toArray.any (eqU x)=its.any (eqU x) by simp,qL r fs]
  exact q
 .obtain⟨its,r,pl,hz⟩:=I.tuple hq;refine SeqAt.in_tupleAt (eqU x) pl (fun w hw=>kD rx fx r fs w (by simpa using hw)) ⟨.bl _,H,I,rfl,?_⟩
  rw[show its.toArray.any (eqU x)=its.any (eqU x) by simp,qL r fs]
  exact q
theorem Af:OpR X (compareOp .NotIn) (rIn X.K true):=by
 intro pins s Z H x y v u Q I rx ry h;obtain⟨p,xs,rfl,hq,fx,fs,q⟩:=h
 cases ry
 rcases hq with hq | hq
 .obtain⟨its,r,pl,hz⟩:=I.list hq;refine SeqAt.notIn_listAt (eqU x) pl.isList (fun w hw=>kD rx fx r fs w (by simpa using hw)) ⟨.bl _,H,I,rfl,?_⟩
  rw[show its.toArray.any (eqU x)=its.any (eqU x) by simp,qL r fs]
  exact q
 .obtain⟨its,r,pl,hz⟩:=I.tuple hq;refine SeqAt.notIn_tupleAt (eqU x) pl (fun w hw=>kD rx fx r fs w (by simpa using hw)) ⟨.bl _,H,I,rfl,?_⟩
  rw[show its.toArray.any (eqU x)=its.any (eqU x) by simp,qL r fs]
  exact q
theorem aM:jh X (.builtin "len") (fun xs H Q=>∃p ys,xs=[.ref p]/\(SqL X.K H p ys\/SqT X.K H p ys)/\Q (.int ys.length) H):=by
 intro pins s Z H xs us Q I r h;obtain⟨p,ys,rfl,hq,q⟩:=h;obtain⟨u,rfl,rx⟩:=om r
 cases rx
 have hn:=wf;rcases hq with hq | hq
 .obtain⟨its,r',pl,hz⟩:=I.list hq;have hlen:=r'.length;exact Calls.call_len_list pl.isList (by simp only[List.size_toArray] <;> lia) ⟨.int ys.length,H,I.tok _,⟨s.toks+1,by rw[List.size_toArray,hlen]⟩,q⟩
 .obtain⟨its,r',pl,hz⟩:=I.tuple hq;have hlen:=r'.length;exact len_tuple pl (by simp only[List.size_toArray] <;> lia) ⟨.int ys.length,H,I.tok _,⟨s.toks+1,by rw[List.size_toArray,hlen]⟩,q⟩
theorem ln:jh X (.type "list") (fun xs H Q=>∃p ys,xs=[.ref p]/\(SqL X.K H p ys\/SqT X.K H p ys)/\∀l,H l=none->Q (.ref l) (upd H l (.lst ys))):=by
 intro pins s Z H xs us Q I r h;obtain⟨p,ys,rfl,hq,q⟩:=h;obtain⟨u,rfl,rx⟩:=om r
 cases rx
 have fin:∀(its:List Value),aW ys its->ys.length<=sizeLine->∀(h':Heap) (c':Nat),(∀ b o',s.heap.get? b=some o'->h'.get? b=some o')->
   h'.get? s.heap.objs.size=some {cls:= .type "list",dict:=none,data:= .seq its.toArray c',slots:= #[]}->EP X pins Z Q (.ref s.heap.objs.size) {s with heap:=h'}:=fun its r' hz h' c' kp e=>
  ⟨.ref s.heap.objs.size,_,I.laid (t':=s.toks) kp (Nat.le_refl _) (show cn X.prog X.w _ h' _ (.lst ys) from⟨hz,its,c',r',e⟩),rfl,q _ (I.hok.fresh (Nat.le_refl _))⟩
 rcases hq with hq | hq
 .obtain⟨its,r',pl,hz⟩:=I.list hq;have hlen:=r'.length;obtain⟨o,ho,hc,n,hd⟩:=pl.isList;exact call_list_seq p (.inl rfl) ho hc hd (fun h' c' kp e=>fin its r' hz h' c' kp e) (by simp only[List.size_toArray] <;> lia)
 .obtain⟨its,r',pl,hz⟩:=I.tuple hq;have hlen:=r'.length;obtain⟨o,ho,hc,n,hd⟩:=pl;exact call_list_seq p (.inr rfl) ho hc hd (fun h' c' kp e=>fin its r' hz h' c' kp e) (by simp only[List.size_toArray] <;> lia)
theorem hU:jh X (.type "tuple") (fun xs H Q=>∃p ys,xs=[.ref p]/\((SqL X.K H p ys/\∀l,H l=none->Q (.ref l) (upd H l (.tup ys)))\/(SqT X.K H p ys/\Q (.ref p) H))):=by
 intro pins s Z H xs us Q I r h;obtain⟨p,ys,rfl,h⟩:=h;obtain⟨u,rfl,rx⟩:=om r
 cases rx
 rcases h with⟨hq,q⟩|⟨hq,q⟩
 .obtain⟨its,r',pl,hz⟩:=I.list hq;have hlen:=r'.length;refine call_tuple_list pl.isList (fun h' kp=> ?_) (by simp only[List.size_toArray] <;> lia)
  have I1:Inv X pins Z H {s with heap:=h'}:=I.kept (t':=s.toks) kp
  have I2:Inv X pins Z (upd H h'.objs.size (.tup ys)) {s with heap:=h'.push {cls:= .type "tuple",data:= .seq its.toArray}}:=
   I1.laid (t':=s.toks) (fun b o e=>Heap.get?_push_of_some _ e) (Nat.le_refl _) (show cn X.prog X.w _ _ _ (.tup ys) from⟨hz,its,r',IsTup.new _ _⟩)
  exact⟨.ref h'.objs.size,_,I2,rfl,q _ (I1.hok.fresh (Nat.le_refl _))⟩
 .obtain⟨its,r',pl,hz⟩:=I.tuple hq;exact call_tuple_same pl ⟨.ref p,H,I,rfl,q⟩
def tyV (K:Frag) (T:String) (x:V) (H:Hp):Prop:=match x with
 | .str _=>T="str"
 | .int _=>T="int"
 | .ref p=>(T="list"/\∃xs,SqL K H p xs)\/(T="tuple"/\∃o,K.lookup p=some o/\o.cls= .type "tuple"/\o.dict=none)\/
   (T="dict"/\((∃ kvs,H p=some (.dK kvs))\/∃kvs,H p=some (.dT kvs)))\/(T="set"/\∃S n,H p=some (.set S n))
 | _=>False
theorem KF {pins:List (Addr × Obj)}{Z:St}{H:Hp}{s:Shared}{T:String}{x:V}{v:Value}(I:Inv X pins Z H s) (r:bj x v) (ty:tyV X.K T x H):
  s.TypeIs v T/\∀a,v= .ref a->∃ob,s.heap.get? a=some ob/\ob.dict=none:=by
 cases x with
 | str z=>
  obtain⟨t,rfl⟩:=r
  cases(show T="str" from ty)
  exact⟨typeIs_str s z t,fun _ e=>nomatch e⟩
 | int i=>
  obtain⟨t,rfl⟩:=r
  cases(show T="int" from ty)
  exact⟨typeIs_int s i t,fun _ e=>nomatch e⟩
 | ref p=>
  cases r
  rcases ty with⟨rfl,xs,hq⟩|⟨rfl,o,hk,hc,hd⟩|⟨rfl,hk⟩|⟨rfl,S,n,hk⟩
  .obtain⟨its,_,pl,_⟩:=I.list hq;refine⟨pl.isList.typeIs,fun a e=> ?_⟩
   cases e
   obtain⟨o,n,e,c,hd,_⟩:=pl;exact⟨o,e,hd⟩
  .refine⟨⟨o,I.kIn p o hk,hc⟩,fun a e=> ?_⟩
   cases e
   exact⟨o,I.kIn _ o hk,hd⟩
  .have z:∃o,s.heap.get? p=some o/\o.ExactDict:=by
    rcases hk with⟨kvs,hk⟩|⟨kvs,hk⟩
    .obtain⟨_,_,_,_,o,_,_,e,ex,_⟩:=I.hok p _ hk;exact⟨o,e,ex⟩
    .obtain⟨_,_,_,_,o,_,_,e,ex,_⟩:=I.hok p _ hk;exact⟨o,e,ex⟩
   obtain⟨o,e,ex⟩:=z;refine⟨⟨o,e,ex.1⟩,fun a e2=> ?_⟩
   cases e2
   exact⟨o,e,ex.2.1⟩
  .obtain⟨o,_,_,_,e,ex,_⟩:=I.hok p _ hk;refine⟨⟨o,e,ex.1⟩,fun a e2=> ?_⟩
   cases e2
   exact⟨o,e,ex.2.1⟩
 | _=>exact False.elim ty
def tBM (K:Frag) (T:String) (r:V->List V->Hp->VK->Prop) (to:TE) (t:TA):TE:=fun Z H Q=>to Z H fun x H1=>tyV K T x H1/\t Z H1 fun xs H2=>r x xs H2 Q
variable {o e : Expr} {es : List Expr} {to : TE} {t : TA} {name : Str} {apos cpos : Pos} {T id : String} {r : V → List V → Hp → VK → Prop}
theorem nS (pa:PlainAttrs T) (slot:Slot T name id) (hty:typeOf (.builtin id)=pure (.type "method_descriptor")) (hm:MtR X id r) (ho:PE X o to) (ha:PA X (e::es) t)
  (hbase:attributeBase o name X.env (eval o X.env)=eval o X.env:=by rfl)
  (hfew:((backTo cpos (starEach (e::es) X.env)).all (fun x=> !x.1) && (backToKw cpos (keywordEach [] X.env)).all (fun x=>x.1.isSome)
   && decide ((e::es).length+([]:List Keyword).length+(if ([]:List Keyword).isEmpty then 0 else 1) < 30))=true:=by rfl)
  (hline:(apos.endLine == cpos.line)=true:=by rfl) (hs:starEach (e::es) X.env=(false,eval e X.env)::starEach es X.env:=by rfl) (hplain:(backTo cpos (starEach es X.env)).any (·.1)=false:=by rfl):
  PE X (.Call (.Attribute o name apos) (e::es) [] cpos) (tBM X.K T r to t):=by
 intro pins s Z H Q I h;refine wpAny_Call_method_late hbase hfew hline rfl (thn (ho pins s Z H _ I h) fun v s1 ⟨x,H1,I1,r1,ty,q1⟩=> ?_)
 obtain⟨h1,h2⟩:=KF I1 r1 ty;refine⟨T,id,pa,slot,hty,h1,h2,?_⟩
 have hA:=ha cpos pins s1 Z H1 _ I1 q1;rw[hs] at hA ⊢;refine Calls.callWith_builtin (by show(false || (backTo cpos (starEach es X.env)).any (·.1))=false;rw[hplain] <;> rfl) (Calls.evalArgs_plain ?_)
 exact thn hA fun us s2 ⟨vs,H2,I2,r2,q2⟩=>hm pins s2 Z H2 x vs v us Q I2 r1 r2 q2
end
def MtM (X:Cx) (id:String) (r:V->List V->Hp->VK->Prop):Prop:=
 ∀(pins:List (Addr × Obj)) (s:Shared) (Z:St) (H:Hp) (x:V) (xs:List V) (v:Value) (us:List Value) (Q:VK),Inv X pins Z H s->bj x v->aW xs us->r x xs H Q->
  wpAny (model X.prog X.w) X.A (call (.builtin id) (v::us)) (EP X pins Z Q) X.xe s
theorem aW.one:∀ {x:V}{us:List Value},aW [x] us->∃u,us=[u]/\bj x u
 | _,_,.cons r .nil=>⟨_,rfl,r⟩
theorem aW.rep {xs:List V}{us:List Value}(h:aW xs us):∀k:Nat,aW (List.replicate k xs).flatten (List.replicate k us).flatten
 | 0=> .nil
 | k+1=>by
  rw[List.replicate_succ,List.replicate_succ,List.flatten_cons,List.flatten_cons];exact aW.append h (aW.rep h k)
theorem yw (its:List Value):∀(k:Nat) (acc:List Value),
  List.foldl (fun x1 x2=>x1++x2) acc.toArray (List.replicate k its.toArray)=(acc++(List.replicate k its).flatten).toArray
 | 0,acc=>by simp
 | k+1,acc=>by
  have e:acc.toArray++its.toArray=(acc++its).toArray:=by simp
  have e2:(acc++its)++(List.replicate k its).flatten=acc++(List.replicate (k+1) its).flatten:=by
   rw[List.replicate_succ,List.flatten_cons,List.append_assoc]
  rw[<- e2, <-yw its k (acc++its), <-e,List.replicate_succ,List.foldl_cons]
section
variable {X : Cx} {pins : List (Addr × Obj)} {σ : St} {H : Hp} {s : Shared} {l b : Addr} {xs ys zs : List V}
theorem Inv.lset {its its':List Value}{n:Nat}{f:Array Value->Array Value}{t':Nat}(I:Inv X pins Z H s) (hH:H l=some (.lst xs))
  (e:s.heap.get? l=some {cls:= .type "list",data:= .seq its.toArray n}) (hf:f its.toArray=its'.toArray) (hv:aW ys its') (hz:ys.length<=sizeLine):
  Inv X pins Z (upd H l (.lst ys)) {s with heap:=s.heap.update l (Obj.mapSeq f),toks:=t'}:=by
 have q:=PySem.IsL.update e f;rw[hf] at q;refine I.write (x:=l) (e:=l) (by rw[hH];exact trivial) (.inl rfl) (fun b' u hb hu=>(Heap.get?_update_other s.heap (Obj.mapSeq f) (Ne.symm hb)).trans hu) ⟨_,q⟩ ?_
 exact⟨hz,its',_,hv,q⟩
theorem Inv.lnew {its:List Value}{t':Nat}(I:Inv X pins Z H s) (hv:aW ys its) (hz:ys.length<=sizeLine):
  Inv X pins Z (upd H s.heap.objs.size (.lst ys)) {s with heap:=s.heap.push {cls:= .type "list",data:= .seq its.toArray},toks:=t'}:=
 I.laid (fun _ _ q=>Heap.get?_push_of_some _ q) (Nat.le_refl _) ⟨hz,its,0,hv,Heap.get?_push_size _ rfl⟩
theorem Inv.fresh (I:Inv X pins Z H s):H s.heap.objs.size=none:=I.hok.fresh (Nat.le_refl _)
theorem Inv.lstM (I:Inv X pins Z H s) (hH:H l=some (.lst xs)):xs.length<=sizeLine/\∃(its:List Value) (n:Nat),aW xs its/\xs.length=its.length/\s.heap.get? l=some {cls:= .type "list",data:= .seq its.toArray n}:=by
 obtain⟨z,its,n,r,e⟩:=I.hok l _ hH;exact⟨z,its,n,r,r.length,e⟩
theorem BX {n:Nat}(h:n<=sizeLine):Builtin.List.listTooLong n=false:=by
 unfold Builtin.List.listTooLong;exact decide_eq_false (by lia)
end
section
variable {X : Cx}
def Ht:V->List V->Hp->VK->Prop:=fun x vs H Q=>∃l xs y,x= .ref l/\vs=[y]/\H l=some (.lst xs)/\xs.length < sizeLine/\Q .non (upd H l (.lst (xs++[y])))
theorem gx:MtM X "list.append" Ht:=by
 intro pins s Z H x vs v us Q I rx rv h;obtain⟨l,xs,y,rfl,rfl,hH,hz,q⟩:=h
 cases rx
 obtain⟨u,rfl,ru⟩:=rv.one;obtain⟨z,its,n,r,hl,e⟩:=I.lstM hH;refine call_meets F.slot_list_append ⟨_,e,rfl⟩ F.entry_list_append (F.args_list_append_2 _ _) (PySem.list_append l its.toArray n u (by rw[List.size_toArray];lia)) ⟨e,?_⟩
 refine⟨.non,_,I.lset (its':=its++[u]) hH e (by simp) (r.append (.cons ru .nil)) ?_,rfl,q⟩
 rw[List.length_append,List.length_singleton]
 lia
def HW:V->List V->Hp->VK->Prop:=fun x vs H Q=>∃l b xs zs,x= .ref l/\vs=[.ref b]/\H l=some (.lst xs)/\H b=some (.lst zs)/\xs.length+zs.length<=sizeLine/\Q .non (upd H l (.lst (xs++zs)))
theorem sZ:MtM X "list.extend" HW:=by
 intro pins s Z H x vs v us Q I rx rv h;obtain⟨l,b,xs,zs,rfl,rfl,hH,hB,hz,q⟩:=h
 cases rx
 obtain⟨u,rfl,ru⟩:=rv.one
 cases ru
 obtain⟨z,its,n,r,hl,e⟩:=I.lstM hH;obtain⟨z2,its2,n2,r2,hl2,e2⟩:=I.lstM hB;have hsz:its.toArray.size+its2.toArray.size<=sizeLine:=by rw[List.size_toArray,List.size_toArray];lia
 have hlong:¬(!its.toArray.isEmpty && Builtin.List.listTooLong (its.toArray.size+its2.toArray.size))=true:=by
  rw[BX hsz,Bool.and_false];exact Bool.false_ne_true
 refine call_meets F.slot_list_extend ⟨_,e,rfl⟩ F.entry_list_extend (F.args_list_extend_2 _ _)
  (AutoSeq1.list_extend_list_list_0 l its.toArray n b its2.toArray n2 hlong (by rw[List.size_toArray];lia) (by lia)) ⟨e,e2,?_⟩
 refine⟨.non,_,I.lset (its':=its++its2) hH e (by simp) (r.append r2) ?_,rfl,q⟩
 rw[List.length_append]
 lia
def Mj:R2:=fun x y H Q=>∃l b xs zs,x= .ref l/\y= .ref b/\H l=some (.lst xs)/\H b=some (.lst zs)/\xs.length+zs.length<=sizeLine/\∀p,H p=none->Q (.ref p) (upd H p (.lst (xs++zs)))
theorem sH:OpR X (binaryOp .Add) Mj:=by
 intro pins s Z H x y v u Q I rx ry h;obtain⟨l,b,xs,zs,rfl,rfl,hH,hB,hz,q⟩:=h
 cases rx
 cases ry
 obtain⟨z,its,n,r,hl,e⟩:=I.lstM hH;obtain⟨z2,its2,n2,r2,hl2,e2⟩:=I.lstM hB;refine PySem.P.add_list e e2 ?_ (by rw[List.size_toArray,List.size_toArray];lia)
 have ea:its.toArray++its2.toArray=(its++its2).toArray:=by simp
 rw[ea];exact⟨.ref _,_,I.lnew (t':=s.toks) (r.append r2) (by rw[List.length_append];lia),rfl,q _ I.fresh⟩
def Mg:R2:=fun x y H Q=>∃l k xs,x= .ref l/\y= .int k/\H l=some (.lst xs)/\ -(2^63)<=k/\k < 2^63/\xs.length*k.toNat<=sizeLine/\
 ∀p,H p=none->Q (.ref p) (upd H p (.lst (List.replicate k.toNat xs).flatten))
theorem Ih {α:Type}(xs:List α) (k:Nat):(List.replicate k xs).flatten.length=k*xs.length:=by
 induction k with
 | zero=>simp
 | succ k ih=>rw[List.replicate_succ,List.flatten_cons,List.length_append,ih,Nat.succ_mul,Nat.add_comm]
theorem Da:OpR X (binaryOp .Mult) Mg:=by
 intro pins s Z H x y v u Q I rx ry h;obtain⟨l,k,xs,rfl,rfl,hH,h1,h2,hz,q⟩:=h
 cases rx
 obtain⟨t,rfl⟩:=ry;obtain⟨z,its,n,r,hl,e⟩:=I.lstM hH;have hlen:its.toArray.size*k.toNat<=sizeLine:=by rw[List.size_toArray, <-hl];exact hz
 have hcap:¬its.toArray.size*k.toNat >(2^63 - 1) / 8:=by
  have:(sizeLine:Nat)<=(2^63 - 1) / 8:=by decide
  lia
 have hfit:¬(!Builtin.List.listFitsIndex k)=true:=by
  rw[fitsIndex_both h1 h2];exact Bool.false_ne_true
 have hlong:¬Builtin.List.listTooLong (its.toArray.size*k.toNat)=true:=by
  rw[BX hlen];exact Bool.false_ne_true
 have hnew:List.foldl (fun x1 x2=>x1++x2) #[] (List.replicate (if its.toArray.isEmpty=true then 0 else k.toNat) its.toArray)=(List.replicate k.toNat its).flatten.toArray:=by
  have f0:∀m:Nat,List.foldl (fun x1 x2=>x1++x2) #[] (List.replicate m its.toArray)=(List.replicate m its).flatten.toArray:=fun m=>by
   have:=yw its m [];rw[List.nil_append] at this;exact this
  rw[f0]
  cases its with
  | nil=>simp
  | cons a r'=>rw[if_neg (by simp)]
 refine wpAny_binaryOp_repeat_ref (T:="list") (U:="int") (by decide) ⟨_,e,rfl⟩ (fun s'=>typeIs_int s' k t) noFill_list_mul F.fills_int_mul F.slot_int_rmul repeat_list F.slot_int_index.lookup
  (call_meets F.slot_int_rmul (typeIs_int s k t) F.entry_int_rmul (F.args_int_rmul_2 _ _) (int___rmul___int_list k t l its.toArray n)
   ⟨e,rfl,⟨_,e,rfl⟩,call_meets F.slot_list_mul ⟨_,e,rfl⟩ F.entry_list_mul (F.args_list_mul_2 _ _) (AutoListH.list___mul___list_int_3 l its.toArray n k t hfit hcap hlong) ⟨e,?_⟩⟩)
 rw[hnew];exact⟨.ref _,_,I.lnew (t':=s.toks) (r.rep k.toNat) (by rw[Ih,Nat.mul_comm];exact hz),rfl,q _ I.fresh⟩
end
section
variable {κ : Type} [DecidableEq κ]
def jx (kvs:List (κ × V)) (k:κ):Option V:=(kvs.find? fun kv=>decide (kv.1=k)).map (·.2)
def cx (kvs:List (κ × V)) (k:κ) (v:V):List (κ × V):=
 if (kvs.any fun kv=>decide (kv.1=k))=true then kvs.map (fun kv=>if kv.1=k then(kv.1,v) else kv) else kvs++[(k,v)]
theorem nC {p:κ × V}{r:List (κ × V)}{k:κ}(e:p.1=k):jx (p::r) k=some p.2:=by simp [jx,List.find?_cons,e]
theorem nj {p:κ × V}{r:List (κ × V)}{k:κ}(e:¬p.1=k):jx (p::r) k=jx r k:=by simp [jx,List.find?_cons,e]
theorem rf (k:κ):∀kvs:List (κ × V),(kvs.any fun kv=>decide (kv.1=k))=(jx kvs k).isSome
 | []=>rfl
 | p::r=>by
  rw[List.any_cons]
  by_cases e:p.1=k
  .simp only[nC e,decide_eq_true e,Bool.true_or,Option.isSome_some]
  .rw[nj e,decide_eq_false e,Bool.false_or];exact rf k r
theorem mX (kvs:List (κ × V)) (k:κ) (v:V):(cx kvs k v).length<=kvs.length+1:=by
 unfold cx
 split
 .rw[List.length_map];lia
 .rw[List.length_append,List.length_cons,List.length_nil];lia
theorem FN {kvs:List (κ × V)}{k:κ}(v:V) (h:jx kvs k=none):cx kvs k v=kvs++[(k,v)]:=by
 unfold cx;rw[rf,h];exact if_neg (by decide)
theorem mQ.isSome_eq {o:Option V}{u:Option Value}(r:mQ o u):o.isSome=u.isSome:=by
 cases o with
 | none=>cases u with
  | none=>rfl
  | some _=>exact(show False from r).elim
 | some _=>cases u with
  | none=>exact(show False from r).elim
  | some _=>rfl
theorem mQ.getD {o:Option V}{u:Option Value}{d:V}{d':Value}(r:mQ o u) (rd:bj d d'):bj (o.getD d) (u.getD d'):=by
 cases o with
 | none=>cases u with
  | none=>exact rd
  | some _=>exact(show False from r).elim
 | some _=>cases u with
  | none=>exact(show False from r).elim
  | some _=>exact r
theorem KV.val {kvs:List (κ × V)}{vs:List (κ × Value)}(r:KV kvs vs) (k:κ):mQ (jx kvs k) (valueAt vs k):=by
 unfold KV at r
 induction r with
 | nil=>exact True.intro
 | @cons p q ps qs h t ih=>
  obtain⟨h1,h2⟩:=h
  by_cases e:p.1=k
  .have e':q.1=k:=h1.symm.trans e;have b:valueAt (q::qs) k=some q.2:=by simp [valueAt,List.find?_cons,e']
   rw[nC e,b];exact h2
  .have e':¬q.1=k:=fun z=>e (h1.trans z)
   have b:valueAt (q::qs) k=valueAt qs k:=by simp [valueAt,List.find?_cons,e']
   rw[nj e,b];exact ih
theorem KV.any {kvs:List (κ × V)}{vs:List (κ × Value)}(r:KV kvs vs) (k:κ):(kvs.any fun kv=>decide (kv.1=k))=vs.any fun kv=>decide (kv.1=k):=by
 unfold KV at r
 induction r with
 | nil=>rfl
 | cons h t ih=>rw[List.any_cons,List.any_cons,ih,h.1]
theorem KV.repl {kvs:List (κ × V)}{vs:List (κ × Value)}(r:KV kvs vs) (k:κ) {y:V}{u:Value}(ry:bj y u):
  KV (kvs.map fun kv=>if kv.1=k then(kv.1,y) else kv) (vs.map fun kv=>if kv.1=k then(kv.1,u) else kv):=by
 unfold KV at r ⊢
 induction r with
 | nil=>exact .nil
 | @cons p q ps qs h t ih=>
  rw[List.map_cons,List.map_cons];refine .cons ?_ ih
  obtain⟨h1,h2⟩:=h
  by_cases e:p.1=k
  .rw[if_pos e,if_pos (h1.symm.trans e)];exact⟨h1,ry⟩
  .rw[if_neg e,if_neg (fun z=>e (h1.trans z))];exact⟨h1,h2⟩
theorem KV.put {kvs:List (κ × V)}{vs:List (κ × Value)}(r:KV kvs vs) (k:κ) {y:V}{u:Value}(ry:bj y u):KV (cx kvs k y) (stored vs k u):=by
 unfold cx stored;rw[r.any k]
 by_cases e:(vs.any fun kv=>decide (kv.1=k))=true
 .rw[if_pos e,if_pos e];exact r.repl k ry
 .rw[if_neg e,if_neg e];exact Paired.snoc r ⟨rfl,ry⟩
theorem KV.keys {kvs:List (κ × V)}{vs:List (κ × Value)}(r:KV kvs vs):kvs.map (·.1)=vs.map (·.1):=by
 unfold KV at r
 induction r with
 | nil=>rfl
 | cons h t ih=>rw[List.map_cons,List.map_cons,ih,h.1]
theorem KV.length {kvs:List (κ × V)}{vs:List (κ × Value)}(r:KV kvs vs):kvs.length=vs.length:=Paired.length r
end
theorem DL {P:Program}{w:World}{k:Key}{u:Value}(r:bj (kV k) u):(bP P w).is k u=true:=by
 cases k with
 | inl i=>obtain⟨t,e⟩:=(show ∃t,u=Value.int i t from r);subst e;exact Ck P w i t
 | inr x=>obtain⟨t,e⟩:=(show ∃t,u=Value.str x t from r);subst e;exact tR P w x t
theorem yh {P:Program}{w:World}:∀ {ks:List Key}{us:List Value},aW (ks.map kV) us->ItemsAre (bP P w) ks us
 | [],_,r=>by rw[List.map_nil] at r;cases r;exact .nil
 | k::ks,_,r=>by
  rw[List.map_cons] at r
  cases r with
  | cons h t=>exact .cons (DL h) (yh t)
abbrev KT (H:Hp):List (List Key × V)->List (List Key × Addr × Value)->Prop:=Paired fun p q=>p.1=q.1/\H q.2.1=some (.tup (p.1.map kV))/\bj p.2 q.2.2
theorem KT.val {H:Hp}{kvs:List (List Key × V)}{xs:List (List Key × Addr × Value)}(r:KT H kvs xs) (k:List Key):mQ (jx kvs k) ((atKey xs k).map (·.2)):=by
 induction r with
 | nil=>exact True.intro
 | @cons p q ps qs h t ih=>
  obtain⟨h1,_,h2⟩:=h
  by_cases e:p.1=k
  .have e':q.1=k:=h1.symm.trans e;have b:atKey (q::qs) k=some q.2:=by simp [atKey,List.find?_cons,e']
   rw[nC e,b];exact h2
  .have e':¬q.1=k:=fun z=>e (h1.trans z)
   have b:atKey (q::qs) k=atKey qs k:=by simp [atKey,List.find?_cons,e']
   rw[nj e,b];exact ih
theorem KT.repl {H:Hp}{kvs:List (List Key × V)}{xs:List (List Key × Addr × Value)}(r:KT H kvs xs) (k:List Key) {y:V}{u:Value}(ry:bj y u):
  KT H (kvs.map fun kv=>if kv.1=k then(kv.1,y) else kv) (xs.map (putAt k u)):=by
 induction r with
 | nil=>exact .nil
 | @cons p q ps qs h t ih=>
  rw[List.map_cons,List.map_cons];refine .cons ?_ ih
  obtain⟨h1,h2,h3⟩:=h;unfold putAt
  by_cases e:p.1=k
  .rw[if_pos e,if_pos (h1.symm.trans e)];exact⟨h1,h2,ry⟩
  .rw[if_neg e,if_neg (fun z=>e (h1.trans z))];exact⟨h1,h2,h3⟩
theorem KT.put {H:Hp}{kvs:List (List Key × V)}{xs:List (List Key × Addr × Value)}(r:KT H kvs xs) (k:List Key) {b:Addr}{y:V}{u:Value}(hb:H b=some (.tup (k.map kV))) (ry:bj y u):
  KT H (cx kvs k y) (storedH xs k b u):=by
 have e:(kvs.any fun kv=>decide (kv.1=k))=(atKey xs k).isSome:=by
  rw[rf,(r.val k).isSome_eq,Option.isSome_map]
 unfold cx storedH;rw[e]
 by_cases q:(atKey xs k).isSome=true
 .rw[if_pos q,if_pos q];exact r.repl k ry
 .rw[if_neg q,if_neg q];exact Paired.snoc r ⟨rfl,hb,ry⟩
theorem KT.keeps {H H':Hp}{kvs:List (List Key × V)}{xs:List (List Key × Addr × Value)}(r:KT H kvs xs) (ht:∀b ys,H b=some (.tup ys)->H' b=some (.tup ys)):KT H' kvs xs:=
 Paired.mapP r fun _ _ z=>⟨z.1,ht _ _ z.2.1,z.2.2⟩
section
variable {P : Program} {w : World} {H : Hp} {h : Heap} {a : Addr}
theorem Jl {u:HO}(ok:HOk P w H h) (e:Rd H a u):cn P w H h a u:=e.ok ok
theorem ue {kvs:List (Key × V)}(ok:HOk P w H h) (e:Rd H a (.dK kvs)):kvs.length<=sizeLine/\(a == sysModules)=false/\∃vs,KV kvs vs/\h.DictOf (bP P w) a vs:=
 show cn P w H h a (.dK kvs) from Jl ok e
theorem G2 {kvs:List (Key × V)}(ok:HOk P w H h) (e:H a=some (.dK kvs)):kvs.length<=sizeLine/\(a == sysModules)=false/\∃vs,KV kvs vs/\h.DictOf (bP P w) a vs:=ue ok (.inl e)
theorem zu {ks:List Key}(ok:HOk P w H h) (e:H a=some (.tup (ks.map kV))):(tupleKind (bP P w)).is h ks a:=by
 obtain⟨_,its,r,o,h1,h2,n,h3⟩:=(show cn P w H h a (.tup (ks.map kV)) from ok a _ e);exact⟨o,its.toArray,n,h1,h2,h3,by simpa using yh r⟩
theorem Az {kvs:List (List Key × V)}(ok:HOk P w H h) (e:Rd H a (.dT kvs)):kvs.length<=sizeLine/\(a == sysModules)=false/\
  ∃xs,KT H kvs xs/\h.DictOfH (tupleKind (bP P w)) a xs:=by
 obtain⟨z,y,xs,r,o,es,ep,h1,h2,h3,h4,h5⟩:=(show cn P w H h a (.dT kvs) from Jl ok e);refine⟨z,y,xs,r,o,es,ep,h1,h2,h3,h4,fun x hx=> ?_,h5⟩
 have all:∀ {l:List (List Key × V)}{m:List (List Key × Addr × Value)},KT H l m->∀x∈m,(tupleKind (bP P w)).is h x.1 x.2.1:=by
  intro l m q
  induction q with
  | nil=>intro x hx;exact nomatch hx
  | @cons p q ps qs hq t ih=>
   intro x hx;rcases List.mem_cons.mp hx with e | hx
   .subst e;exact zu ok (by rw[<- hq.1];exact hq.2.1)
   .exact ih x hx
 exact all r x hx
theorem LI {kvs:List (List Key × V)}(ok:HOk P w H h) (e:H a=some (.dT kvs)):kvs.length<=sizeLine/\(a == sysModules)=false/\
  ∃xs,KT H kvs xs/\h.DictOfH (tupleKind (bP P w)) a xs:=Az ok (.inl e)
end
def xH (H:Hp) (a:Addr) (y:V) (r:Option V):Prop:=
 (∃ kvs k,Rd H a (.dK kvs)/\y=kV k/\r=jx kvs k)\/∃kvs k b,Rd H a (.dT kvs)/\y= .ref b/\H b=some (.tup (k.map kV))/\r=jx kvs k
def qX (H:Hp) (a:Addr) (y v:V) (H':Hp):Prop:=
 (∃ kvs k,H a=some (.dK kvs)/\y=kV k/\kvs.length < sizeLine/\H'=upd H a (.dK (cx kvs k v)))\/
 ∃kvs k b,H a=some (.dT kvs)/\y= .ref b/\H b=some (.tup (k.map kV))/\kvs.length < sizeLine/\H'=upd H a (.dT (cx kvs k v))
theorem xH.k {H:Hp}{a:Addr}{kvs:List (Key × V)}{k:Key}(e:H a=some (.dK kvs)):xH H a (kV k) (jx kvs k):= .inl ⟨kvs,k,.inl e,rfl,rfl⟩
theorem qX.k {H:Hp}{a:Addr}{kvs:List (Key × V)}{k:Key}{v:V}(e:H a=some (.dK kvs)) (hl:kvs.length < sizeLine):qX H a (kV k) v (upd H a (.dK (cx kvs k v))):= .inl ⟨kvs,k,e,rfl,hl,rfl⟩
theorem qX.t {H:Hp}{a b:Addr}{kvs:List (List Key × V)}{k:List Key}{v:V}(e:H a=some (.dT kvs)) (eb:H b=some (.tup (k.map kV))) (hl:kvs.length < sizeLine):
  qX H a (.ref b) v (upd H a (.dT (cx kvs k v))):= .inr ⟨kvs,k,b,e,rfl,eb,hl,rfl⟩
section
variable {X : Cx} {pins : List (Addr × Obj)} {σ : St} {H : Hp} {s : Shared} {a : Addr} {y v : V} {u r : Value} {o : Option V} {A : Around} {E : Value → Shared → Prop}
theorem Inv.big (I:Inv X pins Z H s):sysModules < s.heap.objs.size:=by
 have h:mainGlobals < s.heap.objs.size:=(I.mod.glob.keeps I.bk).lt;exact Nat.lt_trans (by decide) h
theorem E7 {Q:Value->Shared->Prop}(hu:A.units+1 < cLine) (I:Inv X pins Z H s) (g:xH H a y (some v)) (ry:bj y u) (h:∀w' s',Inv X pins Z H s'->bj v w'->Q w' s'):
  wpAny (model X.prog X.w) A (getItem (.ref a) u) Q E s:=by
 rcases g with⟨kvs,k,e,ey,l⟩|⟨kvs,k,b,e,ey,eb,l⟩
 .subst ey;obtain⟨z,hd,vs,rel,dd⟩:=ue I.hok e;obtain⟨w',hw,rw'⟩:=mQ.some_of (v:=v) (o:=valueAt vs k) (by rw[l];exact rel.val k)
  exact wpAny_getItem_of (DL ry) dd.mapOf hw (h w' _ (I.tok _) rw')
 .subst ey
  cases(show u=Value.ref b from ry)
  obtain⟨z,hd,xs,rel,dd⟩:=Az I.hok e;obtain⟨w',hw,rw'⟩:=mQ.some_of (v:=v) (o:=(atKey xs k).map (·.2)) (by rw[l];exact rel.val k)
  obtain⟨p,hp,hp2⟩:=Option.map_eq_some_iff.mp hw;refine wpAny_getItem_heap (tupleKind_room_in1 hu) (zu I.hok eb) dd hp ?_
  rw[hp2];exact h w' _ (I.tok _) rw'
theorem Aa {h':Heap}{t':Nat}{ob:HO}(I:Inv X pins Z H s) (mu:Mut (H a)) (hs:Heap.SameBut a s.heap h') (he:∃q,h'.get? a=some q) (new:cn X.prog X.w (upd H a ob) h' a ob):
  Inv X pins Z (upd H a ob) {s with heap:=h',toks:=t'}:=
 I.write (x:=a) (e:=a) mu (.inl rfl) (fun b q hb z=>(hs.2 b hb).trans z) he new
theorem C0 {P:Program}{w:World}{H':Hp}{h':Heap}{kvs:List (Key × V)}{vs:List (Key × Value)}(z:kvs.length<=sizeLine) (hd:(a == sysModules)=false) (rel:KV kvs vs) (dd:h'.DictOf (bP P w) a vs):
  cn P w H' h' a (.dK kvs):=⟨z,hd,vs,rel,dd⟩
theorem EU {H':Hp}{Q:Unit->Shared->Prop}(hu:A.units+1 < cLine) (I:Inv X pins Z H s) (g:qX H a y v H') (ry:bj y u) (rv:bj v r) (h:∀s',Inv X pins Z H' s'->Q () s'):
  wpAny (model X.prog X.w) A (setItem (.ref a) u r) Q E s:=by
 rcases g with⟨kvs,k,e,ey,l,eH⟩|⟨kvs,k,b,e,ey,eb,l,eH⟩
 .subst ey eH;obtain⟨z,hd,vs,rel,dd⟩:=G2 I.hok e;have hz:vs.length<=sizeLine:=by rw[<- rel.length];exact z
  have hl:(cx kvs k v).length<=sizeLine:=by have:=mX kvs k v;lia
  refine wpAny_setItem_pairs (hsz:=hz) (DL ry) dd fun h' dd' hs=>h _ ?_
  have he:∃q,h'.get? a=some q:=let ⟨q,_,_,hq,_⟩:=dd';⟨q,hq⟩
  exact Aa I (by rw[e];exact True.intro) hs he (C0 hl hd (rel.put k rv) dd')
 .subst ey eH
  cases(show u=Value.ref b from ry)
  obtain⟨z,hd,xs,rel,dd⟩:=LI I.hok e;have hz:xs.length<=sizeLine:=by rw[<- Paired.length rel];exact z
  have hl:(cx kvs k v).length<=sizeLine:=by have:=mX kvs k v;lia
  refine wpAny_setItem_heap (hsz:=hz) (tupleKind_room_in1 hu) (zu I.hok eb) dd fun h' dd' hs=>h _ ?_
  obtain⟨q,es,ep,hq,h2,h3,h4,_,h5⟩:=dd';refine Aa I (by rw[e];exact True.intro) hs ⟨q,hq⟩ ⟨hl,hd,_,(rel.put k eb rv).keeps fun c ys ec=> ?_,q,es,ep,hq,h2,h3,h4,h5⟩
  rw[ai (dS ec e (fun z=>nomatch z))]
  exact ec
end
def Ls (i:Expr):Prop:=∀ov iv,subscripted i false ov iv=operate [ov,iv] (getItem ov iv)
theorem HH {prog:Program}{w:World}{A:Around}{E:Value->Shared->Prop}{s:Shared}{env:Env}{value slice:Expr}{pos:Pos}{T id:String}{Q:Value->Shared->Prop}
  (hl:typeLookup (.type T) "__getitem__"=pure (some (.builtin id))) (hs:Ls slice)
  (h:wpAny (model prog w) A (eval value env) (fun o s₁=>wpAny (model prog w) A (eval slice env) (fun i s₂=>s₂.TypeIs o T/\wpAny (model prog w) A (getItem o i) Q E s₂) E s₁) E s):
  wpAny (model prog w) A (eval (.Subscript value slice pos) env) Q E s:=by
 refine Subscript_ (wpAny_mono h (fun o s₁ h₁=>wpAny_mono h₁ (fun i s₂ h₂=> ?_) fun _ _ x=>x) fun _ _ x=>x)
 obtain⟨hT,h₂⟩:=h₂;unfold subscriptTail;refine wpAny_bind ?_
 rw[getitemInPython_of_ne hT.not_modules];refine wpAny_bind (wpAny_specialOf hT hl ?_)
 have fin:wpAny (model prog w) A (subscripted slice false o i) (fun r s₃=>wpAny (model prog w) A (letTemporaryGo value o r >>= fun _=>pure r) Q E s₃) E s₂:=by
  rw[hs o i];exact wpAny_operating (wpAny_mono h₂ (fun r s₃ h₃=>wpAny_bind (wpAny_letTemporaryGo (wpAny_pure h₃))) fun _ _ x=>x)
 first
  | exact wpAny_pure (wpAny_bind fin)
  | exact wpAny_bind (wpAny_pure (wpAny_bind fin))
  | exact wpAny_bind fin
theorem Cd {X:Cx}{pins:List (Addr × Obj)}{Z:St}{H:Hp}{s:Shared}{a:Addr}{y:V}{o:Option V}(I:Inv X pins Z H s) (g:xH H a y o):s.TypeIs (.ref a) "dict":=by
 rcases g with⟨kvs,k,e,_,_⟩|⟨kvs,k,b,e,_,_,_⟩
 .obtain⟨_,_,vs,_,dd⟩:=ue I.hok e;exact dd.typeIs
 .obtain⟨_,_,xs,_,dd⟩:=Az I.hok e;exact dd.typeIs
def Lg (td ty:TE):TE:=fun Z H Q=>td Z H fun x H1=>ty Z H1 fun y H2=>∃a v,x= .ref a/\xH H2 a y (some v)/\Q v H2
def KS (td ty tv:TE):TS:=fun D Z H=>tv Z H fun v H1=>td Z H1 fun x H2=>ty Z H2 fun y H3=>∃a H4,x= .ref a/\qX H3 a y v H4/\D.nx Z H4
section
variable {X : Cx} {o i e value : Expr} {pos pos' tpos : Pos} {td ty tv : TE}
theorem Il (hu:X.A.units+1 < cLine) (ho:PE X o td) (hi:PE X i ty) (hs:Ls i):PE X (.Subscript o i pos) (Lg td ty):=by
 intro pins s Z H Q I h;refine HH PySem.F.slot_dict_getitem.lookup hs (dg (ho pins s Z H _ I h) fun u s1 x H1 I1 rx q1=>thn (hi pins s1 Z H1 _ I1 q1) fun iv s2 ⟨y,H2,I2,ry,a,v,ex,g,q2⟩=> ?_)
 subst ex;obtain rfl:u=Value.ref a:=rx;exact⟨Cd I2 g,E7 hu I2 g ry fun w' s3 I3 rw'=>⟨v,H2,I3,rw',q2⟩⟩
theorem uP (hu:X.A.units+1 < cLine) (ho:PE X o td) (hi:PE X i ty) (hv:PE X value tv) (hs:swapsWith value (some (.Subscript o i pos')) pos.line X.env=pure false):
  PS X (.Assign [.Subscript o i pos'] value pos) (KS td ty tv):=by
 intro pins s Z H D I h;refine wpAny_Assign_Subscript (dg (hv pins s Z H _ I h) fun r s1 v H1 I1 rv q1=>dg (ho pins s1 Z H1 _ I1 q1) fun u s2 x H2 I2 rx q2=>thn (hi pins s2 Z H2 _ I2 q2) fun iv s3 ⟨y,H3,I3,ry,a,H4,ex,g,q3⟩=> ?_) hs
 subst ex;obtain rfl:u=Value.ref a:=rx;exact EU hu I3 g ry rv fun s4 I4=>⟨Z,H4,I4,q3⟩
end
theorem Hj {P:Program}{w:World}{H:Hp}(h:Heap) (hb:sysModules < h.objs.size):cn P w H (h.push {cls:= .type "dict",data:= .dict #[]}) h.objs.size (.dK []):=
 ⟨Nat.zero_le _,beq_eq_false_iff_ne.mpr (Ne.symm (Nat.ne_of_lt hb)),[],.nil,Heap.DictOf.new h⟩
theorem Hk {P:Program}{w:World}{H:Hp}(h:Heap) (hb:sysModules < h.objs.size):cn P w H (h.push {cls:= .type "dict",data:= .dict #[]}) h.objs.size (.dT []):=
 ⟨Nat.zero_le _,beq_eq_false_iff_ne.mpr (Ne.symm (Nat.ne_of_lt hb)),[],.nil,_, #[],0,Heap.get?_push_size _ rfl,⟨rfl,rfl,rfl⟩,rfl,rfl,List.nodup_nil⟩
def KG:TE:=fun _ H Q=>∀p,H p=none->Q (.ref p) (upd H p (.dK []))
def Ki:TE:=fun _ H Q=>∀p,H p=none->Q (.ref p) (upd H p (.dT []))
section
variable {X : Cx} {pos : Pos}
theorem Am:PE X (.Dict [] [] pos) KG:=fun pins s Z H Q I h=>
 wpAny_Dict_empty ⟨.ref s.heap.objs.size,_,I.laid (a:=s.heap.objs.size) (o:= .dK []) (t':=s.toks) (fun _ _ q=>Heap.get?_push_of_some _ q) (Nat.le_refl _) (Hj s.heap I.big),rfl,h _ (I.hok.fresh (Nat.le_refl _))⟩
theorem Gm:PE X (.Dict [] [] pos) Ki:=fun pins s Z H Q I h=>
 wpAny_Dict_empty ⟨.ref s.heap.objs.size,_,I.laid (a:=s.heap.objs.size) (o:= .dT []) (t':=s.toks) (fun _ _ q=>Heap.get?_push_of_some _ q) (Nat.le_refl _) (Hk s.heap I.big),rfl,h _ (I.hok.fresh (Nat.le_refl _))⟩
end
def dN (kvs more:List (Key × V)):List (Key × V):=more.foldl (fun acc kv=>cx acc kv.1 kv.2) kvs
theorem KV.merge:∀ {more:List (Key × V)}{rs:List (Key × Value)}{kvs:List (Key × V)}{vs:List (Key × Value)},KV more rs->KV kvs vs->KV (dN kvs more) (merged vs rs):=by
 intro more rs kvs vs r;unfold KV at r
 induction r generalizing kvs vs with
 | nil=>intro q;exact q
 | @cons p q ps qs h t ih=>
  intro r0;have e:KV (cx kvs p.1 p.2) (stored vs q.1 q.2):=by
   have:=r0.put p.1 h.2;rw[<- h.1];exact this
  exact ih e
theorem gY:∀(more kvs:List (Key × V)),(dN kvs more).length<=kvs.length+more.length
 | [],kvs=>by show kvs.length<=kvs.length+0;lia
 | p::r,kvs=>by
  have h1:=gY r (cx kvs p.1 p.2);have h2:=mX kvs p.1 p.2;show(dN (cx kvs p.1 p.2) r).length<=_
  rw[List.length_cons];lia
structure M2 (X:Cx) (o:Expr) (m:Str) (apos:Pos) (e f:Expr) (cpos:Pos):Prop where
 base:attributeBase o m X.env (eval o X.env)=eval o X.env
 few:((backTo cpos (starEach [e,f] X.env)).all (fun x=> !x.1) && (backToKw cpos (keywordEach [] X.env)).all (fun x=>x.1.isSome)
  && decide (([e,f]:List Expr).length+([]:List Keyword).length+(if ([]:List Keyword).isEmpty then 0 else 1) < 30))=true
 line:(apos.endLine == cpos.line)=true
 trees:backTo cpos (starEach [e,f] X.env)=[(false,eval e X.env),(false,eval f X.env)]
def IsD (H:Hp) (a:Addr):Prop:=(∃ kvs,Rd H a (.dK kvs))\/∃kvs,Rd H a (.dT kvs)
theorem KK {X:Cx}{pins:List (Addr × Obj)}{Z:St}{H:Hp}{s:Shared}{a:Addr}(I:Inv X pins Z H s) (d:IsD H a):
  s.TypeIs (.ref a) "dict"/\(∀ b,Value.ref a= .ref b->∃ob,s.heap.get? b=some ob/\ob.dict=none)/\(a == sysModules)=false:=by
 rcases d with⟨kvs,e⟩|⟨kvs,e⟩
 .obtain⟨_,hd,vs,_,dd⟩:=ue I.hok e;refine⟨dd.typeIs,fun b q=> ?_,hd⟩
  cases q
  obtain⟨ob,_,_,h1,h2,_⟩:=dd;exact⟨ob,h1,h2.2.1⟩
 .obtain⟨_,hd,xs,_,dd⟩:=Az I.hok e;refine⟨dd.typeIs,fun b q=> ?_,hd⟩
  cases q
  obtain⟨ob,_,_,h1,h2,_⟩:=dd;exact⟨ob,h1,h2.2.1⟩
section
variable {X : Cx} {pins : List (Addr × Obj)} {σ : St} {H : Hp} {s : Shared} {a : Addr} {y d : V} {u r : Value} {o : Option V} {A : Around} {E : Value → Shared → Prop}
theorem Kz {Q:Value->Shared->Prop}(hu:A.units+1 < cLine) (I:Inv X pins Z H s) (g:xH H a y o) (ry:bj y u) (rd:bj d r) (h:∀w' s',Inv X pins Z H s'->bj (o.getD d) w'->Q w' s'):
  wpAny (model X.prog X.w) A (call (.builtin "dict.get") [.ref a,u,r]) Q E s:=by
 rcases g with⟨kvs,k,e,ey,l⟩|⟨kvs,k,b,e,ey,eb,l⟩
 .subst ey;obtain⟨z,hd,vs,rel,dd⟩:=ue I.hok e;refine call_meetsIn PySem.F.slot_dict_get dd.typeIs PySem.F.entry_dict_get (PySem.F.args_dict_get_3 _ _ _) (meets_dict_get_default (bP X.prog X.w) a (DL ry) hd r) ⟨_,dd.mapOf,h _ _ (I.tok _) ?_⟩
  rw[l];exact(rel.val k).getD rd
 .subst ey
  cases(show u=Value.ref b from ry)
  obtain⟨z,hd,xs,rel,dd⟩:=Az I.hok e;refine call_meetsIn PySem.F.slot_dict_get dd.typeIs PySem.F.entry_dict_get (PySem.F.args_dict_get_3 _ _ _) (meetsH_dict_get_default (tupleKind (bP X.prog X.w)) a b hd r) ⟨tupleKind_room_in1 hu,k,xs,zu I.hok eb,dd,h _ _ (I.tok _) ?_⟩
  rw[l];exact(rel.val k).getD rd
end
def KJ (td ty tx:TE):TE:=fun Z H Q=>td Z H fun x H1=>∃a,x= .ref a/\IsD H1 a/\ty Z H1 fun y H2=>tx Z H2 fun z H3=>∃o,xH H3 a y o/\Q (o.getD z) H3
section
variable {X : Cx} {o e f : Expr} {apos cpos : Pos} {td ty tx : TE}
theorem GJ (hu:X.A.units+1 < cLine) (ho:PE X o td) (he:PE X e ty) (hf:PE X f tx) (m:M2 X o "get" apos e f cpos):PE X (.Call (.Attribute o "get" apos) [e,f] [] cpos) (KJ td ty tx):=by
 intro pins s Z H Q I h;refine wpAny_Call_method m.base m.few m.line PySem.F.plainAttrs_dict PySem.F.slot_dict_get PySem.F.type_dict_get (thn (ho pins s Z H _ I h) fun u s1 ⟨x,H1,I1,rx,a,ex,d,q1⟩=> ?_)
 subst ex;obtain rfl:u=Value.ref a:=rx;obtain⟨t1,t2,_⟩:=KK I1 d;refine⟨t1,t2,?_⟩
 rw[m.trees]
 refine Calls.callWith_builtin rfl (Calls.evalArgs_plain (Calls.spliced_cons (dg (he pins s1 Z H1 _ I1 q1) fun iv s2 y H2 I2 ry q2=>
  Calls.spliced_cons (thn (hf pins s2 Z H2 _ I2 q2) fun fv s3 ⟨z,H3,I3,rz,ov,g,q3⟩=>Calls.spliced_nil ?_))))
 exact Kz hu I3 g ry rz fun w' s4 I4 rw'=>⟨_,H3,I4,rw',q3⟩
end
section
variable {X : Cx} {pins : List (Addr × Obj)} {σ : St} {H : Hp} {s : Shared} {a : Addr} {kvs : List (Key × V)} {A : Around} {E : Value → Shared → Prop}
theorem FW {Q:Value->Shared->Prop}(I:Inv X pins Z H s) (e:Rd H a (.dK kvs)) (h:∀p s',H p=none->Inv X pins Z (upd H p (.dK kvs)) s'->Q (.ref p) s'):wpAny (model X.prog X.w) A (call (.type "dict") [.ref a]) Q E s:=by
 obtain⟨z,hd,vs,rel,dd⟩:=ue I.hok e;refine kt_call_dict hd dd (by rw[<- rel.length];exact z) fun h' dd' hs=> ?_
 refine h _ _ (I.hok.fresh (Nat.le_refl _)) (I.laid (a:=s.heap.objs.size) (o:= .dK kvs) (t':=s.toks) (fun b q hq=> ?_) (Nat.le_refl _) (C0 z (beq_eq_false_iff_ne.mpr (Ne.symm (Nat.ne_of_lt I.big))) rel dd'))
 exact(hs.2 b (Nat.ne_of_lt (Heap.lt_size hq))).trans (Heap.get?_push_of_some _ hq)
end
end L2
namespace Att
open PySem PySem.W PySem.Calls PyProof.Rows
theorem uy {P:Params}{h:Heap}:∀(ns:List Int) (vs:List Value),WellAll P h vs (ns.map WData.int)->IntsAre vs ns:=by
 intro ns
 induction ns with
 | nil=>
  intro vs w;rw[List.map_nil] at w
  cases w
  exact .nil
 | cons n ns ih=>
  intro vs w;rw[List.map_cons] at w
  cases w with
  | cons a b=>
   cases a
   exact .cons _ _ (ih _ b)
theorem Fy {l:OpenLaw}{n:Nat}(hn:l.most=some n) {P:Params}{h:Heap}{args:List WData}{vals:List Value}
  (hpre:l.row.toRowW.claim.pre args=true) (hwl:WellAll P h vals args):
  ∃a vs ns,vals=[Value.ref a]/\args=[WData.list (ns.map WData.int)]/\h.get? a=some {cls:= .type "list",data:= .seq vs.toArray}/\IntsAre vs ns/\ns.length<=n:=by
 have hsh:WShape.hasAll [] args [.list .int]=true:=(pre_splitW hpre).1;have hc:l.pre.holds [] {args:=args}=true:=(pre_splitW hpre).2;obtain⟨d,r,rfl,h1,h2⟩:=hasAllW_cons hsh;obtain rfl:=hasAllW_nil h2;obtain⟨xs,rfl,h3⟩:=hasW_list h1;obtain⟨ns,rfl⟩:=items_int h3;have hlen:ns.length<=n:=by
  unfold OpenLaw.pre at hc;have h4:(WTm.not (.lt (.lit (.int (n:Int))) (.len (.arg 0)))).holds [] {args:=[.list (ns.map .int)]}=true:=by
   have h4:=(holds_andW hc).1;rw[hn] at h4;exact h4
  have h5:=condW_of h4 (w_not (w_lt w_lit (w_len_list (w_arg rfl))));rw[List.length_map] at h5;refine Nat.le_of_not_lt fun q=> ?_
  have q':(n:Int) < ((ns.length:Nat):Int):=by lia
  first
   | (rw[decide_eq_true q'] at h5;exact absurd h5 (by decide))
   | (simp at h5;lia)
 cases hwl with
 | cons w1 w2=>
  cases w2
  cases w1 with
  | list ho hall=>exact⟨_,_,ns,rfl,rfl,ho,uy ns _ hall,hlen⟩
theorem Fd (l:OpenLaw) (args:List WData):l.row.toRowW.claim.post args (.bool true) args=true:=
 postW_of (r:=l.row.toRowW) (X:=(true == true))
  (show WShape.has [] (.bool true) .bool=true by first | rfl | decide | simp [WShape.has,WShape.arms,WShape.armsAll])
  (show(WTm.eq .res (.lit (.bool true))).value [] {args:=args,res:=some (.bool true),after:=args}=some (.bool (true == true)) from w_eq_bool (w_res rfl) w_lit) rfl
theorem attach_call {l:OpenLaw}{n:Nat}{q:Program}{loose:List Str}{XP:(Str->Option Value)->Heap->Prop}{YP:World->Heap->Prop}{d:DefRec}
  (hn:l.most=some n) (hdf:d.params.defaults=[])
  (call:∀(w:World) (s₀ s₁:Shared) (mg mb:Str->Option Value) (fa:Addr) (o:Obj) (pm cd doc:Value) (a:Addr) (vs:List Value) (ns:List Int),
   Ground q loose [] XP w s₀ mg mb s₁.heap->YP w s₁.heap->
   s₁.heap.get? fa=some o->o.data= .func (docDef d.name d.params d.body d.scope pm cd doc)->s₁.heap.CodeRec cd d.name->mg d.name=some (.ref fa)->
   s₁.heap.get? a=some {cls:= .type "list",data:= .seq vs.toArray}->IntsAre vs ns->ns.length<=n->s₁.gens= #[]->
   codeAny (model l.prog w) callerA (.call (.ref fa) ⟨[.ref a],[]⟩) (fun r s'=>r= .ok (.ret (.bool true))/\OldK s₁.heap s'.heap/\s'.os=s₁.os/\AllBare s'.gens) s₁):
  WalkO q loose XP YP l.row.toRowW d [] (fun f vs=>PySem.call f vs):=by
 intro w s₀ s₁ mg mb G Y fa o pm cd doc dV kV ho hd hcd hD hmg hg args vals as hpre hlay hrd hwl hlo;obtain rfl:dV= .none:=Dflts.none hD hdf;obtain rfl:kV= .none:=Dflts.noKw hD;obtain⟨a,vs,ns,rfl,rfl,hobj,hints,hlen⟩:=Fy hn hpre hwl;refine enter_call (codeAny_mono (call w s₀ s₁ mg mb fa o pm cd doc a vs ns G Y ho (fd_plain hd) hcd hmg hobj hints hlen hg) fun r s' hq=> ?_)
 obtain⟨rfl,h2,h3,h4⟩:=hq;exact⟨.inl ⟨.bool true,.bool true,[],rfl,fun _=>rfl,.bool true,Fd l _,fun _=>⟨List.Pairwise.nil,fun _ hm=>(nomatch hm)⟩⟩,h2,h3,h4⟩
end Att
namespace L2
open PySem PySem.Spec PyProof.Rows
theorem yq:∀ {vs:List Value}{ns:List Int},IntsAre vs ns->aW (ns.map V.int) vs
 | _,_,.nil=> .nil
 | _,_,.cons n t h=> .cons ⟨t,rfl⟩ (yq h)
def Ie (H:Hp):Prop:=∀b,H b=none\/∃o xs,H b=some (.frz o (.lst xs))
theorem Gc {P:Program}{w:World}{K:Frag}{mg mb:Str->Option Value}{CX:CXT}{k:Nat}{fa a:Addr}{fd:FuncData}{x:Str}{sp:Sp}{s₁:Shared}{vs:List Value}{ns:List Int}
  (KX:K.In s₁.heap) (hns:s₁.heap.Ns mainGlobals mg) (hb:s₁.heap.Ns builtinsNs mb) (hbb:∀x:Str,x≠"__name__"->mb x=bootBuiltins x) (hlim:s₁.heap.NoLimit) (hg:s₁.gens= #[])
  (ha:s₁.heap.get? a=some {cls:= .type "list",data:= .seq vs.toArray}) (hi:IntsAre vs ns) (hl:ns.length<=sizeLine) (hr:Room k callerA)
  (F:∀base:Heap,K.In base->base.Ns mainGlobals mg->iC P w K mg base CX k fa fd [x] sp) (hbind:∀(s:Shared) (u:Value),BindsTo s fd ⟨[u],[]⟩ [(x,u)])
  (hsp:∀H:Hp,Ie H->SqL K H a (ns.map V.int)->sp [.ref a] H (fun v _=>v= .bl true) fun _ _ _=>False)
  (hCX:∀H e s',CX [] H s₁ (fun _ _ _=>False) e s'->False):
  codeAny (model P w) callerA (.call (.ref fa) ⟨[.ref a],[]⟩) (fun r s'=>r= .ok (.ret (.bool true))/\OldK s₁.heap s'.heap/\s'.os=s₁.os/\AllBare s'.gens) s₁:=by
 have rv:=yq hi;have lenV:=hi.length;have core:∀H:Hp,Ie H->SqL K H a (ns.map V.int)->HOk P w H s₁.heap->(∀ b,H b≠none->b=a)->(H a≠none->K.lookup a=none)->
   codeAny (model P w) callerA (.call (.ref fa) ⟨[.ref a],[]⟩) (fun r s'=>r= .ok (.ret (.bool true))/\OldK s₁.heap s'.heap/\s'.os=s₁.os/\AllBare s'.gens) s₁:=by
  intro H hO hS hok hA hK;have base_of:∀ {b:Addr}{o:Obj},s₁.heap.get? b=some o->H b=none->(zk s₁.heap H).get? b=some o:=fun e n=>GU e n
  have noA:∀ {b:Addr}{o:Obj}{es:Array DictEntry}{ep:Nat},s₁.heap.get? b=some o->o.data= .dict es ep->H b=none:=fun {b o es ep} e d=>by
   cases q:H b with
   | none=>rfl
   | some u=>
    have e':b=a:=hA b (by rw[q];simp)
    subst e';rw[ha] at e;cases e;have d':Data.seq vs.toArray _=Data.dict es ep:=d
    cases d'
  have nsK:∀ {b:Addr}{m:Str->Option Value},s₁.heap.Ns b m->(zk s₁.heap H).Ns b m:=fun {b m} ⟨o,es,ep,e,d,r⟩=>⟨o,es,ep,base_of e (noA e d),d,r⟩
  have hKb:K.In (zk s₁.heap H):=fun b o e=>base_of (KX b o e) (by
   cases q:H b with
   | none=>rfl
   | some u=>
    have e':b=a:=hA b (by rw[q];simp)
    subst e'
    rw[hK (by rw[q];simp)] at e;cases e)
  have hM:Mod K mg (zk s₁.heap H):=⟨hKb,nsK hns,⟨mb,nsK hb,hbb⟩,let ⟨mc,h1,h2⟩:=hlim;⟨mc,nsK h1,h2⟩⟩
  have e0:Dx P w K mg (zk s₁.heap H) callerA [] s₁ H:=⟨rfl,hM,fun b o e=>Ii e,Nat.le_of_eq (E4 _ _),trivial,fun b hb=>absurd (show b∈([]:List Addr) from hb) (by simp),hok,.of_eq hg⟩
  refine codeAny_mono ((F _ hKb (nsK hns)).run callerA [] s₁ H ⟨[.ref a],[]⟩ [.ref a] [.ref a] _ _ hr e0 (hbind s₁ (.ref a)) (.cons rfl .nil) (hsp H hO hS)) fun r s' h=> ?_
  cases r with
  | error e=>exact(hCX H e s' h).elim
  | ok fl=>
   cases fl with
   | next=>exact False.elim h
   | brk=>exact False.elim h
   | cont=>exact False.elim h
   | ret u=>
    obtain⟨v,H',os,bare,un,hok',r',q⟩:=h;have q':v= .bl true:=q;subst q';obtain rfl:u=Value.bool true:=r';refine⟨rfl,OldK.of_keep fun b o e=> ?_,os,bare⟩
    cases q:H b with
    | none=>exact un.keep b o e q (by intro z;exact absurd (show b∈([]:List Addr) from z) (by simp)) (by simp)
    | some u=>
     rcases hO b with z | ⟨ob,xs,z⟩
     .rw[q] at z;cases z
     .have z2:=un.frzs b ob _ z;obtain⟨e1,_⟩:=hok b _ z;obtain⟨e2,_⟩:=hok' b _ z2;rw[e] at e1;cases e1;exact e2
 cases hk:K.lookup a with
 | some o=>
  have e:=KX a o hk;rw[ha] at e
  cases e
  refine core (fun _=>none) (fun _=> .inl rfl) (.inr ⟨_,vs.toArray,_,hk,rfl,rfl,rfl,by rw[List.size_toArray,lenV];exact hl,by simpa using rv⟩) (fun b u z=>by have z':(none:Option HO)=some u:=z;cases z') (fun b z=>absurd rfl z) fun z=>absurd rfl z
 | none=>
  refine core (fun b=>if b=a then some (.frz {cls:= .type "list",data:= .seq vs.toArray} (.lst (ns.map V.int))) else none) (fun b=> ?_) (.inl (.inr ⟨{cls:= .type "list",data:= .seq vs.toArray},if_pos rfl⟩)) (fun b u z=> ?_) (fun b z=> ?_) fun _=>hk
  .by_cases hb:b=a
   .exact .inr ⟨_,_,if_pos hb⟩
   .exact .inl (if_neg hb)
  .by_cases hb:b=a
   .have z':=(if_pos hb).symm.trans z
    cases z'
    subst hb;exact⟨ha,by rw[List.length_map];exact hl,vs,_,rv,ha⟩
   .have z':=(if_neg hb).symm.trans z
    cases z'
  .by_cases hb:b=a
   .exact hb
   .exact absurd (if_neg hb) z
abbrev KOf {K:Frag}{h:Heap}(_:K.In h):Frag:=K
theorem HY {l:PySem.W.OpenLaw}{n k:Nat}{q:Program}{loose:List Str}{XP:(Str->Option Value)->Heap->Prop}{YP:World->Heap->Prop}{d:DefRec}{K:Params->Frag}{CX:World->CXT}{sp:World->Sp}{x:Str}
  (hn:l.most=some n) (hn2:n<=sizeLine) (hdf:d.params.defaults=[]) (hr:Room k callerA)
  (hY:∀(w:World) (h:Heap),YP w h->(K w.params).In h)
  (F:∀(w:World) (mg:Str->Option Value) (fa:Addr) (h:Heap),(K w.params).In h->h.Ns mainGlobals mg->mg d.name=some (.ref fa)->
   ∃fd:FuncData,(∀ (s:Shared) (u:Value),BindsTo s fd ⟨[u],[]⟩ [(x,u)])/\
    ∀base:Heap,(K w.params).In base->base.Ns mainGlobals mg->iC l.prog w (K w.params) mg base (CX w) k fa fd [x] (sp w))
  (hsp:∀(w:World) (H:Hp) (a:Addr) (ns:List Int),ns.length<=n->Ie H->SqL (K w.params) H a (ns.map V.int)->sp w [.ref a] H (fun v _=>v= .bl true) fun _ _ _=>False)
  (hCX:∀(w:World) (H:Hp) (s:Shared) (e:Value) (s':Shared),CX w [] H s (fun _ _ _=>False) e s'->False):
  PySem.W.WalkO q loose XP YP l.row.toRowW d [] (fun f vs=>PySem.call f vs):=by
 refine Att.attach_call hn hdf fun w s₀ s₁ mg mb fa o pm cd doc a vs ns G Y ho hd hcd hmg hobj hints hlen hg=> ?_
 have KX:=hY w _ Y;obtain⟨fd,hb,hF⟩:=F w mg fa _ KX G.T.g hmg;exact Gc KX G.T.g G.T.b G.T.builtins G.T.nolimit hg hobj hints (Nat.le_trans hlen hn2) hr hF hb (fun H hO hS=>hsp w H a ns hlen hO hS) fun H e s'=>hCX w H s₁ e s'
def cy (s:Stmt) (j:Nat):Stmt:=match s with
 | .ClassDef _ _ _ body _ _ _ _ _ _ _=>body.getD j (.Pass ⟨0,0,0,0⟩)
 | _=> .Pass ⟨0,0,0,0⟩
def iS (s:Stmt):Arguments:=match s with
 | .FunctionDef _ a _ _ _ _ _ _ _ _=>a
 | _=>{posonlyargs:=[],args:=[],vararg:=none,kwonlyargs:=[],kw_defaults:=[],kwarg:=none,defaults:=[]}
def eZ (s:Stmt):List Stmt:=match s with
 | .FunctionDef _ _ b _ _ _ _ _ _ _=>b
 | _=>[]
def af (s:Stmt):Scope:=match s with
 | .FunctionDef _ _ _ _ _ _ sc _ _ _=>sc
 | _=>{kind:= .function,names:=[],isGenerator:=false,isCoroutine:=false}
abbrev CX0:CXT:=fun _ _ _ _ _ _=>False
abbrev E0:XK:=fun _ _ _=>False
theorem yA {X:Cx}:kT CX0 X E0:=fun _ _ _ _ _ _ _ h=>h.elim
structure Fun (K:Frag) (x qual:Str) (st:Stmt) (f:Addr) (fd:FuncData):Prop where
 ex:∃(oc:Value) (od:Option Addr) (kV doc pm:Value) (an:Option Addr) (cdv ct:Value) (osl:Array (Option Value)),
  fd=W.fnOf x qual (iS st) (eZ st) (af st) .none kV doc pm an cdv ct/\K.lookup f=some ⟨oc,od,.func fd,osl⟩/\W.codeIn K cdv qual=true
 kp:W.keepIn K (.ref f)=true
section
variable {P : Program} {w : World} {K : Frag} {mg : Str → Option Value} {base : Heap}
theorem Fun.ok {x qual:Str}{st:Stmt}{f:Addr}{fd:FuncData}{N ps:List Str}{k:Nat}{sp:Sp}(F:Fun K x qual st f fd) (S:aq N ps (af st)) (len:∀vs H Q E,sp vs H Q E->vs.length=ps.length)
  (hbody:∀(cdv:Value) (A:Around) (outer:List Env) (s:Shared) (H:Hp) (vs:List V) (Q:VK) (E:XK),Room k (A.deeper (envOfC qual (af st) s.heap.objs.size f cdv))->sp vs H Q E->
   ∃t,PSs (fP CX0 P w K mg base N qual (af st) f cdv A outer s H E).nox (eZ st) t/\t {nx:=fun _ H'=>Q .non H',rt:=Q} (start N vs) H):iC P w K mg base CX0 (k+1) f fd ps sp:=by
 obtain⟨oc,od,kV,doc,pm,an,cdv,ct,osl,rfl,lk,hcd⟩:=F.ex;refine Jq lk hcd S len fun A outer s H vs Q E hr hsp=> ?_
 obtain⟨t,h,q⟩:=hbody cdv A outer s H vs Q E hr hsp;exact⟨t,h.nox,q⟩
theorem Fun.binds {x qual:Str}{st:Stmt}{f:Addr}{fd:FuncData}{ps:List Str}(F:Fun K x qual st f fd)
  (h:∀(kV doc pm:Value) (an:Option Addr) (cdv ct:Value) (us:List Value),us.length=ps.length->bindArgs (W.fnOf x qual (iS st) (eZ st) (af st) .none kV doc pm an cdv ct) ⟨us,[]⟩=pure (ps.zip us)):ie K fd ps []:=by
 obtain⟨oc,od,kV,doc,pm,an,cdv,ct,osl,rfl,lk,hcd⟩:=F.ex;exact .all (h kV doc pm an cdv ct)
theorem CM {x qual:Str}{st:Stmt}{f:Addr}{oc:Value}{od an:Option Addr}{osl:Array (Option Value)}{kV doc pm cdv ct:Value}(l:K.lookup f=some ⟨oc,od,.func (W.fnOf x qual (iS st) (eZ st) (af st) .none kV doc pm an cdv ct),osl⟩)
  (c:W.codeIn K cdv qual=true) (k:W.keepIn K (.ref f)=true):Fun K x qual st f (W.fnOf x qual (iS st) (eZ st) (af st) .none kV doc pm an cdv ct):=⟨⟨oc,od,kV,doc,pm,an,cdv,ct,osl,rfl,l,c⟩,k⟩
end
theorem ya {A:Around}{k:Nat}(hr:Room k A):A.units+1 < cLine:=Nat.lt_of_le_of_lt (Nat.add_le_add_left (by decide:1<=64) _) hr.units
section
variable {X : Cx}
theorem pv (i:Nat) {x:Str}{pos:Pos}(hN:X.N[i]? =some x:=by rfl) (hv:Vis X.env.scope x:=by first | exact Or.inl rfl | exact Or.inr (Or.inl rfl) | exact Or.inr (Or.inr rfl)) (hd:(x == ("__debug__":Str))=false:=by decide)
  (hcd:(x == ("__classdict__":Str))=false:=by decide):PE X (.Name x pos) (Kp i):=J1 hN hv hd hcd
end
theorem CG {A B:Prop}(h:B):if false=true then A else B:=by
 rw[if_neg Bool.false_ne_true];exact h
theorem y_ {A B:Prop}(h:A):if true=true then A else B:=by
 rw[if_pos rfl];exact h
theorem LP {c A B:Prop} [Decidable c] (h1:c->A) (h2:¬c->B):if c then A else B:=by
 by_cases h:c
 .rw[if_pos h];exact h1 h
 .rw[if_neg h];exact h2 h
theorem DD {c A B:Prop} [Decidable c] (hc:c) (h:B):if (!decide c)=true then A else B:=by
 rw[decide_eq_true hc];exact CG h
def az (H H':Hp):Prop:=∀b o,H b=some o->H' b=some o
theorem az.refl (H:Hp):az H H:=fun _ _ h=>h
theorem az.trans {H H1 H2:Hp}(a:az H H1) (b:az H1 H2):az H H2:=fun c o h=>b c o (a c o h)
theorem az.free {H H':Hp}(e:az H H') {l:Addr}(h:H' l=Option.none):H l=Option.none:=by
 cases q:H l with
 | none=>rfl
 | some o=>
  rw[e l o q] at h
  cases h
theorem az.seq {K:Frag}{H H':Hp}{a:Addr}{xs:List V}(e:az H H') (h:SqL K H a xs):SqL K H' a xs:=by
 rcases h with(h | ⟨o,h⟩) | h
 .exact .inl (.inl (e _ _ h))
 .exact .inl (.inr ⟨o,e _ _ h⟩)
 .exact .inr h
section
variable {κ : Type} [DecidableEq κ]
theorem GD {kvs:List (κ × V)}{k:κ}(h:jx kvs k=none):¬k∈kvs.map (·.1):=by
 intro m;obtain⟨p,hp,e⟩:=List.mem_map.mp m;have q:(kvs.any fun kv=>decide (kv.1=k))=true:=List.any_eq_true.mpr ⟨p,hp,decide_eq_true e⟩
 rw[rf,h] at q;exact absurd q (by simp)
theorem DV:∀ {l:List κ}{k:κ},l.Nodup->¬k∈l->(l++[k]).Nodup
 | [],k,_,_=>by simp
 | a::r,k,h,hk=>by
  obtain⟨h1,h2⟩:=List.nodup_cons.mp h;show(a::(r++[k])).Nodup
  refine List.nodup_cons.mpr ⟨fun m=> ?_,DV h2 fun m=>hk (List.mem_cons.mpr (Or.inr m))⟩
  rcases List.mem_append.mp m with q | q
  .exact h1 q
  .exact hk (List.mem_cons.mpr (Or.inl (List.mem_singleton.mp q).symm))
theorem Iz {kvs:List (κ × V)}{k:κ}(v:V) (hn:(kvs.map (·.1)).Nodup) (h:jx kvs k=none):((cx kvs k v).map (·.1)).Nodup:=by
 rw[FN v h,List.map_append];exact DV hn (GD h)
end
end L2
set_option maxHeartbeats 4000000
namespace L2
open PySem PySem.Spec PyProof.Rows
theorem Gr:bootBuiltins "int"=some (.type "int"):=by decide +kernel
theorem Ab:bootBuiltins "list"=some (.type "list"):=by decide +kernel
theorem il:bootBuiltins "tuple"=some (.type "tuple"):=by decide +kernel
theorem ED:bootBuiltins "dict"=some (.type "dict"):=by decide +kernel
theorem KO:bootBuiltins "zip"=some (.type "zip"):=by decide +kernel
theorem J8:bootBuiltins "sum"=some (.builtin "sum"):=by decide +kernel
theorem yO:bootBuiltins "enumerate"=some (.type "enumerate"):=by decide +kernel
theorem zV:bootBuiltins "max"=some (.builtin "max"):=by decide +kernel
theorem qm:bootBuiltins "min"=some (.builtin "min"):=by decide +kernel
theorem Dd:bootBuiltins "abs"=some (.builtin "abs"):=by decide +kernel
theorem dk:bootBuiltins "len"=some (.builtin "len"):=by decide +kernel
theorem JN:bootBuiltins "all"=some (.builtin "all"):=by decide +kernel
structure Bi (mg:Str->Option Value):Prop where
 len:mg "len"=none
 range:mg "range"=none
 isinstance:mg "isinstance"=none
 max:mg "max"=none
 min:mg "min"=none
 abs:mg "abs"=none
 all:mg "all"=none
 int:mg "int"=none
 bool:mg "bool"=none
 str:mg "str"=none
 list:mg "list"=none
 tuple:mg "tuple"=none
 dict:mg "dict"=none
 zip:mg "zip"=none
 enumerate:mg "enumerate"=none
 sum:mg "sum"=none
section
variable {X : Cx} {a b c : Expr} {ta tb tc : TE} {pos : Pos}
def Bc (i j:Int):Prop:=0 < j/\j<=2^100
theorem cZ:OpR X (binaryOp .FloorDiv) (rI Bc fun i j=> .int (i / j)):=opI fun i j _ _ _ _ _ hc q=>by
 have h1:(0:Int) < j:=hc.1;have h2:j<=2^100:=hc.2;refine floordiv_int (by lia) (by rw[Int.fdiv_eq_ediv_of_nonneg i (by lia)];exact q) (.inl (PyProof.noPylong_of_log2 ?_))
 have h3:j.natAbs<=2^100:=by lia
 have h4:j.natAbs≠0:=by lia
 exact Nat.lt_of_lt_of_le ((Nat.log2_lt h4).mpr (Nat.lt_of_le_of_lt h3 (by decide:2^100 < 2^101))) (by decide)
def Ml (t:TS):TS:=fun D Z H=>∃M:St->Hp->Prop,t {D with nx:=M} Z H/\∀Z' H',M Z' H'->D.nx Z' H'
theorem bq {st:Stmt}{t:TS}(h:PS X st t):PS X st (Ml t):=by
 intro pins s Z H D I hq;obtain⟨M,h1,h2⟩:=hq;refine thn (h pins s Z H _ I h1) fun f s1 q=> ?_
 cases f with
 | next=>obtain⟨Z',H',I',q'⟩:=q;exact⟨Z',H',I',h2 _ _ q'⟩
 | brk=>exact q
 | cont=>exact q
 | ret u=>exact q
def L6 (t T:String):Option Bool:=
 if t=T then(if T∈["int","bool","str","list","tuple","dict"] then some true else none)
 else if t∈["int","bool","str","list","tuple","dict","NoneType"]/\T∈["int","bool","str","list","tuple","dict"] then some (t="bool"/\T="int") else none
structure Has (P:Program) (w:World) (K:Frag) (mg:Str->Option Value) (base:Heap) (k:Nat) (x:Str) (ps:List Str) (sp:Sp):Prop where
 ex:∃(f:Addr) (fd:FuncData),mg x=some (.ref f)/\W.keepIn K (.ref f)=true/\ie K fd ps []/\iC P w K mg base CX0 k f fd ps sp
theorem Has.mono {P:Program}{w:World}{K:Frag}{mg:Str->Option Value}{base:Heap}{j k:Nat}{x:Str}{ps:List Str}{sp:Sp}(h:Has P w K mg base j x ps sp) (hj:j<=k):Has P w K mg base k x ps sp:=by
 obtain⟨f,fd,h1,h2,h3,h4⟩:=h.ex;exact⟨f,fd,h1,h2,h3,h4.mono hj⟩
theorem Has.imp {P:Program}{w:World}{K:Frag}{mg:Str->Option Value}{base:Heap}{k:Nat}{x:Str}{ps:List Str}{sp sp':Sp}(h:Has P w K mg base k x ps sp) (hi:∀vs H Q E,sp' vs H Q E->sp vs H Q E):Has P w K mg base k x ps sp':=by
 obtain⟨f,fd,h1,h2,h3,h4⟩:=h.ex;exact⟨f,fd,h1,h2,h3,h4.imp hi⟩
theorem Gu {k:Nat}{x:Str}{ps:List Str}{sp:Sp}{e:Expr}{es:List Expr}{t:TA}{p pos:Pos}(h:Has X.prog X.w X.K X.mg X.base k x ps sp) (hr:Room k X.A) (hg:Gl X x)
  (ha:PA X (e::es) t) (hdb:(x == ("__debug__":Str))=false:=by decide) (he:starEach (e::es) X.env=(false,eval e X.env)::starEach es X.env:=by rfl) (hpl:(backTo pos (starEach es X.env)).any (·.1)=false:=by rfl):
  PE X (.Call (.Name x p) (e::es) [] pos) (Es sp [] E0 t):=by
 obtain⟨f,fd,hm,hk,hb,F⟩:=h.ex;exact Im F hr hg hm hk hb .nil yA ha hdb he hpl
structure Def (K:Frag) (mg:Str->Option Value) (x:Str) (st:Stmt) (ps:List Str):Prop where
 ex:∃(f:Addr) (fd:FuncData),Fun K x x st f fd/\mg x=some (.ref f)/\ie K fd ps []
theorem Def.has {P:Program}{w:World}{K:Frag}{mg:Str->Option Value}{base:Heap}{k:Nat}{x:Str}{st:Stmt}{N ps:List Str}{sp:Sp}(D:Def K mg x st ps) (S:aq N ps (af st)) (len:∀vs H Q E,sp vs H Q E->vs.length=ps.length)
  (hbody:∀(f:Addr) (cdv:Value) (A:Around) (outer:List Env) (s:Shared) (H:Hp) (vs:List V) (Q:VK) (E:XK),Room k (A.deeper (envOfC x (af st) s.heap.objs.size f cdv))->sp vs H Q E->
   ∃t,PSs (fP CX0 P w K mg base N x (af st) f cdv A outer s H E).nox (eZ st) t/\t {nx:=fun _ H'=>Q .non H',rt:=Q} (start N vs) H):Has P w K mg base (k+1) x ps sp:=by
 obtain⟨f,fd,F,hm,hb⟩:=D.ex;exact⟨f,fd,hm,F.kp,hb,F.ok S len fun cdv A outer s H vs Q E hr h=>hbody f cdv A outer s H vs Q E hr h⟩
end
theorem yg {c A B:Prop} [Decidable c] (hc:c) (h:A):if decide c=true then A else B:=by
 rw[decide_eq_true hc];exact y_ h
theorem cA {c A B:Prop} [Decidable c] (hc:¬c) (h:B):if decide c=true then A else B:=by
 rw[decide_eq_false hc];exact CG h
theorem bz {c A B:Prop} [Decidable c] (h1:c->A) (h2:¬c->B):if decide c=true then A else B:=by
 by_cases h:c
 .exact yg h (h1 h)
 .exact cA h (h2 h)
def But (d:Addr) (H H':Hp):Prop:=∀b o,b≠d->H b=some o->H' b=some o
theorem But.refl (d:Addr) (H:Hp):But d H H:=fun _ _ _ h=>h
theorem But.trans {d:Addr}{H H1 H2:Hp}(a:But d H H1) (b:But d H1 H2):But d H H2:=fun c o hc h=>b c o hc (a c o hc h)
theorem az.but {d:Addr}{H H1:Hp}(a:az H H1):But d H H1:=fun c o _ h=>a c o h
theorem But.upd {d:Addr}{H:Hp}{o:HO}:But d H (upd H d o):=fun c u hc h=>by rw[ai hc];exact h
theorem ag {H:Hp}{p:Addr}(h:H p=none) (o:HO):az H (upd H p o):=fun b u q=>by rw[ai (aj q h)];exact q
theorem But.seq {K:Frag}{d:Addr}{H H':Hp}{a:Addr}{xs:List V}(e:But d H H') (hne:a≠d) (h:SqL K H a xs):SqL K H' a xs:=by
 rcases h with(h | ⟨o,h⟩) | h
 .exact .inl (.inl (e _ _ hne h))
 .exact .inl (.inr ⟨o,e _ _ hne h⟩)
 .exact .inr h
def Bd (x:Str) (st:Stmt) (ps:List Str):Prop:=∀(kV doc pm:Value) (an:Option Addr) (cdv ct:Value) (us:List Value),us.length=ps.length->
 bindArgs (W.fnOf x x (iS st) (eZ st) (af st) .none kV doc pm an cdv ct) ⟨us,[]⟩=pure (ps.zip us)
theorem aB {K:Frag}{h:Heap}{mg:Str->Option Value}{x:Str}{st:Stmt}{ps:List Str}{f:Addr}{od an:Option Addr}{sl:Array (Option Value)}{oc kV dc pm cd ct:Value}(b:Bd x st ps) (X:K.In h) (G:h.Ns mainGlobals mg)
  (a:W.nsIn K mainGlobals x=some (some (.ref f))) (l:K.lookup f=some ⟨oc,od,.func (W.fnOf x x (iS st) (eZ st) (af st) .none kV dc pm an cd ct),sl⟩) (c:W.codeIn K cd x=true) (k:W.keepIn K (.ref f)=true):
  Def K mg x st ps:=by
 have F:=CM (st:=st) l c k;exact⟨f,_,F,W.mg_of X G a,F.binds b⟩
theorem LM {K:Frag}{h:Heap}{mg:Str->Option Value}(X:K.In h) (G:h.Ns mainGlobals mg)
  (z0:W.nsIn K mainGlobals "len"=some none) (z1:W.nsIn K mainGlobals "range"=some none) (z2:W.nsIn K mainGlobals "isinstance"=some none) (z3:W.nsIn K mainGlobals "max"=some none) (z4:W.nsIn K mainGlobals "min"=some none)
  (z5:W.nsIn K mainGlobals "abs"=some none) (z6:W.nsIn K mainGlobals "all"=some none) (z7:W.nsIn K mainGlobals "int"=some none) (z8:W.nsIn K mainGlobals "bool"=some none) (z9:W.nsIn K mainGlobals "str"=some none)
  (z10:W.nsIn K mainGlobals "list"=some none) (z11:W.nsIn K mainGlobals "tuple"=some none) (z12:W.nsIn K mainGlobals "dict"=some none) (z13:W.nsIn K mainGlobals "zip"=some none) (z14:W.nsIn K mainGlobals "enumerate"=some none) (z15:W.nsIn K mainGlobals "sum"=some none):Bi mg:=
 ⟨W.mg_none_of X G z0,W.mg_none_of X G z1,W.mg_none_of X G z2,W.mg_none_of X G z3,W.mg_none_of X G z4,W.mg_none_of X G z5,W.mg_none_of X G z6,W.mg_none_of X G z7,W.mg_none_of X G z8,
  W.mg_none_of X G z9,W.mg_none_of X G z10,W.mg_none_of X G z11,W.mg_none_of X G z12,W.mg_none_of X G z13,W.mg_none_of X G z14,W.mg_none_of X G z15⟩
def BY (K:Frag):Sp:=fun vs H Q _=>∃(a:Addr) (ns:List Int),vs=[.ref a]/\SqL K H a (ns.map V.int)/\ns.length<=63/\Ie H/\∀H',Q (.bl true) H'
theorem Ka {P:Program}{w:World}{K:Frag}{h:Heap}{mg:Str->Option Value}{x:Str}{st:Stmt}{fa f:Addr}{od an:Option Addr}{sl:Array (Option Value)}{oc kV dc pm cd ct:Value}{k:Nat}(b:Bd "law" st [x]) (X:K.In h) (G:h.Ns mainGlobals mg) (hfa:mg "law"=some (.ref fa))
  (a:W.nsIn K mainGlobals "law"=some (some (.ref f))) (l:K.lookup f=some ⟨oc,od,.func (W.fnOf "law" "law" (iS st) (eZ st) (af st) .none kV dc pm an cd ct),sl⟩) (c:W.codeIn K cd "law"=true) (kp:W.keepIn K (.ref f)=true)
  (ok:∀(f:Addr) (fd:FuncData),Fun K "law" "law" st f fd->∀base:Heap,iC P w K mg base CX0 k f fd [x] (BY K)):
  ∃fd:FuncData,(∀ (s:Shared) (u:Value),BindsTo s fd ⟨[u],[]⟩ [(x,u)])/\∀base:Heap,K.In base->base.Ns mainGlobals mg->iC P w K mg base CX0 k fa fd [x] (BY K):=by
 have e:=hfa.symm.trans (W.mg_of X G a)
 cases e
 have F:=CM (st:=st) l c kp;exact⟨_,fun s u=> .of_eq (b kV dc pm an cd ct [u] rfl),fun base _ _=>ok _ _ F base⟩
theorem Hl {l:PySem.W.OpenLaw}{k:Nat}{x:Str}{q:Program}{loose:List Str}{XP:(Str->Option Value)->Heap->Prop}{YP:World->Heap->Prop}{d:DefRec}{K:Params->Frag}(hn:l.most=some 63) (hdf:d.params.defaults=[])
  (hr:Room k callerA) (hY:∀(w:World) (h:Heap),YP w h->(K w.params).In h)
  (F:∀(w:World) (mg:Str->Option Value) (fa:Addr) (h:Heap),(K w.params).In h->h.Ns mainGlobals mg->mg d.name=some (.ref fa)->
   ∃fd:FuncData,(∀ (s:Shared) (u:Value),BindsTo s fd ⟨[u],[]⟩ [(x,u)])/\∀base:Heap,(K w.params).In base->base.Ns mainGlobals mg->iC l.prog w (K w.params) mg base CX0 k fa fd [x] (BY (K w.params))):
  PySem.W.WalkO q loose XP YP l.row.toRowW d [] (fun f vs=>PySem.call f vs):=
 L2.HY (n:=63) (k:=k) (x:=x) (CX:=fun _=>CX0) (sp:=fun w=>BY (K w.params)) hn (by decide) hdf hr hY F (fun _ _ a ns hl hO hS=>⟨a,ns,rfl,hS,hl,hO,fun _=>rfl⟩) fun _ _ _ _ _ z=>z
def sw:List (Str × NameKind)->Env->List (Str × Addr)->List (Str × Addr)
 | [],_,acc=>acc
 | (n,k)::r,env,acc=>sw r env (if (k == NameKind.free)=true then(n,(env.cells.lookup n).getD 0)::acc else acc)
theorem pH {scope:Scope}{env:Env}(h:∀y∈scope.names,y.2=NameKind.free->∃c,env.cells.lookup y.1=some c):closureFor scope env=pure (sw scope.names env []):=by
 have key:∀(l:List (Str × NameKind)) (acc:List (Str × Addr)),(∀ y∈l,y.2=NameKind.free->∃c,env.cells.lookup y.1=some c)->
   (forIn l acc fun(x:Str × NameKind) (r:List (Str × Addr))=>(if (x.2 == NameKind.free)=true then do let a <-cellOf env x.1;pure (ForInStep.yield ((x.1,a)::r)) else pure (ForInStep.yield r):Sem (ForInStep (List (Str × Addr)))))=pure (sw l env acc):=by
  intro l
  induction l with
  | nil=>intro acc _;rfl
  | cons y r ih=>
   intro acc hl;obtain⟨n,k⟩:=y;rw[List.forIn_cons];have hr:∀z∈r,z.2=NameKind.free->∃c,env.cells.lookup z.1=some c:=fun z hz=>hl z (List.mem_cons_of_mem _ hz)
   by_cases hk:(k == NameKind.free)=true
   .have hk':k=NameKind.free:=by simpa using hk
    obtain⟨c,hc⟩:=hl (n,k) List.mem_cons_self hk';have hc':env.cells.lookup n=some c:=hc;have e:cellOf env n=pure c:=by unfold cellOf;rw[hc']
    simp only[hk,if_true,e,pure_bind]
    rw[ih _ hr]
    simp only[sw,hk,if_true,hc',Option.getD_some]
   .have hk2:(k == NameKind.free)=false:=by simpa using hk
    simp only[hk2,Bool.false_eq_true,if_false,pure_bind]
    rw[ih _ hr]
    simp only[sw,hk2,Bool.false_eq_true,if_false]
 have k:=key scope.names [] h;unfold closureFor;refine Eq.trans ?_ k
 simp only[bind_pure_comp,bind_pure]
theorem BI {env:Env}{x:Str}{c:Addr}:∀ {names:List (Str × NameKind)}{acc:List (Str × Addr)},(∀ y∈names,y.2=NameKind.free->∃c,env.cells.lookup y.1=some c)->(∀ d,acc.lookup x=some d->env.cells.lookup x=some d)->
  (sw names env acc).lookup x=some c->env.cells.lookup x=some c
 | [],_,_,ha,h=>ha c h
 | (n,k)::r,acc,hl,ha,h=>by
  unfold sw at h;refine BI (names:=r) (fun z hz=>hl z (List.mem_cons_of_mem _ hz)) (fun d hd=> ?_) h
  split at hd
  .rename_i hk
   have hk':k=NameKind.free:=by simpa using hk
   obtain⟨c',hc'⟩:=hl (n,k) List.mem_cons_self hk';have hc':env.cells.lookup n=some c':=hc';rw[hc',Option.getD_some,List.lookup_cons] at hd
   by_cases hx:x=n
   .subst hx
    simp only[beq_self_eq_true] at hd
    rw[<- hd];exact hc'
   .have hb:(x == n)=false:=by simpa using hx
    rw[hb] at hd;exact ha d hd
  .exact ha d hd
theorem wG {env:Env}{x:Str}:∀ {names:List (Str × NameKind)}{acc:List (Str × Addr)},((x,NameKind.free)∈names\/∃d,acc.lookup x=some d)->∃c,(sw names env acc).lookup x=some c
 | [],acc,h=>by
  rcases h with h | h
  .simp at h
  .exact h
 | (n,k)::r,acc,h=>by
  unfold sw;apply wG (names:=r)
  rcases h with h | ⟨d,h⟩
  .rcases List.mem_cons.mp h with e | e
   .cases e
    refine .inr ⟨(env.cells.lookup x).getD 0,?_⟩
    rw[if_pos (by simp),List.lookup_cons]
    simp only[beq_self_eq_true]
   .exact .inl e
  .refine .inr ?_
   split
   .rw[List.lookup_cons]
    cases(x == n) with
    | true=>exact⟨_,rfl⟩
    | false=>exact⟨d,h⟩
   .exact⟨d,h⟩
structure oX (sc0 scope:Scope) (N0 N:List Str) (t:Nat) (js:List Nat):Prop where
 kind:scope.kind= .function
 cell:∀y∈scope.names,y.2≠NameKind.cell
 names:∀y∈scope.names,y.2=NameKind.local->scope.names.lookup y.1=some NameKind.local
 free:∀y∈scope.names,y.2=NameKind.free->sc0.names.lookup y.1=some NameKind.cell
 frs:∀x∈N.drop t,scope.names.lookup x=some NameKind.free
 js:(N.drop t).map some=js.map fun j=>N0[j]?
 len:t<=N.length
 nd:N.Nodup
def blk (t:Nat) (js:List Nat) (Z:St):St:=List.replicate t none++js.map fun j=>(Z[j]?).join
def cxB (X:Cx) (scope:Scope) (N:List Str) (C:Addr) (s:Shared) (H:Hp) (fp:List Addr):Cx where
 prog:=X.prog
 w:=X.w
 K:=X.K
 mg:=X.mg
 base:=X.base
 A:=X.A
 N:=N
 s₀:=s
 H₀:=H
 env:=compEnvC scope (sw scope.names X.env []) C X.env
 outer:=X.stack
 stack:=X.stack
 ex:=fp
 fn:=fun _=>false
 calm:=X.calm
 pn:=[]
 xe:=fun _ _=>False
theorem my {f:Str->NameKind->NameKind}{x:Str}:∀(names:List (Str × NameKind)),(names.map fun y=>(y.1,f y.1 y.2)).lookup x=(names.lookup x).map (f x)
 | []=>rfl
 | (n,k)::r=>by
  rw[List.map_cons,List.lookup_cons,List.lookup_cons,my r]
  by_cases hx:x=n
  .subst hx
   simp
  .have hb:(x == n)=false:=by simpa using hx
   rw[hb]
theorem wN (scope:Scope) (env:Env):(relabel scope env).names=scope.names.map fun y=>(y.1,if (y.2 == NameKind.free && env.scope.kind == .function && env.kindOf y.1 == some NameKind.cell)=true then NameKind.cell else y.2):=by
 unfold relabel;refine List.map_congr_left fun y _=> ?_
 obtain⟨n,k⟩:=y;dsimp only
 split <;> rfl
theorem nw (scope:Scope) (env:Env) (x:Str):(relabel scope env).names.lookup x=(scope.names.lookup x).map fun k=>if (k == NameKind.free && env.scope.kind == .function && env.kindOf x == some NameKind.cell)=true then NameKind.cell else k:=by
 rw[wN];exact my (f:=fun n k=>if (k == NameKind.free && env.scope.kind == .function && env.kindOf n == some NameKind.cell)=true then NameKind.cell else k) scope.names
section
variable {X : Cx} {pins : List (Addr × Obj)} {σ : St} {H H' : Hp} {s s' : Shared} {sc0 scope : Scope} {N0 N : List Str} {t : Nat} {js : List Nat} {fp : List Addr}
theorem vo (I:Inv X pins Z H s) (hsc:X.env.scope=sc0) (B:oX sc0 scope N0 N t js):∀y∈scope.names,y.2=NameKind.free->∃c,X.env.cells.lookup y.1=some c:=fun y hy hf=>
 I.ok.has y.1 (.inl (by show X.env.scope.names.lookup y.1=_;rw[hsc];exact B.free y hy hf))
theorem E2 {m:Str->Option Value}{ob:Obj}{h₁:Heap}{tk:Nat}(I:Inv X pins Z H s) (hsc:X.env.scope=sc0) (hN0:X.N=N0) (B:oX sc0 scope N0 N t js) (hfp:∀b∈fp,sY X pins H b) (hlt:∀b∈fp,b < s.heap.objs.size)
  (hns:h₁.Ns s.heap.objs.size m) (hsb:Heap.SameBut s.heap.objs.size (s.heap.push ob) h₁):Inv (cxB X scope N s.heap.objs.size s H fp) [] (blk t js Z) H {s with heap:=h₁,toks:=tk}:=by
 have hf:=vo I hsc B;have sub:∀ {x c},(sw scope.names X.env []).lookup x=some c->X.env.cells.lookup x=some c:=fun {x c} h=>BI hf (fun d hd=>by simp at hd) h
 have old:∀b o,s.heap.get? b=some o->h₁.get? b=some o:=fun b o e=>(hsb.2 b (Nat.ne_of_lt (Heap.lt_size e))).trans (Heap.get?_push_of_some _ e)
 refine⟨⟨I.ok.mod,B.kind,I.ok.glob,I.ok.blt,Nat.le_refl _,fun x y c h1 h2=>I.ok.inj x y c (sub h1) (sub h2),fun x hx=> ?_,fun x c h=>absurd (show false=true from h) (by decide),I.ok.hd,I.ok.frames,.inl rfl,fun b hb=>⟨Nat.ne_of_lt (hlt b hb),fun x c h=>(hfp b hb).2.2.2.2.1 x c (sub h)⟩,
  I.bs,Nat.le_trans I.ok.bsz I.sz,fun b o e hb=> ?_,fun b hb z=> ?_,I.stack,I.stkFree⟩,rfl,I.bare,Un.kept old,⟨m,hns,fun i x v e1 e2 e3=> ?_⟩,fun x c h=> ?_,I.hok.fresh (Nat.le_refl _),fun x c h=>I.freeC x c (sub h),fun p hp=>absurd (show p∈([]:List (Addr × Obj)) from hp) (by simp),I.hok.kept old,?_⟩
 .apply wG
  left
  have q:(relabel scope X.env).names.lookup x=some NameKind.cell\/(relabel scope X.env).names.lookup x=some NameKind.free:=hx;rw[nw] at q
  cases e:scope.names.lookup x with
  | none=>rw[e] at q;simp at q
  | some k=>
   have hm:=PySem.mem_of_lookup e
   by_cases hk:k=NameKind.free
   .rw[<- hk];exact hm
   .rw[e] at q;have hb:(k == NameKind.free)=false:=by simpa using hk
    simp only[Option.map_some,hb,Bool.false_and,Bool.false_eq_true,if_false,Option.some.injEq] at q
    rcases q with q | q
    .exact absurd q (B.cell _ hm)
    .exact absurd q hk
 .rcases(hfp b hb).2.2.2.1 with z | z
  .exact I.ok.noex b o e z
  .exact absurd (Nat.lt_of_lt_of_le (Heap.lt_size e) (Nat.le_trans I.ok.bsz z)) (Nat.lt_irrefl _)
 .rcases List.mem_cons.mp (I.stkSub b z) with q | q
  .exact(hfp b hb).2.1 q
  .exact(hfp b hb).2.2.1 q
 .unfold blk at e2
  by_cases hi:i < t
  .rw[List.getElem?_append_left (by simpa using hi),List.getElem?_replicate] at e2
   split at e2 <;> cases e2
  .rw[List.getElem?_append_right (by simpa using Nat.not_lt.mp hi),List.length_replicate,List.getElem?_map] at e2
   cases ej:js[i - t]? with
   | none=>rw[ej] at e2;cases e2
   | some j=>
    rw[ej] at e2;have e2:(Z[j]?).join=some v:=by simpa using e2
    have eZ:Z[j]? =some (some v):=by
     cases q:Z[j]? with
     | none=>rw[q] at e2;cases e2
     | some o=>rw[q] at e2;exact congrArg some e2
    have eN:(N.drop t)[i - t]? =some x:=by rw[List.getElem?_drop,show t+(i - t)=i by lia];exact e1
    have eX:X.N[j]? =some x:=by
     have q:=congrArg (fun l=>l[i - t]?) B.js
     simp only[List.getElem?_map,eN,ej,Option.map_some] at q
     rw[hN0];exact(Option.some.inj q).symm
    have hxf:scope.names.lookup x=some NameKind.free:=B.frs x (List.mem_of_getElem? eN);have hxm:=PySem.mem_of_lookup hxf;have hxc:X.env.scope.names.lookup x=some NameKind.cell:=by rw[hsc];exact B.free _ hxm rfl
    obtain⟨m0,hn0,hl0⟩:=I.loc;obtain⟨u,r,l⟩:=hl0 j x v eX eZ (.inr (.inl hxc));refine⟨u,r,?_⟩
    rcases l with⟨hk,_⟩|⟨_,c,hc,hcell⟩
    .have hk:X.env.scope.names.lookup x=some NameKind.local:=hk;rw[hxc] at hk
     cases hk
    .obtain⟨c',hc'⟩:=wG (env:=X.env) (names:=scope.names) (acc:=[]) (.inl hxm);have ec:=sub hc';rw[hc] at ec
     cases ec
     refine .inr ⟨?_,c,hc',?_⟩
     .have q:=nw scope X.env x;rw[hxf] at q;show(relabel scope X.env).names.lookup x=_\/(relabel scope X.env).names.lookup x=_
      rw[q]
      simp only[Option.map_some]
      split
      .exact .inl rfl
      .exact .inr rfl
     .obtain⟨o,ho,hd⟩:=hcell;exact⟨o,old c o ho,hd⟩
 .obtain⟨v,o,ho,hd⟩:=I.cell x c (sub h);exact⟨v,o,old c o ho,hd⟩
 .show(blk t js Z).length=N.length
  unfold blk;have q:=congrArg List.length B.js
  simp only[List.length_map,List.length_drop] at q
  rw[List.length_append,List.length_replicate,List.length_map];have:=B.len
  lia
theorem EH {pins':List (Addr × Obj)}{Z':St}(I:Inv X pins Z H s) (hfp:∀b∈fp,sY X pins H b) (I':Inv (cxB X scope N s.heap.objs.size s H fp) pins' Z' H' s'):Inv X pins Z H' s':=
 I.call' (ch:=fp) I'.os I'.base I'.hok I'.bare fun b hb=>⟨(hfp b hb).2.2.2.1,(hfp b hb).2.1,(hfp b hb).2.2.2.2.1,(hfp b hb).2.2.2.2.2⟩
theorem Cr {h':Heap}{C:Addr}{Z':St}(I:Inv X pins Z H s) {s₁:Shared}(I₁:Inv X pins Z' H' s₁) (hC:C=s.heap.objs.size) (hn:H' C=none) (hs:Heap.SameBut C s₁.heap h'):Inv X pins Z' H' {s₁ with heap:=h'}:=by
 subst hC;refine I₁.turned (t':=s₁.toks) (it:=s.heap.objs.size) (fun b o hb e=>(hs.2 b hb).trans e) hn (Nat.ne_of_gt I.lt) (.inr I.sz) (fun x c e z=> ?_) fun p hp z=> ?_
 .obtain⟨v,q⟩:=I.cell x c e;exact absurd q.lt (by rw[z];exact Nat.lt_irrefl _)
 .exact absurd (Heap.lt_size (I.pin p hp).1) (by rw[z];exact Nat.lt_irrefl _)
end
def Wk (Z Z':St):Prop:=∀(k:Nat) v,Z[k]? =some (some v)->Z'[k]? =some (some v)
theorem Wk.none {r r':St}{o:Option V}(h:Wk r r'):Wk (none::r) (o::r')
 | 0,v,q=>by simp at q
 | k+1,v,q=>by
  rw[List.getElem?_cons_succ] at q ⊢;exact h k v q
theorem Wk.refl {Z:St}:Wk Z Z:=fun _ _ h=>h
structure n8 (J:It) (g:TG) (te:TE) (t:Nat) (js:List Nat) (Z:St) (p:Addr) (H1:Hp) (Q:VK):Prop where
 out:∃W:Nat->Nat->List V->Hp->Prop,(∃ m,W 0 m [] (upd H1 p (.lst [])))/\∀i m ys H,W i m ys H->
  (J.stop i H/\Q (.ref p) H)\/(J.go i H/\∀x H',J.yld i H x H'->g x (blk t js Z) H' fun Z2 H2=>Wk (blk t js Z) Z2/\te Z2 H2 fun y H3=>H3 p=some (.lst ys)/\ys.length < sizeLine/\∃m',m' < m/\W (i+1) m' (ys++[y]) (upd H3 p (.lst (ys++[y]))))
def Jx (wi:TI) (g:TG) (te:TE) (t:Nat) (js:List Nat):TE:=fun Z H Q=>wi Z H fun J H1=>∀p,H1 p=none->n8 J g te t js Z p H1 Q
theorem zw {prog:Program}{w:World}{A:Around}{R:Result->Shared->Prop}{s:Shared}{elt target iter:Expr}{scope:Scope}{pos:Pos}{it acc:Value}{env:Env}(I:Nat->Shared->Prop)
  (turn:∀n s,I n s->wpAny (model prog w) A (pyNext it) (fun r s₁=>match r with
   | none=>R (.ok .next) s₁
   | some v=>wpAny (model prog w) A (letOwnedTupleGo target it v) (fun _ s₁'=>wpAny (model prog w) A (assign target env v) (fun _ s₂=>wpAny (model prog w) A (eval elt env) (fun x s₃=>
     wpAny (model prog w) A (call (.builtin "list.append") [acc,x]) (fun _ s₄=>∃m,m < n/\I m s₄) (fun _ _=>False) s₃)
     (fun _ _=>False) s₂) (fun _ _=>False) s₁') (fun _ _=>False) s₁) (fun _ _=>False) s)
  (n:Nat) (h:I n s):
  codeAny (model prog w) A (.compLoop (.ListComp elt [⟨target,iter,[],0⟩] scope pos) 0 it acc env) R s:=by
 refine codeAny_loop rfl I (fun n s hI=> ?_) n h
 show wpAny _ _ ((compTurn (.ListComp elt [⟨target,iter,[],0⟩] scope pos) 0 it acc env).onRaise (fun x=>do noteFrame x env;theTreesLotGoes x)) _ _ s
 refine wpAny_noted ?_
 rw[compTurn_list1];refine wpAny_bind (wpAny_standAt (wpAny_bind (wpAny_mono (turn n s hI) (fun r s₁ h₁=> ?_) fun _ _ h'=>h'.elim)))
 cases r with
 | none=>exact wpAny_pure h₁
 | some v=>
  exact wpAny_bind (wpAny_mono h₁ (fun _ s₁' h₁'=>wpAny_bind (wpAny_mono h₁' (fun _ s₂ h₂=>wpAny_bind (wpAny_bind (wpAny_mono h₂ (fun x s₃ h₃=>wpAny_bind (wpAny_mono h₃
   (fun _ s₄ h₄=>wpAny_pure (wpAny_pure ⟨rfl,h₄⟩)) fun _ _ h'=>h'.elim)) fun _ _ h'=>h'.elim))) fun _ _ h'=>h'.elim)) fun _ _ h'=>h'.elim)
section
variable {X : Cx}
theorem Cl {pins:List (Addr × Obj)}{Z:St}{s2:Shared}{sc0 scope:Scope}{N0 N:List Str}{t:Nat}{js:List Nat}{elt iter tg:Expr}{pos:Pos}{g:TG}{te:TE}{J:It}{H2:Hp}{it:Addr}{fp:List Addr}{tn:Nat->Heap->Prop}
  {RR:Value->Addr->Result->Shared->Prop}{Q:V->Hp->Prop}{E:Value->Shared->Prop}(hc:X.calm=true) (hsc:X.env.scope=sc0) (hN0:X.N=N0) (B:oX sc0 scope N0 N t js)
  (hg:∀(C:Addr) (s:Shared) (H:Hp) (fp:List Addr),PG (cxB X scope N C s H fp) tg g) (he:∀(C:Addr) (s:Shared) (H:Hp) (fp:List Addr),PE (cxB X scope N C s H fp) elt te)
  (I2:Inv X pins Z H2 s2) (T:A0 X.prog X.w X.K tg J fp it tn) (st2:tn 0 s2.heap) (f2:∀b∈fp,sY X pins H2 b)
  (h:∀p,H2 p=none->n8 J g te t js Z p H2 Q)
  (hRR:∀(s3:Shared) (H3:Hp) (p:Addr) (H':Hp) (s':Shared) (m:Str->Option Value),Inv X pins Z H3 s3->Inv X pins Z H' s'->s'.heap.Ns s3.heap.objs.size m->H' s3.heap.objs.size=none->Q (.ref p) H'->RR (.ref p) s3.heap.objs.size (.ok .next) s'):
  wpAny (model X.prog X.w) X.A (newList []) (fun acc s₃=>wpAny (model X.prog X.w) X.A (newFunctionEnv scope X.env.globals (sw scope.names X.env []) [] X.env.qual none .none (some X.env)) (fun cenv s₄=>
   codeAny (model X.prog X.w) X.A (.compStart (.ListComp elt [⟨tg,iter,[],0⟩] scope pos) 0 (.ref it) acc {cenv with scope:=relabel scope X.env}) (RR acc cenv.locals) s₄) E s₃) E s2:=by
 refine wpAny_newObj_type ?_ (by show 0<=sizeLine;decide)
 generalize hp:s2.heap.objs.size=p;have hfree:H2 p=none:=by rw[<- hp];exact I2.fresh
 generalize hs3:({s2 with heap:=s2.heap.push {cls:= .type "list",data:= .seq ([]:List Value).toArray}}:Shared)=s3
 have I3:Inv X pins Z (upd H2 p (.lst [])) s3:=by
  rw[<- hs3, <-hp];exact I2.laid (t':=s2.toks) (fun b u e=>Heap.get?_push_of_some _ e) (Nat.le_refl _) ⟨by show 0<=sizeLine;decide,[],0,.nil,Heap.get?_push_size _ rfl⟩
 have old3:∀b o,s2.heap.get? b=some o->s3.heap.get? b=some o:=by
  rw[<- hs3];exact fun b o e=>Heap.get?_push_of_some _ e
 have lt2:∀b∈fp,b < s2.heap.objs.size:=fun b hb=>by
  obtain⟨o,e,_⟩:=T.obj 0 _ st2 b hb;exact Heap.lt_size e
 have f3:∀b∈fp,sY X pins (upd H2 p (.lst [])) b:=fun b hb=>⟨by rw[ai (by rw[<- hp];exact Nat.ne_of_lt (lt2 b hb))];exact(f2 b hb).1,(f2 b hb).2⟩
 have lt3:∀b∈fp,b < s3.heap.objs.size:=fun b hb=>by
  obtain⟨o,e,_⟩:=T.obj 0 _ st2 b hb;exact Heap.lt_size (old3 b o e)
 have st3:tn 0 s3.heap:=T.keep _ _ _ st2 fun b _ o e=>old3 b o e
 obtain⟨W,⟨m0,w0⟩,turn⟩:=(h p hfree).out;refine wpAny_newFunctionEnv B.cell (by intro y hy;simp at hy) (fun h₁ hns₁ hsb₁=> ?_) B.kind
 generalize hs4:({s3 with heap:=h₁,toks:=s3.toks+([]:List (Str × Value)).length}:Shared)=s4
 have I4:Inv (cxB X scope N s3.heap.objs.size s3 (upd H2 p (.lst [])) fp) [] (blk t js Z) (upd H2 p (.lst [])) s4:=by
  rw[<- hs4];exact E2 I3 hsc hN0 B f3 lt3 hns₁ hsb₁
 have st4:tn 0 s4.heap:=by
  rw[<- hs4];exact T.keep _ _ _ st3 fun b hb o e=>(hsb₁.2 b (Nat.ne_of_lt (lt3 b hb))).trans (Heap.get?_push_of_some _ e)
 have stat:∀ {H':Hp},(∀ b∈fp,H' b=none)->∀b∈fp,sY (cxB X scope N s3.heap.objs.size s3 (upd H2 p (.lst [])) fp) [] H' b:=fun {H'} hn b hb=>by
  refine⟨hn b hb,(I4.ok.exf b hb).1,I4.ok.exfs b hb,.inl hb,fun x c e=>(I4.ok.exf b hb).2 x c e,fun q hq=>absurd (show q∈([]:List (Addr × Obj)) from hq) (by simp)⟩
 have loop:∀s₅:Shared,s₅=s4->codeAny (model X.prog X.w) X.A (.compLoop (.ListComp elt [⟨tg,iter,[],0⟩] scope pos) 0 (.ref it) (.ref p) (compEnvC scope (sw scope.names X.env []) s3.heap.objs.size X.env)) (RR (.ref p) s3.heap.objs.size) s₅:=by
  rintro s₅ rfl
  refine zw (fun n s'=>∃i ys H',Inv (cxB X scope N s3.heap.objs.size s3 (upd H2 p (.lst [])) fp) [] (blk t js Z) H' s'/\tn i s'.heap/\(∀ b∈fp,H' b=none)/\W i n ys H') ?_ m0 ⟨0,[],_,I4,st4,fun b hb=>(f3 b hb).1,w0⟩
  rintro n s5 ⟨i,ys,H5,I5,st5,fr5,w5⟩
  rcases turn i n ys H5 w5 with⟨stop,qn⟩|⟨go,step⟩
  .refine thn (T.done (cxB X scope N s3.heap.objs.size s3 (upd H2 p (.lst [])) fp) rfl rfl rfl hc i [] s5 _ H5 _ I5 (stat fr5) st5 stop) fun r s6 ⟨hr,I6⟩=> ?_
   subst hr;obtain⟨m6,hn6,_⟩:=I6.loc;exact hRR s3 _ p H5 s6 m6 I3 (EH I3 f3 I6) hn6 I6.free qn
  .refine BA (T.item (cxB X scope N s3.heap.objs.size s3 (upd H2 p (.lst [])) fp) rfl rfl rfl hc i [] s5 _ H5 _ I5 (stat fr5) st5 go) fun r s6 u hr h6=> ?_
   subst hr;refine thn h6 fun _ s7 ⟨x,H7,I7,r7,y7,st7,fr7⟩=> ?_
   have I7':=I7.pinned (stat fr7) (T.obj _ _ st7);refine thn (hg _ _ _ _ _ s7 _ H7 x u _ I7' r7 (step x H7 y7)) fun _ s8 ⟨Z8,H8,I8,wk8,q8⟩=> ?_
   refine thn (he _ _ _ _ _ s8 Z8 H8 _ I8 q8) fun v9 s9 ⟨y,H9,I9,r9,hp9,hz,m',hm,w9⟩=> ?_
   refine dg (gx _ s9 Z8 H9 (.ref p) [y] (.ref p) [v9] (fun _ H10=>H10=upd H9 p (.lst (ys++[y]))) I9 rfl (.cons r9 .nil) ⟨p,ys,y,rfl,rfl,hp9,hz,rfl⟩) fun _ s10 _ H10 I10 _ e10=> ?_
   subst e10;refine⟨m',hm,i+1,ys++[y],_,?_,T.keep _ _ _ st7 fun b hb o e=>(I10.pin (b,o) (List.mem_append_right _ (List.mem_append_right _ (lB hb e)))).1,fun b hb=> ?_,w9⟩
   .exact I10.unpinned.weak (by rw[I5.len];exact I10.len.symm) wk8
   .obtain⟨o,e,d⟩:=T.obj _ _ st7 b hb;exact(I10.pin (b,o) (List.mem_append_right _ (List.mem_append_right _ (lB hb e)))).2.1
 exact codeAny_compStart_list (loop _ rfl) (T.self _ 0 _ _ _ st4 (loop _ rfl))
variable {sc0 scope : Scope} {N0 N : List Str} {t : Nat} {js : List Nat} {elt iter tg : Expr} {pos : Pos} {wi : TI} {g : TG} {te : TE}
theorem lS (hc:X.calm=true) (hsc:X.env.scope=sc0) (hN0:X.N=N0) (B:oX sc0 scope N0 N t js) (hi:PI X tg iter wi) (hg:∀(C:Addr) (s:Shared) (H:Hp) (fp:List Addr),PG (cxB X scope N C s H fp) tg g)
  (he:∀(C:Addr) (s:Shared) (H:Hp) (fp:List Addr),PE (cxB X scope N C s H fp) elt te) (hs:∀x,foldedSetIterable iter X.env x=pure x:=by intro _;rfl):PE X (.ListComp elt [⟨tg,iter,[],0⟩] scope pos) (Jx wi g te t js):=by
 intro pins s Z H Q I h;rw[eval_ListComp];refine wpAny_comprehension_free (use:=none) rfl hs (pH (vo I hsc B)) B.kind B.names (thn (hi pins s Z H _ I h) fun v s1 h1=>thn h1 fun itv s2 h2=> ?_)
 obtain⟨it,fp,tn,J,H2,e,I2,T,st2,f2,hJ⟩:=h2;subst e;refine Cl (RR:=fun acc C=>compPost (model X.prog X.w) X.A X.xe none (EP X pins Z Q) acc C) (Q:=Q) hc hsc hN0 B hg he I2 T st2 f2 hJ ?_
 intro s3 H3 p H' s' m I3 I' hn hfree q;exact⟨m,hn,fun h' hs'=>⟨.ref p,H',Cr I3 I' rfl hfree hs',rfl,q⟩⟩
theorem zP {i:Nat}{y:Str}{py spos:Pos}(hc:X.calm=true) (hsc:X.env.scope=sc0) (hN0:X.N=N0) (B:oX sc0 scope N0 N t js) (hN:X.N.Nodup) (hiy:X.N[i]? =some y) (hy:Loc X.env.scope y) (hi:PI X tg iter wi)
  (hg:∀(C:Addr) (s:Shared) (H:Hp) (fp:List Addr),PG (cxB X scope N C s H fp) tg g) (he:∀(C:Addr) (s:Shared) (H:Hp) (fp:List Addr),PE (cxB X scope N C s H fp) elt te)
  (hs:∀x,foldedSetIterable iter X.env x=pure x:=by intro _;rfl)
  (hsw:swapsWith (.ListComp elt [⟨tg,iter,[],0⟩] scope pos) (some (.Name y py)) spos.line X.env=pure true:=by rfl)
  (hf:X.fn y=true\/X.env.scope.names.lookup y=some .local:=by first | exact .inl rfl | exact .inr rfl | assumption):
  PS X (.Assign [.Name y py] (.ListComp elt [⟨tg,iter,[],0⟩] scope pos) spos) (HE (Jx wi g te t js) (Cb i)):=by
 intro pins s Z H D I h;rw[exec_Assign_Name_used _ _ _ _ hsw];refine wpAny_bind (wpAny_standAt (wpAny_bind ?_))
 show wpAny _ X.A (do let _ <-comprehension (.ListComp elt [⟨tg,iter,[],0⟩] scope pos) scope X.env _ (newList []) false (eval iter X.env) (some (assign (.Name y py) X.env))) _ _ s
 refine wpAny_bind (wpAny_mono (wpAny_comprehension_free (use:=some (assign (.Name y py) X.env)) (Q:=fun _ s'=>SP X pins D .next s') rfl hs (pH (vo I hsc B)) B.kind B.names
  (thn (hi pins s Z H _ I h) fun v s1 h1=>thn h1 fun itv s2 h2=> ?_)) (fun _ s' hq=>wpAny_pure (wpAny_pure hq)) fun _ _ e=>e)
 obtain⟨it,fp,tn,J,H2,e,I2,T,st2,f2,hJ⟩:=h2;subst e;refine Cl (RR:=fun acc C=>compPost (model X.prog X.w) X.A X.xe (some (assign (.Name y py) X.env)) (fun _ s'=>SP X pins D .next s') acc C) (Q:=fun x H1=>Cb i x Z H1 D.nx) hc hsc hN0 B hg he I2 T st2 f2 hJ ?_
 intro s3 H3 p H' s' m I3 I' hn hfree q;refine wpAny_assign_Name (x6 (v:=V.ref p) I' hN hiy hy (show bj (.ref p) (.ref p) from rfl) (fun s'' I'' ⟨a,hsa,ha⟩=>⟨m,hn.sameBut hsa ?_,fun h' hs'=>⟨_,H',Cr I3 I'' rfl hfree hs',q⟩⟩) hf)
 rcases ha with ha | ha
 .rw[ha];exact Nat.ne_of_gt I3.lt
 .obtain⟨v,z⟩:=I3.cell y a ha;exact Nat.ne_of_gt z.lt
end
section
variable {X : Cx}
def uS (x:V) (xs:List V) (j:Nat):Prop:=(∃ y,xs[j]? =some y/\eqV y x=true)/\∀m y,m < j->xs[m]? =some y->eqV y x=false
theorem EY {x:V}{xs:List V}{its:List Value}{j:Nat}(r:aW xs its) (fs:xs.all mH=true) (hf:uS x xs j):
  ∃hj:j < its.toArray.size,eqU x its.toArray[j]=true/\∀m (hm:m < its.toArray.size),m < j->eqU x its.toArray[m]=false:=by
 obtain⟨⟨y,hy,he⟩,hno⟩:=hf;have fl:∀(m:Nat) (z:V),xs[m]? =some z->mH z=true:=fun m z hz=>List.all_eq_true.mp fs z (List.mem_of_getElem? hz)
 obtain⟨u,hu,ru⟩:=r.get hy;obtain⟨hj,ej⟩:=List.getElem?_eq_some_iff.mp hu;refine⟨by simpa using hj,?_,fun m hm hmj=> ?_⟩
 .rw[List.getElem_toArray,ej,zU ru (fl _ _ hy)];exact he
 .have hm':m < its.length:=by simpa using hm
  have hmx:m < xs.length:=by rw[r.length];exact hm'
  obtain⟨u',hu',ru'⟩:=r.get (List.getElem?_eq_getElem hmx);obtain⟨_,em⟩:=List.getElem?_eq_some_iff.mp hu';rw[List.getElem_toArray,em,zU ru' (fl _ _ (List.getElem?_eq_getElem hmx))];exact hno m _ hmj (List.getElem?_eq_getElem hmx)
theorem uq {M:Model}{A:Around}{E:Value->Shared->Prop}{s:Shared}{β:Type}(n:Nat) (f:Nat->β->Sem (ForInStep β)) (I:Nat->β->Shared->Prop) (Q:β->Shared->Prop)
  (turn:∀i b s,i < n->I i b s->wpAny M A (f i b) (fun r s'=>match r with | .yield b'=>I (i+1) b' s' | .done b'=>Q b' s') E s)
  (fin:∀b s,I n b s->Q b s) (b:β) (h:I 0 b s):wpAny M A (forIn [:n] b f) Q E s:=by
 rw[Std.Legacy.Range.forIn_eq_forIn_range'];have hz:List.range' [:n].start [:n].size [:n].step=(List.range n):=by simp [Std.Legacy.Range.size,List.range_eq_range']
 rw[hz];refine wpAny_forIn_list f (fun pZ b s=>∃i,pZ=(List.range n).drop i/\i<=n/\I i b s) Q (fun x pZ b s hI=> ?_) (fun b s hI=> ?_) _ b ⟨0,rfl,Nat.zero_le _,h⟩
 .obtain⟨i,hr,hi,hI⟩:=hI;have hlt:i < n:=by
   rcases Nat.lt_or_ge i n with h' | h'
   .exact h'
   .rw[List.drop_of_length_le (by simpa using h')] at hr;cases hr
  rw[List.drop_eq_getElem_cons (by simpa using hlt)] at hr
  injection hr with h1 h2
  have h1:x=i:=by simpa using h1
  subst h1;refine wpAny_mono (turn x b s hlt hI) (fun r s' hr=> ?_) fun _ _ e=>e
  cases r with
  | done b'=>exact hr
  | yield b'=>exact⟨x+1,h2,hlt,hr⟩
 .obtain⟨i,hr,hi,hI⟩:=hI;have:i=n:=by
   rcases Nat.lt_or_ge i n with h' | h'
   .rw[List.drop_eq_getElem_cons (by simpa using h')] at hr;cases hr
   .lia
  subst this;exact fin b s hI
theorem xF (l:Addr) (items:Array Value) (n:Nat) (dd:Option Addr) (sl:Array (Option Value)) (x:Value) (e:Value->Bool) (j:Nat) (hj:j < items.size) (hit:e items[j]=true) (hno:∀m (hm:m < items.size),m < j->e items[m]=false):
  Meets (Builtin.«tuple.index» ⟨[.ref l,x],[]⟩)
   (fun A R s=>s.heap.get? l=some {cls:= .type "tuple",dict:=dd,data:= .seq items n,slots:=sl}/\(∀ y,y∈items->SeqAt.EqAt A.in1 s y x (e y))/\R (.ok (.ret (.int j s.toks))) {s with toks:=s.toks+1}):=
 .of_wp fun prog w A R s h=>by
  obtain⟨hp,g,d,tk,os⟩:=s;obtain⟨hl,he,h⟩:=h
  wp_walk using AutoSeq1.wpAny_loadPart' hl,uq _ _ (fun i b s'=>b.1=none/\s'=⟨hp,g,d,tk,os⟩/\i<=j) _
  case turn=>
   rintro i ⟨b1,b2⟩ s' hi ⟨hb,rfl,hij⟩
   have hi':i < items.size:=by lia
   rw[Array.getElem?_eq_getElem hi'];refine wpAny_bind (he _ (Array.getElem_mem hi') prog w _ _ ?_)
   rcases Nat.lt_or_ge i j with hlt | hge
   .rw[hno i hi' hlt]
    wp_walk
    exact⟨rfl,rfl,hlt⟩
   .have hij2:i=j:=by lia
    subst hij2;rw[hit]
    wp_walk
    exact⟨_,rfl,h⟩
  case fin=>
   rintro b s' ⟨hb,rfl,hij⟩
   lia
  case h=>exact⟨rfl,rfl,Nat.zero_le _⟩
theorem Fr:MtM X "tuple.index" (fun x vs H Q=>∃p xs y j,x= .ref p/\vs=[y]/\SqT X.K H p xs/\mH y=true/\xs.all mH=true/\uS y xs j/\Q (.int j) H):=by
 intro pins s Z H x vs v us Q I rx rv h;obtain⟨p,xs,y,j,rfl,rfl,hq,fy,fs,hf,q⟩:=h
 cases rx
 obtain⟨u,rfl,ru⟩:=rv.one;obtain⟨its,r,⟨o,e,hc,n,hs⟩,hz⟩:=I.tuple hq;obtain⟨hj,hit,hno⟩:=EY r fs hf;obtain⟨oc,od,odt,osl⟩:=o
 simp only at hc hs
 subst hc hs;refine call_meets F.slot_tuple_index ⟨_,e,rfl⟩ F.entry_tuple_index (F.args_tuple_index_2 _ _) (xF p its.toArray n od osl u (eqU y) j hj hit hno) ⟨e,fun z hz=>kD ru fy r fs z (by simpa using hz),?_⟩
 exact⟨.int j,H,I.tok _,⟨_,rfl⟩,q⟩
def AW (prm:Params) (L:List (Str × Tok × Value)):Array DictEntry:=(L.map fun p=>(⟨PyData.keyHash prm p.1,.str p.1 p.2.1,p.2.2⟩:DictEntry)).toArray
def SqD (prm:Params) (K:Frag) (a:Addr) (kvs:List (Str × V)):Prop:=
 ∃(L:List (Str × Tok × Value)) (n:Nat),K.lookup a=some {cls:= .type "dict",data:= .dict (AW prm L) n}/\Paired (fun(p:Str × V) (q:Str × Tok × Value)=>p.1=q.1/\bj p.2 q.2.2) kvs L
theorem BP {x:Str}:∀ {kvs:List (Str × V)}{L:List (Str × Tok × Value)}{v:V}(prm:Params),Paired (fun(p:Str × V) (q:Str × Tok × Value)=>p.1=q.1/\bj p.2 q.2.2) kvs L->kvs.lookup x=some v->
  ∃u,bj v u/\findBy kJ (AW prm L) (Sum.inr x:Key)=some u
 | _,_,_,_,.nil,h=>by simp at h
 | p::kvs,q::L,v,prm,.cons hpq r,h=>by
  obtain⟨e1,rv⟩:=hpq;obtain⟨px,pv⟩:=p;obtain⟨qx,qt,qv⟩:=q
  simp only at e1 rv
  subst e1;rw[List.lookup_cons] at h;have hf:findBy kJ (AW prm ((px,qt,qv)::L)) (Sum.inr x:Key)=if (x == px)=true then some qv else findBy kJ (AW prm L) (Sum.inr x:Key):=by
   unfold findBy AW;rw[List.map_cons];show((⟨PyData.keyHash prm px,.str px qt,qv⟩::L.map fun p=>(⟨PyData.keyHash prm p.1,.str p.1 p.2.1,p.2.2⟩:DictEntry)).toArray.find? fun e=>kJ (Sum.inr x) e.key).map (·.val)=_
   rw[List.find?_toArray,List.find?_cons,List.find?_toArray];have hk:kJ (Sum.inr x:Key) (.str px qt)=(x == px):=by
    show Value.isStrOf x (.str px qt)=_
    show(px == x)=(x == px)
    by_cases hpx:px=x
    .subst hpx
     rfl
    .have h1:(px == x)=false:=beq_eq_false_iff_ne.mpr hpx;have h2:(x == px)=false:=beq_eq_false_iff_ne.mpr (Ne.symm hpx);rw[h1,h2]
   dsimp only;rw[hk]
   cases(x == px) <;> rfl
  rw[hf]
  cases hx:(x == px) with
  | true=>
   rw[hx] at h
   cases h
   exact⟨qv,rv,if_pos rfl⟩
  | false=>
   rw[hx] at h;rw[if_neg (by simp)]
   exact BP prm r h
theorem Je:IxR X (fun x y H Q=>∃a kvs k v,x= .ref a/\y= .str k/\SqD X.w.params X.K a kvs/\kvs.lookup k=some v/\Q v H):=by
 intro value slice pins s Z H x y v u Q I rx ry h hs;obtain⟨a,kvs,k,z,rfl,rfl,⟨L,n,hk,hp⟩,hl,q⟩:=h
 cases rx
 obtain⟨t,rfl⟩:=ry;have e:=I.kIn a _ hk;obtain⟨u,ru,hu⟩:=BP X.w.params hp hl;have hm:s.heap.MapOf (bP X.prog X.w) a (fun k=>findBy kJ (AW X.w.params L) k):=by
  refine⟨_,_,_,e,⟨rfl,rfl,rfl⟩,rfl,fun en hen=> ?_,fun k=>rfl⟩
  have hen:en∈(L.map fun p=>(⟨PyData.keyHash X.w.params p.1,.str p.1 p.2.1,p.2.2⟩:DictEntry)):=by simpa [AW] using hen
  obtain⟨p,_,rfl⟩:=List.mem_map.mp hen;exact⟨Sum.inr p.1,xY p.1 p.2.1,rfl⟩
 exact subscriptTail_builtinR (x:=u) hm.typeIs slot_dict_getitem.lookup (wpAny_getItem_of (Q:=fun r s'=>r=u/\EP X pins Z Q r s') (tR X.prog X.w k t) hm hu ⟨rfl,⟨z,H,I.tok _,ru,q⟩⟩) hs
theorem GS (hc:X.calm=true):jh X (.builtin "all") (fun xs H Q=>∃(p:Addr) (bs:List Bool),xs=[.ref p]/\SqL X.K H p (bs.map V.bl)/\Q (.bl (bs.all id)) H):=by
 intro pins s Z H xs us Q I r h;obtain⟨p,bs,rfl,hq,q⟩:=h;obtain⟨u,rfl,ru⟩:=om r
 cases ru
 obtain⟨its,rv,pl,hz⟩:=I.list hq;refine call_all_walk (wpAny_pyIter_list pl.isList ?_)
 have hlt:p < s.heap.objs.size:=by obtain⟨o,n,e,_⟩:=pl;exact Heap.lt_size e
 have hne:p≠s.heap.objs.size:=Nat.ne_of_lt hlt;have hl:=rv.length;rw[List.length_map] at hl;refine⟨s.heap.objs.size,_,_,_,_,_,fun i=>bs.getD i false,rfl,Walks.list (prog:=X.prog) (w:=X.w) (A:=X.A.in1) (I.ok.hd hc) _ p hne its.toArray,⟨⟨_,Heap.get?_push_size _ rfl,rfl,rfl⟩,Heap.IsList.at pl.isList fun o e=>Heap.get?_push_of_some _ e⟩,?_,fun h' tk hk=> ?_⟩
 .intro i v s' Q' E' hv hQ;have hi:i < its.length:=by
   have:=(Array.getElem?_eq_some_iff.mp hv).1
   simpa using this
  have hib:i < bs.length:=by lia
  obtain⟨u,hu,ru⟩:=rv.get (i:=i) (x:=V.bl bs[i]) (by rw[List.getElem?_map,List.getElem?_eq_getElem hib];rfl)
  have hv':its[i]? =some v:=by simpa using hv
  rw[hv'] at hu
  cases hu
  cases ru
  refine wpAny_truthy_bool ?_
  have e:bs.getD i false=bs[i]:=by simp [List.getD,List.getElem?_eq_getElem hib]
  rw[<- e];exact hQ
 .have e:(List.range its.toArray.size).all (fun i=>bs.getD i false)=bs.all id:=by
   rw[List.size_toArray, <-hl];rw[Bool.eq_iff_iff,List.all_eq_true,List.all_eq_true]
   constructor
   .intro h b hb;obtain⟨i,hi,rfl⟩:=List.mem_iff_getElem.mp hb;have:=h i (List.mem_range.mpr hi)
    simpa [List.getD,List.getElem?_eq_getElem hi] using this
   .intro h i hi;have hi':=List.mem_range.mp hi;have:=h bs[i] (List.getElem_mem hi')
    simpa [List.getD,List.getElem?_eq_getElem hi'] using this
  rw[e];have I1:Inv X pins Z H {s with heap:=s.heap.push {cls:= .type "list_iterator",data:= .fields #[.ref p,.int 0 0]}}:=I.kept (t':=s.toks) fun b o e=>Heap.get?_push_of_some _ e
  refine⟨.bl _,H,?_,rfl,q⟩
  refine I.kept (t':=tk) fun b o e=>hk b o ?_ (Heap.get?_push_of_some _ e)
  intro z;have:b=s.heap.objs.size:=by simpa using z
  exact absurd (Heap.lt_size e) (by rw[this];exact Nat.lt_irrefl _)
end
section
variable {prog : Program} {w : World} {A : Around} {E : Value → Shared → Prop} {s : Shared}
theorem Cw {q t:Addr}{k:Nat}{its:Array Value}{v:Value}{Q:Value->Shared->Prop}(hq:s.heap.IsTupleIter q t k) (ht:s.heap.IsTuple t its) (hv:its[k]? =some v)
  (hQ:∀h',h'.IsTupleIter q t (k+1)->Heap.SameBut q s.heap h'->Q v {s with heap:=h'}):wpAny (model prog w) A (Builtin.SmallTypes.nextOf (.ref q)) Q E s:=by
 obtain⟨o,ho,hc,hd⟩:=id hq;obtain⟨ot,hot,_,nt,hdt⟩:=ht;unfold Builtin.SmallTypes.nextOf;refine wpAny_bind (wpAny_callSpecial?_slot (name:=Str.ofString "__next__") hq.typeIs F.slot_tuple_iterator_next (wpAny_call_entry F.slot_tuple_iterator_next hq.typeIs F.entry_tuple_iterator_next ?_ (F.args_tuple_iterator_next_1 _)))
 show wpAny _ _ (field (.ref q) 0 >>= _) _ _ s
 refine wpAny_bind (wpAny_field ho hd (x:= .ref t) rfl ?_)
 show wpAny _ _ (if (Value.ref t == Value.none)=true then _ else _) _ _ s
 rw[if_neg (show ¬((Value.ref t == Value.none)=true) from Bool.false_ne_true)];show wpAny _ _ (field (.ref q) 1 >>= _) _ _ s
 refine wpAny_bind (wpAny_field ho hd (x:= .int k 0) rfl ?_)
 show wpAny _ _ (seqItems? (.ref t) >>= _) _ _ s
 refine wpAny_bind (wpAny_seqItems hot hdt ?_)
 simp only[Int.toNat_natCast,hv]
 refine wpAny_bind (wpAny_setField ho hd (by simp) (wpAny_pure ⟨v,rfl,wpAny_pure (hQ _ ?_ (Heap.SameBut.update ..))⟩))
 exact⟨_,Heap.get?_update_self _ ho (Obj.isFreed_of_fields (Obj.data_mapFields hd _)),(Obj.cls_mapFields ..).trans hc,by rw[Obj.data_mapFields hd];simp [rawInt]⟩
theorem EX {q t:Addr}{k:Nat}{its:Array Value}{Q:Value->Shared->Prop}(hh:A.handled=none) (hq:s.heap.IsTupleIter q t k) (ht:s.heap.IsTuple t its) (hv:its[k]? =none)
  (hE:∀h' e,Heap.ExtBut q s.heap h'->(∃ o,h'.get? e=some o/\o.cls= .type "StopIteration")->E (.ref e) {s with heap:=h'}):wpAny (model prog w) A (Builtin.SmallTypes.nextOf (.ref q)) Q E s:=by
 obtain⟨o,ho,hc,hd⟩:=id hq;obtain⟨ot,hot,_,nt,hdt⟩:=ht;unfold Builtin.SmallTypes.nextOf;refine wpAny_bind (wpAny_callSpecial?_slot (name:=Str.ofString "__next__") hq.typeIs F.slot_tuple_iterator_next (wpAny_call_entry F.slot_tuple_iterator_next hq.typeIs F.entry_tuple_iterator_next ?_ (F.args_tuple_iterator_next_1 _)))
 show wpAny _ _ (field (.ref q) 0 >>= _) _ _ s
 refine wpAny_bind (wpAny_field ho hd (x:= .ref t) rfl ?_)
 show wpAny _ _ (if (Value.ref t == Value.none)=true then _ else _) _ _ s
 rw[if_neg (show ¬((Value.ref t == Value.none)=true) from Bool.false_ne_true)];show wpAny _ _ (field (.ref q) 1 >>= _) _ _ s
 refine wpAny_bind (wpAny_field ho hd (x:= .int k 0) rfl ?_)
 show wpAny _ _ (seqItems? (.ref t) >>= _) _ _ s
 refine wpAny_bind (wpAny_seqItems hot hdt ?_)
 simp only[Int.toNat_natCast,hv]
 refine wpAny_bind (wpAny_rule (wpAny_bind (wpAny_setField ho hd (by simp) ?_)))
 show wpAny _ _ (newExc (.type "StopIteration") [] >>= _) _ _ _
 refine wpAny_bind ?_
 simp only[newExc,newTuple]
 refine wpAny_bind (wpAny_newObj_type ?_ (by size_fits))
 refine wpAny_bind (m:=firstArgMember _ _) (wpAny_of_eq (a:=Value.none) (by first | rfl | (simp only[firstArgMember];rfl)) ?_)
 refine wpAny_newObj_type ?_ (by size_fits)
 simp only[raiseNew]
 refine wpAny_bind (wpAny_handled ?_)
 first | rw[show A.in1.handled=none from hh] | rw[hh]
 refine wpAny_bind (wpAny_pure (wpAny_throw ?_))
 exact hE _ _ (((Heap.SameBut.update ..).extBut.push _).push _) ⟨_,Heap.get?_push_size _ rfl,rfl⟩
end
theorem AN {prog:Program}{w:World}{A:Around}(hh:A.handled=none) (q t:Addr) (hne:t≠q) (its:Array Value):
  Draws prog w A q [q,t] its.size (fun i v=>its[i]? =some v) (fun i h=>h.IsTupleIter q t i/\h.IsTuple t its) where
 live:=fun _ _ st=>let ⟨o,ho,_⟩:=st.1;⟨o,ho⟩
 frame:=fun _ _ _ st hk=>⟨st.1.at fun o e=>hk q (by simp) o e,st.2.at fun o e=>hk t (by simp) o e⟩
 item:=fun i s Q E hi st hQ=>by
  refine Cw st.1 st.2 (v:=its[i]) (by simp [hi]) fun h' hq hs=> ?_
  exact hQ _ h' s.toks (by simp [hi]) ⟨hq,st.2.extBut hs.extBut hne⟩ hs
 done:=fun s Q E st hE=>EX hh st.1 st.2 (by simp) hE
structure ZA (z TI TO i1 i2:Addr) (fp1 fp2:List Addr):Prop where
 TIz:TI≠z
 TOz:TO≠z
 i1z:i1≠z
 i2z:i2≠z
 TITO:TI≠TO
 TIi1:TI≠i1
 TIi2:TI≠i2
 TOi1:TO≠i1
 TOi2:TO≠i2
 i12:i1≠i2
 z1:z ∉ fp1
 z2:z ∉ fp2
 o1:TO ∉ fp1
 o2:TO ∉ fp2
 a2:i1 ∉ fp2
 a1:i2 ∉ fp1
section
variable {prog : Program} {w : World} {A : Around} {E : Value → Shared → Prop} {s : Shared} {z TI TO i1 i2 : Addr} {fp1 fp2 : List Addr} {n1 n2 : Nat} {P1 P2 : Nat → Value → Prop} {S1 S2 : Nat → Heap → Prop}
def ZK (z TO i1 i2:Addr) (h h':Heap):Prop:=∀c o,c≠z->c≠TO->c≠i1->c≠i2->h.get? c=some o->h'.get? c=some o
theorem mE {D1:Draws prog w A i1 fp1 n1 P1 S1}{k:Nat}{h h':Heap}{b:Addr}(st:S1 k h) (hs:Heap.SameBut b h h') (hb:b ∉ fp1):S1 k h':=D1.frame _ _ _ st fun c hc o e=>hs.extBut c o (fun q=>hb (q ▸ hc)) e
theorem E9 {k:Nat}{a b:Value}{Q:Value->Shared->Prop}(D1:Draws prog w A i1 fp1 n1 P1 S1) (D2:Draws prog w A i2 fp2 n2 P2 S2) (D:ZA z TI TO i1 i2 fp1 fp2)
  (hz:IsZip s.heap z TI TO .none) (hTI:IsPair s.heap TI (.ref i1) (.ref i2)) (hTO:IsPair s.heap TO a b) (h1:S1 k s.heap) (h2:S2 k s.heap) (l1:k < n1) (l2:k < n2)
  (hQ:∀x y h' tk,P1 k x->P2 k y->IsZip h' z TI TO (rawInt s.heap.objs.size)->IsPair h' TO x y->S1 (k+1) h'->S2 (k+1) h'->IsPair h' s.heap.objs.size x y->ZK z TO i1 i2 s.heap h'->Q (.ref s.heap.objs.size) {s with heap:=h',toks:=tk}):
  wpAny (model prog w) A (Builtin.«zip.__next__» ⟨[.ref z],[]⟩) (fun fin s'=>∃v,fin= .done (.ret v)/\Q v s') E s:=by
 obtain⟨hp,g,d,tk₀,os⟩:=s;show wpAny _ _ (field (.ref z) 2 >>= _) _ _ _
 refine wpAny_bind (wpAny_field hz rfl (x:= .bool false) rfl ?_)
 show wpAny _ _ (field (.ref z) 3 >>= _) _ _ _
 refine wpAny_bind (wpAny_field hz rfl (x:= .ref TI) rfl ?_)
 refine wpAny_bind (wpAny_seqItems hTI rfl ?_)
 show wpAny _ _ (Builtin.SmallTypes.ownedTupleIsFree (.ref z) >>= _) _ _ _
 refine wpAny_bind ?_
 unfold Builtin.SmallTypes.ownedTupleIsFree;refine wpAny_bind (wpAny_field hz rfl (x:= .none) rfl (wpAny_pure ?_))
 simp only[if_true]
 refine wpAny_bind (wpAny_rule ?_)
 refine wpAny_bind (wpAny_field hz rfl (x:= .ref TO) rfl ?_)
 refine wpAny_bind (wpAny_setField_rec hz (by simp) fun g1 hz1 e1=> ?_)
 replace hz1:IsZip g1 z TI TO .ellipsis:=hz1
 replace e1:Heap.SameBut z hp g1:=e1
 refine wpAny_bind ?_
 simp only[List.zipIdx_cons,List.zipIdx_nil,List.forIn_cons,List.forIn_nil]
 refine wpAny_bind (wpAny_bind (wpAny_onRaise ?_))
 show wpAny _ _ (Builtin.SmallTypes.nextOf (.ref i1) >>= _) _ _ _
 have s1a:S1 k g1:=mE (D1:=D1) h1 e1 D.z1;have s2a:S2 k g1:=mE (D1:=D2) h2 e1 D.z2;refine wpAny_bind (D1.item k _ _ _ l1 s1a fun x g2 t2 hx s1b e2=>wpAny_pure ?_)
 replace e2:Heap.SameBut i1 g1 g2:=e2
 have s2b:S2 k g2:=mE (D1:=D2) s2a e2 D.a2;have hO2:IsPair g2 TO a b:=e2.extBut _ _ D.TOi1 (e1.extBut _ _ D.TOz hTO);refine wpAny_bind (wpAny_seqItems hO2 rfl ?_)
 refine wpAny_bind (wpAny_updateSeq_pair hO2 fun g3 hO3 e3=> ?_)
 replace hO3:IsPair g3 TO x b:=hO3
 replace e3:Heap.SameBut TO g2 g3:=e3
 refine wpAny_bind (wpAny_letGo (wpAny_pure ?_))
 have s1c:S1 (k+1) g3:=mE (D1:=D1) s1b e3 D.o1;have s2c:S2 k g3:=mE (D1:=D2) s2b e3 D.o2;refine wpAny_bind (wpAny_bind (wpAny_onRaise ?_))
 show wpAny _ _ (Builtin.SmallTypes.nextOf (.ref i2) >>= _) _ _ _
 refine wpAny_bind (D2.item k _ _ _ l2 s2c fun y g4 t4 hy s2d e4=>wpAny_pure ?_)
 replace e4:Heap.SameBut i2 g3 g4:=e4
 have s1d:S1 (k+1) g4:=mE (D1:=D1) s1c e4 D.a1;have hO4:IsPair g4 TO x b:=e4.extBut _ _ D.TOi2 hO3;refine wpAny_bind (wpAny_seqItems hO4 rfl ?_)
 refine wpAny_bind (wpAny_updateSeq_pair hO4 fun g5 hO5 e5=> ?_)
 replace hO5:IsPair g5 TO x y:=hO5
 replace e5:Heap.SameBut TO g4 g5:=e5
 refine wpAny_bind (wpAny_letGo (wpAny_pure (wpAny_pure ?_)))
 have s1e:S1 (k+1) g5:=mE (D1:=D1) s1d e5 D.o1;have s2e:S2 (k+1) g5:=mE (D1:=D2) s2d e5 D.o2;refine wpAny_bind (wpAny_seqItems hO5 rfl ?_)
 refine wpAny_bind (wpAny_newTuple ?_)
 have hsz:g5.objs.size=hp.objs.size:=by rw[e5.1,e4.1,e3.1,e2.1,e1.1]
 have hz5:IsZip g5 z TI TO .ellipsis:=e5.extBut _ _ D.TOz.symm (e4.extBut _ _ D.i2z.symm (e3.extBut _ _ D.TOz.symm (e2.extBut _ _ D.i1z.symm hz1)));have hk5:ZK z TO i1 i2 hp g5:=fun c o c1 c2 c3 c4 e=>e5.extBut _ _ c2 (e4.extBut _ _ c4 (e3.extBut _ _ c2 (e2.extBut _ _ c3 (e1.extBut _ _ c1 e))))
 have hzlt:z < g5.objs.size:=Heap.lt_size hz5;show wpAny _ _ (Builtin.SmallTypes.ownedTupleHandOut (.ref z) (.ref g5.objs.size) >>= _) _ _ _
 refine wpAny_bind ?_
 unfold Builtin.SmallTypes.ownedTupleHandOut;have hz6:IsZip (g5.push {cls:= .type "tuple",data:= .seq #[x,y]}) z TI TO .ellipsis:=Heap.get?_push_of_some _ hz5;refine wpAny_bind (wpAny_setField_rec hz6 (by simp) fun g7 hz7 e7=> ?_)
 replace hz7:IsZip g7 z TI TO (rawInt g5.objs.size):=hz7
 refine wpAny_setField_rec hz7 (by simp) fun g8 hz8 e8=> ?_
 replace hz8:IsZip g8 z TI TO (rawInt g5.objs.size):=hz8
 have up:∀c o,c≠z->g5.get? c=some o->g8.get? c=some o:=fun c o c1 e=>e8.extBut _ _ c1 (e7.extBut _ _ c1 (Heap.get?_push_of_some _ e))
 have hT8:IsPair g8 g5.objs.size x y:=e8.extBut _ _ (Nat.ne_of_gt hzlt) (e7.extBut _ _ (Nat.ne_of_gt hzlt) (Heap.get?_push_size _ rfl));rw[hsz] at hz8 hT8;refine wpAny_pure ⟨_,rfl,?_⟩
 show Q (.ref g5.objs.size) _
 rw[hsz];exact hQ x y g8 _ hx hy hz8 (up _ _ D.TOz hO5) (D1.frame _ _ _ s1e fun c hc o e=>up c o (fun q=>D.z1 (q ▸ hc)) e) (D2.frame _ _ _ s2e fun c hc o e=>up c o (fun q=>D.z2 (q ▸ hc)) e) hT8 fun c o c1 c2 c3 c4 e=>up c o c1 (hk5 c o c1 c2 c3 c4 e)
theorem GH {k:Nat}{a b:Value}{Q:PySem.Fin->Shared->Prop}(D1:Draws prog w A i1 fp1 n1 P1 S1) (D2:Draws prog w A i2 fp2 n2 P2 S2) (D:ZA z TI TO i1 i2 fp1 fp2)
  (hz:IsZip s.heap z TI TO .none) (hTI:IsPair s.heap TI (.ref i1) (.ref i2)) (hTO:IsPair s.heap TO a b) (h1:S1 k s.heap) (h2:S2 k s.heap) (hend:k=n1\/(k < n1/\k=n2))
  (hE:∀h' e tk,ZK z TO i1 i2 s.heap h'->(∃ o,h'.get? e=some o/\o.cls= .type "StopIteration")->E (.ref e) {s with heap:=h',toks:=tk}):
  wpAny (model prog w) A (Builtin.«zip.__next__» ⟨[.ref z],[]⟩) Q E s:=by
 obtain⟨hp,g,d,tk₀,os⟩:=s;show wpAny _ _ (field (.ref z) 2 >>= _) _ _ _
 refine wpAny_bind (wpAny_field hz rfl (x:= .bool false) rfl ?_)
 show wpAny _ _ (field (.ref z) 3 >>= _) _ _ _
 refine wpAny_bind (wpAny_field hz rfl (x:= .ref TI) rfl ?_)
 refine wpAny_bind (wpAny_seqItems hTI rfl ?_)
 show wpAny _ _ (Builtin.SmallTypes.ownedTupleIsFree (.ref z) >>= _) _ _ _
 refine wpAny_bind ?_
 unfold Builtin.SmallTypes.ownedTupleIsFree;refine wpAny_bind (wpAny_field hz rfl (x:= .none) rfl (wpAny_pure ?_))
 simp only[if_true]
 refine wpAny_bind (wpAny_rule ?_)
 refine wpAny_bind (wpAny_field hz rfl (x:= .ref TO) rfl ?_)
 refine wpAny_bind (wpAny_setField_rec hz (by simp) fun g1 hz1 e1=> ?_)
 replace hz1:IsZip g1 z TI TO .ellipsis:=hz1
 replace e1:Heap.SameBut z hp g1:=e1
 refine wpAny_bind ?_
 simp only[List.zipIdx_cons,List.zipIdx_nil,List.forIn_cons,List.forIn_nil]
 refine wpAny_bind (wpAny_bind (wpAny_onRaise ?_))
 show wpAny _ _ (Builtin.SmallTypes.nextOf (.ref i1) >>= _) _ _ _
 have s1a:S1 k g1:=mE (D1:=D1) h1 e1 D.z1;have s2a:S2 k g1:=mE (D1:=D2) h2 e1 D.z2;rcases hend with rfl | ⟨l1,rfl⟩
 .refine wpAny_bind (D1.done _ _ _ s1a fun g2 e e2 he=> ?_)
  replace e2:Heap.ExtBut i1 g1 g2:=e2
  obtain⟨oe,hoe,hce⟩:=he;have hz2:IsZip g2 z TI TO .ellipsis:=e2 _ _ D.i1z.symm hz1;have hez:e≠z:=fun x=>by subst x;rw[hz2] at hoe;cases hoe;simp at hce
  exact wpAny_setField_rec hz2 (by simp) fun g3 _ e3=>hE g3 e _ (fun c o c1 _ c3 _ x=>e3.extBut _ _ c1 (e2 _ _ c3 (e1.extBut _ _ c1 x))) ⟨oe,e3.extBut _ _ hez hoe,hce⟩
 .refine wpAny_bind (D1.item k _ _ _ l1 s1a fun x g2 t2 hx s1b e2=>wpAny_pure ?_)
  replace e2:Heap.SameBut i1 g1 g2:=e2
  have s2b:S2 k g2:=mE (D1:=D2) s2a e2 D.a2;have hO2:IsPair g2 TO a b:=e2.extBut _ _ D.TOi1 (e1.extBut _ _ D.TOz hTO);refine wpAny_bind (wpAny_seqItems hO2 rfl ?_)
  refine wpAny_bind (wpAny_updateSeq_pair hO2 fun g3 hO3 e3=> ?_)
  replace e3:Heap.SameBut TO g2 g3:=e3
  refine wpAny_bind (wpAny_letGo (wpAny_pure ?_))
  have s2c:S2 k g3:=mE (D1:=D2) s2b e3 D.o2;refine wpAny_bind (wpAny_bind (wpAny_onRaise ?_))
  show wpAny _ _ (Builtin.SmallTypes.nextOf (.ref i2) >>= _) _ _ _
  refine wpAny_bind (D2.done _ _ _ s2c fun g4 e e4 he=> ?_)
  replace e4:Heap.ExtBut i2 g3 g4:=e4
  obtain⟨oe,hoe,hce⟩:=he;have hz4:IsZip g4 z TI TO .ellipsis:=e4 _ _ D.i2z.symm (e3.extBut _ _ D.TOz.symm (e2.extBut _ _ D.i1z.symm hz1));have hez:e≠z:=fun x=>by subst x;rw[hz4] at hoe;cases hoe;simp at hce
  exact wpAny_setField_rec hz4 (by simp) fun g5 _ e5=>hE g5 e _ (fun c o c1 c2 c3 c4 x=>e5.extBut _ _ c1 (e4 _ _ c4 (e3.extBut _ _ c2 (e2.extBut _ _ c3 (e1.extBut _ _ c1 x))))) ⟨oe,e5.extBut _ _ hez hoe,hce⟩
end
section
variable {X : Cx} {pins : List (Addr × Obj)} {σ : St} {H : Hp} {s : Shared} {h' : Heap}
theorem Inv.turnedN {t':Nat}{ch:List Addr}{p:Addr}{o:HO}(I:Inv X pins Z H s) (k:∀b u,b ∉ ch->s.heap.get? b=some u->h'.get? b=some u) (hc:∀b∈ch,sY X pins H b) (hp:s.heap.objs.size<=p)
  (new:cn X.prog X.w (upd H p o) h' p o):Inv X pins Z (upd H p o) {s with heap:=h',toks:=t'}:=by
 have hf:=I.hok.fresh hp;have nch:∀b u,H b=some u->b ∉ ch:=fun b u e z=>by rw[(hc b z).1] at e;cases e
 refine I.step (g':=s.gens) (d':=s.drawn) (ch:=ch) (fun b hb=>⟨(hc b hb).2.2.2.1,(hc b hb).2.1,(hc b hb).2.2.2.2.1,(hc b hb).2.2.2.2.2⟩) (fun b u _ _ hb e _=>k b u hb e) (fun b u _ _ hb e _=>⟨u.slots,k b u hb e⟩)
  (fun b u hb e n=>by rw[ai (Nat.ne_of_lt (Nat.lt_of_lt_of_le (Heap.lt_size e) hp))];exact n) (fun b u hb e=>⟨u,k b u hb e⟩) (fun b xs e=>by rw[ai (aj e hf)];exact e) (fun b u v e=>by rw[ai (aj e hf)];exact e)
  (fun b ps e=>⟨#[],by rw[ai (aj e hf),e];simp⟩) (fun m hm=> ?_) (fun b u e=> ?_) I.bare
 .obtain⟨v,es,ep,ho,r⟩:=hm;exact⟨v,es,ep,k _ v (fun z=>(hc _ z).2.1 rfl) ho,r⟩
 .by_cases hb:b=p
  .subst hb;rw[ad] at e
   cases e
   exact new
  .rw[ai hb] at e;refine(I.hok b u e).stay (fun c v hcc q=>k c v ?_ q) (fun c q=>by rw[ai (aj q hf)];exact q) fun c xs q=>by rw[ai (aj q hf)];exact q
   rcases hcc with z | z
   .rw[z];exact nch b u e
   .exact nch c _ z
theorem Inv.turnedL {t':Nat}{ch:List Addr}(I:Inv X pins Z H s) (k:∀b u,b ∉ ch->s.heap.get? b=some u->h'.get? b=some u) (hc:∀b∈ch,sY X pins H b):Inv X pins Z H {s with heap:=h',toks:=t'}:=by
 have nch:∀b u,H b=some u->b ∉ ch:=fun b u e z=>by rw[(hc b z).1] at e;cases e
 refine I.step (g':=s.gens) (d':=s.drawn) (ch:=ch) (fun b hb=>⟨(hc b hb).2.2.2.1,(hc b hb).2.1,(hc b hb).2.2.2.2.1,(hc b hb).2.2.2.2.2⟩) (fun b u _ _ hb e _=>k b u hb e) (fun b u _ _ hb e _=>⟨u.slots,k b u hb e⟩)
  (fun b u hb e n=>n) (fun b u hb e=>⟨u,k b u hb e⟩) (fun b xs e=>e) (fun b u v e=>e) (fun b ps e=>⟨#[],by rw[e];simp⟩) (fun m hm=> ?_) (fun b u e=> ?_) I.bare
 .obtain⟨v,es,ep,ho,r⟩:=hm;exact⟨v,es,ep,k _ v (fun z=>(hc _ z).2.1 rfl) ho,r⟩
 .refine(I.hok b u e).stay (fun c v hcc q=>k c v ?_ q) (fun c q=>q) fun c xs q=>q
  rcases hcc with z | z
  .rw[z];exact nch b u e
  .exact nch c _ z
end
def Sq (K:Frag) (H:Hp) (b:Bool) (a:Addr) (xs:List V):Prop:=if b=true then SqL K H a xs else SqT K H a xs
def qB (h:Heap) (b:Bool) (a:Addr) (its:Array Value):Prop:=if b=true then h.IsList a its else h.IsTuple a its
def qN (h:Heap) (b:Bool) (q a:Addr) (i:Nat):Prop:=if b=true then h.IsListIter q a i else h.IsTupleIter q a i
def D8 (b:Bool):String:=if b=true then "list_iterator" else "tuple_iterator"
theorem qB.at {h h':Heap}{b:Bool}{a:Addr}{its:Array Value}(x:qB h b a its) (k:∀o,h.get? a=some o->h'.get? a=some o):qB h' b a its:=by
 cases b with
 | true=>exact Heap.IsList.at (show h.IsList a its from x) k
 | false=>exact Heap.IsTuple.at (show h.IsTuple a its from x) k
theorem qN.at {h h':Heap}{b:Bool}{q a:Addr}{i:Nat}(x:qN h b q a i) (k:∀o,h.get? q=some o->h'.get? q=some o):qN h' b q a i:=by
 cases b with
 | true=>exact Heap.IsListIter.at (show h.IsListIter q a i from x) k
 | false=>exact Heap.IsTupleIter.at (show h.IsTupleIter q a i from x) k
theorem qN.obj {h:Heap}{b:Bool}{q a:Addr}{i:Nat}(x:qN h b q a i):∃o,h.get? q=some o/\∀v,o.data≠ .cell v:=by
 cases b with
 | true=>obtain⟨o,e,c,d⟩:=(show h.IsListIter q a i from x);exact⟨o,e,fun v z=>by rw[d] at z;cases z⟩
 | false=>obtain⟨o,e,c,d⟩:=(show h.IsTupleIter q a i from x);exact⟨o,e,fun v z=>by rw[d] at z;cases z⟩
theorem qN.mk {h:Heap}{b:Bool}{q a:Addr}(e:h.get? q=some {cls:= .type (D8 b),data:= .fields #[.ref a,.int 0 0]}):qN h b q a 0:=by
 cases b with
 | true=>exact⟨_,e,rfl,rfl⟩
 | false=>exact⟨_,e,rfl,rfl⟩
theorem qB.lt {h:Heap}{b:Bool}{a:Addr}{its:Array Value}(x:qB h b a its):a < h.objs.size:=by
 cases b with
 | true=>obtain⟨o,e,_⟩:=(show h.IsList a its from x);exact Heap.lt_size e
 | false=>obtain⟨o,e,_⟩:=(show h.IsTuple a its from x);exact Heap.lt_size e
theorem sj {prog:Program}{w:World}{A:Around}(hh:A.handled=none) (b:Bool) (q a:Addr) (hne:a≠q) (its:Array Value):
  Draws prog w A q [q,a] its.size (fun i v=>its[i]? =some v) (fun i h=>qN h b q a i/\qB h b a its):=by
 cases b with
 | true=>exact Draws.list hh q a hne its
 | false=>exact AN hh q a hne its
section
variable {X : Cx} {pins : List (Addr × Obj)} {σ : St} {H : Hp} {s : Shared}
theorem Inv.sq {b:Bool}{a:Addr}{xs:List V}(I:Inv X pins Z H s) (h:Sq X.K H b a xs):∃its:List Value,aW xs its/\qB s.heap b a its.toArray:=by
 cases b with
 | true=>obtain⟨its,r,p,_⟩:=I.list (show SqL X.K H a xs from h);exact⟨its,r,p.isList⟩
 | false=>obtain⟨its,r,p,_⟩:=I.tuple (show SqT X.K H a xs from h);exact⟨its,r,p⟩
theorem Inv.sq_inj {b:Bool}{a:Addr}{xs ys:List V}(I:Inv X pins Z H s) (h:Sq X.K H b a xs) (h':Sq X.K H b a ys):xs=ys:=by
 cases b with
 | true=>exact I.list_inj (show SqL X.K H a xs from h) h'
 | false=>exact I.tuple_inj (show SqT X.K H a xs from h) h'
end
section
variable {prog : Program} {w : World} {A : Around} {E : Value → Shared → Prop} {s : Shared}
theorem yc {b:Bool}{a:Addr}{its:Array Value}{Q:Value->Shared->Prop}(h:qB s.heap b a its)
  (hQ:Q (.ref s.heap.objs.size) {s with heap:=s.heap.push {cls:= .type (D8 b),data:= .fields #[.ref a,.int 0 0]}}):wpAny (model prog w) A (pyIter (.ref a)) Q E s:=by
 cases b with
 | true=>exact wpAny_pyIter_list (show s.heap.IsList a its from h) hQ
 | false=>exact wpAny_pyIter_tuple (show s.heap.IsTuple a its from h) hQ
end
abbrev zh1 (b:Bool) (h:Heap) (a:Addr):Heap:=h.push {cls:= .type (D8 b),data:= .fields #[.ref a,.int 0 0]}
abbrev zh2 (b c:Bool) (h:Heap) (a d:Addr):Heap:=(zh1 b h a).push {cls:= .type (D8 c),data:= .fields #[.ref d,.int 0 0]}
abbrev zh3 (b c:Bool) (h:Heap) (a d:Addr):Heap:=(zh2 b c h a d).push {cls:= .type "tuple",data:= .seq #[.ref h.objs.size,.ref (zh1 b h a).objs.size]}
abbrev zh4 (b c:Bool) (h:Heap) (a d:Addr):Heap:=(zh3 b c h a d).push {cls:= .type "tuple",data:= .seq #[.none,.none]}
abbrev zh5 (b c:Bool) (h:Heap) (a d:Addr):Heap:=(zh4 b c h a d).push {cls:= .type "zip",data:= .fields #[.none,.bool false,.bool false,.ref (zh2 b c h a d).objs.size,.ref (zh3 b c h a d).objs.size]}
theorem Gp (b c:Bool) (a d:Addr) (xs ys:Array Value):Meets (Builtin.«zip.__new__» ⟨[.type "zip",.ref a,.ref d],[]⟩) (fun _ R s=>qB s.heap b a xs/\qB s.heap c d ys/\R (.ok (.ret (.ref (zh4 b c s.heap a d).objs.size))) {s with heap:=zh5 b c s.heap a d}):=
 .of_wp fun prog w A R s h=>by
  obtain⟨hp,g,dr,tk,os⟩:=s;obtain⟨hl1,hl2,h⟩:=h;have hsub:=sub_zip;have hL1:qB (Shared.heap ⟨hp,g,dr,tk,os⟩) b a xs:=hl1;have hL2:qB (Shared.heap ⟨zh1 b hp a,g,dr,tk,os⟩) c d ys:=qB.at hl2 fun o e=>Heap.get?_push_of_some _ e
  wp_walk using yc hL1,yc hL2
  exact⟨_,rfl,h⟩
theorem Fh {prog:Program}{w:World}{A:Around}{E:Value->Shared->Prop}{s:Shared}{b c:Bool}{a d:Addr}{xs ys:Array Value}{Q:Value->Shared->Prop}(hl1:qB s.heap b a xs) (hl2:qB s.heap c d ys)
  (h:∀h',IsZip h' (s.heap.objs.size+4) (s.heap.objs.size+2) (s.heap.objs.size+3) .none->IsPair h' (s.heap.objs.size+2) (.ref s.heap.objs.size) (.ref (s.heap.objs.size+1))->
   IsPair h' (s.heap.objs.size+3) .none .none->qN h' b s.heap.objs.size a 0->qN h' c (s.heap.objs.size+1) d 0->(∀ e o,s.heap.get? e=some o->h'.get? e=some o)->Q (.ref (s.heap.objs.size+4)) {s with heap:=h'}):
  wpAny (model prog w) A (call (.type "zip") [.ref a,.ref d]) Q E s:=by
 refine callType_new F.called_zip (by decide) (F.typeCall_zip_2 _ _) (F.newCall_zip_2 _ _) (fun obj=>F.args_object_init_3 obj _ _) F.entry_zip_new (Gp b c a d xs ys) ⟨hl1,hl2,?_⟩
 have z1:(zh1 b s.heap a).objs.size=s.heap.objs.size+1:=Heap.size_push ..;have z2:(zh2 b c s.heap a d).objs.size=s.heap.objs.size+2:=by rw[Heap.size_push,z1]
 have z3:(zh3 b c s.heap a d).objs.size=s.heap.objs.size+3:=by rw[Heap.size_push,z2]
 have z4:(zh4 b c s.heap a d).objs.size=s.heap.objs.size+4:=by rw[Heap.size_push,z3]
 have p5:(zh5 b c s.heap a d).get? (zh4 b c s.heap a d).objs.size=some _:=Heap.get?_push_size _ rfl;have p4:(zh5 b c s.heap a d).get? (zh3 b c s.heap a d).objs.size=some _:=Heap.get?_push_of_some _ (Heap.get?_push_size _ rfl);have p3:(zh5 b c s.heap a d).get? (zh2 b c s.heap a d).objs.size=some _:=Heap.get?_push_of_some _ (Heap.get?_push_of_some _ (Heap.get?_push_size _ rfl));have p2:(zh5 b c s.heap a d).get? (zh1 b s.heap a).objs.size=some _:=Heap.get?_push_of_some _ (Heap.get?_push_of_some _ (Heap.get?_push_of_some _ (Heap.get?_push_size _ rfl)));have p1:(zh5 b c s.heap a d).get? s.heap.objs.size=some _:=Heap.get?_push_of_some _ (Heap.get?_push_of_some _ (Heap.get?_push_of_some _ (Heap.get?_push_of_some _ (Heap.get?_push_size _ rfl))));show _/\_
 rw[z2,z3,z4] at p5;rw[z1,z2] at p3;rw[z3] at p4;rw[z1] at p2;rw[z4];exact⟨⟨_,p5,rfl⟩,h _ p5 p3 p4 (qN.mk p1) (qN.mk p2) fun e o x=>Heap.get?_push_of_some _ (Heap.get?_push_of_some _ (Heap.get?_push_of_some _ (Heap.get?_push_of_some _ (Heap.get?_push_of_some _ x))))⟩
def Itz (K : Frag) (b c : Bool) (a d : Addr) : It :=
  ⟨fun i H => ∃ xs ys x y, Sq K H b a xs ∧ Sq K H c d ys ∧ xs[i]? = some x ∧ ys[i]? = some y,
   fun i H v H' => ∃ p x y, H p = none ∧ v = .ref p ∧ H' = upd H p (.tup [x, y]) ∧ (∀ xs, Sq K H b a xs → xs[i]? = some x) ∧ ∀ ys, Sq K H c d ys → ys[i]? = some y,
   fun i H => ∃ xs ys, Sq K H b a xs ∧ Sq K H c d ys ∧ (xs.length = i ∨ (i < xs.length ∧ ys.length = i))⟩
def ZAt (z TI TO i1 i2:Addr) (b c:Bool) (a d:Addr) (i:Nat) (h:Heap):Prop:=IsZip h z TI TO .none/\IsPair h TI (.ref i1) (.ref i2)/\(∃ x y,IsPair h TO x y)/\qN h b i1 a i/\qN h c i2 d i
theorem F9 {P:Program}{w:World}{K:Frag}{elts:List Expr}{tk:Nat}{tp:Pos}{b c:Bool}{a d z TI TO i1 i2:Addr}(D:ZA z TI TO i1 i2 [i1,a] [i2,d]) (h1a:a≠i1) (h2d:d≠i2):
  A0 P w K (.Tuple elts tk tp) (Itz K b c a d) [z,TI,TO,i1,i2] z (ZAt z TI TO i1 i2 b c a d) where
 mem:=by simp
 obj:=fun i h st x hx=>by
  obtain⟨h1,h2,⟨_,_,h3⟩,h4,h5⟩:=st;have hx':x=z\/x=TI\/x=TO\/x=i1\/x=i2:=by simpa using hx
  rcases hx' with rfl | rfl | rfl | rfl | rfl
  .exact⟨_,h1,fun v q=>by simp at q⟩
  .exact⟨_,h2,fun v q=>by simp at q⟩
  .exact⟨_,h3,fun v q=>by simp at q⟩
  .exact h4.obj
  .exact h5.obj
 keep:=fun i h h' st k=>by
  obtain⟨h1,h2,⟨u,v,h3⟩,h4,h5⟩:=st;exact⟨k z (by simp) _ h1,k TI (by simp) _ h2,⟨u,v,k TO (by simp) _ h3⟩,h4.at fun o e=>k i1 (by simp) o e,h5.at fun o e=>k i2 (by simp) o e⟩
 item:=by
  intro X hP hw hK hc i pins s Z H E I hf st hg;subst hP hw hK;obtain⟨xs,ys,x,y,q1,q2,e1,e2⟩:=hg;obtain⟨h1,h2,⟨u,v,h3⟩,h4,h5⟩:=st;obtain⟨l1,r1,p1⟩:=I.sq q1;obtain⟨l2,r2,p2⟩:=I.sq q2;have hh:X.A.in1.handled=none:=I.ok.hd hc;have D1:=sj (prog:=X.prog) (w:=X.w) hh b i1 a h1a l1.toArray;have D2:=sj (prog:=X.prog) (w:=X.w) hh c i2 d h2d l2.toArray;obtain⟨u1,g1,w1⟩:=r1.get e1;obtain⟨u2,g2,w2⟩:=r2.get e2;have lt1:i < l1.toArray.size:=by have:=(List.getElem?_eq_some_iff.mp g1).1;simpa using this
  have lt2:i < l2.toArray.size:=by have:=(List.getElem?_eq_some_iff.mp g2).1;simpa using this
  have hT:s.TypeIs (.ref z) "zip":=⟨_,h1,rfl⟩;unfold pyNext
  refine wpAny_bind (wpAny_attempt (wpAny_callSpecial?_slot (name:=Str.ofString "__next__") hT F.slot_zip_next (wpAny_call_entry F.slot_zip_next hT F.entry_zip_next
   (E9 D1 D2 D h1 h2 h3 ⟨h4,p1⟩ ⟨h5,p2⟩ lt1 lt2 fun x' y' h' tk' hx hy a1 a2 a3 a4 a5 kz=>wpAny_pure ?_) (F.args_zip_next_1 _))))
  have hx:u1=x':=by have hx:l1.toArray[i]? =some x':=hx;rw[List.getElem?_toArray,g1] at hx;exact Option.some.inj hx
  have hy:u2=y':=by have hy:l2.toArray[i]? =some y':=hy;rw[List.getElem?_toArray,g2] at hy;exact Option.some.inj hy
  subst hx hy;refine⟨_,rfl,wpAny_letOwnedTupleGo_zip a1 fun h'' hz'' hs''=> ?_⟩
  have hs'':Heap.SameBut z h' h'':=hs'';have hlt:z < s.heap.objs.size:=Heap.lt_size h1;have up:∀b o,b≠z->h'.get? b=some o->h''.get? b=some o:=fun b o hb e=>hs''.extBut _ _ hb e
  have kept:∀b o,b ∉ [z,TI,TO,i1,i2]->s.heap.get? b=some o->h''.get? b=some o:=fun b o hb e=>by
   have hb':b≠z/\b≠TI/\b≠TO/\b≠i1/\b≠i2:=by simpa using hb
   exact up b o hb'.1 (kz b o hb'.1 hb'.2.2.1 hb'.2.2.2.1 hb'.2.2.2.2 e)
  refine⟨.ref s.heap.objs.size,upd H s.heap.objs.size (.tup [x,y]),?_,rfl,⟨_,x,y,I.fresh,rfl,rfl,fun zs hz=>by rw[I.sq_inj hz q1];exact e1,fun zs hz=>by rw[I.sq_inj hz q2];exact e2⟩,?_,fun b hb=> ?_⟩
  .refine I.turnedN (t':=tk') (ch:=[z,TI,TO,i1,i2]) kept hf (Nat.le_refl _) ⟨by show 2<=sizeLine;decide,[u1,u2],.cons w1 (.cons w2 .nil),⟨_,up _ _ (Nat.ne_of_gt hlt) a5,rfl,_,rfl⟩⟩
  .exact⟨hz'',up _ _ D.TIz (kz _ _ D.TIz D.TITO D.TIi1 D.TIi2 h2),⟨_,_,up _ _ D.TOz a2⟩,a3.1.at fun o e=>up _ _ D.i1z e,a4.1.at fun o e=>up _ _ D.i2z e⟩
  .have h0:=(hf b hb).1;rw[ai]
   .exact h0
   .have hb':b=z\/b=TI\/b=TO\/b=i1\/b=i2:=by simpa using hb
    rcases hb' with rfl | rfl | rfl | rfl | rfl
    .exact Nat.ne_of_lt hlt
    .exact Nat.ne_of_lt (Heap.lt_size h2)
    .exact Nat.ne_of_lt (Heap.lt_size h3)
    .obtain⟨o,e,_⟩:=h4.obj;exact Nat.ne_of_lt (Heap.lt_size e)
    .obtain⟨o,e,_⟩:=h5.obj;exact Nat.ne_of_lt (Heap.lt_size e)
 done:=by
  intro X hP hw hK hc i pins s Z H E I hf st hg;subst hP hw hK;obtain⟨xs,ys,q1,q2,hend⟩:=hg;obtain⟨h1,h2,⟨u,v,h3⟩,h4,h5⟩:=st;obtain⟨l1,r1,p1⟩:=I.sq q1;obtain⟨l2,r2,p2⟩:=I.sq q2;have hh:X.A.in1.handled=none:=I.ok.hd hc;have D1:=sj (prog:=X.prog) (w:=X.w) hh b i1 a h1a l1.toArray;have D2:=sj (prog:=X.prog) (w:=X.w) hh c i2 d h2d l2.toArray;have z1:=r1.length;have z2:=r2.length;have he:i=l1.toArray.size\/(i < l1.toArray.size/\i=l2.toArray.size):=by simp only[List.size_toArray];lia
  have hT:s.TypeIs (.ref z) "zip":=⟨_,h1,rfl⟩;unfold pyNext
  refine wpAny_bind (wpAny_attempt (wpAny_callSpecial?_slot (name:=Str.ofString "__next__") hT F.slot_zip_next (wpAny_call_entry F.slot_zip_next hT F.entry_zip_next
   (GH D1 D2 D h1 h2 h3 ⟨h4,p1⟩ ⟨h5,p2⟩ he fun h' e tk' kz hx=> ?_) (F.args_zip_next_1 _))))
  obtain⟨o,ho,hcl⟩:=hx;refine wpAny_bind (wpAny_isInstance (T:="StopIteration") (b:=true) ⟨o,ho,hcl⟩ isSubtype_stop ?_)
  refine wpAny_pure ⟨rfl,I.turnedL (t':=tk') (ch:=[z,TI,TO,i1,i2]) (fun b o hb e=> ?_) hf⟩
  have hb':b≠z/\b≠TI/\b≠TO/\b≠i1/\b≠i2:=by simpa using hb
  exact kz b o hb'.1 hb'.2.2.1 hb'.2.2.2.1 hb'.2.2.2.2 e
 self:=fun A i s Q E st h=>wpAny_pyIter_zip st.1 h
section
variable {X : Cx}
def LR (K:Frag) (ta:TA):TI:=fun Z H R=>ta Z H fun vs H1=>∃b c a d,vs=[.ref a,.ref d]/\(∃ xs,Sq K H1 b a xs)/\(∃ ys,Sq K H1 c d ys)/\R (Itz K b c a d) H1
theorem GY {e1 e2:Expr}{ta:TA}{p pos tp:Pos}{elts:List Expr}{tk:Nat}(hg:Gl X "zip") (hm:X.mg "zip"=none) (ha:PA X [e1,e2] ta) (hs:starEach [e1,e2] X.env=[(false,eval e1 X.env),(false,eval e2 X.env)]:=by rfl) (hs2:starEach [e2] X.env=[(false,eval e2 X.env)]:=by rfl):
  PI X (.Tuple elts tk tp) (.Call (.Name "zip" p) [e1,e2] [] pos) (LR X.K ta):=by
 intro pins s Z H R I h;refine Call_ (v_ I hg hm KO (PyProof.Rows.callWith_type1 (dg (ha pos pins s Z H _ I h) fun us s1 vs H1 I1 r1 q1=> ?_) (by rw[hs,hs2]) (by rw[hs2];rfl)))
 obtain⟨b,c,a,d,e,⟨xs,hx⟩,⟨ys,hy⟩,q⟩:=q1;subst e;obtain⟨u1,u2,rfl,ru1,ru2⟩:=G9 r1
 cases ru1
 cases ru2
 obtain⟨l1,rr1,p1⟩:=I1.sq hx;obtain⟨l2,rr2,p2⟩:=I1.sq hy;have la:=p1.lt;have ld:=p2.lt;refine Fh p1 p2 fun h' z1 z2 z3 z4 z5 kk=>wpAny_pyIter_zip z1 ?_
 generalize hn:s1.heap.objs.size=n at*;have ap:ZA (n+4) (n+2) (n+3) n (n+1) [n,a] [n+1,d]:=by
  refine⟨?_,?_,?_,?_,?_,?_,?_,?_,?_,?_,?_,?_,?_,?_,?_,?_⟩ <;> (try simp only[List.mem_cons,List.not_mem_nil,or_false]) <;> (unfold Addr at *;lia)
 refine⟨n+4,[n+4,n+2,n+3,n,n+1],_,_,H1,rfl,I1.kept (t':=s1.toks) kk,F9 ap (Nat.ne_of_lt la) (Nat.ne_of_lt (Nat.lt_succ_of_lt ld)),⟨z1,z2,⟨_,_,z3⟩,z4,z5⟩,fun b hb=> ?_,q⟩
 have hb':n<=b:=by
  have hb':b=n+4\/b=n+2\/b=n+3\/b=n\/b=n+1:=by simpa using hb
  unfold Addr at*
  lia
 exact I1.fpOk (by rw[hn];exact hb') (I1.hok.fresh (by rw[hn];exact hb'))
end
theorem Et {K:Frag}{b c:Bool}{a d:Addr}{xs ys:List V}{g:TG}{tb:TS}{D:uJ}{Z:St}{H:Hp}(Pv:Nat->St->Hp->Prop) (h0:Pv 0 Z H) (h1:∀i Z H,Pv i Z H->Sq K H b a xs/\Sq K H c d ys)
  (hs:∀i x y p Z H,xs[i]? =some x->ys[i]? =some y->Pv i Z H->H p=none->g (.ref p) Z (upd H p (.tup [x,y])) fun Z2 H2=>tb {D with nx:=Pv (i+1),ct:=Pv (i+1),bk:=D.nx} Z2 H2) (hd:∀Z H,Pv (min xs.length ys.length) Z H->D.nx Z H):
  ∃W:Nat->Nat->St->Hp->Prop,(∃ m,W 0 m Z H)/\∀i m Z H,W i m Z H->
   ((Itz K b c a d).stop i H/\D.nx Z H)\/((Itz K b c a d).go i H/\∃N:St->Hp->Prop,(∀ Z' H',N Z' H'->∃m',m' < m/\W (i+1) m' Z' H')/\∀x H',(Itz K b c a d).yld i H x H'->g x Z H' fun Z2 H2=>tb {D with nx:=N,ct:=N,bk:=D.nx} Z2 H2):=by
 refine⟨fun i m Z H=>m=min xs.length ys.length - i/\i<=min xs.length ys.length/\Pv i Z H,⟨_,rfl,Nat.zero_le _,h0⟩,?_⟩
 rintro i m Z H ⟨rfl,hi,p⟩
 obtain⟨q1,q2⟩:=h1 i Z H p
 by_cases hlt:i < min xs.length ys.length
 .have hx:i < xs.length:=by lia
  have hy:i < ys.length:=by lia
  refine .inr ⟨⟨xs,ys,xs[i],ys[i],q1,q2,by simp [hx],by simp [hy]⟩,Pv (i+1),fun Z' H' p'=>⟨_,?_,rfl,hlt,p'⟩,fun v H' y=> ?_⟩
  .lia
  .obtain⟨r,x,y,hr,rfl,rfl,e1,e2⟩:=y;exact hs i x y r Z H (e1 xs q1) (e2 ys q2) p hr
 .have e:i=min xs.length ys.length:=by lia
  refine .inl ⟨⟨xs,ys,q1,q2,by lia⟩,?_⟩
  subst e;exact hd Z H p
inductive Dt where
 | non | bl (b:Bool) | int (i:Int) | str (x:Str) | tup (l:List Dt) | lst (l:List Dt)
mutual
def Is (K:Frag) (H:Hp):Dt->V->Prop
 | .non,v=>v= .non
 | .bl b,v=>v= .bl b
 | .int i,v=>v= .int i
 | .str x,v=>v= .str x
 | .tup l,v=>∃a xs,v= .ref a/\SqT K H a xs/\Iss K H l xs
 | .lst l,v=>∃a xs,v= .ref a/\SqL K H a xs/\Iss K H l xs
def Iss (K:Frag) (H:Hp):List Dt->List V->Prop
 | [],xs=>xs=[]
 | d::r,xs=>∃x t,xs=x::t/\Is K H d x/\Iss K H r t
end
mutual
def Dt.flat:Dt->Bool
 | .tup l=>Dt.flats l
 | .lst _=>false
 | _=>true
def Dt.flats:List Dt->Bool
 | []=>true
 | d::r=>d.flat && Dt.flats r
end
theorem az.tup {K:Frag}{H H':Hp}{a:Addr}{xs:List V}(e:az H H') (h:SqT K H a xs):SqT K H' a xs:=by
 rcases h with(h | ⟨o,h⟩) | h
 .exact .inl (.inl (e _ _ h))
 .exact .inl (.inr ⟨o,e _ _ h⟩)
 .exact .inr h
theorem But.tup {K:Frag}{H H':Hp}{a d:Addr}{xs ys:List V}(e:But d H H') (hd:H d=some (.lst ys)) (h:SqT K H a xs):SqT K H' a xs:=by
 rcases h with(h | ⟨o,h⟩) | h
 .exact .inl (.inl (e _ _ (dS h hd (by intro z;cases z)) h))
 .exact .inl (.inr ⟨o,e _ _ (dS h hd (by intro z;cases z)) h⟩)
 .exact .inr h
section
variable {K : Frag} {g : TG} {te : TE} {t : Nat} {js : List Nat} {σ : St} {H : Hp} {Q : VK} {p : Addr}
theorem rR {a:Addr}{xs:List V}(Pv:Nat->List V->Hp->Prop) (h0:Pv 0 [] (upd H p (.lst []))) (hl:∀i ys H,Pv i ys H->SqT K H a xs)
  (hs:∀i x ys H (F:List V->Hp->Prop),(∀ ys' H',Pv (i+1) ys' H'->F ys' H')->xs[i]? =some x->Pv i ys H->g x (blk t js Z) H fun Z2 H2=>Wk (blk t js Z) Z2/\te Z2 H2 fun y H3=>H3 p=some (.lst ys)/\ys.length < sizeLine/\F (ys++[y]) (upd H3 p (.lst (ys++[y]))))
  (hd:∀ys H,Pv xs.length ys H->Q (.ref p) H):
  n8 (Itt K a) g te t js Z p H Q:=by
 refine⟨fun i m ys H=>m=xs.length - i/\i<=xs.length/\Pv i ys H,⟨xs.length,by simp,Nat.zero_le _,h0⟩,?_⟩
 rintro i m ys H ⟨rfl,hi,pv⟩
 have q:=hl i ys H pv
 by_cases hlt:i < xs.length
 .refine .inr ⟨⟨xs,xs[i],q,by simp [hlt]⟩,fun x H' y=> ?_⟩
  obtain⟨e,y⟩:=y;subst e;exact hs i x ys _ (fun ys' H'=>∃m',m' < xs.length - i/\m'=xs.length - (i+1)/\i+1<=xs.length/\Pv (i+1) ys' H') (fun ys' H' z=>⟨_,by lia,rfl,hlt,z⟩) (y xs q) pv
 .have e:i=xs.length:=by lia
  subst e;exact .inl ⟨⟨xs,q,Nat.le_refl _⟩,hd ys H pv⟩
theorem yz {a:Addr}{xs:List V}(Pv:Nat->List V->Hp->Prop) (h0:Pv 0 [] (upd H p (.lst []))) (hl:∀i ys H,Pv i ys H->SqL K H a xs)
  (hs:∀i x ys H (F:List V->Hp->Prop),(∀ ys' H',Pv (i+1) ys' H'->F ys' H')->xs[i]? =some x->Pv i ys H->g x (blk t js Z) H fun Z2 H2=>Wk (blk t js Z) Z2/\te Z2 H2 fun y H3=>H3 p=some (.lst ys)/\ys.length < sizeLine/\F (ys++[y]) (upd H3 p (.lst (ys++[y]))))
  (hd:∀ys H,Pv xs.length ys H->Q (.ref p) H):
  n8 (Itl K a) g te t js Z p H Q:=by
 refine⟨fun i m ys H=>m=xs.length - i/\i<=xs.length/\Pv i ys H,⟨xs.length,by simp,Nat.zero_le _,h0⟩,?_⟩
 rintro i m ys H ⟨rfl,hi,pv⟩
 have q:=hl i ys H pv
 by_cases hlt:i < xs.length
 .refine .inr ⟨⟨xs,xs[i],q,by simp [hlt]⟩,fun x H' y=> ?_⟩
  obtain⟨e,y⟩:=y;subst e;exact hs i x ys _ (fun ys' H'=>∃m',m' < xs.length - i/\m'=xs.length - (i+1)/\i+1<=xs.length/\Pv (i+1) ys' H') (fun ys' H' z=>⟨_,by lia,rfl,hlt,z⟩) (y xs q) pv
 .have e:i=xs.length:=by lia
  subst e;exact .inl ⟨⟨xs,q,Nat.le_refl _⟩,hd ys H pv⟩
theorem mq {lo:Int}{n:Nat}(Pv:Nat->List V->Hp->Prop) (h0:Pv 0 [] (upd H p (.lst [])))
  (hs:∀i ys H (F:List V->Hp->Prop),(∀ ys' H',Pv (i+1) ys' H'->F ys' H')->i < n->Pv i ys H->g (.int (lo+i)) (blk t js Z) H fun Z2 H2=>Wk (blk t js Z) Z2/\te Z2 H2 fun y H3=>H3 p=some (.lst ys)/\ys.length < sizeLine/\F (ys++[y]) (upd H3 p (.lst (ys++[y]))))
  (hd:∀ys H,Pv n ys H->Q (.ref p) H):
  n8 (Itr lo n) g te t js Z p H Q:=by
 refine⟨fun i m ys H=>m=n - i/\i<=n/\Pv i ys H,⟨n,by simp,Nat.zero_le _,h0⟩,?_⟩
 rintro i m ys H ⟨rfl,hi,pv⟩
 by_cases hlt:i < n
 .refine .inr ⟨hlt,fun x H' y=> ?_⟩
  obtain⟨e,y⟩:=y;subst e y;exact hs i ys _ (fun ys' H'=>∃m',m' < n - i/\m'=n - (i+1)/\i+1<=n/\Pv (i+1) ys' H') (fun ys' H' z=>⟨_,by lia,rfl,hlt,z⟩) hlt pv
 .have e:i=n:=by lia
  subst e;exact .inl ⟨Nat.le_refl _,hd ys H pv⟩
end
theorem bk {sc0 scope:Scope}{N0:List Str}(N:List Str) (t:Nat) (js:List Nat) (h1:scope.kind= .function:=by rfl) (h2:∀y∈scope.names,y.2≠NameKind.cell:=by decide +kernel) (h3:∀y∈scope.names,y.2=NameKind.local->scope.names.lookup y.1=some NameKind.local:=by decide +kernel)
  (h4:∀y∈scope.names,y.2=NameKind.free->sc0.names.lookup y.1=some NameKind.cell:=by decide +kernel) (h5:∀x∈N.drop t,scope.names.lookup x=some NameKind.free:=by decide +kernel) (h6:(N.drop t).map some=js.map fun j=>N0[j]? :=by rfl)
  (h7:t<=N.length:=by decide) (h8:N.Nodup:=by decide +kernel):oX sc0 scope N0 N t js:=⟨h1,h2,h3,h4,h5,h6,h7,h8⟩
theorem eU {X:Cx}{k:Nat}{x:Str}{sp:Sp}{p pos:Pos}(h:Has X.prog X.w X.K X.mg X.base k x [] sp) (hr:Room k X.A) (hg:Gl X x) (hdb:(x == ("__debug__":Str))=false:=by decide):
  PE X (.Call (.Name x p) [] [] pos) (fun Z H Q=>sp [] H Q E0):=by
 obtain⟨f,fd,hm,hk,hb,F⟩:=h.ex;exact Gf F hr hg hm hk hb .nil yA hdb
section
variable {X : Cx}
theorem b_ {a b v:Int}{j j2:Nat}{p p2 pos:Pos}(e:a^b.toNat=v) (hb:0<=b/\b<=1000000/\a.natAbs < 2^64:=by decide):PE X (.BinOp (.Constant (.int a) j p) .Pow (.Constant (.int b) j2 p2) pos) (tC (.int v)):=fun pins s Z H Q I h=>
 av Kh ac ac pins s Z H Q I ⟨a,b,rfl,rfl,hb,by dsimp only;rw[e];exact h⟩
theorem yJ {a v:Int}{j:Nat}{p pos:Pos}(e: -a=v):PE X (.UnaryOp .USub (.Constant (.int a) j p) pos) (tC (.int v)):=fun pins s Z H Q I h=>KZ KH ac pins s Z H Q I ⟨a,rfl,by dsimp only;rw[e];exact h⟩
structure aG (p:Prop):Prop where
 out:p
theorem aO {st:Stmt}{t:TS}(h:PS X st t):PS X st (fun D Z H=>aG (t D Z H)):=fun pins s Z H D I hq=>h pins s Z H D I hq.out
end
def fT (K:Frag) (a:Addr) (xs:List V):Prop:=∃(o:Obj) (its:Array Value) (n:Nat),K.lookup a=some o/\o.cls= .type "tuple"/\o.dict=none/\o.data= .seq its n/\its.size<=sizeLine/\aW xs its.toList
theorem fT.sq {K:Frag}{H:Hp}{a:Addr}{xs:List V}(h:fT K a xs):SqT K H a xs:=by
 obtain⟨o,its,n,h1,h2,_,h3,h4,h5⟩:=h;exact .inr ⟨o,its,n,h1,h2,h3,h4,h5⟩
theorem fT.ty {K:Frag}{H:Hp}{a:Addr}{xs:List V}(h:fT K a xs):tyV K "tuple" (.ref a) H:=by
 obtain⟨o,its,n,h1,h2,hd,_⟩:=h;exact .inr (.inl ⟨rfl,o,h1,h2,hd⟩)
theorem fh {K:Frag}{a:Addr}{xs:List V}{its:Array Value}{n:Nat}{sl:Array (Option Value)}(l:K.lookup a=some ⟨.type "tuple",none,.seq its n,sl⟩) (z:its.size<=sizeLine) (v:aW xs its.toList):fT K a xs:=⟨_,its,n,l,rfl,rfl,rfl,z,v⟩
theorem mT {α:Type}{x:α}{xs:List α}:atI (x::xs) 0=some x:=aJ (j:=0) rfl
theorem s_ {α:Type}{x y:α}{xs:List α}:atI (x::y::xs) 1=some y:=aJ (j:=1) rfl
theorem pi {α:Type}{x y z:α}{xs:List α}:atI (x::y::z::xs) 2=some z:=aJ (j:=2) rfl
theorem C9 {α:Type}{x y z u:α}{xs:List α}:atI (x::y::z::u::xs) 3=some u:=aJ (j:=3) rfl
section
variable {K : Frag} {H H' : Hp} {a p : Addr} {o o' : HO} {xs : List V} {d : Dt} {v : V}
theorem bh (hp:H p=none) (h:H a=some o'):upd H p o a=some o':=by rw[ai (aj h hp)];exact h
theorem Mn (hp:H p=none) (h:SqT K H a xs):SqT K (upd H p o) a xs:=(ag hp o).tup h
theorem Ky (hp:H p=none) (h:SqL K H a xs):SqL K (upd H p o) a xs:=(ag hp o).seq h
theorem bM {H₀:Hp}(hp:H p=none) (h:az H₀ H):az H₀ (upd H p o):=h.trans (ag hp o)
theorem cU {H₀:Hp}{d:Addr}(hp:H p=none) (h:But d H₀ H):But d H₀ (upd H p o):=h.trans (ag hp o).but
theorem cr {H₀:Hp}(hp:H₀ p=none) (h:az H₀ H):az H₀ (upd H p o):=fun b u e=>by rw[ai (aj e hp)];exact h b u e
end
def AL (x:V):List V->Nat->Option Nat
 | [],_=>none
 | y::r,k=>if eqV y x=true then some k else AL x r (k+1)
theorem BR {x:V}:∀ {xs:List V}{k j:Nat},AL x xs k=some j->k<=j/\uS x xs (j - k)
 | [],_,_,h=>by cases h
 | y::r,k,j,h=>by
  unfold AL at h
  by_cases e:eqV y x=true
  .rw[if_pos e] at h
   cases h
   refine⟨Nat.le_refl _,⟨y,by simp,e⟩,fun m z hm=>absurd hm (by lia)⟩
  .rw[if_neg e] at h;obtain⟨h1,⟨z,h2,h3⟩,h4⟩:=BR h;have hj:j - k=(j - (k+1))+1:=by lia
   refine⟨by lia,⟨z,by rw[hj,List.getElem?_cons_succ];exact h2,h3⟩,fun m z hm hz=> ?_⟩
   cases m with
   | zero=>cases hz;simpa using e
   | succ m=>exact h4 m z (by lia) (by simpa using hz)
theorem GX {x:V}{xs:List V}{j:Nat}(h:AL x xs 0=some j):uS x xs j:=by
 have q:=(BR h).2
 rwa [Nat.sub_zero] at q
end L2
namespace L2
open PySem
theorem Iv {A:Around}{k:Nat}(hr:Room k A):A.units+64 < cLine:=hr.units
end L2
namespace L2
open PySem PySem.Spec PyProof.Rows
@[irreducible] def isTy (t T : String) : Option Bool := L6 t T
inductive TyS (K:Frag) (H:Hp):V->String->Prop where
 | non:TyS K H .non "NoneType"
 | bl (x:Bool):TyS K H (.bl x) "bool"
 | int (i:Int):TyS K H (.int i) "int"
 | str (x:Str):TyS K H (.str x) "str"
 | tup {a:Addr}{xs:List V}(e:SqT K H a xs):TyS K H (.ref a) "tuple"
 | lst {a:Addr}{xs:List V}(e:SqL K H a xs):TyS K H (.ref a) "list"
 | dic {a:Addr}(e:uz K H (.ref a) (.type "dict")):TyS K H (.ref a) "dict"
section
variable {X : Cx} {K : Frag}
theorem uY (e:X.K=K):IxR X (KR K):=by subst e;exact ak
theorem Eo (e:X.K=K):SlR X (Lw K):=by subst e;exact kc
end
theorem xK {b:Bool}{A B:Prop}(h:b=false) (q:B):if b=true then A else B:=by
 rw[h];exact CG q
theorem Jm {b:Bool}{A B:Prop}(h:b=true) (q:A):if b=true then A else B:=by
 rw[h];exact y_ q
theorem Cv {b:Bool}{A B:Prop}(h1:b=true->A) (h2:b=false->B):if b=true then A else B:=by
 cases b with
 | true=>exact y_ (h1 rfl)
 | false=>exact CG (h2 rfl)
def zX:Expr->Option V
 | .Constant (.int i) _ _=>some (.int i)
 | .Constant (.str x) _ _=>some (.str x)
 | .Constant .none _ _=>some .non
 | .Constant (.bool b) _ _=>some (.bl b)
 | _=>none
def u4:List Expr->Option (List V)
 | []=>some []
 | e::r=>match zX e,u4 r with
  | some v,some vs=>some (v::vs)
  | _,_=>none
theorem cj {X:Cx}:∀ {es:List Expr}{vs:List V},u4 es=some vs->PA X es (fun _ H Q=>Q vs H)
 | [],vs,h=>by
  cases h
  exact gU
 | e::r,vs,h=>by
  unfold u4 at h
  cases hv:zX e with
  | none=>rw[hv] at h;cases h
  | some v=>
   cases hr:u4 r with
   | none=>rw[hv,hr] at h;cases h
   | some ws=>
    rw[hv,hr] at h;have h:v::ws=vs:=Option.some.inj h;subst h;have ih:=cj (X:=X) hr;have hc:PE X e (tC v):=by
     unfold zX at hv
     split at hv
     .cases hv;exact ac
     .cases hv;exact aw
     .cases hv;exact d5
     .cases hv;exact nG
     .cases hv
    have hs:starEach (e::r) X.env=(false,eval e X.env)::starEach r X.env:=by
     unfold zX at hv
     split at hv <;> first | rfl | cases hv
    intro pos pins s Z H Q I q;exact dt hc ih hs pos pins s Z H Q I q
open PySem PySem.Spec PyProof.Rows
end L2
namespace SpM
open PySem PyProof.Rows
theorem Bn:∀n:Nat,0 < n->∃t u,n=(2*u+1)*2^t:=by
 intro n
 induction n using Nat.strongRecOn with
 | ind n ih=>
  intro h
  by_cases h2:n %2=1
  .exact⟨0,n / 2,by lia⟩
  .obtain⟨t,u,e⟩:=ih (n / 2) (by lia) (by lia)
   refine⟨t+1,u,?_⟩
   rw[Nat.pow_succ, <-Nat.mul_assoc, <-e]
   lia
open Classical in
noncomputable def Zn (v:Int):Nat:=if h:v=0 then 32 else(Bn v.natAbs (by lia)).choose
theorem Zn_zero:Zn 0=32:=by simp [Zn]
theorem DP {v:Int}(h:v≠0):∃u,v.natAbs=(2*u+1)*2^Zn v:=by
 unfold Zn;rw[dif_neg h];exact(Bn v.natAbs (by lia)).choose_spec
theorem Zn_case (v:Int):(v=0/\Zn v=32)\/∃u,v.natAbs=(2*u+1)*2^Zn v:=by
 by_cases h:v=0
 .subst h;exact .inl ⟨rfl,Zn_zero⟩
 .exact .inr (DP h)
theorem pp (z:Nat):(0:Int) < 2^z:=Int.pow_pos (by decide)
theorem pdvd {a b:Nat}(h:a<=b):(2:Int)^a∣2^b:=by
 obtain⟨c,rfl⟩:=Nat.exists_eq_add_of_le h;rw[Int.pow_add];exact Int.dvd_mul_right _ _
theorem ple {a b:Nat}(h:a<=b):(2:Int)^a<=2^b:=Int.le_of_dvd (pp b) (pdvd h)
theorem plt {a b:Nat}(h:a < b):(2:Int)^a < 2^b:=by
 have:=ple (show a+1<=b from h);have e:(2:Int)^(a+1)=2^a*2:=Int.pow_succ _ _;have:=pp a
 lia
theorem p32:(2:Int)^32=4294967296:=by decide
theorem Lf {z:Nat}(h:z<=32):(2:Int)^z<=4294967296:=ple h
theorem GT {z:Nat}(h:z<=32):(2:Int)^z∣4294967296:=pdvd h
theorem LW {z:Nat}(h:z<=32) (e:(2:Int)^z=4294967296):z=32:=by
 rcases Nat.lt_or_ge z 32 with c | c
 .have:=plt c;rw[p32] at this
  lia
 .lia
theorem nP (v:Int):(2:Int)^Zn v∣v:=by
 rcases Zn_case v with⟨rfl,_⟩|⟨u,e⟩
 .exact⟨0,by lia⟩
 .have:(2:Int)^Zn v∣(v.natAbs:Int):=by
   rw[e];refine⟨2*(u:Int)+1,?_⟩
   push_cast
   rw[Int.mul_comm]
  exact Int.dvd_natAbs.mp this
theorem dvd_Zn {v:Int}{t:Nat}(h0:v≠0) (h:(2:Int)^t∣v):t<=Zn v:=by
 obtain⟨u,e⟩:=DP h0;have h':2^t∣v.natAbs:=by
  have:=Int.natAbs_dvd_natAbs.mpr h
  rwa [Int.natAbs_pow] at this
 rw[e] at h';rcases Nat.lt_or_ge (Zn v) t with c | c
 .exfalso
  obtain⟨d,rfl⟩:=Nat.exists_eq_add_of_le (show Zn v+1<=t from c);obtain⟨k,hk⟩:=h';have:(2*u+1)*2^Zn v=(2*(2^d*k))*2^Zn v:=by
   rw[hk,Nat.pow_add,Nat.pow_succ]
   simp only[Nat.mul_assoc,Nat.mul_comm,Nat.mul_left_comm]
  have:=Nat.eq_of_mul_eq_mul_right (Nat.pow_pos (show 0 < 2 by decide)) this
  lia
 .exact c
theorem LC {v:Int}(h:v.natAbs < 2^33):Zn v<=32:=by
 rcases Zn_case v with⟨_,e⟩|⟨u,e⟩
 .lia
 .rcases Nat.lt_or_ge 32 (Zn v) with c | c
  .exfalso
   have:=Nat.pow_le_pow_right (show 2 >0 by decide) (show 33<=Zn v from c)
   have h1:1*2^Zn v<=(2*u+1)*2^Zn v:=Nat.mul_le_mul_right _ (by lia)
   lia
  .exact c
structure Span where
 lo:Int
 hi:Int
 z:Nat
structure Sv (s:Span):Prop where
 l0:0<=s.lo
 lh:s.lo<=s.hi
 hW:s.hi < 4294967296
 zz:s.z<=32
 dl:(2:Int)^s.z∣s.lo
 dh:(2:Int)^s.z∣s.hi
 one:s.lo=s.hi->s.z=Zn s.lo
structure In (v:Int) (s:Span):Prop where
 lo:s.lo<=v
 hi:v<=s.hi
 dv:(2:Int)^s.z∣v
noncomputable def single (v:Int):Span:=⟨v,v,Zn v⟩
noncomputable def settled (lo hi:Int) (z:Nat):Span:=if lo=hi then single lo else⟨lo,hi,z⟩
def whole:Span:=⟨0,4294967295,0⟩
def all (z:Nat):Span:=⟨0,4294967296 - 2^z,z⟩
noncomputable def kept (lo hi:Int) (z:Nat):Span:=if lo < 0\/4294967296<=hi then all z else settled lo hi z
noncomputable def addS (l r:Span):Span:=kept (l.lo+r.lo) (l.hi+r.hi) (min l.z r.z)
noncomputable def subS (l r:Span):Span:=kept (l.lo - r.hi) (l.hi - r.lo) (min l.z r.z)
noncomputable def moreS (s:Span) (n:Int):Span:=kept (s.lo+n) (s.hi+n) (min s.z (Zn n))
noncomputable def andS (l r:Span):Span:=settled 0 (min l.hi r.hi - min l.hi r.hi %2^max l.z r.z) (max l.z r.z)
def jst (h1 h2:Int):Nat->Nat->Nat
 | 0,j=>j
 | k+1,j=>if (2:Int)^j<=h1\/(2:Int)^j<=h2 then jst h1 h2 k (j+1) else j
def jf (h1 h2:Int) (z:Nat):Nat:=jst h1 h2 33 z
noncomputable def orS (l r:Span) (lo:Int):Span:=settled lo (2^jf l.hi r.hi (min l.z r.z) - 2^min l.z r.z) (min l.z r.z)
noncomputable def lessS (l r:Span):Span:=if l.hi < r.lo then single 1 else if r.hi<=l.lo then single 0 else⟨0,1,0⟩
noncomputable def leftS (l r:Span):Span:=if r.lo=r.hi then kept (l.lo*2^(r.lo %32).toNat) (l.hi*2^(r.lo %32).toNat) (min 32 (l.z+(r.lo %32).toNat)) else whole
noncomputable def rightS (l r:Span):Span:=if r.lo=r.hi then settled (l.lo / 2^(r.lo %32).toNat) (l.hi / 2^(r.lo %32).toNat) (l.z - (r.lo %32).toNat) else settled 0 l.hi 0
noncomputable def fitS (k:Nat) (base:Int) (s:Span):Span:=
 if base<=s.lo/\s.hi < base+2^k then s else settled base (base+2^k - 1 - (2^k - 1) %2^min s.z (Zn base)) (min s.z (Zn base))
def aimV (m s:Nat) (v:Int):Int:=v %2^m*8*2^s
noncomputable def aimS (m s:Nat) (x:Span):Span:=if x.lo=x.hi then single (aimV m s x.lo) else settled 0 (aimV m s (2^m - 1)) (s+3)
theorem In.nn {v:Int}{s:Span}(h:Sv s) (i:In v s):0<=v:=Int.le_trans h.l0 i.lo
theorem cI {a b:Nat}{v:Int}(h:(2:Int)^a∣v):(2:Int)^min a b∣v:=Int.dvd_trans (pdvd (Nat.min_le_left _ _)) h
theorem cD {a b:Nat}{v:Int}(h:(2:Int)^b∣v):(2:Int)^min a b∣v:=Int.dvd_trans (pdvd (Nat.min_le_right _ _)) h
theorem Sv_single {v:Int}(h0:0<=v) (h1:v < 4294967296):Sv (single v):=
 ⟨h0,Int.le_refl _,h1,LC (by lia),nP v,nP v,fun _=>rfl⟩
theorem In_single (v:Int):In v (single v):=⟨Int.le_refl _,Int.le_refl _,nP v⟩
theorem Sv_whole:Sv whole:=⟨by decide,by decide,by decide,by decide,⟨0,by decide⟩,⟨4294967295,by decide⟩,fun h=>by exact absurd h (by decide)⟩
theorem In_whole {v:Int}(h0:0<=v) (h1:v < 4294967296):In v whole:=⟨h0,by show v<=4294967295;lia,⟨v,by show v=2^0*v;lia⟩⟩
theorem fL {lo hi:Int}{z:Nat}(l0:0<=lo) (lh:lo<=hi) (hW:hi < 4294967296) (zz:z<=32) (dl:(2:Int)^z∣lo) (dh:(2:Int)^z∣hi):Sv (settled lo hi z):=by
 unfold settled
 split
 .exact Sv_single l0 (by lia)
 .rename_i c
  exact⟨l0,lh,hW,zz,dl,dh,fun e=>absurd e c⟩
theorem fW {v lo hi:Int}{z:Nat}(h1:lo<=v) (h2:v<=hi) (d:(2:Int)^z∣v):In v (settled lo hi z):=by
 unfold settled
 split
 .have e:v=lo:=by lia
  subst e;exact In_single v
 .exact⟨h1,h2,d⟩
theorem JM {z:Nat}(zz:z<=32):Sv (all z):=by
 have h1:=pp z;have h2:=Lf zz;refine⟨Int.le_refl _,?_,?_,zz,⟨0,by show(0:Int)=_;lia⟩,Int.dvd_sub (GT zz) (Int.dvd_refl _),fun e=> ?_⟩
 .show(0:Int)<=4294967296 - 2^z;lia
 .show(4294967296:Int) - 2^z < _;lia
 .have e':(0:Int)=4294967296 - 2^z:=e;show z=Zn 0
  rw[Zn_zero];exact LW zz (by lia)
theorem vE {z:Nat}{a b:Int}(ha:(2:Int)^z∣a) (hb:(2:Int)^z∣b) (h:a < b):a<=b - 2^z:=by
 have:=Int.le_of_dvd (show 0 < b - a by lia) (Int.dvd_sub hb ha)
 lia
theorem u7 {z:Nat}{a b:Int}(ha:(2:Int)^z∣a) (h:a<=b):a<=b - b %2^z:=by
 obtain⟨k,rfl⟩:=ha;have h1:=Int.ediv_le_ediv (pp z) h;rw[Int.mul_ediv_cancel_left _ (by have:=pp z;lia)] at h1
 have h2:=Int.mul_le_mul_of_nonneg_left h1 (Int.le_of_lt (pp z));have h3:=Int.mul_ediv_add_emod b (2^z)
 lia
theorem AC (z:Nat) (b:Int):(2:Int)^z∣b - b %2^z:=by
 have h3:=Int.mul_ediv_add_emod b (2^z);exact⟨b / 2^z,by lia⟩
theorem Kx {x:Int}{z:Nat}(zz:z<=32) (d:(2:Int)^z∣x):In (x %4294967296) (all z):=by
 have dv:(2:Int)^z∣x %4294967296:=by
  rw[Int.emod_def];exact Int.dvd_sub d (Int.dvd_trans (GT zz) (Int.dvd_mul_right _ _))
 refine⟨by show(0:Int)<=_;lia,?_,dv⟩
 exact vE dv (GT zz) (by lia)
theorem uT {lo hi:Int}{z:Nat}(lh:lo<=hi) (zz:z<=32) (dl:(2:Int)^z∣lo) (dh:(2:Int)^z∣hi):Sv (kept lo hi z):=by
 unfold kept
 split
 .exact JM zz
 .exact fL (by lia) lh (by lia) zz dl dh
theorem u3 {x lo hi:Int}{z:Nat}(zz:z<=32) (h1:lo<=x) (h2:x<=hi) (d:(2:Int)^z∣x):In (x %4294967296) (kept lo hi z):=by
 unfold kept
 split
 .exact Kx zz d
 .rw[Int.emod_eq_of_lt (by lia) (by lia)]
  exact fW h1 h2 d
section
variable {l r : Span} {v w : Int} (hl : Sv l) (hr : Sv r) (iv : In v l) (iw : In w r)
include hl
theorem J4 (hr:Sv r):Sv (addS l r):=
 uT (by have:=hl.lh;have:=hr.lh;lia) (by have:=hl.zz;lia) (Int.dvd_add (cI hl.dl) (cD hr.dl)) (Int.dvd_add (cI hl.dh) (cD hr.dh))
theorem Ku (hr:Sv r):Sv (subS l r):=
 uT (by have:=hl.lh;have:=hr.lh;lia) (by have:=hl.zz;lia) (Int.dvd_sub (cI hl.dl) (cD hr.dh)) (Int.dvd_sub (cI hl.dh) (cD hr.dl))
theorem Sv_more (n:Int):Sv (moreS l n):=
 uT (by have:=hl.lh;lia) (by have:=hl.zz;lia) (Int.dvd_add (cI hl.dl) (cD (nP n))) (Int.dvd_add (cI hl.dh) (cD (nP n)))
include iv
theorem JW (iw:In w r):In ((v+w) %4294967296) (addS l r):=
 u3 (by have:=hl.zz;lia) (by have:=iv.lo;have:=iw.lo;lia) (by have:=iv.hi;have:=iw.hi;lia) (Int.dvd_add (cI iv.dv) (cD iw.dv))
theorem Kb (iw:In w r):In ((v - w) %4294967296) (subS l r):=
 u3 (by have:=hl.zz;lia) (by have:=iv.lo;have:=iw.hi;lia) (by have:=iv.hi;have:=iw.lo;lia) (Int.dvd_sub (cI iv.dv) (cD iw.dv))
theorem In_more (n:Int):In ((v+n) %4294967296) (moreS l n):=
 u3 (by have:=hl.zz;lia) (by have:=iv.lo;lia) (by have:=iv.hi;lia) (Int.dvd_add (cI iv.dv) (cD (nP n)))
end
theorem Dr {v w:Int}(hv:0<=v) (hw:0<=w):0<=Builtin.bitAnd v w/\Builtin.bitAnd v w<=v/\Builtin.bitAnd v w<=w:=by
 rw[bitAnd_pp hv hw];have h1:= @Nat.and_le_left v.toNat w.toNat;have h2:= @Nat.and_le_right v.toNat w.toNat
 lia
theorem sC {v w:Int}{z:Nat}(hv:0<=v) (hw:0<=w) (d:(2:Int)^z∣v):(2:Int)^z∣Builtin.bitAnd v w:=by
 rw[bitAnd_pp hv hw];have h1:v.toNat %2^z=0:=by
  have:(2:Int)^z∣(v.toNat:Int):=by rw[Int.toNat_of_nonneg hv];exact d
  have h2:((2^z:Nat):Int)∣(v.toNat:Int):=by push_cast;exact this
  exact Nat.mod_eq_zero_of_dvd (Int.ofNat_dvd.mp h2)
 have h3:(v.toNat &&& w.toNat) %2^z=0:=by rw[Nat.and_mod_two_pow,h1,Nat.zero_and]
 have h4:=Int.ofNat_dvd.mpr (Nat.dvd_of_mod_eq_zero h3)
 push_cast at h4 ⊢
 exact h4
theorem Fp {v w:Int}{z:Nat}(hv:0<=v) (hw:0<=w) (d:(2:Int)^z∣w):(2:Int)^z∣Builtin.bitAnd v w:=by
 rw[bitAnd_comm];exact sC hw hv d
theorem Bm {v w:Int}{a b:Nat}(hv:0<=v) (hw:0<=w) (d:(2:Int)^a∣v) (e:(2:Int)^b∣w):(2:Int)^max a b∣Builtin.bitAnd v w:=by
 rcases Nat.le_total a b with c | c
 .rw[Nat.max_eq_right c];exact Fp hv hw e
 .rw[Nat.max_eq_left c];exact sC hv hw d
theorem Ja {v w:Int}{j:Nat}(hv:0<=v) (hw:0<=w) (h1:v < 2^j) (h2:w < 2^j):v+w - Builtin.bitAnd v w < 2^j:=by
 rw[bitAnd_pp hv hw];have e:((2^j:Nat):Int)=2^j:=by push_cast;rfl
 have h3:= @Nat.or_lt_two_pow v.toNat w.toNat j (by lia) (by lia)
 have h4:=nat_or_add_and v.toNat w.toNat
 lia
theorem vj (x y:Int):Builtin.bitXor x y=x+y - 2*Builtin.bitAnd x y:=by
 unfold Builtin.bitXor;rw[bitOr_and]
 lia
theorem Bw (h1 h2:Int) (a1:h1 < 4294967296) (a2:h2 < 4294967296):∀(k j:Nat),j+k>=32->j<=32->j<=jst h1 h2 k j/\jst h1 h2 k j<=32/\h1 < 2^jst h1 h2 k j/\h2 < 2^jst h1 h2 k j
 | 0,j,hk,hj=>by
  have:j=32:=by lia
  subst this;exact⟨Nat.le_refl _,Nat.le_refl _,by show h1 < 2^32;rw[p32];exact a1,by show h2 < 2^32;rw[p32];exact a2⟩
 | k+1,j,hk,hj=>by
  unfold jst
  split
  .rename_i c
   have hj':j < 32:=by
    rcases Nat.lt_or_ge j 32 with x | x
    .exact x
    .have:j=32:=by lia
     subst this;rw[p32] at c
     lia
   obtain⟨q1,q2,q3,q4⟩:=Bw h1 h2 a1 a2 k (j+1) (by lia) (by lia)
   exact⟨by lia,q2,q3,q4⟩
  .exact⟨Nat.le_refl _,hj,by lia,by lia⟩
theorem DN {h1 h2:Int}{z:Nat}(a1:h1 < 4294967296) (a2:h2 < 4294967296) (zz:z<=32):z<=jf h1 h2 z/\jf h1 h2 z<=32/\h1 < 2^jf h1 h2 z/\h2 < 2^jf h1 h2 z:=
 Bw h1 h2 a1 a2 33 z (by lia) zz
section
variable {l r : Span} {v w : Int} (hl : Sv l) (hr : Sv r)
include hl hr
theorem Kt:Sv (andS l r):=by
 have h1:=hl.l0;have h2:=hl.lh;have h3:=hr.l0;have h4:=hr.lh;have h5:=hl.hW;have h6:=hl.zz;have h7:=hr.zz;have h8:=Int.emod_nonneg (min l.hi r.hi) (show(2:Int)^max l.z r.z≠0 by have:=pp (max l.z r.z);lia)
 refine fL (Int.le_refl _) ?_ ?_ (by lia) ⟨0,by lia⟩ (AC _ _)
 .exact u7 (z:=max l.z r.z) (a:=0) ⟨0,by lia⟩ (by lia)
 .lia
theorem J7 (iv:In v l) (iw:In w r):In (Builtin.bitAnd v w) (andS l r):=by
 have hv:=iv.nn hl;have hw:=iw.nn hr;obtain⟨a0,a1,a2⟩:=Dr hv hw;have d:=Bm hv hw iv.dv iw.dv;have:=iv.hi;have:=iw.hi;exact fW a0 (u7 d (by lia)) d
theorem Jr {lo:Int}(h0:0<=lo) (hd:(2:Int)^min l.z r.z∣lo) (hlo:lo<=l.hi\/lo<=r.hi):Sv (orS l r lo):=by
 have hz:min l.z r.z<=32:=by have:=hl.zz;lia
 obtain⟨j1,j2,j3,j4⟩:=DN hl.hW hr.hW hz;have h1:=pp (min l.z r.z);have h2:=Lf j2;exact fL h0 (vE hd (pdvd j1) (by lia)) (by lia) hz hd (Int.dvd_sub (pdvd j1) (Int.dvd_refl _))
theorem Jd {x lo:Int}(iv:In v l) (iw:In w r) (h0:lo<=x) (hx:x<=v+w - Builtin.bitAnd v w) (hd:(2:Int)^min l.z r.z∣x):In x (orS l r lo):=by
 have hz:min l.z r.z<=32:=by have:=hl.zz;lia
 obtain⟨j1,j2,j3,j4⟩:=DN hl.hW hr.hW hz;have h3:=Ja (iv.nn hl) (iw.nn hr) (Int.lt_of_le_of_lt iv.hi j3) (Int.lt_of_le_of_lt iw.hi j4);exact fW h0 (vE hd (pdvd j1) (by lia)) hd
end
theorem IS (l r:Span):Sv (lessS l r):=by
 unfold lessS
 split
 .exact Sv_single (by decide) (by decide)
 .split
  .exact Sv_single (by decide) (by decide)
  .exact⟨by decide,by decide,by decide,by decide,⟨0,by decide⟩,⟨1,by decide⟩,fun h=>absurd h (by decide)⟩
theorem HJ {l r:Span}{v w:Int}(iv:In v l) (iw:In w r):In (if v < w then 1 else 0) (lessS l r):=by
 have h1:=iv.lo;have h2:=iv.hi;have h3:=iw.lo;have h4:=iw.hi;unfold lessS
 by_cases c1:l.hi < r.lo
 .rw[if_pos c1,if_pos (by lia)];exact In_single 1
 .rw[if_neg c1]
  by_cases c2:r.hi<=l.lo
  .rw[if_pos c2,if_neg (by lia)];exact In_single 0
  .rw[if_neg c2]
   split
   .exact⟨by decide,by decide,⟨1,by decide⟩⟩
   .exact⟨by decide,by decide,⟨0,by decide⟩⟩
theorem wl {z t:Nat}{v:Int}(h:(2:Int)^z∣v):(2:Int)^min 32 (z+t)∣v*2^t:=by
 refine Int.dvd_trans (pdvd (Nat.min_le_right 32 (z+t))) ?_
 rw[Int.pow_add];exact Int.mul_dvd_mul h (Int.dvd_refl _)
theorem Iq {l r:Span}(hl:Sv l):Sv (leftS l r):=by
 unfold leftS
 split
 .exact uT (Int.mul_le_mul_of_nonneg_right hl.lh (Int.le_of_lt (pp _))) (Nat.min_le_left _ _) (wl hl.dl) (wl hl.dh)
 .exact Sv_whole
theorem Hy {l r:Span}{v w:Int}(iv:In v l) (iw:In w r):In (v*2^(w %32).toNat %4294967296) (leftS l r):=by
 unfold leftS
 split
 .have h3:=iw.lo;have h4:=iw.hi;have e:w=r.lo:=by lia
  subst e;exact u3 (Nat.min_le_left _ _) (Int.mul_le_mul_of_nonneg_right iv.lo (Int.le_of_lt (pp _))) (Int.mul_le_mul_of_nonneg_right iv.hi (Int.le_of_lt (pp _))) (wl iv.dv)
 .exact In_whole (by lia) (by lia)
theorem sS {z t:Nat}{v:Int}(h:(2:Int)^z∣v):(2:Int)^(z - t)∣v / 2^t:=by
 rcases Nat.le_total z t with c | c
 .rw[Nat.sub_eq_zero_of_le c];exact⟨v / 2^t,by rw[Int.pow_zero];lia⟩
 .obtain⟨d,rfl⟩:=Nat.exists_eq_add_of_le c;obtain⟨k,rfl⟩:=h;rw[Nat.add_sub_cancel_left,Int.pow_add,Int.mul_assoc,Int.mul_ediv_cancel_left _ (by have:=pp t;lia)]
  exact Int.dvd_mul_right _ _
theorem Do {v:Int}(t:Nat) (h:0<=v):v / 2^t<=v:=Int.ediv_le_self _ h
theorem Cs {v:Int}(t:Nat) (h:0<=v):0<=v / 2^t:=Int.ediv_nonneg h (Int.le_of_lt (pp t))
theorem FA {l r:Span}(hl:Sv l):Sv (rightS l r):=by
 have h1:=hl.l0;have h2:=hl.lh;have h3:=hl.hW;have h4:=hl.zz;unfold rightS
 split
 .have h5:=Do (r.lo %32).toNat (show 0<=l.hi by lia)
  exact fL (Cs _ h1) (Int.ediv_le_ediv (pp _) h2) (by lia) (by lia) (sS hl.dl) (sS hl.dh)
 .exact fL (Int.le_refl _) (by lia) h3 (by lia) ⟨0,by lia⟩ ⟨l.hi,by rw[Int.pow_zero];lia⟩
theorem Gd {l r:Span}{v w:Int}(hl:Sv l) (iv:In v l) (iw:In w r):In (v / 2^(w %32).toNat) (rightS l r):=by
 have h0:=iv.nn hl;unfold rightS
 split
 .have h3:=iw.lo;have h4:=iw.hi;have e:w=r.lo:=by lia
  subst e;exact fW (Int.ediv_le_ediv (pp _) iv.lo) (Int.ediv_le_ediv (pp _) iv.hi) (sS iv.dv)
 .have:=Do (w %32).toNat h0;have:=iv.hi;exact fW (Cs _ h0) (by lia) ⟨_,by rw[Int.pow_zero,Int.one_mul]⟩
theorem IY {z k:Nat}{v:Int}(h:(2:Int)^z∣v):(2:Int)^z∣v %2^k:=by
 rcases Nat.le_total z k with c | c
 .rw[Int.emod_def];exact Int.dvd_sub h (Int.dvd_trans (pdvd c) (Int.dvd_mul_right _ _))
 .have:v %2^k=0:=Int.emod_eq_zero_of_dvd (Int.dvd_trans (pdvd c) h);rw[this];exact⟨0,by lia⟩
structure Room (k:Nat) (base:Int):Prop where
 k20:k<=20
 b0:0<=base
 bd:(2:Int)^k∣base
 bW:base+2^k<=4294967296
theorem Hz {k:Nat}{base v:Int}(R:Room k base) (h1:base<=v) (h2:v < base+2^k):base+v %2^k=v:=by
 obtain⟨c,e⟩:=R.bd;have e1:v=(v - base)+2^k*c:=by lia
 have e2:v %2^k=(v - base) %2^k:=by
  conv=>lhs;rw[e1]
  rw[Int.add_mul_emod_self_left]
 rw[e2,Int.emod_eq_of_lt (by lia) (by lia)]
 lia
theorem fit_in {k:Nat}{base:Int}(v:Int):base<=base+v %2^k/\base+v %2^k < base+2^k:=by
 have h1:=Int.emod_nonneg v (show(2:Int)^k≠0 by have:=pp k;lia)
 have h2:=Int.emod_lt_of_pos v (pp k)
 lia
theorem Sv_fit {k:Nat}{base:Int}{s:Span}(R:Room k base) (h:Sv s):Sv (fitS k base s):=by
 unfold fitS
 split
 .exact h
 .have h1:=R.b0;have h2:=R.bW;have h3:=pp k;have h4:=h.zz;have h5:=AC (min s.z (Zn base)) (2^k - 1);have h6:(0:Int)<=(2^k - 1) - (2^k - 1) %2^min s.z (Zn base):=u7 (z:=min s.z (Zn base)) (a:=0) ⟨0,by lia⟩ (by lia)
  have h7:=Int.emod_nonneg ((2:Int)^k - 1) (show(2:Int)^min s.z (Zn base)≠0 by have:=pp (min s.z (Zn base));lia)
  have hb:(2:Int)^min s.z (Zn base)∣base:=cD (nP base);have e:base+2^k - 1 - (2^k - 1) %2^min s.z (Zn base)=base+((2^k - 1) - (2^k - 1) %2^min s.z (Zn base)):=by lia
  rw[e];exact fL h1 (by lia) (by lia) (by lia) hb (Int.dvd_add hb h5)
theorem In_fit {k:Nat}{base v:Int}{s:Span}(R:Room k base) (i:In v s):In (base+v %2^k) (fitS k base s):=by
 unfold fitS
 split
 .rename_i c
  have h1:=i.lo;have h2:=i.hi;rw[Hz R (by lia) (by lia)]
  exact i
 .have hb:(2:Int)^min s.z (Zn base)∣base:=cD (nP base);have hm:(2:Int)^min s.z (Zn base)∣v %2^k:=IY (cI i.dv);obtain⟨h1,h2⟩:=fit_in (k:=k) (base:=base) v;have h3:=u7 hm (show v %2^k<=2^k - 1 by lia)
  exact fW h1 (by lia) (Int.dvd_add hb hm)
theorem aim_le {m s:Nat}(h:m+s<=7) (v:Int):0<=aimV m s v/\aimV m s v<=aimV m s (2^m - 1)/\aimV m s v < 1024:=by
 have h1:=Int.emod_nonneg v (show(2:Int)^m≠0 by have:=pp m;lia)
 have h2:=Int.emod_lt_of_pos v (pp m);have e:((2:Int)^m - 1) %2^m=2^m - 1:=Int.emod_eq_of_lt (by have:=pp m;lia) (by lia)
 have hp:(2:Int)^m*2^s<=128:=by rw[<- Int.pow_add];exact ple h
 unfold aimV;rw[e];have hs:=pp s;refine⟨?_,?_,?_⟩
 .exact Int.mul_nonneg (by lia) (by lia)
 .exact Int.mul_le_mul_of_nonneg_right (by lia) (by lia)
 .have h3:v %2^m*8*2^s<=(2^m - 1)*8*2^s:=Int.mul_le_mul_of_nonneg_right (by lia) (by lia)
  have h4:((2:Int)^m - 1)*8*2^s=8*(2^m*2^s) - 8*2^s:=by
   rw[Int.mul_comm (2^m - 1) 8,Int.mul_assoc,Int.sub_mul,Int.mul_sub]
   lia
  lia
theorem aim_dvd (m s:Nat) (v:Int):(2:Int)^(s+3)∣aimV m s v:=by
 refine⟨v %2^m,?_⟩
 unfold aimV;rw[Int.pow_add];show _=2^s*8*_
 simp only[Int.mul_assoc,Int.mul_comm,Int.mul_left_comm]
theorem Sv_aim {m s:Nat}(h:m+s<=7) (x:Span):Sv (aimS m s x):=by
 obtain⟨a1,a2,a3⟩:=aim_le h x.lo;obtain⟨b1,b2,b3⟩:=aim_le h (2^m - 1);unfold aimS
 split
 .exact Sv_single a1 (by lia)
 .exact fL (Int.le_refl _) b1 (by lia) (by lia) ⟨0,by lia⟩ (aim_dvd _ _ _)
theorem In_aim {m s:Nat}{x:Span}{v:Int}(h:m+s<=7) (i:In v x):In (aimV m s v) (aimS m s x):=by
 obtain⟨a1,a2,a3⟩:=aim_le h v;unfold aimS
 split
 .have h1:=i.lo;have h2:=i.hi;have e:v=x.lo:=by lia
  subst e;exact In_single _
 .exact fW a1 a2 (aim_dvd _ _ _)
inductive Op8 where
 | add | sub | and | or | xor | less | left | right
 deriving DecidableEq
def jv:Op8->Int->Int->Int
 | .add,v,w=>(v+w) %4294967296
 | .sub,v,w=>(v - w) %4294967296
 | .and,v,w=>Builtin.bitAnd v w
 | .or,v,w=>Builtin.bitOr v w
 | .xor,v,w=>Builtin.bitXor v w
 | .less,v,w=>if v < w then 1 else 0
 | .left,v,w=>v*2^(w %32).toNat %4294967296
 | .right,v,w=>v / 2^(w %32).toNat
noncomputable def jS0:Op8->Span->Span->Span
 | .add,l,r=>addS l r
 | .sub,l,r=>subS l r
 | .and,l,r=>andS l r
 | .or,l,r=>orS l r (max l.lo r.lo)
 | .xor,l,r=>orS l r 0
 | .less,l,r=>lessS l r
 | .left,l,r=>leftS l r
 | .right,l,r=>rightS l r
noncomputable def jS (o:Op8) (l r:Span):Span:=
 if o≠ .add/\o≠ .sub/\l.lo=l.hi/\r.lo=r.hi then single (jv o l.lo r.lo) else jS0 o l r
theorem jv_in (o:Op8) {v w:Int}(hv:0<=v/\v < 4294967296) (hw:0<=w/\w < 4294967296):0<=jv o v w/\jv o v w < 4294967296:=by
 obtain⟨a0,a1,a2⟩:=Dr hv.1 hw.1;have h3:=Ja (j:=32) hv.1 hw.1 (by rw[p32];lia) (by rw[p32];lia)
 rw[p32] at h3
 cases o
 .show 0<=(v+w) %4294967296/\(v+w) %4294967296 < _;lia
 .show 0<=(v - w) %4294967296/\(v - w) %4294967296 < _;lia
 .show 0<=Builtin.bitAnd v w/\Builtin.bitAnd v w < _;lia
 .show 0<=Builtin.bitOr v w/\Builtin.bitOr v w < _;rw[bitOr_and];lia
 .show 0<=Builtin.bitXor v w/\Builtin.bitXor v w < _;rw[vj];lia
 .show 0<=(if v < w then(1:Int) else 0)/\(if v < w then(1:Int) else 0) < _;split <;> lia
 .show 0<=v*2^(w %32).toNat %4294967296/\v*2^(w %32).toNat %4294967296 < _;lia
 .show 0<=v / 2^(w %32).toNat/\v / 2^(w %32).toNat < _
  have:=Do (w %32).toNat hv.1;have:=Cs (w %32).toNat hv.1;lia
theorem Sv_j (o:Op8) {l r:Span}(hl:Sv l) (hr:Sv r):Sv (jS o l r):=by
 have l1:=hl.l0;have l2:=hl.lh;have l3:=hl.hW;have r1:=hr.l0;have r2:=hr.lh;have r3:=hr.hW;unfold jS
 split
 .obtain⟨h1,h2⟩:=jv_in o (v:=l.lo) (w:=r.lo) ⟨by lia,by lia⟩ ⟨by lia,by lia⟩
  exact Sv_single h1 h2
 .cases o
  .exact J4 hl hr
  .exact Ku hl hr
  .exact Kt hl hr
  .refine Jr hl hr (by lia) ?_ (by lia)
   rcases Int.le_total l.lo r.lo with c | c
   .rw[Int.max_eq_right c];exact cD hr.dl
   .rw[Int.max_eq_left c];exact cI hl.dl
  .exact Jr hl hr (Int.le_refl _) ⟨0,by lia⟩ (by lia)
  .exact IS l r
  .exact Iq hl
  .exact FA hl
theorem In_j (o:Op8) {l r:Span}{v w:Int}(hl:Sv l) (hr:Sv r) (iv:In v l) (iw:In w r):In (jv o v w) (jS o l r):=by
 unfold jS
 split
 .rename_i c
  have h1:=iv.lo;have h2:=iv.hi;have h3:=iw.lo;have h4:=iw.hi;have e1:v=l.lo:=by lia
  have e2:w=r.lo:=by lia
  subst e1 e2;exact In_single _
 .have hv:=iv.nn hl;have hw:=iw.nn hr;obtain⟨a0,a1,a2⟩:=Dr hv hw;have h1:=iv.lo;have h3:=iw.lo;have da:=sC hv hw (cI (b:=r.z) iv.dv);have dv':=cI (b:=r.z) iv.dv;have dw':=cD (a:=l.z) iw.dv
  cases o
  .exact JW hl iv iw
  .exact Kb hl iv iw
  .exact J7 hl hr iv iw
  .show In (Builtin.bitOr v w) _
   rw[bitOr_and];exact Jd hl hr iv iw (by lia) (Int.le_refl _) (Int.dvd_sub (Int.dvd_add dv' dw') da)
  .show In (Builtin.bitXor v w) _
   rw[vj];exact Jd hl hr iv iw (by lia) (by lia) (Int.dvd_sub (Int.dvd_add dv' dw') (Int.dvd_trans da ⟨2,by lia⟩))
  .exact HJ iv iw
  .exact Hy iv iw
  .exact Gd hl iv iw
end SpM
namespace L2
open PySem PySem.Spec PyProof.Rows PyProof PySem.SeqAt
section
variable {X : Cx}
def FD (K:Frag) (neg:Bool):R2:=fun x y H Q=>∃(a b:Addr) (ns ms:List Int),x= .ref a/\y= .ref b/\SqT K H a (ns.map V.int)/\SqT K H b (ms.map V.int)/\Q (.bl (if neg then !decide (ns=ms) else decide (ns=ms))) H
theorem gr (ns:List Int):shaped (.tuple (ns.map PyData.int))=true:=by
 have h1:=W.depthAll_ints ns;have h2:PyData.depth (.tuple (ns.map PyData.int))<=64:=by simp only[PyData.depth];lia
 show(PyData.canLay0 (.tuple (ns.map PyData.int)) && decide (PyData.depth (.tuple (ns.map PyData.int))<=64))=true
 rw[Bool.and_eq_true];exact⟨by simp only[PyData.canLay0];exact W.canLayAll0_ints ns,decide_eq_true h2⟩
theorem hZ {h:Heap}{a:Addr}{vs:List Value}{ns:List Int}(hl:h.IsTuple a vs.toArray) (hi:IntsAre vs ns):Reads h (.ref a) (.tuple (ns.map PyData.int)) []:=by
 obtain⟨o,ho,hc,n,hd⟩:=hl;exact Reads.tuple ho hc hd (by simpa using W.readsAll_of_ints hi)
theorem BQ (hu:X.A.units+64 < cLine):OpR X (compareOp .Eq) (FD X.K false):=by
 intro pins s Z H x y v u Q I rx ry h;obtain⟨a,b,ns,ms,rfl,rfl,h1,h2,q⟩:=h
 cases rx
 cases ry
 obtain⟨its,r,pl,_⟩:=I.tuple h1;obtain⟨its2,r2,pl2,_⟩:=I.tuple h2;exact eq_dataH_same (hZ pl (gS r)) (hZ pl2 (gS r2)) (gr ns) (gr ms) hu (by simp only[noMix];exact W.noMix_ints ns ms) (by simp only[PySem.Spec.same];rw[W.same_ints];exact⟨.bl _,H,I,rfl,q⟩)
theorem tX:jh X (.type "int") (fun xs H Q=>∃k,xs=[.bl k]/\Q (.int (if k then 1 else 0)) H):=by
 intro pins s Z H xs us Q I r h;exact EJ pins s Z H xs us Q I r (Or.inr h)
def LO (wi:TI):TI:=fun Z H R=>wi Z H fun J H1=>aG (R J H1)
theorem eA {tg iter:Expr}{wi:TI}(h:PI X tg iter wi):PI X tg iter (LO wi):=by
 intro pins s Z H R I hw;refine thn (h pins s Z H _ I hw) fun v s1 h1=>thn h1 fun it s2 h2=> ?_
 obtain⟨it',fp,tn,J,H',e1,I1,T1,t0,hf,r⟩:=h2;exact⟨it',fp,tn,J,H',e1,I1,T1,t0,hf,r.out⟩
end
end L2
namespace L2
open PySem PySem.Spec PyProof.Rows
section
variable {X : Cx}
structure bY (P:Program) (w:World) (K:Frag) (mg:Str->Option Value) (base:Heap) (k:Nat) (C:Addr) (m:Str) (ps:List Str) (sp:Sp):Prop where
 ex:∃(f:Addr) (fd:FuncData),Cls K C/\Gn K C m f/\ie K fd ps []/\iC P w K mg base CX0 k f fd ps sp
theorem bY.mono {P:Program}{w:World}{K:Frag}{mg:Str->Option Value}{base:Heap}{j k:Nat}{C:Addr}{m:Str}{ps:List Str}{sp:Sp}(h:bY P w K mg base j C m ps sp) (hj:j<=k):bY P w K mg base k C m ps sp:=by
 obtain⟨f,fd,h1,h2,h3,h4⟩:=h.ex;exact⟨f,fd,h1,h2,h3,h4.mono hj⟩
theorem ck {k:Nat}{C:Addr}{m:Str}{ps:List Str}{sp:Sp}{o e:Expr}{es:List Expr}{ta:TE}{t:TA}{apos pos:Pos}{pl:Sem Bool}(h:bY X.prog X.w X.K X.mg X.base k C m ps sp) (hr:Room k X.A) (he:PE X o ta) (ha:PA X (e::es) t)
  (hst:starEach (e::es) X.env=(false,eval e X.env)::starEach es X.env:=by rfl) (hpl:(backTo pos (starEach es X.env)).any (·.1)=false:=by rfl)
  (ht:eval (.Call (.Attribute o m apos) (e::es) [] pos) X.env=(do
   let ov <-eval o X.env
   standAt apos.atName
   let (f,first) <-holding [ov] (getMethod ov m pl)
   callWith pos f first (backTo pos (starEach (e::es) X.env)) (backToKw pos (keywordEach [] X.env))):=by rfl):
  PE X (.Call (.Attribute o m apos) (e::es) [] pos) (DB C m sp [] E0 ta t):=by
 obtain⟨f,fd,c,hm,hb,F⟩:=h.ex;exact HU (pl:=pl) he c hm F hr hb .nil yA ha hst hpl ht
theorem kM {k:Nat}{C:Addr}{m:Str}{ps:List Str}{sp:Sp}{o:Expr}{ta:TE}{apos pos:Pos}{pl:Sem Bool}(h:bY X.prog X.w X.K X.mg X.base k C m ps sp) (hr:Room k X.A) (he:PE X o ta)
  (ht:eval (.Call (.Attribute o m apos) [] [] pos) X.env=(do
   let ov <-eval o X.env
   standAt apos.atName
   let (f,first) <-holding [ov] (getMethod ov m pl)
   callWith pos f first (backTo pos (starEach [] X.env)) (backToKw pos (keywordEach [] X.env))):=by rfl):
  PE X (.Call (.Attribute o m apos) [] [] pos) (DB C m sp [] E0 ta vd):=by
 obtain⟨f,fd,c,hm,hb,F⟩:=h.ex;exact FB (pl:=pl) he c hm F hr hb .nil yA ht
structure dE (K:Frag) (mg:Str->Option Value) (x:Str) (C:Addr):Prop where
 mg:mg x=some (.ref C)
 cl:Cls K C
 mks:W.makesIn K C=true
 kp:W.keepIn K (.ref C)=true
theorem vB {k:Nat}{C:Addr}{x:Str}{ps:List Str}{sp:Sp}{e:Expr}{es:List Expr}{t:TA}{p pos:Pos}(c:dE X.K X.mg x C) (h:bY X.prog X.w X.K X.mg X.base k C "__init__" ps sp) (hr:Room (k+1) X.A) (hg:Gl X x)
  (ha:PA X (e::es) t) (hdb:(x == ("__debug__":Str))=false:=by decide) (he:starEach (e::es) X.env=(false,eval e X.env)::starEach es X.env:=by rfl) (hpl:(backTo pos (starEach es X.env)).any (·.1)=false:=by rfl):
  PE X (.Call (.Name x p) (e::es) [] pos) (DW C sp [] E0 t):=by
 obtain⟨f,fd,_,hm,hb,F⟩:=h.ex;exact Hv ⟨c.mks,hm.at_,hm.fn,c.kp⟩ F hr hg c.mg hb .nil yA ha hdb he hpl
structure jw (K:Frag) (C:Addr) (m qual:Str) (st:Stmt) (ps:List Str):Prop where
 ex:∃(f:Addr) (fd:FuncData),Fun K m qual st f fd/\Gn K C m f/\ie K fd ps []
theorem jw.has {P:Program}{w:World}{K:Frag}{mg:Str->Option Value}{base:Heap}{k:Nat}{C:Addr}{m qual:Str}{st:Stmt}{N ps:List Str}{sp:Sp}(D:jw K C m qual st ps) (c:Cls K C) (S:aq N ps (af st)) (len:∀vs H Q E,sp vs H Q E->vs.length=ps.length)
  (hbody:∀(f:Addr) (cdv:Value) (A:Around) (outer:List Env) (s:Shared) (H:Hp) (vs:List V) (Q:VK) (E:XK),Room k (A.deeper (envOfC qual (af st) s.heap.objs.size f cdv))->sp vs H Q E->
   ∃t,PSs (fP CX0 P w K mg base N qual (af st) f cdv A outer s H E).nox (eZ st) t/\t {nx:=fun _ H'=>Q .non H',rt:=Q} (start N vs) H):bY P w K mg base (k+1) C m ps sp:=by
 obtain⟨f,fd,F,hm,hb⟩:=D.ex;exact⟨f,fd,c,hm,hb,F.ok S len fun cdv A outer s H vs Q E hr h=>hbody f cdv A outer s H vs Q E hr h⟩
def BdM (x qual:Str) (st:Stmt) (ps:List Str):Prop:=∀(kV doc pm:Value) (an:Option Addr) (cdv ct:Value) (us:List Value),us.length=ps.length->
 bindArgs (W.fnOf x qual (iS st) (eZ st) (af st) .none kV doc pm an cdv ct) ⟨us,[]⟩=pure (ps.zip us)
theorem cv {K:Frag}{x qual:Str}{st:Stmt}{ps:List Str}{C f:Addr}{od an:Option Addr}{sl:Array (Option Value)}{oc kV dc pm cd ct:Value}(b:BdM x qual st ps)
  (a:W.findIn K (.ref C) x=some (some (.ref f))) (l:K.lookup f=some ⟨oc,od,.func (W.fnOf x qual (iS st) (eZ st) (af st) .none kV dc pm an cd ct),sl⟩) (c:W.codeIn K cd qual=true) (fn:W.isFn K (.ref f)=true) (k:W.keepIn K (.ref f)=true):
  jw K C x qual st ps:=by
 have F:=CM (st:=st) l c k;exact⟨f,_,F,⟨a,fn,k⟩,F.binds b⟩
theorem u8 {K:Frag}{h:Heap}{mg:Str->Option Value}{x:Str}{C:Addr}(X:K.In h) (G:h.Ns mainGlobals mg) (a:W.nsIn K mainGlobals x=some (some (.ref C)))
  (pg:W.plainGet K C Str.empty=true) (hd:W.hasDictIn K C=true) (po:W.plainOver K C=true) (sa:W.findIn K (.ref C) "__setattr__"=some (some (.builtin "object.__setattr__")))
  (mk:W.makesIn K C=true) (kp:W.keepIn K (.ref C)=true):dE K mg x C:=⟨W.mg_of X G a,⟨pg,hd,po,sa⟩,mk,kp⟩
theorem rK:jh X (.type "dict") (fun xs H Q=>∃a kvs,xs=[V.ref a]/\H a=some (.dK kvs)/\∀p,H p=none->Q (.ref p) (upd H p (.dK kvs))):=by
 intro pins s Z H xs us Q I r h;obtain⟨a,kvs,rfl,ha,q⟩:=h;obtain⟨u,rfl,r1⟩:=om r
 cases r1
 exact FW I (.inl ha) fun p s' hp I'=>⟨.ref p,_,I',rfl,q p hp⟩
def Ij:V->List V->Hp->VK->Prop:=fun x vs H Q=>∃a b kvs more,x= .ref a/\vs=[.ref b]/\H a=some (.dK kvs)/\H b=some (.dK more)/\a≠b/\kvs.length+more.length<=sizeLine/\Q .non (upd H a (.dK (dN kvs more)))
theorem Fn:MtM X "dict.update" Ij:=by
 intro pins s Z H x vs v us Q I rx rv h;obtain⟨a,b,kvs,more,rfl,rfl,ha,hb,hne,hz,q⟩:=h
 cases rx
 obtain⟨u,rfl,ru⟩:=rv.one
 cases ru
 obtain⟨z,hd,ws,rel,dd⟩:=G2 I.hok ha;obtain⟨z2,hd2,ws2,rel2,dd2⟩:=G2 I.hok hb;refine call_meetsIn PySem.F.slot_dict_update dd.typeIs PySem.F.entry_dict_update (PySem.F.args_dict_update_2 _ _) (meets_dict_update (bP X.prog X.w) a b hne hd2) ⟨ws,ws2,dd,dd2,by rw[<- rel.length, <-rel2.length];exact hz,fun h' dd' _ hs=> ?_⟩
 have he:∃q,h'.get? a=some q:=let ⟨q,_,_,hq,_⟩:=dd';⟨q,hq⟩
 refine⟨.non,_,Aa (t':=s.toks) I (by rw[ha];exact True.intro) hs he (C0 ?_ hd (KV.merge rel2 rel) dd'),rfl,q⟩
 exact Nat.le_trans (gY more kvs) hz
theorem Inv.view {pins:List (Addr × Obj)}{Z:St}{H:Hp}{s:Shared}{a:Addr}{u u':HO}(I:Inv X pins Z H s) (ha:H a=some u) (new:cn X.prog X.w (upd H a u') s.heap a u') (n1:∀xs,u≠ .tup xs) (n2:∀y,u≠ .own y) (n3:∀ps,u≠ .tbl ps)
  (n4:∀o v,X.H₀ a=some (.frz o v)->u≠ .frz o v):Inv X pins Z (upd H a u') s:=by
 have nn:∀b,H b=none->upd H a u' b=none:=fun b hb=>by
  rw[ai (fun z=>by rw[z,ha] at hb;cases hb)];exact hb
 have keep:∀b v,v≠u->H b=some v->upd H a u' b=some v:=fun b v hv hb=>by
  rw[ai (fun z=>by rw[z,ha] at hb;exact hv (Option.some.inj hb).symm)];exact hb
 refine⟨I.ok,I.os,I.bare,⟨I.base.keep,I.base.slot,fun b o e n hx=>nn b (I.base.free b o e n hx),I.base.there,fun b xs e=>keep b _ (fun z=>n1 xs z.symm) (I.base.tups b xs e),fun b o v e=> ?_,fun b ps e=> ?_⟩,I.loc,I.cell,nn _ I.free,fun x c e=>nn _ (I.freeC x c e),fun p hp=> ?_,fun b v hb=> ?_,I.len⟩
 .by_cases z:b=a
  .subst z;have:=I.base.frzs b o v e;rw[ha] at this;exact absurd (Option.some.inj this) (n4 o v e)
  .rw[ai z];exact I.base.frzs b o v e
 .obtain⟨more,h⟩:=I.base.tbls b ps e;exact⟨more,keep b _ (fun z=>n3 _ z.symm) h⟩
 .obtain⟨p1,p2,p3⟩:=I.pin p hp;exact⟨p1,nn _ p2,p3⟩
 .by_cases z:b=a
  .subst z;rw[ad] at hb
   cases hb
   exact new
  .rw[ai z] at hb;exact(I.hok b v hb).stay (fun c w _ e=>e) (fun c e=>keep c _ (fun z=>n2 _ z.symm) e) (fun c xs e=>keep c _ (fun z=>n1 _ z.symm) e)
theorem Inv.freeze {pins:List (Addr × Obj)}{Z:St}{H:Hp}{s:Shared}{a:Addr}{kvs:List (Key × V)}(I:Inv X pins Z H s) (ha:H a=some (.dK kvs)):∃o,s.heap.get? a=some o/\Inv X pins Z (upd H a (.frz o (.dK kvs))) s:=by
 have ok:cn X.prog X.w H s.heap a (.dK kvs):=I.hok a _ ha;obtain⟨z,hd,vs,rel,o,es,ep,ho,r⟩:=id ok;refine⟨o,ho,I.view ha ⟨ho,z,hd,vs,rel,o,es,ep,ho,r⟩ (fun _ z=>by cases z) (fun _ z=>by cases z) (fun _ z=>by cases z) (fun o v e z=>by cases z)⟩
theorem Inv.melt {pins:List (Addr × Obj)}{Z:St}{H:Hp}{s:Shared}{a:Addr}{o:Obj}{kvs:List (Key × V)}(I:Inv X pins Z H s) (ha:H a=some (.frz o (.dK kvs))) (h0:∀o v,X.H₀ a≠some (.frz o v)):Inv X pins Z (upd H a (.dK kvs)) s:=by
 have ok:cn X.prog X.w H s.heap a (.frz o (.dK kvs)):=I.hok a _ ha;obtain⟨ho,z,hd,vs,rel,o2,es,ep,ho2,r⟩:=id ok;exact I.view ha ⟨z,hd,vs,rel,o2,es,ep,ho2,r⟩ (fun _ z=>by cases z) (fun _ z=>by cases z) (fun _ z=>by cases z) (fun o v e=>absurd e (h0 o v))
def K0 (X:Cx) (t:TS):TS:=fun D Z H=>t {D with nx:=fun Z' H'=>∃a o kvs,H' a=some (.frz o (.dK kvs))/\(∀ o v,X.H₀ a≠some (.frz o v))/\D.nx Z' (upd H' a (.dK kvs))} Z H
theorem Hw {st:Stmt}{t:TS}(h:PS X st t):PS X st (K0 X t):=by
 intro pins s Z H D I hw;refine thn (h pins s Z H _ I hw) fun fl s1 q=> ?_
 cases fl with
 | next=>obtain⟨Z',H',I',a,o,kvs,ha,h0,q⟩:=q;exact⟨Z',_,I'.melt ha h0,q⟩
 | _=>exact q
def Itd (a:Addr) (o:Obj) (kvs:List (Key × V)):It:=⟨fun i H=>H a=some (.frz o (.dK kvs))/\i < kvs.length,fun i H v H'=>H'=H/\∃k x,kvs[i]? =some (k,x)/\v=kV k,fun i H=>H a=some (.frz o (.dK kvs))/\kvs.length=i⟩
theorem sM {P:Program}{w:World}{H:Hp}{h:Heap}{a:Addr}{o:Obj}{kvs:List (Key × V)}{es:Array DictEntry}{ep:Nat}(x:cn P w H h a (.frz o (.dK kvs))) (hd:o.data= .dict es ep):
  (a == sysModules)=false/\∃vs,KV kvs vs/\h.DictAt (bP P w) a vs ep:=by
 obtain⟨ho,z,hs,vs,rel,o2,es2,ep2,ho2,hx,hd2,r⟩:=x;rw[ho] at ho2
 cases ho2
 rw[hd] at hd2
 cases hd2
 exact⟨hs,vs,rel,o,es,ho,hx,hd,r⟩
theorem IW {k:Key}{v:Value}(h:kJ k v=true):bj (kV k) v:=by
 rcases cB h with⟨i,t,rfl,rfl⟩|⟨x,t,rfl,rfl⟩
 .exact⟨t,rfl⟩
 .exact⟨t,rfl⟩
theorem Lj {kvs:List (Key × V)}{vs:List (Key × Value)}(r:KV kvs vs):∀ {i:Nat}{k:Key}{x:Value},vs[i]? =some (k,x)->∃y,kvs[i]? =some (k,y):=by
 unfold KV at r
 induction r with
 | nil=>intro i k x h;simp at h
 | @cons p q ps qs h t ih=>
  intro i k x e
  cases i with
  | zero=>
   have e':q=(k,x):=by simpa using e
   exact⟨p.2,by rw[List.getElem?_cons_zero];congr 1;rw[show k=p.1 by rw[h.1,e']]⟩
  | succ i=>
   rw[List.getElem?_cons_succ] at e ⊢;exact ih e
theorem EO {P:Program}{w:World}{K:Frag}{tg:Expr}(q d:Addr) (hne:d≠q) (o:Obj) (kvs:List (Key × V)) (es:Array DictEntry) (ep:Nat) (hd:o.data= .dict es ep):A0 P w K tg (Itd d o kvs) [q] q (fun i h=>h.IsKeyIter q d i kvs.length ep) where
 mem:=by simp
 obj:=fun i h st b hb=>by
  have e:b=q:=by simpa using hb
  subst e;obtain⟨o,e,c,d⟩:=st;exact⟨o,e,fun v z=>by rw[d] at z;cases z⟩
 keep:=fun i h h' st k=>let ⟨o,e,c,d⟩:=st;⟨o,k q (by simp) o e,c,d⟩
 item:=by
  intro X hP hww hK hc i pins s Z H E I hf st hg;subst hP hww hK;obtain⟨f0,f1,f2,f3,f4,f5⟩:=hf q (by simp)
  obtain⟨hH,hi⟩:=hg;obtain⟨_,vs,rel,da⟩:=sM (I.hok d _ hH) hd;have hl:vs.length=kvs.length:=rel.length.symm;have st2:s.heap.IsKeyIter q d i vs.length ep:=by rw[hl];exact st
  refine(Walks.dictKeys (knd:=bP X.prog X.w) (I.ok.hd hc) q d hne vs ep).item i s _ _ (by rw[hl];exact hi) ⟨st2,da⟩ fun v h' tk hv st' kk=> ?_
  obtain⟨k,x,hx,hk⟩:=hv;have I1:Inv X pins Z H {s with heap:=h',toks:=tk}:=I.turned (fun b o hb e=>kk b o (by simpa using hb) e) f0 f1 f3 f4 f5
  obtain⟨st1,_⟩:=st';rw[hl] at st1;obtain⟨o2,e,oc,od⟩:=id st1;obtain⟨y,hy⟩:=Lj rel hx;exact⟨_,rfl,Ey (s:={s with heap:=h',toks:=tk}) e oc od (by decide) ⟨kV k,H,I1,IW hk,⟨rfl,k,y,hy,rfl⟩,st1,fun b hb=>(hf b hb).1⟩⟩
 done:=by
  intro X hP hww hK hc i pins s Z H E I hf st hg;subst hP hww hK;obtain⟨f0,f1,f2,f3,f4,f5⟩:=hf q (by simp)
  obtain⟨hH,hi⟩:=hg;subst hi;obtain⟨_,vs,rel,da⟩:=sM (I.hok d _ hH) hd;have hl:vs.length=kvs.length:=rel.length.symm;rw[<- hl] at st;exact(Walks.dictKeys (knd:=bP X.prog X.w) (I.ok.hd hc) q d hne vs ep).done s _ _ ⟨st,da⟩ fun h' tk kk=>⟨rfl,I.turned (t':=tk) (fun b o hb e=>kk b o (by simpa using hb) e) f0 f1 f3 f4 f5⟩
 self:=fun A i s Q E st h=>wpAny_pyIter_keyiter st h
def Ln (tl:TE):TI:=fun Z H R=>tl Z H fun x H1=>∃a kvs,x= .ref a/\H1 a=some (.dK kvs)/\∀o,R (Itd a o kvs) (upd H1 a (.frz o (.dK kvs)))
theorem IQ {tg l:Expr}{tl:TE}(hl:PE X l tl):PI X tg l (Ln tl):=by
 intro pins s Z H R I h;refine dg (hl pins s Z H _ I h) fun v s1 x H1 I1 r1 q1=> ?_
 obtain⟨a,kvs,e,ha,q⟩:=q1;subst e
 cases r1
 obtain⟨o,ho,I2⟩:=I1.freeze ha;have ok:cn X.prog X.w (upd H1 a (.frz o (.dK kvs))) s1.heap a (.frz o (.dK kvs)):=I2.hok a _ ad;obtain⟨es,ep,hd⟩:∃es ep,o.data= .dict es ep:=by
  obtain⟨e1,z,hs,vs,rel,o2,es2,ep2,ho2,hx,hd2,r⟩:=id ok;rw[e1] at ho2
  cases ho2
  exact⟨es2,ep2,hd2⟩
 obtain⟨hs,vs,rel,da⟩:=sM ok hd;refine wpAny_pyIter_dict hs da ?_
 have hne:a≠s1.heap.objs.size:=Nat.ne_of_lt (Heap.lt_size ho);refine⟨s1.heap.objs.size,[s1.heap.objs.size],_,Itd a o kvs,upd H1 a (.frz o (.dK kvs)),rfl,I2.kept (t':=s1.toks) fun b o e=>Heap.get?_push_of_some _ e,EO _ a hne o kvs es ep hd,?_,fun b hb=> ?_,q o⟩
 .rw[rel.length];exact⟨_,Heap.get?_push_size _ rfl,rfl,rfl⟩
 .have e:b=s1.heap.objs.size:=by simpa using hb
  subst e;exact I2.fpOk (Nat.le_refl _) (by rw[ai (Ne.symm hne)];exact I1.hok.fresh (Nat.le_refl _))
theorem GF {a:Addr}{o:Obj}{kvs:List (Key × V)}{g:TG}{tb:TS}{D:uJ}{Z:St}{H:Hp}(Pv:Nat->St->Hp->Prop) (h0:Pv 0 Z H) (hl:∀i Z H,i<=kvs.length->Pv i Z H->H a=some (.frz o (.dK kvs)))
  (hs:∀i k x Z H,kvs[i]? =some (k,x)->Pv i Z H->g (kV k) Z H fun Z2 H2=>tb {D with nx:=Pv (i+1),ct:=Pv (i+1),bk:=D.nx} Z2 H2) (hd:∀Z H,Pv kvs.length Z H->D.nx Z H):
  ∃W:Nat->Nat->St->Hp->Prop,(∃ m,W 0 m Z H)/\∀i m Z H,W i m Z H->
   ((Itd a o kvs).stop i H/\D.nx Z H)\/((Itd a o kvs).go i H/\∃N:St->Hp->Prop,(∀ Z' H',N Z' H'->∃m',m' < m/\W (i+1) m' Z' H')/\∀x H',(Itd a o kvs).yld i H x H'->g x Z H' fun Z2 H2=>tb {D with nx:=N,ct:=N,bk:=D.nx} Z2 H2):=by
 refine⟨fun i m Z H=>m=kvs.length - i/\i<=kvs.length/\Pv i Z H,⟨kvs.length,by simp,Nat.zero_le _,h0⟩,?_⟩
 rintro i m Z H ⟨rfl,hi,p⟩
 have q:=hl i Z H hi p
 by_cases hlt:i < kvs.length
 .refine .inr ⟨⟨q,hlt⟩,Pv (i+1),fun Z' H' p'=>⟨kvs.length - (i+1),by lia,rfl,hlt,p'⟩,fun x H' y=> ?_⟩
  obtain⟨e,k,z,hz,hx⟩:=y;subst e hx;exact hs i k z Z _ hz p
 .have e:i=kvs.length:=by lia
  subst e;exact .inl ⟨⟨q,rfl⟩,hd Z H p⟩
def FP (kvs:List (Key × V)):Prop:=∀kv∈kvs, ∃i:Int,kv.2= .int i
theorem vY:∀ {kvs:List (Key × V)}{k:Key}{v:V},(kvs.map (·.1)).Nodup->(k,v)∈kvs->jx kvs k=some v
 | p::r,k,v,hn,hm=>by
  rw[List.map_cons,List.nodup_cons] at hn;rcases List.mem_cons.mp hm with e | hm
  .subst e;exact nC rfl
  .rw[nj (fun e=>hn.1 (by rw[e];exact List.mem_map_of_mem (f:=(·.1)) hm))]
   exact vY hn.2 hm
theorem Fj {A:Around}{s:Shared}{kvs:List (Key × V)}{kb:List (Key × Value)}(rb:KV kvs kb) (hi:FP kvs) (hn:(kvs.map (·.1)).Nodup):∀ {l:List (Key × V)}{la:List (Key × Value)},KV l la->(∀ x∈l,x∈kvs)->PySem.W.KeqHits A s kb la true:=by
 intro l la r;unfold KV at r
 induction r with
 | nil=>intro _;exact .nil
 | @cons p q ps qs h t ih=>
  intro hm;obtain⟨i,ei⟩:=hi p (hm p (List.mem_cons_self ..));have hv:jx kvs p.1=some p.2:=vY hn (hm p (List.mem_cons_self ..));have ho:=rb.val p.1;rw[hv,ei] at ho;obtain⟨h1,h2⟩:=h;rw[ei] at h2;obtain⟨tk,hq⟩:=(show ∃tk,q.2=Value.int i tk from h2)
  cases hb:valueAt kb p.1 with
  | none=>rw[hb] at ho;exact ho.elim
  | some y=>
   rw[hb] at ho;obtain⟨tk2,hy⟩:=(show ∃tk,y=Value.int i tk from ho)
   have e:=PySem.W.KeqHits.hit (A:=A) (s:=s) (kb:=kb) (k:=q.1) (v:=q.2) (y:=y) (e:=true) (r:=qs) (b:=true) (by rw[<- h1];exact hb) (by
    rw[hq,hy];have:=SeqAt.EqAt.int_int (A:=A) (s:=s) i tk i tk2;rw[beq_self_eq_true] at this
    exact this) (ih fun x hx=>hm x (List.mem_cons_of_mem _ hx))
   exact e
def LE (b:Bool):R2:=fun x y H Q=>∃(p q:Addr) (kvs:List (Key × V)),x= .ref p/\y= .ref q/\Rd H p (.dK kvs)/\Rd H q (.dK kvs)/\FP kvs/\Q (.bl b) H
theorem Du (hu:X.A.units+64 < cLine):OpR X (compareOp .NotEq) (LE false):=by
 intro pins s Z H x y v u Q I rx ry h;obtain⟨p,q,kvs,rfl,rfl,hp,hq,hi,k⟩:=h
 cases rx
 cases ry
 obtain⟨_,lp,ka,ra,da⟩:=ue I.hok hp;obtain⟨_,lq,kb,rb,db⟩:=ue I.hok hq;have hn:(kvs.map (·.1)).Nodup:=by rw[rb.keys];obtain⟨_,_,_,_,_,_,_,_,hn⟩:=db;exact hn
 refine W.keq_ne (r:=true) lp lq da db (by lia) (fun _=>Fj rb hi hn ra fun x hx=>hx) ?_
 rw[<- ra.length, <-rb.length,beq_self_eq_true,Bool.true_and];exact⟨.bl false,H,I,rfl,k⟩
theorem eL:jh X (.type "tuple") (fun xs H Q=>∃p ys,xs=[V.ref p]/\SqL X.K H p ys/\∀l,H l=none->Q (.ref l) (upd H l (.tup ys))):=by
 intro pins s Z H xs us Q I r h;obtain⟨p,ys,e,h1,q⟩:=h;exact hU pins s Z H xs us Q I r ⟨p,ys,e,.inl ⟨h1,q⟩⟩
theorem xQ {prog:Program}{w:World}{A:Around}{E:Value->Shared->Prop}{it t:Addr}{items:Array Value}(hh:A.handled=none) (hne:t≠it):∀(n i:Nat) (s:Shared) (Q:List Value->Shared->Prop),s.heap.IsListIter it t i->s.heap.IsList t items->i+n<=items.size->
  (∀ h' tk,h'.IsListIter it t (i+n)->h'.IsList t items->(∀ b o,b≠it->s.heap.get? b=some o->h'.get? b=some o)->Q ((items.toList.drop i).take n) {s with heap:=h',toks:=tk})->wpAny (model prog w) A (draw (.ref it) n) Q E s
 | 0,i,s,Q,hit,hl,_,hQ=>by
  show wpAny _ _ (pure []) Q E s
  exact wpAny_pure (by simpa using hQ s.heap s.toks hit hl (fun b o _ e=>e))
 | n+1,i,s,Q,hit,hl,hle,hQ=>by
  have hlt:i < items.size:=by lia
  show wpAny _ _ (pyNext (.ref it) >>= _) Q E s
  refine wpAny_bind ((Walks.list hh it t hne items).item i s _ _ hlt ⟨hit,hl⟩ fun v h1 tk hv st kk=> ?_)
  refine wpAny_bind (wpAny_holding (xQ hh hne n (i+1) _ _ st.1 st.2 (by lia) fun h2 tk2 hit2 hl2 k2=>wpAny_pure ?_))
  have ev:v=items[i]:=by
   have:items[i]? =some v:=hv;rw[Array.getElem?_eq_getElem hlt] at this;exact(Option.some.inj this).symm
  have hd:items.toList.drop i=v::items.toList.drop (i+1):=by rw[ev];simp [List.drop_eq_getElem_cons,hlt]
  have:=hQ h2 tk2 (by rw[show i+(n+1)=i+1+n by lia];exact hit2) hl2 (fun b o hb e=>k2 b o hb (kk b o (by simpa using hb) e))
  rw[hd,List.take_succ_cons] at this;exact this
theorem su {prog:Program}{w:World}{A:Around}{E:Value->Shared->Prop}{s:Shared}{t:Addr}{items:Array Value}{Q:List Value->Shared->Prop}(hh:A.handled=none) (ht:s.heap.IsList t items)
  (hQ:∀h' tk,Heap.ExtBut s.heap.objs.size s.heap h'->Q items.toList {s with heap:=h',toks:=tk}):wpAny (model prog w) A (unpackItems (.ref t) items.size none) Q E s:=by
 have hlt:t≠s.heap.objs.size:=by obtain⟨o,ho,_⟩:=ht;exact Nat.ne_of_lt (Heap.lt_size ho)
 have hpush:(s.heap.push {cls:= .type "list_iterator",data:= .fields #[.ref t,.int 0 0]}).IsList t items:=ht.at fun o e=>Heap.get?_push_of_some _ e
 unfold unpackItems;refine wpAny_bind ?_
 .unfold notIterableAtAll;refine wpAny_bind (wpAny_specialOf ht.typeIs slot_list_iter.lookup ?_)
  refine wpAny_pure ?_
  simp only[Bool.false_eq_true,if_false]
  refine wpAny_bind (wpAny_holding (wpAny_pyIter_list ht ?_))
  refine wpAny_bind (wpAny_holding (xQ hh hlt items.size 0 _ _ ⟨_,Heap.get?_push_size _ rfl,rfl,rfl⟩ hpush (by lia) fun h₁ tk hit₁ hl₁ k₁=> ?_))
  have hall:List.take items.size (List.drop 0 items.toList)=items.toList:=by
   rw[List.drop_zero];exact List.take_of_length_le (by simp)
  rw[hall];rw[if_neg (by simp)]
  rw[Nat.zero_add] at hit₁;refine wpAny_bind (wpAny_holding ((Walks.list hh _ t hlt items).done _ _ _ ⟨hit₁,hl₁⟩ fun h₂ tk₂ k₂=> ?_))
  simp only[Option.isSome_none,Bool.false_eq_true,if_false]
  refine wpAny_pure (hQ h₂ tk₂ fun b o hb e=>k₂ b o (by simpa using hb) (k₁ b o hb (Heap.get?_push_of_some _ e)))
def Mp (K:Frag) (n:Nat) (t:TGs):TG:=fun v Z H Q=>∃a xs,v= .ref a/\SqL K H a xs/\xs.length=n/\t xs Z H Q
theorem FY {pos:Pos}{es:List Expr}{k:Nat}{t:TGs}{n:Nat}(hc:X.calm=true) (h:PGs X es t)
  (hn:(assignEach es X.env).length=n:=by rfl) (hst:(assignEach es X.env).findIdx? (·.1)=none:=by rfl):PG X (.Tuple es k pos) (Mp X.K n t):=by
 intro pins s Z H v u Q I r hw;obtain⟨a,xs,e1,hq,hl,hw⟩:=hw;subst e1
 cases r
 obtain⟨its,rv,ht,hz⟩:=I.list hq;rw[assign_Tuple];refine wpAny_bind (wpAny_standAt ?_)
 unfold unpack;rw[hst,show(assignEach es X.env).length=its.toArray.size by rw[hn, <-hl,rv.length];simp]
 refine wpAny_bind (wpAny_holding (su (I.ok.hd hc) ht.isList fun h' tk hx=> ?_))
 have I1:Inv X pins Z H {s with heap:=h',toks:=tk}:=I.kept (t':=tk) fun b o e=>hx b o (Nat.ne_of_lt (Heap.lt_size e)) e
 exact h pins _ Z H xs _ Q I1 (by simpa using rv) hw
end
end L2
namespace L2
open PySem PySem.Spec PyProof.Rows PyProof PySem.SeqAt
section
variable {X : Cx}
def rTS (K:Frag) (neg:Bool):R2:=fun x y H Q=>∃(a b:Addr) (s t:Str) (ns:List Int),x= .ref a/\y= .ref b/\SqT K H a (.str s::ns.map V.int)/\SqT K H b [.str t]/\PyData.strOk s=true/\PyData.strOk t=true/\Q (.bl (if neg then !(decide (s=t) && decide (ns=[])) else(decide (s=t) && decide (ns=[])))) H
theorem rJ {s:Str}(ns:List Int) (hs:PyData.strOk s=true):shaped (.tuple (.str s::ns.map PyData.int))=true:=by
 have h1:=W.depthAll_ints ns;have h2:PyData.depth (.tuple (.str s::ns.map PyData.int))<=64:=by simp only[PyData.depth,PyData.depthAll];lia
 show(PyData.canLay0 (.tuple (.str s::ns.map PyData.int)) && decide (PyData.depth (.tuple (.str s::ns.map PyData.int))<=64))=true
 rw[Bool.and_eq_true];exact⟨by simp only[PyData.canLay0,PyData.canLayAll0];simp [W.canLayAll0_ints ns,hs],decide_eq_true h2⟩
theorem D9 {h:Heap}{a:Addr}{vs:List Value}{s:Str}{ns:List Int}(hl:h.IsTuple a vs.toArray) (hv:aW (.str s::ns.map V.int) vs):Reads h (.ref a) (.tuple (.str s::ns.map PyData.int)) []:=by
 obtain⟨o,ho,hc,n,hd⟩:=hl
 cases hv with
 | cons r rs=>
  obtain⟨t,rfl⟩:=r;refine Reads.tuple ho hc hd ?_
  have:=ReadsAll.cons (Reads.str (h:=h) s t) (W.readsAll_of_ints (h:=h) (gS rs))
  simpa using this
theorem Le {neg:Bool}(hu:X.A.units+64 < cLine):OpR X (compareOp (if neg then .NotEq else .Eq)) (rTS X.K neg):=by
 intro pins s Z H x y v u Q I rx ry h;obtain⟨a,b,sx,tx,ns,rfl,rfl,h1,h2,o1,o2,q⟩:=h
 cases rx
 cases ry
 obtain⟨its,r,pl,_⟩:=I.tuple h1;obtain⟨its2,r2,pl2,_⟩:=I.tuple h2;have d2:=D9 (s:=tx) (ns:=[]) pl2 r2;have d1:=D9 pl r;have hs:same (.tuple (.str sx::ns.map PyData.int)) (.tuple (.str tx::([]:List Int).map PyData.int))=(decide (sx=tx) && decide (ns=[])):=by
  cases ns with
  | nil=>
   by_cases e:sx=tx
   .simp [same,sameAll,e]
   .simp [same,sameAll,e]
  | cons i r=>simp [same,sameAll]
 have hm:noMix (.tuple (.str sx::ns.map PyData.int)) (.tuple (.str tx::([]:List Int).map PyData.int))=true:=by
  cases ns with
  | nil=>simp [noMix,noMixAll]
  | cons i r=>simp [noMix,noMixAll]
 cases neg with
 | true=>exact ne_dataH_same d1 d2 (rJ _ o1) (rJ _ o2) hu hm (by rw[hs];exact⟨.bl _,H,I,rfl,q⟩)
 | false=>exact eq_dataH_same d1 d2 (rJ _ o1) (rJ _ o2) hu hm (by rw[hs];exact⟨.bl _,H,I,rfl,q⟩)
theorem GW (hu:X.A.units+64 < cLine):OpR X (compareOp .NotEq) (rTS X.K true):=Le (neg:=true) hu
end
end L2
namespace L2
open PySem PySem.Spec PyProof.Rows
theorem cn.there {P:Program}{w:World}{H:Hp}{h:Heap}{a:Addr}{o:HO}(x:cn P w H h a o):∃ob,h.get? a=some ob:=by
 cases o with
 | lst xs=>obtain⟨_,_,_,_,q⟩:=x;exact⟨_,q⟩
 | tup xs=>obtain⟨_,_,_,_,q,_⟩:=x;exact⟨_,q⟩
 | dK kvs=>obtain⟨_,_,_,_,_,_,_,q,_⟩:=x;exact⟨_,q⟩
 | dT kvs=>obtain⟨_,_,_,_,_,_,_,q,_⟩:=x;exact⟨_,q⟩
 | set S n=>obtain⟨_,_,_,_,q,_⟩:=x;exact⟨_,q⟩
 | ins C dx fs=>obtain⟨_,_,_,q,_⟩:=x;exact⟨_,q⟩
 | own y=>exact x
 | xd fs=>obtain⟨_,⟨_,_,_,q,_⟩,_⟩:=x;exact⟨_,q⟩
 | rng lo hi=>obtain⟨_,_,_,q⟩:=x;exact⟨_,q⟩
 | frz ob u=>obtain⟨q,_⟩:=x;exact⟨_,q⟩
 | tbl ps=>exact⟨_,(show h.get? a=some _ from x)⟩
 | met f y=>exact⟨_,(show h.get? a=some _ from x)⟩
 | ext φ=>obtain⟨_,q,_⟩:=x;exact q
structure xa (P:Program) (w:World) (l:List Env) (H:Hp) (s:Shared) (H':Hp) (B h':Heap):Prop where
 un:Un (frs l) [] H H' s.heap h'
 hok:HOk P w H' h'
 st:B.StaysIn h'
 kb:∀b o,s.heap.get? b=some o->H b=none->b ∉ frs l->B.get? b=some o
 hb:∀a u,H' a=some u->∃o,B.get? a=some o
 ab:∀b o,s.heap.get? b=some o->b ∉ frs l->∃o',B.get? b=some o'
 nf:∀b∈frs l, ∃o,h'.get? b=some o/\∀vs,o.data≠ .fields vs
theorem xa.next {P:Program}{w:World}{l:List Env}{H H':Hp}{s:Shared}{B h1 h2:Heap}(F:xa P w l H s H' B h1) (st:B.StaysIn h2) (us:h1.UpToSlots h2):xa P w l H s H' B h2 where
 un:=by
  refine⟨fun b o q n hb _=>st _ _ (F.kb b o q n hb),fun b o q n hb hx=> ?_,F.un.free,fun b o q hx=> ?_,F.un.tups,F.un.frzs,F.un.tbls⟩
  .obtain⟨sl,e⟩:=F.un.slot b o q n hb hx;obtain⟨o2,e2,d⟩:=F.nf b hb;rw[e] at e2
   cases e2
   obtain⟨sl2,e3⟩:=us b _ e d;exact⟨sl2,e3⟩
  .by_cases hb:b∈frs l
   .obtain⟨o2,e2,d⟩:=F.nf b hb;obtain⟨sl2,e3⟩:=us b _ e2 d;exact⟨_,e3⟩
   .obtain⟨o2,e2⟩:=F.ab b o q hb;exact⟨o2,st _ _ e2⟩
 hok:=fun a u e=>(F.hok a u e).stay (fun b ob hb q=>by
  have:∃v,H' b=some v:=by
   rcases hb with rfl | hb
   .exact⟨_,e⟩
   .exact⟨_,hb⟩
  obtain⟨v,hv⟩:=this;obtain⟨o2,e2⟩:=F.hb b v hv;have e3:=F.st _ _ e2;rw[q] at e3
  cases e3
  exact st _ _ e2) (fun _ q=>q) fun _ _ q=>q
 st:=st
 kb:=F.kb
 hb:=F.hb
 ab:=F.ab
 nf:=fun b hb=>by
  obtain⟨o2,e2,d⟩:=F.nf b hb;obtain⟨sl2,e3⟩:=us b _ e2 d;exact⟨_,e3,d⟩
section
variable {X : Cx} {pins : List (Addr × Obj)} {σ : St} {H H' : Hp} {s : Shared} {B h' : Heap}
theorem xa.pop (F:xa X.prog X.w X.stack H s H' B h') (I:Inv X pins Z H s) (hs:X.stack=X.env::X.outer) (hx:X.ex=[]):xa X.prog X.w X.outer X.H₀ X.s₀ H' B h':=by
 have J:Inv X pins Z H' {s with heap:=h',gens:=s.gens,drawn:=s.drawn,toks:=s.toks}:=I.call (ch:=[]) F.un F.hok I.bare (fun b z=>absurd z (by simp))
 have nx:∀b:Addr,b ∉ X.ex:=fun b z=>by rw[hx] at z;exact absurd z (by simp)
 have nl:∀b o,X.s₀.heap.get? b=some o->b ∉ frs X.outer->b ∉ frs X.stack:=fun b o q hb z=>by
  rcases List.mem_cons.mp (I.stkSub b z) with e | e
  .have h1:=Heap.lt_size q;have h2:=I.ok.above;rw[e] at h1;exact absurd (Nat.lt_of_lt_of_le h1 h2) (Nat.lt_irrefl _)
  .exact hb e
 refine⟨?_,F.hok,F.st,fun b o q n hb=> ?_,F.hb,fun b o q hb=> ?_,fun b hb=> ?_⟩
 .have u:=J.base;rw[hx] at u;exact u
 .exact F.kb b o (I.base.keep b o q n hb (nx b)) (I.base.free b o q n (nx b)) (nl b o q hb)
 .obtain⟨o2,e2⟩:=I.base.there b o q (nx b);exact F.ab b o2 e2 (nl b o q hb)
 .refine F.nf b ?_
  rw[hs];obtain⟨e,he,hf⟩:=List.mem_filterMap.mp hb;exact List.mem_filterMap.mpr ⟨e,List.mem_cons_of_mem _ he,hf⟩
end
abbrev vbm:List Value:=[.type "ValueError",.type "Exception",.type "BaseException",.type "object"]
structure Fq (K:Frag) (C:Addr):Prop where
 ex:W.excIn K C vbm "ValueError.__new__"=true
theorem Fq.obj {K:Frag}{C:Addr}{h:Heap}(c:Fq K C) (X:K.In h):∃bm N nm q bs hdct sn sub ab col dd k0 k1 k2 k3 k5 mN,
  h.get? C=some (excClassObj nm q C N bs bm hdct sn sub ab col dd k0 k1 k2 k3 k5 "ValueError.__new__")/\h.Ns N mN/\mN "__init__"=none/\OwnTail h vbm bm:=by
 have q:=c.ex;unfold W.excIn at q
 split at q
 case h_2=>cases q
 case h_1 dd cd sl ho=>
  split at q
  case h_2=>cases q
  case h_1 C' bm k0 k1 k2 k3 n k5 hm hs=>
   rw[Bool.and_eq_true,Bool.and_eq_true,Bool.and_eq_true,Bool.and_eq_true,Bool.and_eq_true] at q;obtain⟨⟨⟨⟨⟨q1,q2⟩,q3⟩,q4⟩,q5⟩,q6⟩:=q;have e1:=beq_iff_eq.mp q1;have e2:=beq_iff_eq.mp q2;have e6:=beq_iff_eq.mp q6;subst e1 e2;obtain⟨nm,bs,mro,ns,qn,hd,sn,sub,ab,col,del⟩:=cd;have e3:del=false:=by simpa using q3
   have e7:mro= .ref C'::bm:=hm;subst e3 e7;have e8:sl= #[k0,k1,k2,k3,some (.builtin "ValueError.__new__"),k5]:=by
    apply Array.ext'
    exact hs
   subst e8;exact⟨bm,ns,nm,qn,bs,hd,sn,sub,ab,col,dd,k0,k1,k2,k3,k5,_,X _ _ ho,Heap.Ns.of_isNs (W.isNs_of_in X q5),W.nsMap_none_of_in X q5 e6,W.tail_of_in X q4⟩
section
variable {P : Program} {w : World} {K : Frag} {mg : Str → Option Value} {base : Heap} {N : List Str} {qual : Str} {scope : Scope} {f : Addr} {cd : Value} {A : Around} {outer : List Env} {s₀ : Shared} {H₀ : Hp} {E : XK}
def KM (E:XK) (C:Addr):TS:=fun _ _ H=>E (.ref C) none H
end
def AG (CX:CXT) (X:Cx) (Ef:St->XK):Prop:=∀(pins:List (Addr × Obj)) (Z:St) (H:Hp) (s:Shared) (e:Value) (s':Shared),Inv X pins Z H s->CX X.stack H s (Ef Z) e s'->X.xe e s'
theorem qc {X:Cx}{st:Stmt}{t:TS}(h:PS X.nox st t):PS X st t:=fun pins s Z H D I hw=>
 wpAny_mono (h pins s Z H D (I.wish _) hw) (fun _ _ q=>q.unwish) fun _ _ z=>False.elim z
def JG (sp:Sp) (Ef:St->XK) (t:TA):TE:=fun Z H Q=>t Z H fun vs H1=>sp vs H1 Q (Ef Z)
section
variable {X : Cx}
abbrev Cx.inTry (X:Cx) (Eb:Value->Shared->Prop) (pins:List (Addr × Obj)):Cx:={X with xe:=Eb,pn:=X.pn++pins}
abbrev Cx.inExc (X:Cx) (e:Addr):Cx:={X with A:=X.A.mark (some (.ref e)),calm:=false,xe:=fun _ _=>False}
variable {pins : List (Addr × Obj)} {σ : St} {H : Hp} {s : Shared}
theorem Inv.inTry (I:Inv X pins Z H s) (Eb:Value->Shared->Prop):Inv (X.inTry Eb pins) [] Z H s:=
 ⟨⟨I.ok.mod,I.ok.kind,I.ok.glob,I.ok.blt,I.ok.above,I.ok.inj,I.ok.has,I.ok.cab,I.ok.hd,I.ok.frames,I.ok.stk,I.ok.exf,I.ok.bs,I.ok.bsz,I.ok.noex,I.ok.exfs,I.ok.funs,I.ok.frf⟩,I.os,I.bare,I.base,I.loc,I.cell,I.free,I.freeC,
  fun p hp=>I.pin p (by simpa using hp),I.hok,I.len⟩
theorem Inv.outTry {Eb:Value->Shared->Prop}{pins':List (Addr × Obj)}(I:Inv (X.inTry Eb pins) pins' Z H s):Inv X pins Z H s:=
 ⟨⟨I.ok.mod,I.ok.kind,I.ok.glob,I.ok.blt,I.ok.above,I.ok.inj,I.ok.has,I.ok.cab,I.ok.hd,I.ok.frames,I.ok.stk,I.ok.exf,I.ok.bs,I.ok.bsz,I.ok.noex,I.ok.exfs,I.ok.funs,I.ok.frf⟩,I.os,I.bare,I.base,I.loc,I.cell,I.free,I.freeC,
  fun p hp=>I.pin p (List.mem_append_left _ hp),I.hok,I.len⟩
theorem Inv.inExc (I:Inv X pins Z H s) (e:Addr):Inv (X.inExc e) pins Z H s:=
 ⟨⟨I.ok.mod,I.ok.kind,I.ok.glob,I.ok.blt,I.ok.above,I.ok.inj,I.ok.has,I.ok.cab,(fun z=>by cases z),I.ok.frames,I.ok.stk,I.ok.exf,I.ok.bs,I.ok.bsz,I.ok.noex,I.ok.exfs,I.ok.funs,I.ok.frf⟩,I.os,I.bare,I.base,I.loc,I.cell,I.free,I.freeC,
  I.pin,I.hok,I.len⟩
theorem Inv.outExc {e:Addr}(o:X.Ok) (I:Inv (X.inExc e) pins Z H s):Inv X pins Z H s:=
 ⟨o,I.os,I.bare,I.base,I.loc,I.cell,I.free,I.freeC,I.pin,I.hok,I.len⟩
end
end L2
namespace L2
open PySem PySem.Spec PyProof.Rows PyProof PySem.SeqAt
theorem zi:∀ {ns:List Int}{its:List Value},aW (ns.map V.int) its->∃ps:List (Int × Tok),its=ps.map (fun p=>Value.int p.1 p.2)/\ps.map (·.1)=ns
 | [],its,r=>by
  cases r
  exact⟨[],rfl,rfl⟩
 | n::ns,its,r=>by
  cases r with
  | cons q r=>
   obtain⟨ps,h1,h2⟩:=zi r;obtain⟨t,e⟩:=q;exact⟨(n,t)::ps,by rw[e,h1];rfl,by rw[<- h2];rfl⟩
theorem tM (ps:List (Int × Tok)):(ps.map (fun p=>Value.int p.1 p.2)).toArray=intItems ps.toArray:=by
 simp [intItems]
section
variable {X : Cx}
theorem Hg (hc:X.calm=true):jh X (.builtin "sum") (fun xs H Q=>∃(p:Addr) (ns:List Int),xs=[.ref p]/\SqL X.K H p (ns.map V.int)/\(∀ j,j < ns.length->InLong (ns.getD j 0)/\InLong (ns.take (j+1)).sum)/\Q (.int ns.sum) H):=by
 intro pins s Z H xs us Q I r h;obtain⟨p,ns,rfl,hq,hf,q⟩:=h;obtain⟨u,rfl,ru⟩:=om r
 cases ru
 obtain⟨its,rv,pl,hz⟩:=I.list hq;obtain⟨ps,e1,e2⟩:=zi rv;have hl:=pl.isList;rw[e1,tM] at hl;have hlen:ps.length=ns.length:=by rw[<- e2,List.length_map]
 refine sum_intList (I.ok.hd hc) hl (fun j hj=> ?_) fun h' tk t' k=> ?_
 .have hj':j < ns.length:=by simpa [hlen] using hj
  rw[numAt_eq,preSum_eq];have:=hf j hj'
  simp only[e2]
  exact this
 .rw[preSum_eq];have e:((ps.toArray.toList.map (·.1)).take ps.toArray.size).sum=ns.sum:=by
   show((ps.map (·.1)).take ps.length).sum=ns.sum
   rw[e2,hlen,List.take_length]
  rw[e];exact⟨.int ns.sum,H,I.kept (t':=tk) k,⟨_,rfl⟩,q⟩
theorem Fb (hc:X.calm=true):jh X (.builtin "max") (fun xs H Q=>∃(p:Addr) (ns:List Int),xs=[.ref p]/\SqL X.K H p (ns.map V.int)/\ns≠[]/\∀m,m∈ns->(∀ n∈ns,n<=m)->Q (.int m) H):=by
 intro pins s Z H xs us Q I r h;obtain⟨p,ns,rfl,hq,hne,q⟩:=h;obtain⟨u,rfl,ru⟩:=om r
 cases ru
 obtain⟨its,rv,pl,hz⟩:=I.list hq;obtain⟨ps,e1,e2⟩:=zi rv;have hl:=pl.isList;rw[e1,tM] at hl;have hlen:ps.length=ns.length:=by rw[<- e2,List.length_map]
 have h0:0 < ns.length:=List.length_pos_iff.mpr hne;refine max_intList (I.ok.hd hc) hl (by show 0 < ps.length;lia) fun v h' tk hv k=> ?_
 have z:ps.toArray.size=ns.length:=by show ps.length=_;exact hlen
 rw[z] at hv;obtain⟨b1,b2⟩:=argBest_gt (numAt ps.toArray) (ns.length - 1);obtain⟨t,rfl⟩:=intItems_at hv;have nm:∀j,numAt ps.toArray j=ns.getD j 0:=fun j=>by rw[numAt_eq];show(ps.map (·.1)).getD j 0=_;rw[e2]
 rw[nm];rw[nm] at b2;generalize argBest (fun i j=>decide (numAt ps.toArray i >numAt ps.toArray j)) (ns.length - 1)=k0 at*
 have hk0:k0 < ns.length:=by lia
 refine⟨.int (ns.getD k0 0),H,I.kept (t':=tk) k,⟨_,rfl⟩,q _ ?_ fun n hn=> ?_⟩
 .simp [List.getD,List.getElem?_eq_getElem hk0]
 .obtain⟨j,hj,rfl⟩:=List.mem_iff_getElem.mp hn;have:=b2 j (by lia)
  rw[nm] at this
  simpa [List.getD,List.getElem?_eq_getElem hj] using this
end
theorem xU {X:Cx}{k:Nat}{C:Addr}{x:Str}{ps:List Str}{sp:Sp}{p pos:Pos}(c:dE X.K X.mg x C) (h:bY X.prog X.w X.K X.mg X.base k C "__init__" ps sp) (hr:Room (k+1) X.A) (hg:Gl X x)
  (hdb:(x == ("__debug__":Str))=false:=by decide):PE X (.Call (.Name x p) [] [] pos) (DW C sp [] E0 vd):=by
 obtain⟨f,fd,_,hm,hb,F⟩:=h.ex;exact FT ⟨c.mks,hm.at_,hm.fn,c.kp⟩ F hr hg c.mg hb .nil yA hdb
def Ite (K : Frag) (a : Addr) : It :=
  ⟨fun i H => ∃ xs x, SqL K H a xs ∧ xs[i]? = some x,
   fun i H v H' => ∃ p x, H p = none ∧ v = .ref p ∧ H' = upd H p (.tup [.int i, x]) ∧ ∀ xs, SqL K H a xs → xs[i]? = some x,
   fun i H => ∃ xs, SqL K H a xs ∧ xs.length = i⟩
def EAt (e it a:Addr) (i:Nat) (h:Heap):Prop:=(∃ old,IsEnum h e it i old)/\h.IsListIter it a i
theorem E8 {P:Program}{w:World}{K:Frag}{elts:List Expr}{tk:Nat}{tp:Pos}{a e it:Addr}(hei:e≠it) (hai:a≠it) (hae:a≠e):
  A0 P w K (.Tuple elts tk tp) (Ite K a) [e,it] e (EAt e it a) where
 mem:=by simp
 obj:=fun i h st x hx=>by
  obtain⟨⟨old,h1⟩,h2⟩:=st;have hx':x=e\/x=it:=by simpa using hx
  rcases hx' with rfl | rfl
  .exact⟨_,h1,fun v q=>by cases q⟩
  .obtain⟨o,ho,hc,hd⟩:=h2;exact⟨o,ho,fun v q=>by rw[hd] at q;cases q⟩
 keep:=fun i h h' st k=>by
  obtain⟨⟨old,h1⟩,⟨o,ho,hr⟩⟩:=st;exact⟨⟨old,k e (by simp) _ h1⟩,⟨o,k it (by simp) _ ho,hr⟩⟩
 item:=by
  intro X hP hw hK hc i pins s Z H E I hf st hg;subst hP hw hK;obtain⟨xs,x,q1,e1⟩:=hg;obtain⟨⟨old,h1⟩,h2⟩:=st;obtain⟨l1,r1,pl,_⟩:=I.list q1;have hh:X.A.in1.handled=none:=I.ok.hd hc;have D1:=Draws.list (prog:=X.prog) (w:=X.w) hh it a hai l1.toArray;obtain⟨u1,g1,w1⟩:=r1.get e1;have lt1:i < l1.toArray.size:=by have:=(List.getElem?_eq_some_iff.mp g1).1;simpa using this
  have helt:e < s.heap.objs.size:=Heap.lt_size h1;have hilt:it < s.heap.objs.size:=by obtain⟨o,ho,_⟩:=h2;exact Heap.lt_size ho
  refine wpAny_pyNext_enum_itemD D1 h1 ⟨h2,pl.isList⟩ lt1 hei (by simp [hei,Ne.symm hae]) fun x' h' tk' hx ho hs hT hsz kk=> ?_
  have hx':u1=x':=by
   have hx:l1.toArray[i]? =some x':=hx;rw[List.getElem?_toArray,g1] at hx;exact Option.some.inj hx
  subst hx';refine⟨_,rfl,wpAny_letOwnedTupleGo_enum ho fun h'' he'' hs''=> ?_⟩
  have hs'':Heap.SameBut e h' h'':=hs'';have up:∀b o,b≠e->h'.get? b=some o->h''.get? b=some o:=fun b o hb z=>hs''.extBut _ _ hb z
  have kept:∀b o,b ∉ [e,it]->s.heap.get? b=some o->h''.get? b=some o:=fun b o hb z=>by
   have hb':b≠e/\b≠it:=by simpa using hb
   exact up b o hb'.1 (kk b o hb'.1 hb'.2 z)
  refine⟨.ref s.heap.objs.size,upd H s.heap.objs.size (.tup [.int i,x]),?_,rfl,⟨_,x,I.fresh,rfl,rfl,fun zs hz=>by rw[I.list_inj hz q1];exact e1⟩,?_,fun b hb=> ?_⟩
  .refine I.turnedN (t':=tk'+1) (ch:=[e,it]) kept hf (Nat.le_refl _) ⟨by show 2<=sizeLine;decide,[.int i tk',u1],.cons ⟨_,rfl⟩ (.cons w1 .nil),⟨_,up _ _ (Nat.ne_of_gt helt) hT,rfl,_,rfl⟩⟩
  .refine⟨⟨_,by simpa using he''⟩,?_⟩
   obtain⟨o,ho2,hr⟩:=hs.1;exact⟨o,up _ _ (Ne.symm hei) ho2,hr⟩
  .have h0:=(hf b hb).1;rw[ai]
   .exact h0
   .have hb':b=e\/b=it:=by simpa using hb
    rcases hb' with rfl | rfl
    .exact Nat.ne_of_lt helt
    .exact Nat.ne_of_lt hilt
 done:=by
  intro X hP hw hK hc i pins s Z H E I hf st hg;subst hP hw hK;obtain⟨xs,q1,hend⟩:=hg;obtain⟨⟨old,h1⟩,h2⟩:=st;obtain⟨l1,r1,pl,_⟩:=I.list q1;have hh:X.A.in1.handled=none:=I.ok.hd hc;have D1:=Draws.list (prog:=X.prog) (w:=X.w) hh it a hai l1.toArray;have z1:=r1.length;have hi:i=l1.toArray.size:=by simp only[List.size_toArray];lia
  subst hi;refine wpAny_pyNext_enum_endD D1 h1 ⟨h2,pl.isList⟩ fun h' ke=>⟨rfl,I.turnedL (t':=s.toks) (ch:=[e,it]) (fun b o hb z=> ?_) hf⟩
  have hb':b≠e/\b≠it:=by simpa using hb
  exact ke _ _ hb'.2 z
 self:=fun A i s Q E st h=>by
  obtain⟨⟨old,h1⟩,_⟩:=st;exact wpAny_pyIter_enum h1 h
section
variable {X : Cx}
def LL (K:Frag) (ta:TA):TI:=fun Z H R=>ta Z H fun vs H1=>∃a,vs=[.ref a]/\(∃ xs,SqL K H1 a xs)/\R (Ite K a) H1
theorem Ec {e1:Expr}{ta:TA}{p pos tp:Pos}{elts:List Expr}{tk:Nat}(hg:Gl X "enumerate") (hm:X.mg "enumerate"=none) (ha:PA X [e1] ta) (hs:starEach [e1] X.env=[(false,eval e1 X.env)]:=by rfl):
  PI X (.Tuple elts tk tp) (.Call (.Name "enumerate" p) [e1] [] pos) (LL X.K ta):=by
 intro pins s Z H R I h;refine Call_ (v_ I hg hm yO (PyProof.Rows.callWith_type1 (dg (ha pos pins s Z H _ I h) fun us s1 vs H1 I1 r1 q1=> ?_) (by rw[hs];rfl) (by rfl)))
 obtain⟨a,e,⟨xs,hx⟩,q⟩:=q1;subst e;obtain⟨u1,rfl,ru1⟩:=om r1
 cases ru1
 obtain⟨l1,rr1,pl,_⟩:=I1.list hx;have la:a < s1.heap.objs.size:=by obtain⟨o,n,z,_⟩:=pl;exact Heap.lt_size z
 refine call_enumerate_list pl.isList fun h' z1 z2 _ kk=>wpAny_pyIter_enum z1 ?_
 generalize hn:s1.heap.objs.size=n at*;refine⟨n+1,[n+1,n],_,_,H1,rfl,I1.kept (t':=s1.toks) kk,E8 (Nat.succ_ne_self n) (Nat.ne_of_lt la) (Nat.ne_of_lt (Nat.lt_succ_of_lt la)),⟨⟨_,z1⟩,z2⟩,fun b hb=> ?_,q⟩
 have hb':n<=b:=by
  have hb':b=n+1\/b=n:=by simpa using hb
  unfold Addr at*
  lia
 exact I1.fpOk (by rw[hn];exact hb') (I1.hok.fresh (by rw[hn];exact hb'))
end
theorem Bt {K:Frag}{a:Addr}{xs:List V}{g:TG}{tb:TS}{D:uJ}{Z:St}{H:Hp}(Pv:Nat->St->Hp->Prop) (h0:Pv 0 Z H) (h1:∀i Z H,Pv i Z H->SqL K H a xs)
  (hs:∀i x p Z H,xs[i]? =some x->Pv i Z H->H p=none->g (.ref p) Z (upd H p (.tup [.int i,x])) fun Z2 H2=>tb {D with nx:=Pv (i+1),ct:=Pv (i+1),bk:=D.nx} Z2 H2) (hd:∀Z H,Pv xs.length Z H->D.nx Z H):
  ∃W:Nat->Nat->St->Hp->Prop,(∃ m,W 0 m Z H)/\∀i m Z H,W i m Z H->
   ((Ite K a).stop i H/\D.nx Z H)\/((Ite K a).go i H/\∃N:St->Hp->Prop,(∀ Z' H',N Z' H'->∃m',m' < m/\W (i+1) m' Z' H')/\∀x H',(Ite K a).yld i H x H'->g x Z H' fun Z2 H2=>tb {D with nx:=N,ct:=N,bk:=D.nx} Z2 H2):=by
 refine⟨fun i m Z H=>m=xs.length - i/\i<=xs.length/\Pv i Z H,⟨_,rfl,Nat.zero_le _,h0⟩,?_⟩
 rintro i m Z H ⟨rfl,hi,p⟩
 have q1:=h1 i Z H p
 by_cases hlt:i < xs.length
 .refine .inr ⟨⟨xs,xs[i],q1,by simp [hlt]⟩,Pv (i+1),fun Z' H' p'=>⟨_,?_,rfl,hlt,p'⟩,fun v H' y=> ?_⟩
  .lia
  .obtain⟨r,x,hr,rfl,rfl,e1⟩:=y;exact hs i x r Z H (e1 xs q1) p hr
 .have e:i=xs.length:=by lia
  refine .inl ⟨⟨xs,q1,e.symm⟩,?_⟩
  subst e;exact hd Z H p
section
variable {X : Cx}
theorem BG (hu:X.A.units+64 < cLine):OpR X (compareOp .NotEq) (FD X.K true):=by
 intro pins s Z H x y v u Q I rx ry h;obtain⟨a,b,ns,ms,rfl,rfl,h1,h2,q⟩:=h
 cases rx
 cases ry
 obtain⟨its,r,pl,_⟩:=I.tuple h1;obtain⟨its2,r2,pl2,_⟩:=I.tuple h2;exact ne_dataH_same (hZ pl (gS r)) (hZ pl2 (gS r2)) (gr ns) (gr ms) hu (by simp only[noMix];exact W.noMix_ints ns ms) (by simp only[PySem.Spec.same];rw[W.same_ints];exact⟨.bl _,H,I,rfl,q⟩)
end
open PySem PySem.Spec PyProof.Rows PyProof PySem.SeqAt
open PySem PySem.Spec PyProof.Rows PyProof PySem.SeqAt
section
variable {prog : Program} {w : World} {A : Around} {E : Value → Shared → Prop} {s : Shared}
theorem rL {t sl:Addr}{items:Array Value}{vl vu:Value}{lo hi:Option Int}{Q:Value->Shared->Prop}(ht:IsTup s.heap t items) (hs:s.heap.IsSliceOf sl vl vu .none) (pl:IsPart vl lo) (pu:IsPart vu hi)
  (hw:HT.sIx items.size 0 lo=0/\HT.sIx items.size items.size hi=items.size) (h:Q (.ref t) s):wpAny (model prog w) A (getItem (.ref t) (.ref sl)) Q E s:=by
 obtain⟨os,hos,hcs,hds⟩:=id hs;have hTs:s.TypeIs (.ref sl) "slice":=⟨os,hos,hcs⟩;unfold getItem
 try with_reducible refine wpAny_holding ?_
 first | refine wpAny_bind (wpAny_pure ?_) | skip
 refine wpAny_bind (wpAny_sequenceKey ht.typeIs (by decide) ?_)
 refine wpAny_bind (wpAny_callSpecial?_slot (name:=Str.ofString "__getitem__") ht.typeIs PyProof.Rows.slot_tuple_getitem
  (wpAny_call_entry PyProof.Rows.slot_tuple_getitem ht.typeIs entry_tuple_getitem ?_ (args_tuple_getitem _ _)))
 show wpAny _ _ (Builtin.Tuple.tupleItemsOf (.ref t) >>= _) _ _ s
 refine wpAny_bind (tupleItemsOf_ ht ?_)
 refine wpAny_bind (wpAny_typeOf hTs ?_)
 rw[if_pos (by decide)]
 refine wpAny_bind (HT.sliceApplied_gen hs pl pu ?_)
 have hyes:(((HT.sIx items.size 0 lo:Nat):Int) == 0 && (1:Int) == 1 && (HT.sIx items.size items.size hi - HT.sIx items.size 0 lo) == items.size)=true:=by
  rw[hw.1,hw.2]
  simp
 show wpAny _ _ (if (((HT.sIx items.size 0 lo:Nat):Int) == 0 && (1:Int) == 1 && (HT.sIx items.size items.size hi - HT.sIx items.size 0 lo) == items.size)=true then _ else _) _ _ s
 rw[if_pos hyes];refine wpAny_bind ?_
 unfold Builtin.Tuple.tupleIsExact;refine wpAny_bind (wpAny_typeOf ht.typeIs (wpAny_pure ?_))
 rw[if_pos (by decide)]
 exact wpAny_bind (wpAny_rule (wpAny_pure ⟨_,rfl,wpAny_pure h⟩))
end
def LB (K:Frag):V->Option Int->Option Int->Hp->VK->Prop:=fun x lo hi H Q=>∃a xs,x= .ref a/\SqT K H a xs/\∀t H',az H H'->SqT K H' t (fe xs lo hi)->Q (.ref t) H'
theorem EK {xs:List V}{lo hi:Option Int}(h:HT.sIx xs.length 0 lo=0/\HT.sIx xs.length xs.length hi=xs.length):fe xs lo hi=xs:=by
 unfold fe;rw[h.1,h.2,List.drop_zero,Nat.sub_zero,List.take_length]
theorem IT {X:Cx}:SlR X (LB X.K):=by
 intro pins s Z H x v vl vu lo hi sl Q I rx hs pl pu h;obtain⟨a,xs,rfl,hx,q⟩:=h
 by_cases hw:HT.sIx xs.length 0 lo=0/\HT.sIx xs.length xs.length hi=xs.length
 .cases rx
  obtain⟨its,r,ht,hz⟩:=I.tuple hx;have hlen:its.toArray.size=xs.length:=by rw[List.size_toArray];exact r.length.symm
  refine⟨"tuple",_,PyProof.Rows.slot_tuple_getitem.lookup,ht.typeIs,?_⟩
  refine rL ht hs pl pu (by rw[hlen];exact hw) ?_
  exact⟨.ref a,_,I,rfl,q a H (az.refl _) (by rw[EK hw];exact hx)⟩
 .exact kc pins s Z H (.ref a) v vl vu lo hi sl Q I rx hs pl pu ⟨a,xs,rfl,hx,hw,fun p hp=>q p _ (ag hp _) (SqT.of ad)⟩
open PySem PySem.Spec PyProof.Rows PyProof PySem.SeqAt
open PySem PySem.Spec PyProof.Rows PyProof PySem.SeqAt
theorem CV (l b:Addr) (its its2:Array Value) (n n2:Nat) (dd dd2:Option Addr) (sl sl2:Array (Option Value)) (hc:its.isEmpty=true):
  Meets (Builtin.«tuple.__add__» ⟨[.ref l,.ref b],[]⟩) (fun _ R s=>s.heap.get? l=some {cls:= .type "tuple",dict:=dd,data:= .seq its n,slots:=sl}/\s.heap.get? b=some {cls:= .type "tuple",dict:=dd2,data:= .seq its2 n2,slots:=sl2}/\R (.ok (.ret (Value.ref b))) s):=
 .of_wp fun pr wo ar re sh hy=>by
  obtain⟨hp,g,d,tk,os⟩:=sh;obtain⟨hl,hb,hy⟩:=hy;have f2:=AutoSeq1.sub_tuple_tuple
  wp_walk using wpAny_loadPart' hl,wpAny_loadPart' hb
  exact⟨_,rfl,hy⟩
section
variable {X : Cx}
def Lu (K:Frag):R2:=fun x y H Q=>∃a b xs ys,x= .ref a/\y= .ref b/\SqT K H a xs/\SqT K H b ys/\xs.length+ys.length<=sizeLine/\∀t H',az H H'->SqT K H' t (xs++ys)->Q (.ref t) H'
theorem Ez:OpR X (binaryOp .Add) (Lu X.K):=by
 intro pins s Z H x y v u Q I rx ry h;obtain⟨a,b,xs,ys,rfl,rfl,ha,hb,hz,q⟩:=h
 by_cases hx:xs=[]
 .cases rx
  cases ry
  subst hx;obtain⟨its,r1,p1,_⟩:=I.tuple ha;obtain⟨its2,r2,p2,_⟩:=I.tuple hb;obtain⟨⟨cls,dd,data,sl⟩,ho,hc,n,hd⟩:=id p1;obtain⟨⟨cls2,dd2,data2,sl2⟩,ho2,hc2,n2,hd2⟩:=id p2
  simp only at hc hd hc2 hd2
  subst hc hd hc2 hd2;have he:its=[]:=by cases r1;rfl
  refine concat_meets ⟨_,ho,rfl⟩ ⟨_,ho2,rfl⟩ noFill_tuple_add seq_tuple_add PySem.F.slot_tuple_add PySem.F.entry_tuple_add (PySem.F.args_tuple_add_2 _ _) (CV a b its.toArray its2.toArray n n2 dd dd2 sl sl2 (by simp [he])) ⟨ho,ho2,?_⟩
  exact⟨.ref b,H,I,rfl,q b H (az.refl _) hb⟩
 .refine DY pins s Z H (.ref a) (.ref b) v u Q I rx ry ⟨a,b,xs,ys,rfl,rfl,ha,hb,hx,hz,fun e=> ?_,fun _ p hp=>q p _ (ag hp _) (SqT.of ad)⟩
  subst e;exact q a H (az.refl _) (by rw[List.append_nil];exact ha)
end
end L2
namespace L2
open PySem PySem.Builtin PySem.Builtin.ObjectAttr
structure ExC (h:Heap) (C F:Addr) (bmB:List Value) (newId:String) (mC mF:Str->Option Value):Prop where
 obj:∃nm q N bs sn sub ab col dd k0 k1 k2 k3 k5,h.get? C=some (excClassObj nm q C N bs (.ref F::bmB) true sn sub ab col dd k0 k1 k2 k3 k5 newId)/\h.Ns N mC
 mid:∃c0 dF cd sl,h.get? F=some {cls:=c0,dict:=dF,data:= .cls cd,slots:=sl}/\h.Ns cd.ns mF
end L2
namespace L2
open PySem
structure Fo (h:Heap) (e:Addr) (cls:Value) (od:Option Addr) (a0 hd:Value):Prop where
 ex:∃vs sl,h.get? e=some ⟨cls,od,.fields vs,sl⟩/\vs[0]? =some a0/\vs[1]? =some hd
structure Te (h base:Heap) (e T:Addr) (fl:Value):Prop where
 new:base.get? T=none
 ne:T≠e
 ex:∃oT ts,h.get? T=some oT/\oT.data= .fields ts/\ts[3]? =some fl
structure On (base:Heap) (l:List Env) (e:Addr) (h:Heap):Prop where
 stays:base.StaysIn h
 new:base.get? e=none
 frames:h.FunFrames base l
structure pK (base:Heap) (l:List Env) (e:Addr) (cls:Value) (od:Option Addr) (a0 fl:Value) (h:Heap):Prop where
 on:On base l e h
 tr:∃T,Fo h e cls od a0 (.ref T)/\Te h base e T fl
abbrev Fc (base:Heap) (l:List Env) (e:Addr) (cls:Value) (od:Option Addr) (a0:Value) (h:Heap):Prop:=pK base l e cls od a0 .none h
section
variable {M : Model} {A : Around} {E : Value → Shared → Prop} {s : Shared} {base : Heap} {env : Env} {outer l : List Env} {L e : Addr} {cls a0 fl : Value} {od : Option Addr} {Q : Unit → Shared → Prop}
theorem qS {h:Heap}{T:Addr}{oT:Obj}{ts:Array Value}{i:Nat}{x:Value}(hT:h.get? T=some oT) (hd:oT.data= .fields ts):
  (∀ b,b≠T->(h.update T (Obj.mapFields (·.setIfInBounds i x))).get? b=h.get? b)/\(h.update T (Obj.mapFields (·.setIfInBounds i x))).get? T=some (Obj.mapFields (·.setIfInBounds i x) oT)/\(Obj.mapFields (·.setIfInBounds i x) oT).data= .fields (ts.setIfInBounds i x)/\h.UpToSlots (h.update T (Obj.mapFields (·.setIfInBounds i x))):=by
 have d2:=Obj.data_mapFields hd (·.setIfInBounds i x);refine⟨fun b hb=>Heap.get?_update_other _ _ (Ne.symm hb),Heap.get?_update_self _ hT (Obj.isFreed_of_fields d2),d2,fun b o hb hn=>⟨o.slots,?_⟩⟩
 have nb:T≠b:=by
  rintro rfl
  rw[hT] at hb
  cases hb
  exact hn ts hd
 rw[Heap.get?_update_other _ _ nb];exact hb
theorem On.set {h:Heap}{T:Addr}{oT:Obj}{ts:Array Value}{i:Nat}{x:Value}(o:On base l e h) (hT:h.get? T=some oT) (hd:oT.data= .fields ts) (hn:base.get? T=none):On base l e (h.update T (Obj.mapFields (·.setIfInBounds i x))):=by
 obtain⟨k1,k2,k3,k4⟩:=qS (i:=i) (x:=x) hT hd;refine⟨fun b ob hb=> ?_,o.new,o.frames.of_keeps fun b ob hb hf=> ?_⟩
 .rw[k1 b (by rintro rfl;rw[hn] at hb;cases hb)]
  exact o.stays b ob hb
 .obtain⟨sl,e⟩:=k4 b ob hb hf;exact⟨_,e,rfl⟩
theorem mr (hh:pK base l e cls od a0 fl s.heap) (hQ:∀h',Fc base l e cls od a0 h'->s.heap.UpToSlots h'->Q () {s with heap:=h'}):wpAny M A (setFlight (.ref e) none) Q E s:=by
 obtain⟨on,T,⟨vs,sl,he,h0,h1⟩,tn,te,oT,ts,hT,hd,h3⟩:=hh;obtain⟨k1,k2,k3,k4⟩:=qS (i:=3) (x:=((none:Option Addr).elim Value.none fun f=>rawInt f)) hT hd
 have on2:=on.set (i:=3) (x:=((none:Option Addr).elim Value.none fun f=>rawInt f)) hT hd tn
 have z3:3 < ts.size:=(Array.getElem?_eq_some_iff.mp h3).1;unfold setFlight;apply wpAny_bind
 apply wpAny_field he rfl h1
 rw[if_pos (show(Value.ref T != Value.none)=true by simp)]
 refine wpAny_setField hT hd z3 (hQ _ ⟨on2,T,⟨vs,sl,?_,h0,h1⟩,tn,te,_,_,k2,k3,?_⟩ k4)
 .rw[k1 e (Ne.symm te)];exact he
 .simp [z3]
theorem yt {head:Value}{b:Bool}{a1:Value}(hfr:A.frames=some (env::outer)) (hf:env.frame=some L) (on:On base (env::outer) e s.heap) (fo:Fo s.heap e cls od a0 a1)
  (hQ:∀h',pK base (env::outer) e cls od a0 (rawInt L) h'->s.heap.UpToSlots h'->Q () {s with heap:=h'}):
  wpAny M A (do let a <-frameOf env;let pl <-entryPlaceOf L b;let x <-EntryCells.newEntry head a .none (rawInt L) .none pl;setField (.ref e) 1 x) Q E s:=by
 obtain⟨vs,sl,he,h0,h1⟩:=fo;have z1:1 < vs.size:=(Array.getElem?_eq_some_iff.mp h1).1;have nfr:e ∉ (env::outer).filterMap (·.frame):=fun hm=>by
  obtain⟨_,o,ho,hnf⟩:=on.frames.mem hm;rw[he] at ho
  cases ho
  exact hnf vs rfl
 apply wpAny_bind
 refine wpAny_frameOf_fun hfr on.frames hf fun h1' so=> ?_
 apply wpAny_bind
 refine wpAny_entryPlaceOf fun pl ip=> ?_
 unfold EntryCells.newEntry newFields;apply wpAny_bind
 refine wpAny_newObj_type ?_ (ip.sizeOk5 _ _ _ _ _)
 have e1:h1'.get? e=some ⟨cls,od,.fields vs,sl⟩:=(so.2.1 e nfr).trans he;have st1:base.StaysIn h1':=fun b o hb=>by
  rw[so.2.1 b (fun hm=>by rw[(on.frames.mem hm).1] at hb;cases hb)]
  exact on.stays b o hb
 have up1:s.heap.UpToSlots h1':=fun b o hb _=>so.2.2 b o hb
 have ne1:h1'.objs.size≠e:=Nat.ne_of_gt (Heap.lt_size e1);have tn:base.get? h1'.objs.size=none:=st1.fresh;generalize hob:({cls:= .type "traceback",dict:=none,data:= .fields ([head,.ref L,.none,rawInt L,.none]++(if pl.isEmpty then List.replicate 6 Value.none else pl)).toArray}:Obj)=ob
 have e2:=Heap.get?_push_of_some (h:=h1') ob e1;have t2:(h1'.push ob).get? h1'.objs.size=some ob:=Heap.get?_push_size h1' (by rw[<- hob];rfl)
 have on2:On base (env::outer) e (h1'.push ob):=⟨fun b o hb=>Heap.get?_push_of_some _ (st1 b o hb),on.new,on.frames.of_keeps fun b o hb hf=>by
  obtain⟨sl2,hs⟩:=so.2.2 b o hb
  exact⟨_,Heap.get?_push_of_some _ hs,rfl⟩⟩
 obtain⟨k1,k2,k3,k4⟩:=qS (i:=1) (x:= .ref h1'.objs.size) e2 rfl;refine wpAny_setField e2 rfl z1 (hQ _ ⟨on2.set e2 rfl on.new,h1'.objs.size,⟨_,sl,k2.trans rfl,?_,?_⟩,tn,ne1,ob,_,(k1 _ ne1).trans t2,by rw[<- hob],?_⟩ ?_)
 .rw[Array.getElem?_setIfInBounds_ne (by decide)]
  exact h0
 .simp [z1]
 .rcases ip with rfl | ⟨_,_,_,_,_,_,_,rfl⟩
  .rfl
  .simp
 .refine up1.trans (Heap.UpToSlots.trans ?_ k4)
  exact Heap.UpToSlots.of_keeps fun b o hb=>Heap.get?_push_of_some _ hb
theorem Cz (hfr:A.frames=some (env::outer)) (hf:env.frame=some L) (on:On base (env::outer) e s.heap) (fo:Fo s.heap e cls od a0 .none)
  (hQ:∀h',pK base (env::outer) e cls od a0 (rawInt L) h'->s.heap.UpToSlots h'->Q () {s with heap:=h'}):wpAny M A (noteFrame (.ref e) env) Q E s:=by
 have fo':=fo;obtain⟨vs,sl,he,h0,h1⟩:=fo;unfold noteFrame
 simp only[hf]
 apply wpAny_bind
 apply wpAny_field he rfl h1
 rw[if_neg (by decide)]
 exact yt hfr hf on fo' hQ
theorem yu (hfr:A.frames=some (env::outer)) (hf:env.frame=some L) (fly:Fc base (env::outer) e cls od a0 s.heap)
  (hQ:∀h',pK base (env::outer) e cls od a0 (rawInt L) h'->s.heap.UpToSlots h'->Q () {s with heap:=h'}):wpAny M A (noteFrame (.ref e) env) Q E s:=by
 obtain⟨on,T,⟨vs,sl,he,h0,h1⟩,tn,te,oT,ts,hT,hd,h3⟩:=fly;obtain⟨k1,k2,k3,k4⟩:=qS (i:=3) (x:=Value.none) hT hd;unfold noteFrame
 simp only[hf]
 apply wpAny_bind
 apply wpAny_field he rfl h1
 rw[if_pos (show(Value.ref T != Value.none)=true by simp)]
 apply wpAny_bind
 apply wpAny_field hT hd h3
 rw[if_neg (show ¬((Value.none == rawInt L)=true) by simp [rawInt])]
 apply wpAny_bind
 refine wpAny_setField hT hd (Array.getElem?_eq_some_iff.mp h3).1 ?_
 refine yt (a1:= .ref T) hfr hf (on.set hT hd tn) ⟨vs,sl,(k1 e (Ne.symm te)).trans he,h0,h1⟩ fun h' hh up=>hQ h' hh (k4.trans up)
theorem pK.pop (h:pK base (env::outer) e cls od a0 fl s.heap):pK base outer e cls od a0 fl s.heap:=by
 obtain⟨⟨o1,o2,_,_,o3⟩,t⟩:=h;exact⟨⟨o1,o2,o3⟩,t⟩
theorem BF (hfr:A.frames=some (env::outer)) (hf:env.frame=some L) (on:On base (env::outer) e s.heap) (fo:Fo s.heap e cls od a0 .none)
  (hQ:∀h',Fc base outer e cls od a0 h'->s.heap.UpToSlots h'->Q () {s with heap:=h'}):wpAny M A (leaving env (.ref e)) Q E s:=by
 unfold leaving;apply wpAny_bind
 refine Cz hfr hf on fo fun h1 hh up=>mr hh fun h2 hf2 up2=>hQ h2 ?_ (up.trans up2)
 exact pK.pop (s:={s with heap:=h2}) hf2
theorem Dm (hfr:A.frames=some (env::outer)) (hf:env.frame=some L) (fly:Fc base (env::outer) e cls od a0 s.heap)
  (hQ:∀h',Fc base outer e cls od a0 h'->s.heap.UpToSlots h'->Q () {s with heap:=h'}):wpAny M A (leaving env (.ref e)) Q E s:=by
 unfold leaving;apply wpAny_bind
 refine yu hfr hf fly fun h1 hh up=>mr hh fun h2 hf2 up2=>hQ h2 ?_ (up.trans up2)
 exact pK.pop (s:={s with heap:=h2}) hf2
end
end L2
namespace L2
open PySem PySem.Builtin PySem.Builtin.ObjectAttr
section
variable {M : Model} {A : Around} {E : Value → Shared → Prop} {s : Shared} {env : Env}
theorem CZ {h : Heap}{g : Array GenState}{d : Drawn}{t : Nat}{os : OsState}{e : Addr}{oe : Obj}{Q : Bool → Shared → Prop}{nm q nm' q' : Str}{C N D N' : Addr}{bs bm bs' bm' : List Value}{hdct hdct' : Bool}{sn sn' : List Str}{sub sub' : List Value}{ab ab' : Bool}{col col' : Option Bool}{dd dd' : Option Addr}{k0 k1 k2 k3 k5 k0' k1' k2' k3' k5' : Option Value}{newId newId' : String}
    (hC : h.get? C = some (excClassObj nm q C N bs bm hdct sn sub ab col dd k0 k1 k2 k3 k5 newId)) (hD : h.get? D = some (excClassObj nm' q' D N' bs' bm' hdct' sn' sub' ab' col' dd' k0' k1' k2' k3' k5' newId')) (he : h.get? e = some oe) (hcls : oe.cls = .ref C)
    (hin : bm.contains (.ref D) = true) (hbD : bm'.contains (.type "BaseException") = true) (hq : Q true ⟨h, g, d, t, os⟩) : wpAny M A (excMatches (.ref e) (.ref D)) Q E ⟨h, g, d, t, os⟩ := by
  have hcB : (Value.ref D :: bm').contains (.type "BaseException") = true := by rw[List.contains_cons, hbD, Bool.or_true]
  have hcC : (Value.ref C :: bm).contains (.ref D) = true := by rw[List.contains_cons, hin, Bool.or_true]
  have f := tc_notTuple
  unfold excMatches
  repeat (first
    | (with_reducible refine wpAny_loadPart_at he ?_
       rw[hcls])
    | with_reducible refine wpAny_loadPart_at hD ?_
    | (with_reducible refine wpAny_isSubtype_exc hD ?_
       rw[hcB])
    | (with_reducible refine wpAny_isSubtype_exc hC ?_
       rw[hcC])
    | wp_step)
  exact hq
end
end L2
namespace L2
open PySem PySem.Spec PyProof.Rows
theorem Db {K:Frag}{h:Heap}{N:Addr}{m:Str->Option Value}{n:Str}{v:Value}(X:K.In h) (G:h.Ns N m) (e:W.nsIn K N n=some (some v)):m n=some v:=by
 obtain⟨o,es,ep,ho,hd,_,hf⟩:=G;unfold W.nsIn at e
 split at e
 case h_2=>cases e
 case h_1 q=>
  have z:=X _ _ q;rw[ho] at z
  cases z
  cases hd
  split at e
  case h_2=>split at e <;> cases e
  case h_1 en he=>
   cases e
   rw[<- hf n];show findBy _ _ _=_
   unfold findBy;rw[<- Array.find?_toList,he]
   rfl
structure XC (K:Frag) (C F:Addr) (fI:Option Addr) (qs:List Str):Prop where
 ex:∃nm q N bs sn sub ab col dd k0 k1 k2 k3 k5 c0 dF cd sl,K.lookup C=some (excClassObj nm q C N bs (.ref F::vbm) true sn sub ab col dd k0 k1 k2 k3 k5 "ValueError.__new__")/\W.nsOkIn K N=true/\
  K.lookup F=some {cls:=c0,dict:=dF,data:= .cls cd,slots:=sl}/\W.nsOkIn K cd.ns=true/\W.nsIn K N "__init__"=some (fI.map .ref)/\W.nsIn K cd.ns "__init__"=some none/\
  ∀n∈qs,W.nsIn K N n=some none/\W.nsIn K cd.ns n=some none
theorem XC.at {K:Frag}{C F:Addr}{fI:Option Addr}{qs:List Str}{h:Heap}(c:XC K C F fI qs) (X:K.In h):∃mC mF,ExC h C F vbm "ValueError.__new__" mC mF/\mF "__init__"=none/\mC "__init__"=fI.map .ref/\∀n∈qs,mC n=none/\mF n=none:=by
 obtain⟨nm,q,N,bs,sn,sub,ab,col,dd,k0,k1,k2,k3,k5,c0,dF,cd,sl,l1,o1,l2,o2,i1,i2,qn⟩:=c.ex;have g1:=Heap.Ns.of_isNs (W.isNs_of_in X o1);have g2:=Heap.Ns.of_isNs (W.isNs_of_in X o2);refine⟨_,_,⟨⟨nm,q,N,bs,sn,sub,ab,col,dd,k0,k1,k2,k3,k5,X _ _ l1,g1⟩,c0,dF,cd,sl,X _ _ l2,g2⟩,W.ns_none_of X g2 i2,?_,fun n hn=>⟨W.ns_none_of X g1 (qn n hn).1,W.ns_none_of X g2 (qn n hn).2⟩⟩
 cases fI with
 | none=>exact W.ns_none_of X g1 i1
 | some f=>exact Db X g1 i1
theorem Ga:vbm.contains (.type "BaseException")=true:=by decide +kernel
def exo (C:Addr) (od:Option Addr) (e:Addr):HO:= .ext fun h=>∃vs sl,h.get? e=some ⟨.ref C,od,.fields vs,sl⟩/\vs[1]? =some .none/\∃a0,vs[0]? =some a0
section
variable {P : Program} {w : World} {H H1 : Hp} {h h1 : Heap} {C e dx d : Addr} {od : Option Addr} {cls : Value} {fl : List (Str × V)} {o : HO} {fs ex : List Addr}
theorem Kv (x:∃vs sl,h.get? e=some ⟨.ref C,od,.fields vs,sl⟩/\vs[1]? =some .none/\∃a0,vs[0]? =some a0):cn P w H h e (exo C od e):=
 ⟨x,let ⟨_,_,q,_⟩:=x;⟨_,q⟩,fun h1 h2 ⟨vs,sl,q,r⟩ k=>⟨vs,sl,k _ q,r⟩⟩
theorem Kw (ok:HOk P w H h) (q:H e=some (exo C od e)):∃vs sl,h.get? e=some ⟨.ref C,od,.fields vs,sl⟩/\vs[1]? =some .none/\∃a0,vs[0]? =some a0:=(ok e _ q).1
theorem Un.more (u:Un fs ex H H1 h h1) (hd:h.get? d=none) (hn:H1 d=none):Un fs ex H (upd H1 d o) h h1 where
 keep:=u.keep
 slot:=u.slot
 free:=fun b ob q n hx=>by
  rw[ai (by rintro rfl;rw[hd] at q;cases q)]
  exact u.free b ob q n hx
 there:=u.there
 tups:=fun b xs q=>by
  have z:=u.tups b xs q;rw[ai (aj z hn)];exact z
 frzs:=fun b ob xs q=>by
  have z:=u.frzs b ob xs q;rw[ai (aj z hn)];exact z
 tbls:=fun b ps q=>by
  obtain⟨m,z⟩:=u.tbls b ps q;exact⟨m,by rw[ai (aj z hn)];exact z⟩
theorem HOk.more (ok:HOk P w H h) (hn:H d=none) (new:cn P w (upd H d o) h d o):HOk P w (upd H d o) h:=fun b u q=>by
 by_cases hb:b=d
 .subst hb;rw[ad] at q
  cases q
  exact new
 .rw[ai hb] at q;exact(ok b u q).stay (fun _ _ _ r=>r) (fun c r=>by rw[ai (aj r hn)];exact r) fun c xs r=>by rw[ai (aj r hn)];exact r
theorem C7 (ok:HOk P w H h) (hd:h.get? d=none):H d=none:=by
 cases e:H d with
 | none=>rfl
 | some u=>
  obtain⟨o,q⟩:=(ok d u e).there;rw[hd] at q
  cases q
def del (H:Hp) (a:Addr):Hp:=fun b=>if b=a then none else H b
theorem m_ {a:Addr}:del H a a=none:=by unfold del;rw[if_pos rfl]
theorem pW {a b:Addr}(n:b≠a):del H a b=H b:=by unfold del;rw[if_neg n]
theorem u9 {a:Addr}(n:H a=none):del (upd H a o) a=H:=by
 funext b
 by_cases z:b=a
 .subst z;rw[m_,n]
 .rw[pW z,ai z]
theorem F1 {a b:Addr}{u:HO}(q:del H a b=some u):b≠a/\H b=some u:=by
 by_cases z:b=a
 .subst z;rw[m_] at q;cases q
 .rw[pW z] at q;exact⟨z,q⟩
theorem Un.del {φ:Heap->Prop}(u:Un fs ex H H1 h h1) (hx:H1 d=some (.ext φ)):Un fs ex H (del H1 d) h h1 where
 keep:=u.keep
 slot:=u.slot
 free:=fun b ob q n hx=>by
  have z:=u.free b ob q n hx;unfold L2.del
  split
  .rfl
  .exact z
 there:=u.there
 tups:=fun b xs q=>by
  have z:=u.tups b xs q;rw[pW (by rintro rfl;rw[hx] at z;cases z)]
  exact z
 frzs:=fun b ob xs q=>by
  have z:=u.frzs b ob xs q;rw[pW (by rintro rfl;rw[hx] at z;cases z)]
  exact z
 tbls:=fun b ps q=>by
  obtain⟨m,z⟩:=u.tbls b ps q;exact⟨m,by rw[pW (by rintro rfl;rw[hx] at z;cases z)];exact z⟩
theorem HOk.del {φ:Heap->Prop}(ok:HOk P w H h) (hx:H d=some (.ext φ)):HOk P w (del H d) h:=fun b u q=>by
 obtain⟨_,q⟩:=F1 q;exact(ok b u q).stay (fun _ _ _ r=>r) (fun c r=>by rw[pW (by rintro rfl;rw[hx] at r;cases r)];exact r) fun c xs r=>by rw[pW (by rintro rfl;rw[hx] at r;cases r)];exact r
end
abbrev xqs:List Str:=["__setattr__","__getattribute__","__getattr__","__class__","at","why","line","block"]
def CXO (P:Program) (w:World):CXT:=fun outer H s E e s'=>
 ∃x cls od H' B a0,e=Value.ref x/\s'.os=s.os/\AllBare s'.gens/\xa P w outer H s H' B s'.heap/\Fc B outer x cls od a0 s'.heap/\E cls od H'
section
variable {X : Cx} {pins : List (Addr × Obj)} {σ : St}
theorem xa.out {H1 H2:Hp}{s1 s2:Shared}{e C:Addr}{od:Option Addr}(I2:Inv X pins Z H2 s2) (u:Un (frs X.stack) [] H1 H2 s1.heap s2.heap) (hn:s1.heap.get? e=none) (he:H2 e=some (exo C od e)):
  xa X.prog X.w X.stack H1 s1 (del H2 e) (W.hideAll s2.heap (e::frs X.stack)) s2.heap where
 un:=u.del he
 hok:=I2.hok.del he
 st:=fun b o q=>W.of_hideAll _ q
 kb:=fun b o q n hb=>W.hideAll_get _ (u.keep b o q n hb (by simp)) (fun z=>by
  rcases List.mem_cons.mp z with rfl | z
  .rw[hn] at q;cases q
  .exact hb z)
 hb:=fun a v q=>by
  obtain⟨ne,q⟩:=F1 q;obtain⟨o,ho⟩:=(I2.hok a v q).there;refine⟨o,W.hideAll_get _ ho fun z=> ?_⟩
  rcases List.mem_cons.mp z with z | z
  .exact ne z
  .rw[I2.stkFree a z] at q;cases q
 ab:=fun b o q hb=>by
  obtain⟨o',ho⟩:=u.there b o q (by simp)
  refine⟨o',W.hideAll_get _ ho fun z=> ?_⟩
  rcases List.mem_cons.mp z with rfl | z
  .rw[hn] at q;cases q
  .exact hb z
 nf:=fun b hb=>by
  obtain⟨_,o,ho,d⟩:=I2.stack.mem hb;exact⟨o,ho,d⟩
theorem KE {H2:Hp}{s2:Shared}{e:Addr}(I2:Inv X pins Z H2 s2):On (W.hideAll s2.heap (e::frs X.stack)) X.stack e s2.heap:=
 ⟨fun b o q=>W.of_hideAll _ q,W.hideAll_none _ (.head _),W.funFrames_hide I2.stack fun env he a ha=>List.mem_cons_of_mem _ (List.mem_filterMap.mpr ⟨env,he,ha⟩)⟩
end
section
variable {P : Program} {w : World} {K : Frag} {mg : Str → Option Value} {base : Heap} {N : List Str} {qual : Str} {scope : Scope} {f : Addr} {cd : Value} {A : Around} {outer : List Env} {s₀ : Shared} {H₀ : Hp} {E : XK}
theorem Ia {pins:List (Addr × Obj)}{Z:St}{H1 H2:Hp}{s1 s2:Shared}{e C:Addr}{od:Option Addr}(I1:Inv (fP (CXO P w) P w K mg base N qual scope f cd A outer s₀ H₀ E) pins Z H1 s1) (I2:Inv (fP (CXO P w) P w K mg base N qual scope f cd A outer s₀ H₀ E) pins Z H2 s2)
  (u:Un (frs (envOfC qual scope s₀.heap.objs.size f cd::outer)) [] H1 H2 s1.heap s2.heap) (hn:s1.heap.get? e=none) (he:H2 e=some (exo C od e)) (h:E (.ref C) od (del H2 e)):
  (fP (CXO P w) P w K mg base N qual scope f cd A outer s₀ H₀ E).xe (.ref e) s2:=by
 have F0:=xa.out (s1:=s1) I2 u hn he;obtain⟨vs,sl,g0,v1,a0,v0⟩:=Kw I2.hok he;refine BF (L:=s₀.heap.objs.size) I2.ok.frames rfl (KE I2) ⟨vs,sl,g0,v0,v1⟩ fun h2 fl us=> ?_
 exact⟨e,.ref C,od,_,_,a0,rfl,I2.os,I2.bare,(F0.next fl.on.stays us).pop I1 rfl rfl,fl,h⟩
theorem EZ {x:Str}{C:Addr}{np cpos pos:Pos}(c:Fq K C) (hg:Gl (fP (CXO P w) P w K mg base N qual scope f cd A outer s₀ H₀ E) x) (hm:mg x=some (.ref C)) (hdb:(x == ("__debug__":Str))=false:=by decide):
  PS (fP (CXO P w) P w K mg base N qual scope f cd A outer s₀ H₀ E) (.Raise (some (.Call (.Name x np) [] [] cpos)) none pos) (KM E C):=by
 intro pins s Z H D I h;obtain⟨bm,N',nm,q,bs,hdct,sn,sub,ab,col,dd,k0,k1,k2,k3,k5,mN,hC,hN,hni,T⟩:=c.obj I.kIn;refine wpAny_Raise_call_subT (C:=C) (nm:=nm) (q:=q) (N:=N') (bs:=bs) (bm:=bm) (hdct:=hdct) (sn:=sn) (sub:=sub) (ab:=ab) (col:=col) (dd:=dd) (k0:=k0) (k1:=k1) (k2:=k2) (k3:=k3) (k5:=k5)
  F.excBase_ValueError (mN:=mN) (T.hasType rfl) (I.ok.hd rfl) rfl hni (jG I hg hm ⟨rfl,evalArgs_empty ⟨rfl,Nat.zero_le _,hC,hN,T,fun h' e m=> ?_⟩⟩ hdb)
 have hn1:H e=none:=C7 I.hok m.new;obtain⟨tt,ht,_,_⟩:=m.there;have I2:=I.un (t':=s.toks) ((Un.kept m.keeps).more (o:=exo C none e) m.new hn1) ((I.hok.kept m.keeps).more hn1 (Kv ⟨_,_,ht,rfl,_,rfl⟩));refine Ia I I2 ((Un.kept m.keeps).more (o:=exo C none e) m.new hn1) m.new ad ?_
 rw[u9 hn1];exact h
theorem FU {Y:Cx}(e:Y=fP (CXO P w) P w K mg base N qual scope f cd A outer s₀ H₀ E):AG (CXO P w) Y (fun _=>E):=by
 subst e;rintro pins Z H s e s' I ⟨x,cls,od,H',B,a0,rfl,os,bare,F,fl,q⟩
 refine Dm (L:=s₀.heap.objs.size) I.ok.frames rfl fl fun h2 fl2 us=> ?_
 exact⟨x,cls,od,H',B,a0,rfl,os.trans I.os,bare,(F.next fl2.on.stays us).pop I rfl rfl,fl2,q⟩
end
structure pA (P:Program) (w:World) (K:Frag) (mg:Str->Option Value) (base:Heap) (k:Nat) (x:Str) (ps:List Str) (dvs:List V) (sp:Sp):Prop where
 ex:∃(f:Addr) (fd:FuncData) (ds:List Value),mg x=some (.ref f)/\W.keepIn K (.ref f)=true/\ie K fd ps []/\(dvs=[]\/(ie K fd ps ds/\aW dvs ds))/\iC P w K mg base (CXO P w) k f fd ps sp
theorem pA.mono {P:Program}{w:World}{K:Frag}{mg:Str->Option Value}{base:Heap}{j k:Nat}{x:Str}{ps:List Str}{dvs:List V}{sp:Sp}(h:pA P w K mg base j x ps dvs sp) (hj:j<=k):pA P w K mg base k x ps dvs sp:=by
 obtain⟨f,fd,ds,h1,h2,h3,h4,h5⟩:=h.ex;exact⟨f,fd,ds,h1,h2,h3,h4,h5.mono hj⟩
theorem pA.nod {P:Program}{w:World}{K:Frag}{mg:Str->Option Value}{base:Heap}{k:Nat}{x:Str}{ps:List Str}{dvs:List V}{sp:Sp}(h:pA P w K mg base k x ps dvs sp):pA P w K mg base k x ps [] sp:=by
 obtain⟨f,fd,ds,h1,h2,h3,h4,h5⟩:=h.ex;exact⟨f,fd,ds,h1,h2,h3,.inl rfl,h5⟩
theorem Def.hasO {P:Program}{w:World}{K:Frag}{mg:Str->Option Value}{base:Heap}{k:Nat}{x:Str}{st:Stmt}{N ps:List Str}{sp:Sp}(D:Def K mg x st ps) (S:aq N ps (af st)) (len:∀vs H Q E,sp vs H Q E->vs.length=ps.length)
  (hbody:∀(f:Addr) (cdv:Value) (A:Around) (outer:List Env) (s:Shared) (H:Hp) (vs:List V) (Q:VK) (E:XK),Room k (A.deeper (envOfC x (af st) s.heap.objs.size f cdv))->sp vs H Q E->
   ∃t,PSs (fP (CXO P w) P w K mg base N x (af st) f cdv A outer s H E) (eZ st) t/\t {nx:=fun _ H'=>Q .non H',rt:=Q} (start N vs) H):pA P w K mg base (k+1) x ps [] sp:=by
 obtain⟨f,fd,F,hm,hb⟩:=D.ex;obtain⟨oc,od,kV,doc,pm,an,cdv,ct,osl,rfl,lk,hcd⟩:=F.ex;exact⟨f,_,[],hm,F.kp,hb,.inl rfl,Jq lk hcd S len fun A outer s H vs Q E hr h=>hbody f cdv A outer s H vs Q E hr h⟩
section
variable {X : Cx}
def FV (sp:Sp) (dvs:List V) (Ef:St->XK) (t:TA):TE:=fun Z H Q=>t Z H fun vs H1=>sp (vs++dvs) H1 Q (Ef Z)
theorem FS {k:Nat}{x:Str}{ps:List Str}{dvs:List V}{sp:Sp}{Ef:St->XK}{e:Expr}{es:List Expr}{t:TA}{p pos:Pos}(h:pA X.prog X.w X.K X.mg X.base k x ps dvs sp) (hr:Room k X.A) (hg:Gl X x) (hc:AG (CXO X.prog X.w) X Ef)
  (ha:PA X (e::es) t) (hdb:(x == ("__debug__":Str))=false:=by decide) (he:starEach (e::es) X.env=(false,eval e X.env)::starEach es X.env:=by rfl) (hpl:(backTo pos (starEach es X.env)).any (·.1)=false:=by rfl):
  PE X (.Call (.Name x p) (e::es) [] pos) (FV sp dvs Ef t):=by
 obtain⟨f,fd,ds,hm,hk,hb0,hb,F⟩:=h.ex;intro pins s Z H Q I hh;refine wpAny_Call_Name_kw (jG I hg hm ?_ hdb)
 refine W.callWith_K (h₀:=X.base) I.ok.mod.kin hk (dg (ha pos pins s Z H _ I hh) fun us s1 vs H1 I1 r q=>⟨I1.kIn,?_⟩) he hpl
 have fin:∀(ws:List Value) (zs:List V),aW zs ws->zs=vs++dvs->BindsTo s1 fd ⟨us,[]⟩ (ps.zip ws)->wpAny (model X.prog X.w) X.A (call (.ref f) us) (EP X pins Z Q) X.xe s1:=fun ws zs rz ez hbz=>by
  subst ez;refine wpAny_call (codeAny_mono (F.run X.A X.stack s1 H1 ⟨us,[]⟩ ws _ Q (Ef Z) hr I1.env0 hbz rz q) fun r2 s2 hq=> ?_)
  cases r2 with
  | error e=>exact hc pins Z H1 s1 e s2 I1 hq
  | ok fl=>
   cases fl with
   | ret u=>exact I1.after hq
   | next=>exact False.elim hq
   | brk=>exact False.elim hq
   | cont=>exact False.elim hq
 have hl:=F.len _ _ _ _ q;rcases hb with rfl | ⟨hb,hv⟩
 .refine fin us vs r (by rw[List.append_nil]) ?_
  have hb1:=hb0 s1 us I1.kIn (by rw[List.append_nil, <-r.length];simpa using hl)
  rw[List.append_nil] at hb1;exact hb1
 .have r2:aW (vs++dvs) (us++ds):=r.append hv;exact fin (us++ds) _ r2 rfl (hb s1 us I1.kIn (by rw[<- r2.length];exact hl))
theorem sg {k:Nat}{x:Str}{ps:List Str}{dvs:List V}{sp:Sp}{Ef:St->XK}{e:Expr}{es:List Expr}{t:TA}{p pos:Pos}(h:pA X.prog X.w X.K X.mg X.base k x ps dvs sp) (hr:Room k X.A) (hg:Gl X x) (hc:AG (CXO X.prog X.w) X Ef)
  (ha:PA X (e::es) t) (hdb:(x == ("__debug__":Str))=false:=by decide) (he:starEach (e::es) X.env=(false,eval e X.env)::starEach es X.env:=by rfl) (hpl:(backTo pos (starEach es X.env)).any (·.1)=false:=by rfl):
  PE X (.Call (.Name x p) (e::es) [] pos) (JG sp Ef t):=by
 have z:=FS (p:=p) h.nod hr hg hc ha hdb he hpl;intro pins s Z H Q I hh;refine z pins s Z H Q I ?_
 unfold FV
 simp only[List.append_nil]
 exact hh
end
def GK (K:Frag) (cls:Value) (D:Addr):Prop:=∃C F fI,cls= .ref C/\XC K C F fI xqs/\(D=C\/(D=F/\Fq K F))
theorem Cu {K:Frag}{M:Model}{A:Around}{E:Value->Shared->Prop}{h:Heap}{g:Array GenState}{d:Drawn}{t:Nat}{os:OsState}{cls:Value}{D e:Addr}{oe:Obj}{Q:Bool->Shared->Prop}(X:K.In h) (ft:GK K cls D) (he:h.get? e=some oe) (hc:oe.cls=cls)
  (hq:Q true ⟨h,g,d,t,os⟩):wpAny M A (excMatches (.ref e) (.ref D)) Q E ⟨h,g,d,t,os⟩:=by
 obtain⟨C,F,fI,rfl,c,hd⟩:=ft;obtain⟨mC,mF,x,_⟩:=c.at X;obtain⟨⟨nm,q',N,bs,sn,sub,ab,col,dd,k0,k1,k2,k3,k5,hC,nc⟩,_⟩:=x;rcases hd with rfl | ⟨rfl,cF⟩
 .exact wpAny_excMatches_sub_self hC he hc (by rw[List.contains_cons,Ga,Bool.or_true]) hq
 .obtain⟨bm,N',nm',q2,bs',hdct,sn',sub',ab',col',dd',j0,j1,j2,j3,j5,mN,hF,hN,hni,T⟩:=cF.obj X;exact CZ hC hF he hc (by simp) (T.hasType rfl) hq
section
variable {X : Cx} {pins : List (Addr × Obj)} {σ : St} {H : Hp} {s : Shared}
def KW (K:Frag) (D:Addr) (tb:(St->XK)->TS) (th:TS):TS:=fun De Z H=>tb (fun Z' cls od H'=>GK K cls D/\th De Z' H') De Z H
theorem IP {x:Str}{Dc:Addr}{body suite:List Stmt}{b₀:Stmt}{np hp pos:Pos}{tb:(St->XK)->TS}{th:TS}(hg:Gl X x) (hm:X.mg x=some (.ref Dc))
  (hb:∀(Eb:Value->Shared->Prop) (pins:List (Addr × Obj)) (Ef:St->XK),AG (CXO X.prog X.w) (X.inTry Eb pins) Ef->PSs (X.inTry Eb pins) body (tb Ef))
  (hh:∀e,PSs (X.inExc e) (b₀::suite) th) (hs:X.stack=X.env::X.outer:=by rfl) (hf:X.env.frame=some X.env.locals:=by rfl) (hdb:(x == ("__debug__":Str))=false:=by decide):
  PS X (.Try body [.ExceptHandler (some (.Name x np)) none (b₀::suite) hp] [] [] pos) (KW X.K Dc tb th):=by
 intro pins s Z H D I h;refine wpAny_Try_except ?_
 have hc:AG (CXO X.prog X.w) (X.inTry (fun e s'=>∃Z' H0 s0,Inv X pins Z' H0 s0/\CXO X.prog X.w X.stack H0 s0 (fun cls od H'=>GK X.K cls Dc/\th D Z' H') e s') pins) (fun Z' cls od H'=>GK X.K cls Dc/\th D Z' H'):=
  fun _ Z' H0 s0 e s' I' q=>⟨Z',H0,s0,I'.outTry,q⟩
 refine wpAny_mono (hb _ pins _ hc [] s Z H D (I.inTry _) h) (fun f s1 q=> ?_) (fun e s1 q=> ?_)
 .cases f with
  | next=>obtain⟨Z',H',I',q⟩:=q;exact wpAny_execs_nil ⟨Z',H',I'.outTry,q⟩
  | brk=>obtain⟨Z',H',I',q⟩:=q;exact⟨Z',H',I'.outTry,q⟩
  | cont=>obtain⟨Z',H',I',q⟩:=q;exact⟨Z',H',I'.outTry,q⟩
  | ret u=>obtain⟨v,Z',H',I',r,q⟩:=q;exact⟨v,Z',H',I'.outTry,r,q⟩
 .obtain⟨Z',H0,s0,I0,x',cls,od,H',B,a0,rfl,os,bare,F,fl,ft,q⟩:=q;have fl0:=fl;rw[hs] at fl0;refine yu (I0.ok.frames.trans (by rw[hs])) hf fl0 fun h4 hl4 us4=> ?_
  refine mr hl4 fun h5 fl5 us5=> ?_
  have F5:=F.next fl5.on.stays (us4.trans us5);have J5:Inv X pins Z' H' {s1 with heap:=h5}:=I0.call' (s':={s1 with heap:=h5}) (ch:=[]) os F5.un F5.hok bare (fun b z=>absurd z (by simp))
  obtain⟨T,⟨vs,sl,g5,_,_⟩,_⟩:=fl5.tr;refine wpAny_handleBy_cons (codeAny_handlers_test (jG (X:=X.inExc x') (J5.inExc x') hg hm ?_ hdb)) (by intro z;cases z)
  refine Cu J5.kIn ft g5 rfl (codeAny_handlers_suite ?_)
  refine mr fl5 fun h6 fl6 us6=> ?_
  have F6:=F5.next fl6.on.stays us6;have J6:Inv X pins Z' H' {s1 with heap:=h6}:=I0.call' (s':={s1 with heap:=h6}) (ch:=[]) os F6.un F6.hok bare (fun b z=>absurd z (by simp))
  refine wpAny_mono (hh x' pins _ Z' H' D (J6.inExc x') q) (fun f s2 q2=> ?_) fun _ _ z=>False.elim z
  cases f with
  | next=>obtain⟨Z2,H2,I2,q⟩:=q2;exact⟨Z2,H2,I2.outExc I0.ok,q⟩
  | brk=>obtain⟨Z2,H2,I2,q⟩:=q2;exact⟨Z2,H2,I2.outExc I0.ok,q⟩
  | cont=>obtain⟨Z2,H2,I2,q⟩:=q2;exact⟨Z2,H2,I2.outExc I0.ok,q⟩
  | ret u=>obtain⟨v,Z2,H2,I2,r,q⟩:=q2;exact⟨v,Z2,H2,I2.outExc I0.ok,r,q⟩
end
theorem K3 {K:Frag}{C F:Addr}{fI:Option Addr}{nm q:Str}{N:Addr}{bs:List Value}{sn:List Str}{sub:List Value}{ab:Bool}{col:Option Bool}{dd:Option Addr}{k0 k1 k2 k3 k5:Option Value}{c0:Value}{dF:Option Addr}{cd:ClassData}{sl:Array (Option Value)}
  (l1:K.lookup C=some (excClassObj nm q C N bs (.ref F::vbm) true sn sub ab col dd k0 k1 k2 k3 k5 "ValueError.__new__")) (o1:W.nsOkIn K N=true) (l2:K.lookup F=some {cls:=c0,dict:=dF,data:= .cls cd,slots:=sl}) (o2:W.nsOkIn K cd.ns=true)
  (i1:W.nsIn K N "__init__"=some (fI.map .ref)) (i2:W.nsIn K cd.ns "__init__"=some none)
  (a0:W.nsIn K N "__setattr__"=some none) (a1:W.nsIn K N "__getattribute__"=some none) (a2:W.nsIn K N "__getattr__"=some none) (a3:W.nsIn K N "__class__"=some none) (a4:W.nsIn K N "at"=some none) (a5:W.nsIn K N "why"=some none) (a6:W.nsIn K N "line"=some none) (a7:W.nsIn K N "block"=some none)
  (b0:W.nsIn K cd.ns "__setattr__"=some none) (b1:W.nsIn K cd.ns "__getattribute__"=some none) (b2:W.nsIn K cd.ns "__getattr__"=some none) (b3:W.nsIn K cd.ns "__class__"=some none) (b4:W.nsIn K cd.ns "at"=some none) (b5:W.nsIn K cd.ns "why"=some none) (b6:W.nsIn K cd.ns "line"=some none) (b7:W.nsIn K cd.ns "block"=some none):
  XC K C F fI xqs:=by
 refine⟨nm,q,N,bs,sn,sub,ab,col,dd,k0,k1,k2,k3,k5,c0,dF,cd,sl,l1,o1,l2,o2,i1,i2,fun n hn=> ?_⟩
 rcases List.mem_cons.mp hn with rfl | hn
 .exact⟨a0,b0⟩
 rcases List.mem_cons.mp hn with rfl | hn
 .exact⟨a1,b1⟩
 rcases List.mem_cons.mp hn with rfl | hn
 .exact⟨a2,b2⟩
 rcases List.mem_cons.mp hn with rfl | hn
 .exact⟨a3,b3⟩
 rcases List.mem_cons.mp hn with rfl | hn
 .exact⟨a4,b4⟩
 rcases List.mem_cons.mp hn with rfl | hn
 .exact⟨a5,b5⟩
 rcases List.mem_cons.mp hn with rfl | hn
 .exact⟨a6,b6⟩
 rcases List.mem_cons.mp hn with rfl | hn
 .exact⟨a7,b7⟩
 .cases hn
end L2
namespace L2
open PySem PySem.Spec PyProof.Rows PyProof PySem.SeqAt
open PySem PySem.Spec PyProof.Rows PyProof PySem.SeqAt
open PySem PySem.Spec PyProof.Rows PyProof PySem.SeqAt
section
variable {X : Cx}
def K6 (K:Frag) (neg:Bool):R2:=fun x y H Q=>(x= .non/\∃(b:Addr) (ms:List Int),y= .ref b/\SqT K H b (ms.map V.int)/\Q (.bl neg) H)\/FD K neg x y H Q
theorem GE (hu:X.A.units+64 < cLine):OpR X (compareOp .Eq) (K6 X.K false):=by
 intro pins s Z H x y v u Q I rx ry h;rcases h with⟨rfl,b,ms,rfl,h2,q⟩ | h
 .cases rx
  cases ry
  obtain⟨its2,r2,pl2,_⟩:=I.tuple h2;exact eq_dataH_same (Reads.none (h:=s.heap)) (hZ pl2 (gS r2)) rfl (gr ms) hu (by simp only[noMix]) (by simp only[PySem.Spec.same];exact⟨.bl _,H,I,rfl,q⟩)
 .exact BQ hu pins s Z H x y v u Q I rx ry h
end
open PySem PySem.Spec PyProof.Rows PyProof PySem.SeqAt
theorem ex0 {α:Type}:∀us:List α,us.length=0->us=[]
 | [],_=>rfl
theorem ex1 {α:Type}:∀us:List α,us.length=1->∃a,us=[a]
 | [a],_=>⟨a,rfl⟩
theorem ex2 {α:Type}:∀us:List α,us.length=2->∃a b,us=[a,b]
 | [a,b],_=>⟨a,b,rfl⟩
theorem ex3 {α:Type}:∀us:List α,us.length=3->∃a b c,us=[a,b,c]
 | [a,b,c],_=>⟨a,b,c,rfl⟩
theorem ex4 {α:Type}:∀us:List α,us.length=4->∃a b c d,us=[a,b,c,d]
 | [a,b,c,d],_=>⟨a,b,c,d,rfl⟩
theorem ex5 {α:Type}:∀us:List α,us.length=5->∃a b c d e,us=[a,b,c,d,e]
 | [a,b,c,d,e],_=>⟨a,b,c,d,e,rfl⟩
theorem ex6 {α:Type}:∀us:List α,us.length=6->∃a b c d e f,us=[a,b,c,d,e,f]
 | [a,b,c,d,e,f],_=>⟨a,b,c,d,e,f,rfl⟩
open PySem PySem.Spec PyProof.Rows PyProof PySem.SeqAt
end L2
namespace L2
open PySem
theorem L0 {a b:Sort _}{P:a->b->Prop}(k l) (h:P k l):∃k l,P k l:=⟨k,l,h⟩
theorem Mo {a b c:Sort _}{P:a->b->c->Prop}(k l m) (h:P k l m):∃k l m,P k l m:=⟨k,l,m,h⟩
theorem MD {a b c d:Sort _}{P:a->b->c->d->Prop}(k l m n) (h:P k l m n):∃k l m n,P k l m n:=⟨k,l,m,n,h⟩
theorem Mt {a b c d e:Sort _}{P:a->b->c->d->e->Prop}(k l m n o) (h:P k l m n o):∃k l m n o,P k l m n o:=⟨k,l,m,n,o,h⟩
theorem L8 {a b c d e f:Sort _}{P:a->b->c->d->e->f->Prop}(k l m n o p) (h:P k l m n o p):∃k l m n o p,P k l m n o p:=⟨k,l,m,n,o,p,h⟩
theorem LS {a b c d e f g:Sort _}{P:a->b->c->d->e->f->g->Prop}(k l m n o p q) (h:P k l m n o p q):∃k l m n o p q,P k l m n o p q:=⟨k,l,m,n,o,p,q,h⟩
theorem LY {a b c d e f g h:Sort _}{P:a->b->c->d->e->f->g->h->Prop}(k l m n o p q r) (h:P k l m n o p q r):∃k l m n o p q r,P k l m n o p q r:=⟨k,l,m,n,o,p,q,r,h⟩
theorem LQ {a b c d e f g h i:Sort _}{P:a->b->c->d->e->f->g->h->i->Prop}(k l m n o p q r s) (h:P k l m n o p q r s):∃k l m n o p q r s,P k l m n o p q r s:=⟨k,l,m,n,o,p,q,r,s,h⟩
theorem Lm {a b c d e f g h i j:Sort _}{P:a->b->c->d->e->f->g->h->i->j->Prop}(k l m n o p q r s t) (h:P k l m n o p q r s t):∃k l m n o p q r s t,P k l m n o p q r s t:=⟨k,l,m,n,o,p,q,r,s,t,h⟩
theorem e11 {a:Sort _}{A B:a->Prop}(x) (h:A x) (q:B x):∃x,A x/\B x:=⟨x,h,q⟩
theorem e22 {a b:Sort _}{A C B:a->b->Prop}(x y) (h:A x y) (i:C x y) (q:B x y):∃x y,A x y/\C x y/\B x y:=⟨x,y,h,i,q⟩
theorem e44 {a b c d:Sort _}{A C D E B:a->b->c->d->Prop}(x y z w) (h:A x y z w) (i:C x y z w) (j:D x y z w) (k:E x y z w) (q:B x y z w):∃x y z w,A x y z w/\C x y z w/\D x y z w/\E x y z w/\B x y z w:=⟨x,y,z,w,h,i,j,k,q⟩
theorem JY {i:Nat}{Z:St}{H:Hp}{Q:VK}{v:V}(h:Z[i]? =some (some v)) (q:Q v H):Kp i Z H Q:=⟨v,h,q⟩
theorem bI {A:Prop}(h:∀G:Prop,(A->G)->G):A:=h A id
@[irreducible] def Nx (X : St → Hp → Prop) : St → Hp → Prop := X
structure NxH (A X:St->Hp->Prop):Prop where
 out:∀Z H,A Z H->Nx X Z H
theorem LJ {t u:TS}{D:uJ}{Z:St}{H:Hp}(h:∀X:St->Hp->Prop,NxH (u D) X->t ⟨Nx X,D.rt,D.bk,D.ct⟩ Z H):LG t u D Z H:=by
 have e:Nx (u D)=u D:=by unfold Nx;rfl
 have:=h (u D) ⟨fun _ _ h=>by rw[e];exact h⟩
 rw[e] at this;exact this
theorem NxH.st {A X:St->Hp->Prop}{Z:St}{H:Hp}(r:NxH A X) (h:A Z H):Nx X Z H:=r.out _ _ h
theorem aT {P:Program}{w:World}{K:Frag}{mg:Str->Option Value}{base:Heap}{N:List Str}{q:Str}{sc:Scope}{f:Addr}{cd:Value}{A:Around}{o:List Env}{s:Shared}{H:Hp}{E:XK}:(fP CX0 P w K mg base N q sc f cd A o s H E).nox.K=K:=rfl
theorem Kq {P:Program}{w:World}{K:Frag}{mg:Str->Option Value}{base:Heap}{N:List Str}{q:Str}{sc:Scope}{f:Addr}{cd:Value}{A:Around}{o:List Env}{s:Shared}{H:Hp}{E:XK}{CX:CXT}:(fP CX P w K mg base N q sc f cd A o s H E).K=K:=rfl
theorem aC {N P:List Str}{sc:Scope}(h:N.Nodup/\(∀ x∈P,sc.names.lookup x=some .local\/sc.names.lookup x=some .cell)/\∀y∈sc.names,y.2≠ .free:=by decide +kernel) (a:sc.kind= .function:=by rfl) (b:sc.isCoroutine=false:=by rfl) (c:sc.isGenerator=false:=by rfl) (d:N.take P.length=P:=by rfl):aq N P sc:=⟨a,b,c,h.1,d,h.2.1,h.2.2⟩
section
variable {X : Cx}
theorem psS (i:Nat) {x:Str}{e:Expr}{te:TE}{pos pos':Pos}(hN:X.N.Nodup) (he:PE X e te) (hi:X.N[i]? =some x:=by rfl) (hx:Loc X.env.scope x:=by first | (left;rfl) | (right;rfl)) (hs:swapsWith e (some (.Name x pos')) pos.line X.env=pure false:=by rfl) (hf:X.fn x=true\/X.env.scope.names.lookup x=some .local:=by first | exact .inl rfl | exact .inr rfl | assumption):PS X (.Assign [.Name x pos'] e pos) (HE te (Cb i)):=J_ hN hi hx he hs hf
theorem pcH {j k:Nat}{x:Str}{ps:List Str}{sp:Sp}{e:Expr}{es:List Expr}{t:TA}{p pos:Pos}(h:Has X.prog X.w X.K X.mg X.base j x ps sp) (hr:Room k X.A) (ha:PA X (e::es) t) (hj:j<=k:=by omega) (hg:Gl X x:=by rfl) (hdb:(x == ("__debug__":Str))=false:=by decide) (he:starEach (e::es) X.env=(false,eval e X.env)::starEach es X.env:=by rfl) (hpl:(backTo pos (starEach es X.env)).any (·.1)=false:=by rfl):PE X (.Call (.Name x p) (e::es) [] pos) (Es sp [] E0 t):=Gu (h.mono hj) hr hg ha hdb he hpl
theorem pX {a b:Expr}{ta tb:TE}{pos:Pos}{r:R2}(hr:IxR X r) (ha:PE X a ta) (hb:PE X b tb) (hs:D7 b:=by intro _ _;rfl):PE X (.Subscript a b pos) (tOp r ta tb):=FR hr ha hb hs
theorem pcE {a b:Expr}{ta tb:TE}{pos:Pos}{op:CmpOp}{r:R2}(ho:OpR X (compareOp op) r) (ha:PE X a ta) (hb:PE X b tb) (hm:behindInMarks op b=false:=by exact C3 _):PE X (.Compare a [op] [b] pos) (tOp r ta tb):=Ev ho ha hb hm
theorem pcT {a b:Expr}{ta tb:TE}{pos:Pos}{op:CmpOp}{r:R2}(ho:OpR X (compareOp op) r) (ha:PE X a ta) (hb:PE X b tb) (hm:behindInMarks op b=false:=by exact C3 _):PT X (.Compare a [op] [b] pos) (FG (tOp r ta tb)):=zb ho ha hb hm
theorem pa1 {e0:Expr}{t0:TE}(h0:PE X e0 t0) (s0:starEach [e0] X.env=(false,eval e0 X.env)::starEach [] X.env:=by rfl):PA X [e0] (iH t0 vd):=dt h0 gU s0
theorem pa2 {e0 e1:Expr}{t0 t1:TE}(h0:PE X e0 t0) (h1:PE X e1 t1) (s0:starEach [e0,e1] X.env=(false,eval e0 X.env)::starEach [e1] X.env:=by rfl) (s1:starEach [e1] X.env=(false,eval e1 X.env)::starEach [] X.env:=by rfl):PA X [e0,e1] (iH t0 (iH t1 vd)):=dt h0 (dt h1 gU s1) s0
theorem pa3 {e0 e1 e2:Expr}{t0 t1 t2:TE}(h0:PE X e0 t0) (h1:PE X e1 t1) (h2:PE X e2 t2) (s0:starEach [e0,e1,e2] X.env=(false,eval e0 X.env)::starEach [e1,e2] X.env:=by rfl) (s1:starEach [e1,e2] X.env=(false,eval e1 X.env)::starEach [e2] X.env:=by rfl) (s2:starEach [e2] X.env=(false,eval e2 X.env)::starEach [] X.env:=by rfl):PA X [e0,e1,e2] (iH t0 (iH t1 (iH t2 vd))):=dt h0 (dt h1 (dt h2 gU s2) s1) s0
theorem pa4 {e0 e1 e2 e3:Expr}{t0 t1 t2 t3:TE}(h0:PE X e0 t0) (h1:PE X e1 t1) (h2:PE X e2 t2) (h3:PE X e3 t3) (s0:starEach [e0,e1,e2,e3] X.env=(false,eval e0 X.env)::starEach [e1,e2,e3] X.env:=by rfl) (s1:starEach [e1,e2,e3] X.env=(false,eval e1 X.env)::starEach [e2,e3] X.env:=by rfl) (s2:starEach [e2,e3] X.env=(false,eval e2 X.env)::starEach [e3] X.env:=by rfl) (s3:starEach [e3] X.env=(false,eval e3 X.env)::starEach [] X.env:=by rfl):PA X [e0,e1,e2,e3] (iH t0 (iH t1 (iH t2 (iH t3 vd)))):=dt h0 (dt h1 (dt h2 (dt h3 gU s3) s2) s1) s0
theorem pa5 {e0 e1 e2 e3 e4:Expr}{t0 t1 t2 t3 t4:TE}(h0:PE X e0 t0) (h1:PE X e1 t1) (h2:PE X e2 t2) (h3:PE X e3 t3) (h4:PE X e4 t4) (s0:starEach [e0,e1,e2,e3,e4] X.env=(false,eval e0 X.env)::starEach [e1,e2,e3,e4] X.env:=by rfl) (s1:starEach [e1,e2,e3,e4] X.env=(false,eval e1 X.env)::starEach [e2,e3,e4] X.env:=by rfl) (s2:starEach [e2,e3,e4] X.env=(false,eval e2 X.env)::starEach [e3,e4] X.env:=by rfl) (s3:starEach [e3,e4] X.env=(false,eval e3 X.env)::starEach [e4] X.env:=by rfl) (s4:starEach [e4] X.env=(false,eval e4 X.env)::starEach [] X.env:=by rfl):PA X [e0,e1,e2,e3,e4] (iH t0 (iH t1 (iH t2 (iH t3 (iH t4 vd))))):=dt h0 (dt h1 (dt h2 (dt h3 (dt h4 gU s4) s3) s2) s1) s0
end
end L2
set_option compiler.extract_closed false
namespace My
open PySem L2
local macro_rules | `(tactic| walk_at "sq") => `(tactic| first | assumption | exact ad | exact SqT.of ad | exact SqL.of ad | exact SqT.of (by assumption) | exact SqL.of (by assumption) | exact fT.sq (by assumption) | exact fT.ty (by assumption) | (apply bh; (focus assumption); walk_at "sq") | (apply Mn; (focus assumption); walk_at "sq") | (apply Ky; (focus assumption); walk_at "sq") | (apply bM; (focus assumption); walk_at "sq") | (apply az.tup; (focus assumption); walk_at "sq") | (apply az.seq; (focus assumption); walk_at "sq") | (apply az.is; (focus assumption); walk_at "sq"))
local macro_rules | `(tactic| walk_at "c") => `(tactic| first | exact rfl | assumption | exact mT | exact s_ | exact pi | exact C9 | exact Wk.none Wk.refl | walk_at "ty" | exact Nat.le_of_ble_eq_true rfl | decide | ((fail_if_success intro _); lia) | omega | exact And.intro (by decide) (by decide) | exact Or.inl ⟨by decide, by decide⟩ | exact Or.inr ⟨by decide, by decide⟩ | exact Or.inl ⟨by omega, by omega⟩ | exact Or.inr ⟨by omega, by omega⟩ | exact ⟨by omega, by omega, by first | decide | omega⟩ | exact ⟨by omega, by omega⟩ | walk_at "sq" | (apply Exists.intro; walk_at "sq"; done) | (apply Or.inl; walk_at "sq"; done) | (apply Or.inr; walk_at "sq"; done))
local macro_rules | `(tactic| walk_at "g") => `(tactic| first | ((with_reducible apply LJ); intro _ _; walk_at "g") | (apply JY; (focus (exact rfl)); walk_at "g") | (apply e44; (focus (walk_at "c"; done)); (focus (walk_at "c"; done)); (focus (walk_at "c"; done)); (focus (walk_at "c"; done)); walk_at "g") | (apply e22; (focus (walk_at "c"; done)); (focus (walk_at "c"; done)); walk_at "g") | (apply e11; (focus (walk_at "c"; done)); walk_at "g") | (apply Lm; walk_at "g") | (apply LQ; walk_at "g") | (apply LY; walk_at "g") | (apply LS; walk_at "g") | (apply L8; walk_at "g") | (apply Mt; walk_at "g") | (apply MD; walk_at "g") | (apply Mo; walk_at "g") | (apply L0; walk_at "g") | (apply Exists.intro; walk_at "g") | (apply And.intro; (focus (walk_at "c"; done)); walk_at "g") | (apply NxH.st; (focus assumption); walk_at "g") | skip)
local macro_rules | `(tactic| walk_at "ty") => `(tactic| first | exact TyS.int _ | exact TyS.str _ | exact TyS.non | exact TyS.bl _ | (apply TyS.tup; walk_at "sq"; done) | (apply TyS.lst; walk_at "sq"; done))
local macro_rules | `(tactic| walk_at "wd") => `(tactic| repeat (first | (apply cA; (focus (decide)); walk_at "g") | (apply yg; (focus (decide)); walk_at "g")))
local macro_rules | `(tactic| walk_at "n") => `(tactic| first | (apply NxH.st; (focus assumption)) | skip)
section
variable {P : Program} {w : World} {K : Frag} {mg : Str → Option Value} {base : Heap}
abbrev mh:List Str:=["bits"]
abbrev kN:List Str:=["v","bits"]
abbrev pe:List Str:=["v"]
abbrev Gi:List Str:=["field","number"]
abbrev FX:List Str:=["field","word"]
abbrev cS:List Str:=["instruction"]
abbrev G7:List Str:=["word"]
abbrev EN:List Str:=["code","at"]
abbrev Fa:List Str:=["sort","b","c"]
abbrev wM:List Str:=["plan","b"]
abbrev Ar:List Str:=["plan","instruction","boxes"]
abbrev By:List Str:=["z"]
abbrev tH:List Str:=["span"]
abbrev gw:List Str:=["lo","hi","z"]
abbrev cT:List Str:=["left","right"]
abbrev Cf:List Str:=["left","right","lo"]
abbrev BZ:List Str:=["sort","left","right"]
abbrev Ba:List Str:=["span","n"]
abbrev pN:List Str:=["plan","span"]
abbrev ig:List Str:=["plan","instruction","spans"]
abbrev AI:List Str:=["place","count"]
abbrev A5:List Str:=["span","count"]
abbrev Bo:List Str:=["instruction","at"]
abbrev Cp:List Str:=["plan","count","instruction","spans"]
abbrev A2:List Str:=["plan","code","at","spans"]
abbrev pF:List Str:=["plan","code"]
abbrev eM:List Str:=["self"]
abbrev mB:List Str:=["self","group"]
abbrev cM:List Str:=["self","instruction"]
abbrev nR:List Str:=["count"]
abbrev pQ:List Str:=["block"]
abbrev BD:List Str:=["instruction","size"]
abbrev Au:List Str:=["block","size"]
abbrev Bb:List Str:=["blocks","size"]
abbrev yB:List Str:=["blocks","room","gates"]
abbrev pT:List Str:=["guest","room","gates"]
abbrev Cq:List Str:=["self","room"]
abbrev Ch:List Str:=["self","instruction","group"]
abbrev Ay:List Str:=["self","member"]
abbrev AD:List Str:=["block","room"]
abbrev Cj:List Str:=["plan","place"]
abbrev Ap:List Str:=["self","plan","gates","boxes","memory","replies"]
abbrev Ca:List Str:=["self","n"]
abbrev An:List Str:=["self","code","place","holding"]
abbrev Aq:List Str:=["self","most"]
abbrev AQ:List Str:=["plan","code","stand","replies","most"]
abbrev iq:List Str:=["_law_state","_law_many_here"]
abbrev r6:List Str:=["_law_state"]
abbrev nW:List Str:=["_law_state","_law_plan_here"]
abbrev DM:List Str:=["_law_state","_law_plan_here","_law_many_here"]
abbrev D6:List Str:=["_law_state","_law_plan_here","_law_within_here"]
abbrev Bp:List Str:=["_law_state","_law_plan_here","_law_sort","_law_many_here"]
abbrev Al:List Str:=["_law_state","_law_few","_law_most"]
abbrev DH:List Str:=["_law_guest_here","_law_plan_here","_law_thinned"]
abbrev A3:List Str:=["_law_plan_here","_law_memory_here"]
abbrev AA:List Str:=["_law_spans","_law_boxes_here"]
abbrev Ej:List Str:=["_law_plan_here","_law_code","_law_stand","_law_replies","_law_most"]
abbrev Jh:List Str:=["_law_script"]
def top (i:Nat):Stmt:=PySem.Challenge.pw_fencemask_k97_whole_guests_from_any_bund.main.body.getD i (.Pass ⟨0,0,0,0⟩)
abbrev jm:Stmt:=top 1
theorem fH:aq ["bits","power","step"] mh (af jm):=aC
theorem uM:Bd "power_of_two" jm mh:=by intro _ _ _ _ _ _ u l;obtain⟨_,rfl⟩:=ex1 u l;rfl
abbrev Ds:Stmt:=top 2
theorem IU:aq ["v","bits"] kN (af Ds):=aC
theorem ID:Bd "rest" Ds kN:=by intro _ _ _ _ _ _ u l;obtain⟨_,_,rfl⟩:=ex2 u l;rfl
abbrev Ae:Stmt:=top 3
theorem oK:aq ["v","count","left"] pe (af Ae):=aC
theorem Ha:Bd "zeros" Ae pe:=by intro _ _ _ _ _ _ u l;obtain⟨_,rfl⟩:=ex1 u l;rfl
abbrev vz:Stmt:=top 4
theorem E5:aq ["v","bits"] kN (af vz):=aC
theorem Fv:Bd "signed" vz kN:=by intro _ _ _ _ _ _ u l;obtain⟨_,_,rfl⟩:=ex2 u l;rfl
abbrev lc:Stmt:=top 12
theorem wZ:aq ["field","number"] Gi (af lc):=aC
theorem xg:Bd "field_bits" lc Gi:=by intro _ _ _ _ _ _ u l;obtain⟨_,_,rfl⟩:=ex2 u l;rfl
abbrev jt:Stmt:=top 13
theorem ut:aq ["field","word"] FX (af jt):=aC
theorem uu:Bd "field_number" jt FX:=by intro _ _ _ _ _ _ u l;obtain⟨_,_,rfl⟩:=ex2 u l;rfl
abbrev lY:Stmt:=top 14
theorem dY:aq ["instruction","sort","word","field","number"] cS (af lY):=aC
theorem xE:Bd "first_word" lY cS:=by intro _ _ _ _ _ _ u l;obtain⟨_,rfl⟩:=ex1 u l;rfl
abbrev qa:Stmt:=top 15
theorem Ax:aq ["instruction"] cS (af qa):=aC
theorem At:Bd "words_of" qa cS:=by intro _ _ _ _ _ _ u l;obtain⟨_,rfl⟩:=ex1 u l;rfl
abbrev og:Stmt:=top 16
theorem zG:aq ["instruction"] cS (af og):=aC
theorem Ah:Bd "length_of" og cS:=by intro _ _ _ _ _ _ u l;obtain⟨_,rfl⟩:=ex1 u l;rfl
abbrev cs:Stmt:=top 17
theorem bD:aq ["word","number","sort","numbers","instruction"] G7 (af cs):=aC
theorem kC:Bd "one_word_instruction" cs G7:=by intro _ _ _ _ _ _ u l;obtain⟨_,rfl⟩:=ex1 u l;rfl
abbrev gP:Stmt:=top 18
theorem jB:aq ["code","at","instruction"] EN (af gP):=aC
theorem qW:Bd "instruction_at" gP EN:=by intro _ _ _ _ _ _ u l;obtain⟨_,_,rfl⟩:=ex2 u l;rfl
abbrev pV:Stmt:=top 22
theorem AS:aq ["instruction"] cS (af pV):=aC
theorem BV:Bd "made_box" pV cS:=by intro _ _ _ _ _ _ u l;obtain⟨_,rfl⟩:=ex1 u l;rfl
abbrev i8:Stmt:=top 23
theorem mz:aq ["sort","b","c","power"] Fa (af i8):=aC
theorem uE:Bd "joined_value" i8 Fa:=by intro _ _ _ _ _ _ u l;obtain⟨_,_,_,rfl⟩:=ex3 u l;rfl
abbrev nF:Stmt:=top 24
theorem zH:aq ["plan","b"] wM (af nF):=aC
theorem Ac:Bd "fit_value" nF wM:=by intro _ _ _ _ _ _ u l;obtain⟨_,_,rfl⟩:=ex2 u l;rfl
abbrev ox:Stmt:=top 25
theorem zK:aq ["plan","b"] wM (af ox):=aC
theorem yK:Bd "aim_value" ox wM:=by intro _ _ _ _ _ _ u l;obtain⟨_,_,rfl⟩:=ex2 u l;rfl
abbrev lP:Stmt:=top 26
theorem jU:aq ["plan","instruction","boxes","sort","b"] Ar (af lP):=aC
theorem wV:Bd "made_value" lP Ar:=by intro _ _ _ _ _ _ u l;obtain⟨_,_,_,rfl⟩:=ex3 u l;rfl
abbrev kX:Stmt:=top 28
theorem xx:aq [] [] (af kX):=aC
theorem xh:Bd "whole_span" kX []:=by intro _ _ _ _ _ _ u l;obtain rfl:=ex0 u l;rfl
abbrev gO:Stmt:=top 29
theorem si:aq ["z"] By (af gO):=aC
theorem rM:Bd "multiples_span" gO By:=by intro _ _ _ _ _ _ u l;obtain⟨_,rfl⟩:=ex1 u l;rfl
abbrev u_:Stmt:=top 30
theorem Fw:aq ["v"] pe (af u_):=aC
theorem E1:Bd "single" u_ pe:=by intro _ _ _ _ _ _ u l;obtain⟨_,rfl⟩:=ex1 u l;rfl
abbrev oy:Stmt:=top 31
theorem yG:aq ["span"] tH (af oy):=aC
theorem zj:Bd "is_single" oy tH:=by intro _ _ _ _ _ _ u l;obtain⟨_,rfl⟩:=ex1 u l;rfl
abbrev i4:Stmt:=top 32
theorem uA:aq ["lo","hi","z"] gw (af i4):=aC
theorem uC:Bd "settled_span" i4 gw:=by intro _ _ _ _ _ _ u l;obtain⟨_,_,_,rfl⟩:=ex3 u l;rfl
abbrev ni:Stmt:=top 33
theorem ze:aq ["lo","hi","z"] gw (af ni):=aC
theorem yU:Bd "kept_span" ni gw:=by intro _ _ _ _ _ _ u l;obtain⟨_,_,_,rfl⟩:=ex3 u l;rfl
abbrev qJ:Stmt:=top 34
theorem Av:aq ["left","right"] cT (af qJ):=aC
theorem AV:Bd "add_span" qJ cT:=by intro _ _ _ _ _ _ u l;obtain⟨_,_,rfl⟩:=ex2 u l;rfl
abbrev ql:Stmt:=top 35
theorem AM:aq ["left","right"] cT (af ql):=aC
theorem BE:Bd "sub_span" ql cT:=by intro _ _ _ _ _ _ u l;obtain⟨_,_,rfl⟩:=ex2 u l;rfl
abbrev qf:Stmt:=top 36
theorem nZ:aq ["left","right","z","hi"] cT (af qf):=aC
theorem AX:Bd "and_span" qf cT:=by intro _ _ _ _ _ _ u l;obtain⟨_,_,rfl⟩:=ex2 u l;rfl
abbrev sG:Stmt:=top 37
theorem lU:aq ["left","right","lo","z","power"] Cf (af sG):=aC
theorem CB:Bd "or_span" sG Cf:=by intro _ _ _ _ _ _ u l;obtain⟨_,_,_,rfl⟩:=ex3 u l;rfl
abbrev nr:Stmt:=top 38
theorem zt:aq ["left","right"] cT (af nr):=aC
theorem yF:Bd "less_span" nr cT:=by intro _ _ _ _ _ _ u l;obtain⟨_,_,rfl⟩:=ex2 u l;rfl
abbrev oa:Stmt:=top 39
theorem lV:aq ["left","right","t","power"] cT (af oa):=aC
theorem zm:Bd "left_span" oa cT:=by intro _ _ _ _ _ _ u l;obtain⟨_,_,rfl⟩:=ex2 u l;rfl
abbrev lF:Stmt:=top 40
theorem j9:aq ["left","right","t","power"] cT (af lF):=aC
theorem xu:Bd "right_span" lF cT:=by intro _ _ _ _ _ _ u l;obtain⟨_,_,rfl⟩:=ex2 u l;rfl
abbrev ku:Stmt:=top 41
theorem vk:aq ["sort","left","right"] BZ (af ku):=aC
theorem vw:Bd "joined_span" ku BZ:=by intro _ _ _ _ _ _ u l;obtain⟨_,_,_,rfl⟩:=ex3 u l;rfl
abbrev ng:Stmt:=top 42
theorem zl:aq ["span","n"] Ba (af ng):=aC
theorem yX:Bd "more_span" ng Ba:=by intro _ _ _ _ _ _ u l;obtain⟨_,_,rfl⟩:=ex2 u l;rfl
abbrev qz:Stmt:=top 43
theorem jI:aq ["plan","span","base","size","z"] pN (af qz):=aC
theorem BS:Bd "fit_span" qz pN:=by intro _ _ _ _ _ _ u l;obtain⟨_,_,rfl⟩:=ex2 u l;rfl
abbrev qk:Stmt:=top 44
theorem tW:aq ["plan","span","last_block"] pN (af qk):=aC
theorem BK:Bd "aim_span" qk pN:=by intro _ _ _ _ _ _ u l;obtain⟨_,_,rfl⟩:=ex2 u l;rfl
abbrev jQ:Stmt:=top 46
theorem vM:aq [] [] (af jQ):=aC
theorem vF:Bd "first_spans" jQ []:=by intro _ _ _ _ _ _ u l;obtain rfl:=ex0 u l;rfl
abbrev oE:Stmt:=top 47
theorem ly:aq ["plan","instruction","spans","sort","b"] ig (af oE):=aC
theorem yR:Bd "made_span" oE ig:=by intro _ _ _ _ _ _ u l;obtain⟨_,_,_,rfl⟩:=ex3 u l;rfl
abbrev iW:Stmt:=top 48
theorem mG:aq ["plan","instruction","spans","box"] ig (af iW):=aC
theorem uD:Bd "spans_behind" iW ig:=by intro _ _ _ _ _ _ u l;obtain⟨_,_,_,rfl⟩:=ex3 u l;rfl
abbrev iy:Stmt:=top 49
theorem fg:aq ["plan","instruction","spans","span","n","base"] ig (af iy):=aC
theorem tj:Bd "may_reach_out" iy ig:=by intro _ _ _ _ _ _ u l;obtain⟨_,_,_,rfl⟩:=ex3 u l;rfl
abbrev iX:Stmt:=top 50
theorem ur:aq ["place","count"] AI (af iX):=aC
theorem uI:Bd "is_no_target" iX AI:=by intro _ _ _ _ _ _ u l;obtain⟨_,_,rfl⟩:=ex2 u l;rfl
abbrev nU:Stmt:=top 51
theorem yM:aq ["span","count"] A5 (af nU):=aC
theorem Ad:Bd "is_no_way" nU A5:=by intro _ _ _ _ _ _ u l;obtain⟨_,_,rfl⟩:=ex2 u l;rfl
abbrev lx:Stmt:=top 52
theorem w4:aq ["instruction","at"] Bo (af lx):=aC
theorem xt:Bd "is_no_word" lx Bo:=by intro _ _ _ _ _ _ u l;obtain⟨_,_,rfl⟩:=ex2 u l;rfl
abbrev qH:Stmt:=top 53
theorem tw:aq ["plan","count","instruction","spans","sort"] Cp (af qH):=aC
theorem AY:Bd "fault_of" qH Cp:=by intro _ _ _ _ _ _ u l;obtain⟨_,_,_,_,rfl⟩:=ex4 u l;rfl
abbrev eI:Stmt:=top 54
theorem d6:aq ["plan","code","at","spans","instruction","why"] A2 (af eI):=aC
theorem mK:Bd "instruction_let_by" eI A2:=by intro _ _ _ _ _ _ u l;obtain⟨_,_,_,_,rfl⟩:=ex4 u l;rfl
abbrev jN:Stmt:=top 55
theorem bX:aq ["plan","code","told","spans","sort","instruction"] pF (af jN):=aC
theorem wc:Bd "spans_ahead" jN pF:=by intro _ _ _ _ _ _ u l;obtain⟨_,_,rfl⟩:=ex2 u l;rfl
abbrev zY:Stmt:=top 56
theorem F_:aq ["plan","code"] pF (af zY):=aC
theorem Gw:Bd "check" zY pF:=by intro _ _ _ _ _ _ u l;obtain⟨_,_,rfl⟩:=ex2 u l;rfl
abbrev eQ:Stmt:=cy (top 58) 0
theorem mP:aq ["self"] eM (af eQ):=aC
theorem mO:BdM "__init__" "LaidBlock.__init__" eQ eM:=by intro _ _ _ _ _ _ u l;obtain⟨_,rfl⟩:=ex1 u l;rfl
abbrev eJ (K:Frag) (C:Addr):Prop:=jw K C "__init__" "LaidBlock.__init__" eQ eM
abbrev dn:Stmt:=cy (top 58) 1
theorem jz:aq ["self"] eM (af dn):=aC
theorem ju:BdM "is_at_bundle" "LaidBlock.is_at_bundle" dn eM:=by intro _ _ _ _ _ _ u l;obtain⟨_,rfl⟩:=ex1 u l;rfl
abbrev di (K:Frag) (C:Addr):Prop:=jw K C "is_at_bundle" "LaidBlock.is_at_bundle" dn eM
abbrev cQ:Stmt:=cy (top 58) 2
theorem lG:aq ["self","group"] mB (af cQ):=aC
theorem kU:BdM "has_space" "LaidBlock.has_space" cQ mB:=by intro _ _ _ _ _ _ u l;obtain⟨_,_,rfl⟩:=ex2 u l;rfl
abbrev d9 (K:Frag) (C:Addr):Prop:=jw K C "has_space" "LaidBlock.has_space" cQ mB
abbrev gM:Stmt:=cy (top 58) 3
theorem rP:aq ["self","instruction"] cM (af gM):=aC
theorem sf:BdM "take" "LaidBlock.take" gM cM:=by intro _ _ _ _ _ _ u l;obtain⟨_,_,rfl⟩:=ex2 u l;rfl
abbrev gX (K:Frag) (C:Addr):Prop:=jw K C "take" "LaidBlock.take" gM cM
abbrev dM:Stmt:=cy (top 58) 4
theorem ga:aq ["self","group","instruction"] mB (af dM):=aC
theorem kL:BdM "take_group" "LaidBlock.take_group" dM mB:=by intro _ _ _ _ _ _ u l;obtain⟨_,_,rfl⟩:=ex2 u l;rfl
abbrev dP (K:Frag) (C:Addr):Prop:=jw K C "take_group" "LaidBlock.take_group" dM mB
abbrev dw:Stmt:=cy (top 58) 5
theorem kf:aq ["self"] eM (af dw):=aC
theorem kr:BdM "fill_bundle" "LaidBlock.fill_bundle" dw eM:=by intro _ _ _ _ _ _ u l;obtain⟨_,rfl⟩:=ex1 u l;rfl
abbrev dA (K:Frag) (C:Addr):Prop:=jw K C "fill_bundle" "LaidBlock.fill_bundle" dw eM
abbrev kZ:Stmt:=top 59
theorem kA:aq ["count","bits"] nR (af kZ):=aC
theorem wP:Bd "least_bits" kZ nR:=by intro _ _ _ _ _ _ u l;obtain⟨_,rfl⟩:=ex1 u l;rfl
abbrev mf:Stmt:=top 60
theorem xy:aq ["block"] pQ (af mf):=aC
theorem wO:Bd "bundles_of" mf pQ:=by intro _ _ _ _ _ _ u l;obtain⟨_,rfl⟩:=ex1 u l;rfl
abbrev vp:Stmt:=top 61
theorem ES:aq ["instruction","size"] BD (af vp):=aC
theorem EE:Bd "placed" vp BD:=by intro _ _ _ _ _ _ u l;obtain⟨_,_,rfl⟩:=ex2 u l;rfl
abbrev zn:Stmt:=top 62
theorem GG:aq ["count"] nR (af zn):=aC
theorem G5:Bd "stops" zn nR:=by intro _ _ _ _ _ _ u l;obtain⟨_,rfl⟩:=ex1 u l;rfl
abbrev jX:Stmt:=top 63
theorem ja:aq ["block","size","words","instruction"] Au (af jX):=aC
theorem vm:Bd "block_words" jX Au:=by intro _ _ _ _ _ _ u l;obtain⟨_,_,rfl⟩:=ex2 u l;rfl
abbrev oq:Stmt:=top 64
theorem eV:aq ["blocks","size","places","number","block","at","begin"] Bb (af oq):=aC
theorem zg:Bd "places_of" oq Bb:=by intro _ _ _ _ _ _ u l;obtain⟨_,_,rfl⟩:=ex2 u l;rfl
abbrev e_:Stmt:=top 65
theorem bZ:aq ["blocks","room","gates","m","s","size","code","block"] yB (af e_):=aC
theorem rg:Bd "code_of_blocks" e_ yB:=by intro _ _ _ _ _ _ u l;obtain⟨_,_,_,rfl⟩:=ex3 u l;rfl
abbrev jD:Stmt:=top 67
theorem zJ:aq ["instruction"] cS (af jD):=aC
theorem zq:Bd "is_access" jD cS:=by intro _ _ _ _ _ _ u l;obtain⟨_,rfl⟩:=ex1 u l;rfl
abbrev eY:Stmt:=top 68
theorem rV:aq ["instruction"] cS (af eY):=aC
theorem rF:Bd "access_by_mask" eY cS:=by intro _ _ _ _ _ _ u l;obtain⟨_,rfl⟩:=ex1 u l;rfl
abbrev cO:Stmt:=top 69
theorem br:aq ["instruction","b","n"] cS (af cO):=aC
theorem uO:Bd "masked_group" cO cS:=by intro _ _ _ _ _ _ u l;obtain⟨_,rfl⟩:=ex1 u l;rfl
abbrev je:Stmt:=top 70
theorem fG:aq ["block","laid","instruction","group"] pQ (af je):=aC
theorem uN:Bd "masked_block" je pQ:=by intro _ _ _ _ _ _ u l;obtain⟨_,rfl⟩:=ex1 u l;rfl
abbrev zS:Stmt:=top 71
theorem IK:aq ["guest","room","gates"] pT (af zS):=aC
theorem IN:Bd "make" zS pT:=by intro _ _ _ _ _ _ u l;obtain⟨_,_,_,rfl⟩:=ex3 u l;rfl
abbrev gz:Stmt:=cy (top 73) 0
theorem qP:aq ["self","room"] Cq (af gz):=aC
theorem rO:BdM "__init__" "Known.__init__" gz Cq:=by intro _ _ _ _ _ _ u l;obtain⟨_,_,rfl⟩:=ex2 u l;rfl
abbrev gD (K:Frag) (C:Addr):Prop:=jw K C "__init__" "Known.__init__" gz Cq
abbrev i_:Stmt:=cy (top 73) 1
theorem uH:aq ["self"] eM (af i_):=aC
theorem uv:BdM "forget" "Known.forget" i_ eM:=by intro _ _ _ _ _ _ u l;obtain⟨_,rfl⟩:=ex1 u l;rfl
abbrev jd (K:Frag) (C:Addr):Prop:=jw K C "forget" "Known.forget" i_ eM
abbrev fY:Stmt:=cy (top 73) 2
theorem o5:aq ["self","instruction"] cM (af fY):=aC
theorem pj:BdM "thin_group" "Known.thin_group" fY cM:=by intro _ _ _ _ _ _ u l;obtain⟨_,_,rfl⟩:=ex2 u l;rfl
abbrev fO (K:Frag) (C:Addr):Prop:=jw K C "thin_group" "Known.thin_group" fY cM
abbrev fj:Stmt:=cy (top 73) 3
theorem ii:aq ["self","instruction","group","member"] Ch (af fj):=aC
theorem oh:BdM "learn_group" "Known.learn_group" fj Ch:=by intro _ _ _ _ _ _ u l;obtain⟨_,_,_,rfl⟩:=ex3 u l;rfl
abbrev fu (K:Frag) (C:Addr):Prop:=jw K C "learn_group" "Known.learn_group" fj Ch
abbrev fZ:Stmt:=cy (top 73) 4
theorem iG:aq ["self","member","box"] Ay (af fZ):=aC
theorem o9:BdM "is_lost_by" "Known.is_lost_by" fZ Ay:=by intro _ _ _ _ _ _ u l;obtain⟨_,_,rfl⟩:=ex2 u l;rfl
abbrev fN (K:Frag) (C:Addr):Prop:=jw K C "is_lost_by" "Known.is_lost_by" fZ Ay
abbrev iD:Stmt:=top 74
theorem dB:aq ["block","room","laid","known","instruction","group"] AD (af iD):=aC
theorem sJ:Bd "thinned_block" iD AD:=by intro _ _ _ _ _ _ u l;obtain⟨_,_,rfl⟩:=ex2 u l;rfl
abbrev yT:Stmt:=top 75
theorem IF:aq ["guest","room","gates"] pT (af yT):=aC
theorem Ig:Bd "thin" yT pT:=by intro _ _ _ _ _ _ u l;obtain⟨_,_,_,rfl⟩:=ex3 u l;rfl
abbrev sD:Stmt:=top 77
theorem Dy:aq ["plan","place"] Cj (af sD):=aC
theorem Dz:Bd "in_room" sD Cj:=by intro _ _ _ _ _ _ u l;obtain⟨_,_,rfl⟩:=ex2 u l;rfl
abbrev fM:Stmt:=cy (top 78) 0
theorem pz:aq ["self","plan","gates","boxes","memory","replies"] Ap (af fM):=aC
theorem pf:BdM "__init__" "Holding.__init__" fM Ap:=by intro _ _ _ _ _ _ u l;obtain⟨_,_,_,_,_,_,rfl⟩:=ex6 u l;rfl
abbrev fQ (K:Frag) (C:Addr):Prop:=jw K C "__init__" "Holding.__init__" fM Ap
abbrev fz:Stmt:=cy (top 78) 1
theorem io:aq ["self","instruction","sort"] cM (af fz):=aC
theorem mU:BdM "carry_out" "Holding.carry_out" fz cM:=by intro _ _ _ _ _ _ u l;obtain⟨_,_,rfl⟩:=ex2 u l;rfl
abbrev fr (K:Frag) (C:Addr):Prop:=jw K C "carry_out" "Holding.carry_out" fz cM
abbrev ir:Stmt:=cy (top 78) 2
theorem gT:aq ["self","instruction","a","reached"] cM (af ir):=aC
theorem sP:BdM "reach" "Holding.reach" ir cM:=by intro _ _ _ _ _ _ u l;obtain⟨_,_,rfl⟩:=ex2 u l;rfl
abbrev ix (K:Frag) (C:Addr):Prop:=jw K C "reach" "Holding.reach" ir cM
abbrev kl:Stmt:=cy (top 78) 3
theorem jp:aq ["self","n","used","reply"] Ca (af kl):=aC
theorem wv:BdM "ask" "Holding.ask" kl Ca:=by intro _ _ _ _ _ _ u l;obtain⟨_,_,rfl⟩:=ex2 u l;rfl
abbrev kB (K:Frag) (C:Addr):Prop:=jw K C "ask" "Holding.ask" kl Ca
abbrev fK:Stmt:=cy (top 79) 0
theorem o6:aq ["self","code","place","holding"] An (af fK):=aC
theorem pw:BdM "__init__" "Machine.__init__" fK An:=by intro _ _ _ _ _ _ u l;obtain⟨_,_,_,_,rfl⟩:=ex4 u l;rfl
abbrev fS (K:Frag) (C:Addr):Prop:=jw K C "__init__" "Machine.__init__" fK An
abbrev gL:Stmt:=cy (top 79) 1
theorem eD:aq ["self","most","end","instruction"] Aq (af gL):=aC
theorem qM:BdM "run_on" "Machine.run_on" gL Aq:=by intro _ _ _ _ _ _ u l;obtain⟨_,_,rfl⟩:=ex2 u l;rfl
abbrev gA (K:Frag) (C:Addr):Prop:=jw K C "run_on" "Machine.run_on" gL Aq
abbrev mt:Stmt:=cy (top 79) 2
theorem kd:aq ["self","instruction","sort","end"] cM (af mt):=aC
theorem wY:BdM "do" "Machine.do" mt cM:=by intro _ _ _ _ _ _ u l;obtain⟨_,_,rfl⟩:=ex2 u l;rfl
abbrev lM (K:Frag) (C:Addr):Prop:=jw K C "do" "Machine.do" mt cM
abbrev eh:Stmt:=cy (top 79) 3
theorem gj:aq ["self","instruction","held"] cM (af eh):=aC
theorem lz:BdM "place_ahead" "Machine.place_ahead" eh cM:=by intro _ _ _ _ _ _ u l;obtain⟨_,_,rfl⟩:=ex2 u l;rfl
abbrev d_ (K:Frag) (C:Addr):Prop:=jw K C "place_ahead" "Machine.place_ahead" eh cM
abbrev GZ:Stmt:=top 80
theorem vJ:aq ["plan","code","stand","replies","most","holding","machine","end","behind"] AQ (af GZ):=aC
theorem Kj:Bd "run" GZ AQ:=by intro _ _ _ _ _ _ u l;obtain⟨_,_,_,_,_,rfl⟩:=ex5 u l;rfl
abbrev oN:Stmt:=top 82
theorem df:aq ["_law_state","_law_many_here","_law_script","_law_k","_law_digit","_law_cell"] iq (af oN):=aC
theorem Aj:Bd "_law_draw" oN iq:=by intro _ _ _ _ _ _ u l;obtain⟨_,_,rfl⟩:=ex2 u l;rfl
abbrev iK:Stmt:=top 83
theorem pL:aq ["_law_some"] [] (af iK):=aC
theorem wT:Bd "_law_sorts" iK []:=by intro _ _ _ _ _ _ u l;obtain rfl:=ex0 u l;rfl
abbrev jL:Stmt:=top 84
theorem iT:aq ["_law_state","_law_k","_law_base","_law_m"] r6 (af jL):=aC
theorem yC:Bd "_law_plan" jL r6:=by intro _ _ _ _ _ _ u l;obtain⟨_,rfl⟩:=ex1 u l;rfl
abbrev iQ:Stmt:=top 85
theorem pR:aq ["_law_state","_law_plan_here","_law_kind"] nW (af iQ):=aC
theorem xC:Bd "_law_value" iQ nW:=by intro _ _ _ _ _ _ u l;obtain⟨_,_,rfl⟩:=ex2 u l;rfl
abbrev gh:Stmt:=top 86
theorem xl:aq ["_law_state","_law_plan_here","_law_many_here"] DM (af gh):=aC
theorem wU:Bd "_law_boxes" gh DM:=by intro _ _ _ _ _ _ u l;obtain⟨_,_,_,rfl⟩:=ex3 u l;rfl
abbrev ky:Stmt:=top 87
theorem eK:aq ["_law_state","_law_plan_here","_law_within_here","_law_found","_law_k","_law_place"] D6 (af ky):=aC
theorem vX:Bd "_law_memory" ky D6:=by intro _ _ _ _ _ _ u l;obtain⟨_,_,_,rfl⟩:=ex3 u l;rfl
abbrev g_:Stmt:=top 88
theorem oO:aq ["_law_state","_law_some"] r6 (af g_):=aC
theorem wm:Bd "_law_number" g_ r6:=by intro _ _ _ _ _ _ u l;obtain⟨_,rfl⟩:=ex1 u l;rfl
abbrev gm:Stmt:=top 89
theorem fC:aq ["_law_state","_law_plan_here","_law_sort","_law_many_here","_law_a","_law_b","_law_c","_law_name"] Bp (af gm):=aC
theorem xk:Bd "_law_inner" gm Bp:=by intro _ _ _ _ _ _ u l;obtain⟨_,_,_,_,rfl⟩:=ex4 u l;rfl
abbrev jA:Stmt:=top 90
theorem zL:aq ["_law_state","_law_many_here"] iq (af jA):=aC
theorem zv:Bd "_law_last" jA iq:=by intro _ _ _ _ _ _ u l;obtain⟨_,_,rfl⟩:=ex2 u l;rfl
abbrev jC:Stmt:=top 91
theorem zC:aq ["_law_state","_law_few","_law_most"] Al (af jC):=aC
theorem zT:Bd "_law_many" jC Al:=by intro _ _ _ _ _ _ u l;obtain⟨_,_,_,rfl⟩:=ex3 u l;rfl
abbrev iM:Stmt:=top 92
theorem fF:aq ["_law_state","_law_plan_here","_law_many_here","_law_guest_here","_law_k","_law_block"] nW (af iM):=aC
theorem xI:Bd "_law_guest" iM nW:=by intro _ _ _ _ _ _ u l;obtain⟨_,_,rfl⟩:=ex2 u l;rfl
abbrev nE:Stmt:=top 93
theorem gn:aq ["_law_guest_here","_law_plan_here","_law_thinned","_law_found"] DH (af nE):=aC
theorem zR:Bd "_law_made" nE DH:=by intro _ _ _ _ _ _ u l;obtain⟨_,_,_,rfl⟩:=ex3 u l;rfl
abbrev jO:Stmt:=top 94
theorem i6:aq ["_law_plan_here","_law_memory_here","_law_found","_law_place"] A3 (af jO):=aC
theorem wL:Bd "_law_beyond" jO A3:=by intro _ _ _ _ _ _ u l;obtain⟨_,_,rfl⟩:=ex2 u l;rfl
abbrev nq:Stmt:=top 95
theorem lf:aq ["_law_spans","_law_boxes_here","_law_span","_law_v"] AA (af nq):=aC
theorem yH:Bd "_law_hold" nq AA:=by intro _ _ _ _ _ _ u l;obtain⟨_,_,rfl⟩:=ex2 u l;rfl
abbrev hG:Stmt:=top 96
theorem bc:aq ["_law_plan_here","_law_code","_law_stand","_law_replies","_law_most","_law_spans","_law_host","_law_far","_law_left","_law_turn","_law_end","_law_rows","_law_turns"] Ej (af hG):=aC
theorem vR:Bd "_law_within" hG Ej:=by intro _ _ _ _ _ _ u l;obtain⟨_,_,_,_,_,rfl⟩:=ex5 u l;rfl
abbrev DQ:Stmt:=top 97
theorem gq:aq ["_law_script","_law_state","_law_plan_here","_law_guest_here","_law_boxes_here","_law_memory_here","_law_replies","_law_thinned","_law_found","_law_own","_law_code","_law_places","_law_at","_law_most"] Jh (af DQ):=aC
theorem Kl:Bd "law" DQ Jh:=by intro _ _ _ _ _ _ u l;obtain⟨_,rfl⟩:=ex1 u l;rfl
structure eR (K:Frag) (C:Addr):Prop where
 plan:W.findIn K (.ref C) "plan"=some none
 gates:W.findIn K (.ref C) "gates"=some none
 boxes:W.findIn K (.ref C) "boxes"=some none
 memory:W.findIn K (.ref C) "memory"=some none
 replies:W.findIn K (.ref C) "replies"=some none
 rows:W.findIn K (.ref C) "rows"=some none
structure gB (K:Frag) (C:Addr):Prop where
 code:W.findIn K (.ref C) "code"=some none
 place:W.findIn K (.ref C) "place"=some none
 holding:W.findIn K (.ref C) "holding"=some none
 turns:W.findIn K (.ref C) "turns"=some none
structure bV (K:Frag) (C:Addr):Prop where
 instructions:W.findIn K (.ref C) "instructions"=some none
 begins:W.findIn K (.ref C) "begins"=some none
 length:W.findIn K (.ref C) "length"=some none
structure lW (K:Frag) (C:Addr):Prop where
 plan:W.findIn K (.ref C) "plan"=some none
 spans:W.findIn K (.ref C) "spans"=some none
 fitted:W.findIn K (.ref C) "fitted"=some none
section
variable (K) (mg)
abbrev nh:=Def K mg "power_of_two" jm mh
abbrev Gs:=Def K mg "rest" Ds kN
abbrev D4:=Def K mg "zeros" Ae pe
abbrev BN:=Def K mg "signed" vz kN
abbrev rX:=Def K mg "field_bits" lc Gi
abbrev nA:=Def K mg "field_number" jt FX
abbrev rQ:=Def K mg "first_word" lY cS
abbrev vQ:=Def K mg "words_of" qa cS
abbrev tG:=Def K mg "length_of" og cS
abbrev gk:=Def K mg "one_word_instruction" cs G7
abbrev kP:=Def K mg "instruction_at" gP EN
abbrev wk:=Def K mg "made_box" pV cS
abbrev oA:=Def K mg "joined_value" i8 Fa
abbrev t_:=Def K mg "fit_value" nF wM
abbrev tU:=Def K mg "aim_value" ox wM
abbrev se:=Def K mg "made_value" lP Ar
abbrev rj:=Def K mg "whole_span" kX []
abbrev kI:=Def K mg "multiples_span" gO By
abbrev As:=Def K mg "single" u_ pe
abbrev tV:=Def K mg "is_single" oy tH
abbrev oH:=Def K mg "settled_span" i4 gw
abbrev tE:=Def K mg "kept_span" ni gw
abbrev vD:=Def K mg "add_span" qJ cT
abbrev wJ:=Def K mg "sub_span" ql cT
abbrev wt:=Def K mg "and_span" qf cT
abbrev ym:=Def K mg "or_span" sG Cf
abbrev tT:=Def K mg "less_span" nr cT
abbrev tS:=Def K mg "left_span" oa cT
abbrev q_:=Def K mg "right_span" lF cT
abbrev pM:=Def K mg "joined_span" ku BZ
abbrev ua:=Def K mg "more_span" ng Ba
abbrev wb:=Def K mg "fit_span" qz pN
abbrev wK:=Def K mg "aim_span" qk pN
abbrev pE:=Def K mg "first_spans" jQ []
abbrev tF:=Def K mg "made_span" oE ig
abbrev oJ:=Def K mg "spans_behind" iW ig
abbrev mI:=Def K mg "may_reach_out" iy ig
abbrev n_:=Def K mg "is_no_target" iX AI
abbrev tI:=Def K mg "is_no_way" nU A5
abbrev rC:=Def K mg "is_no_word" lx Bo
abbrev vb:=Def K mg "fault_of" qH Cp
abbrev ik:=Def K mg "instruction_let_by" eI A2
abbrev pO:=Def K mg "spans_ahead" jN pF
abbrev EB:=Def K mg "check" zY pF
abbrev rB:=Def K mg "least_bits" kZ nR
abbrev r8:=Def K mg "bundles_of" mf pQ
abbrev A9:=Def K mg "placed" vp BD
abbrev El:=Def K mg "stops" zn nR
abbrev pJ:=Def K mg "block_words" jX Au
abbrev uf:=Def K mg "places_of" oq Bb
abbrev kO:=Def K mg "code_of_blocks" e_ yB
abbrev tZ:=Def K mg "is_access" jD cS
abbrev kF:=Def K mg "access_by_mask" eY cS
abbrev nM:=Def K mg "masked_group" cO cS
abbrev oG:=Def K mg "masked_block" je pQ
abbrev Hn:=Def K mg "make" zS pT
abbrev mJ:=Def K mg "thinned_block" iD AD
abbrev Gy:=Def K mg "thin" yT pT
abbrev yn:=Def K mg "in_room" sD Cj
abbrev Jp:=Def K mg "run" GZ AQ
abbrev uc:=Def K mg "_law_draw" oN iq
abbrev rT:=Def K mg "_law_sorts" iK []
abbrev tK:=Def K mg "_law_plan" jL r6
abbrev rD:=Def K mg "_law_value" iQ nW
abbrev qU:=Def K mg "_law_boxes" gh DM
abbrev pC:=Def K mg "_law_memory" ky D6
abbrev pS:=Def K mg "_law_number" g_ r6
abbrev rN:=Def K mg "_law_inner" gm Bp
abbrev uh:=Def K mg "_law_last" jA iq
abbrev tO:=Def K mg "_law_many" jC Al
abbrev rE:=Def K mg "_law_guest" iM nW
abbrev tD:=Def K mg "_law_made" nE DH
abbrev pG:=Def K mg "_law_beyond" jO A3
abbrev tJ:=Def K mg "_law_hold" nq AA
abbrev pI:=Def K mg "_law_within" hG Ej
end
def iJ:Sp:=fun vs H Q _=>∃n:Nat,vs=[.int n]/\n<=64/\Q (.int (2^n)) H
def iu:Sp:=fun vs H Q _=>∃(v:Int) (n:Nat),vs=[.int v,.int n]/\n<=64/\Q (.int (v %2^n)) H
def BJ:Sp:=fun vs H Q _=>∃(v:Int) (n:Nat),vs=[.int v,.int ((n:Int)+1)]/\n<=63/\Q (.int (if v < 2^n then v else v - 2^(n+1))) H
theorem uK (B:Bi mg) (D:nh K mg):Has P w K mg base 1 "power_of_two" mh iJ:=by
 refine D.has fH (fun vs H Q E h=> ?_) (fun f cdv A outer s H vs Q E hr h=> ?_)
 .obtain⟨n,rfl,_⟩:=h
  rfl
 obtain⟨n,rfl,hn,q⟩:=h
 refine⟨_,(aa (psS 1 fH.nd ac)
   (aa (aO (fB PassesOwn.never (by rfl) (f_ (by rfl) B.range (pa1 (pv 0))) (aN (i:=2) fH.nd (by rfl) (by left;rfl)) (ae (psS 1 fH.nd (av cf (pv 1) ac)))))
   (ae (ah (pv 1))))),?_⟩
 try dsimp only[aT]
 refine⟨_,rfl,n,rfl,by lia,by lia,oU (fun i Z H'=>H'=H/\∃st,Z=[some (.int n),some (.int (2^i)),st]) ⟨rfl,none,rfl⟩ ?_ ?_⟩
 .rintro i Z H' hi ⟨rfl,st,rfl⟩
  exact⟨_,rfl,_,_,rfl,rfl,.inr ⟨by decide,by decide⟩,rfl,_,rfl⟩
 .rintro Z H' ⟨rfl,st,rfl⟩
  exact⟨_,rfl,q⟩
theorem HM (B:Bi mg) (D:Gs K mg) (ao:Has P w K mg base 1 "power_of_two" mh iJ):Has P w K mg base 2 "rest" kN iu:=by
 refine D.has IU (fun vs H Q E h=> ?_) (fun f cdv A outer s H vs Q E hr h=> ?_)
 .obtain⟨v,n,rfl,_⟩:=h
  rfl
 obtain⟨v,n,rfl,hn,q⟩:=h;refine⟨_,(ae (ah (av dJ (pv 0) (pcH ao hr (pa1 (pv 1)))))),?_⟩
 try dsimp only[aT]
 exact⟨_,rfl,_,rfl,n,rfl,hn,_,_,rfl,rfl,Int.pow_pos (by decide),q⟩
theorem Fs (B:Bi mg) (D:BN K mg) (ao:Has P w K mg base 1 "power_of_two" mh iJ):Has P w K mg base 2 "signed" kN BJ:=by
 refine D.has E5 (fun vs H Q E h=> ?_) (fun f cdv A outer s H vs Q E hr h=> ?_)
 .obtain⟨v,n,rfl,_⟩:=h
  rfl
 obtain⟨v,n,rfl,hn,q⟩:=h
 refine⟨_,(aa (ax (pcT iI (pv 0) (pcH ao hr (pa1 (av bL (pv 1) ac)))) (ae (ah (pv 0))) al)
   (ae (ah (av bL (pv 0) (pcH ao hr (pa1 (pv 1))))))),?_⟩
 try dsimp only[aT]
 refine⟨_,rfl,_,rfl,_,_,rfl,rfl,n,(by show[V.int ((n:Int)+1 - 1)]=[V.int n];rw[Int.add_sub_cancel]),by lia,_,_,rfl,rfl,_,rfl,?_⟩
 refine bz (fun c=> ?_) (fun c=> ?_)
 .rw[if_pos c] at q;exact⟨_,rfl,q⟩
 .rw[if_neg c] at q;exact⟨_,rfl,_,rfl,n+1,rfl,by lia,_,_,rfl,rfl,q⟩
def uZ:Sp:=fun vs H Q _=>∃v:Int,vs=[.int v]/\Q (.int (SpM.Zn v:Nat)) H
theorem Gj (B:Bi mg) (D:D4 K mg):Has P w K mg base 1 "zeros" pe uZ:=by
 refine D.has oK (fun vs H Q E h=> ?_) (fun f cdv A outer s H vs Q E hr h=> ?_)
 .obtain⟨v,rfl,_⟩:=h
  rfl
 obtain⟨v,rfl,q⟩:=h;have hv:=SpM.Zn_case v;generalize SpM.Zn v=t at q hv
 refine⟨_,(aa (ax (pcT aD (pv 0) ac) (ae (ah ac)) al)
   (aa (psS 1 oK.nd ac)
   (aa (psS 2 oK.nd (aI vZ (by rfl) B.abs Dd (pa1 (pv 0))))
   (aa (aO (kE PassesOwn.never (pcT aD (av dJ (pv 2) ac) ac) (aa (psS 2 oK.nd (av cZ (pv 2) ac))
   (ae (psS 1 oK.nd (av aU (pv 1) ac))))))
   (ae (ah (pv 1))))))),?_⟩
 try dsimp only[aT]
 refine⟨_,rfl,rfl,_,rfl,?_⟩
 refine bz (fun c=> ?_) (fun c=> ?_)
 .have c':v=0:=by injection c
  rcases hv with⟨_,rfl⟩|⟨u,e⟩
  .exact q
  .rw[c'] at e;have:=Nat.mul_pos (show 0 < 2*u+1 by lia) (Nat.pow_pos (n:=t) (show 0 < 2 by decide))
   simp only[Int.natAbs_zero] at e
   lia
 .have c':v≠0:=fun z=>c (by rw[z])
  rcases hv with⟨e,_⟩|⟨u,e⟩
  .exact absurd e c'
  refine⟨_,rfl,v,rfl,?_⟩
  refine⟨fun m Z H'=>H'=H/\m<=t/\Z=[some (.int v),some (.int ((t:Int) - m)),some (.int ((2*u+1)*2^m))],⟨t,rfl,Nat.le_refl t,?_⟩,?_⟩
  .have e1:(if v < 0 then -v else v)=(2*(u:Int)+1)*2^t:=by
    have:((v.natAbs:Nat):Int)=(2*(u:Int)+1)*2^t:=by rw[e];push_cast;rfl
    rw[<- this]
    split <;> lia
   show[some (V.int v),some (.int 0),some (.int (if v < 0 then -v else v))]=_
   rw[e1,Int.sub_self]
  .rintro m Z H' ⟨rfl,hm,rfl⟩
   refine⟨_,rfl,_,_,rfl,rfl,(by decide:(0:Int) < 2),rfl,_,rfl,?_⟩
   refine bz (fun c=> ?_) (fun c=> ?_)
   .have c1:((2*(u:Int)+1)*2^m) %2=0:=by injection c
    cases m with
    | zero=>rw[Int.pow_zero,Int.mul_one] at c1;lia
    | succ m=>
     walk_at "n";refine⟨fun Z' H1=>H1=H'/\Z'=[some (.int v),some (.int ((t:Int) - m)),some (.int ((2*u+1)*2^m))],fun Z' H1 h=>⟨m,Nat.lt_succ_self m,h.1,by lia,h.2⟩,?_⟩
     refine⟨_,rfl,_,_,rfl,rfl,⟨by decide,by decide⟩,_,rfl,_,_,rfl,rfl,rfl,?_⟩
     have e2:(2*(u:Int)+1)*2^(m+1) / 2=(2*u+1)*2^m:=by
      rw[Int.pow_succ, <-Int.mul_assoc,Int.mul_ediv_cancel _ (by decide)]
     have e3:(t:Int) - ((m+1:Nat):Int)+1=t - m:=by lia
     show[some (V.int v),some (.int ((t:Int) - ((m+1:Nat):Int)+1)),some (.int ((2*(u:Int)+1)*2^(m+1) / 2))]=_
     rw[e2,e3]
   .cases m with
    | zero=>
     refine⟨_,rfl,?_⟩
     have e4:(t:Int) - ((0:Nat):Int)=t:=by lia
     rw[e4];exact q
    | succ m=>
     exfalso
     apply c
     show V.int (((2*(u:Int)+1)*2^(m+1)) %2)=V.int 0
     rw[Int.pow_succ, <-Int.mul_assoc,Int.mul_emod_left]
def qb:List Str:=["stop","put","add","sub","and","or","xor","less","left","right","more","load","store","jump","jumpif","through","fit","aim","gate"]
def HS:List (List Str):=[[],["a"],["a","b","c"],["a","b","c"],["a","b","c"],["a","b","c"],["a","b","c"],["a","b","c"],["a","b","c"],["a","b","c"],["a","b","move"],["a","b","move"],["a","b","move"],["n"],["a","n"],["b"],["a","b"],["a","b"],["n"]]
def aV (k:Nat):Str:=qb.getD k ""
def aR (k:Nat):List Str:=HS.getD k []
def Em (f:Str) (n:Int):Int:=if f="a" then n*16777216 else if f="b" then n*2097152 else if f="c" then n*262144 else n %262144
def ge (f:Str) (w:Int):Int:=if f="a" then w / 16777216 %8 else if f="b" then w / 2097152 %8 else if f="c" then w / 262144 %8 else if f="move" then(if w %262144 < 131072 then w %262144 else w %262144 - 262144) else w %262144
def HR (acc:Int) (p:Str × Int):Int:=acc+Em p.1 p.2
def cC (k:Nat) (ns:List Int):Int:=((aR k).zip ns).foldl HR (k*134217728)
def aE (k:Nat) (ns:List Int):List V:= .str (aV k)::ns.map V.int
structure Tb (K:Frag) (mg:Str->Option Value) (prm:Params):Prop where
 sorts:∃a,mg "SORTS"=some (.ref a)/\fT K a (qb.map V.str)
 fields:∃a kvs,mg "FIELDS"=some (.ref a)/\SqD prm K a kvs/\∀k,k < 19->∃b,kvs.lookup (aV k)=some (.ref b)/\fT K b ((aR k).map V.str)
def Ly:Sp:=fun vs H Q _=>∃(f:Str) (n:Int),vs=[.str f,.int n]/\Q (.int (Em f n)) H
def Ll:Sp:=fun vs H Q _=>∃(f:Str) (n:Int),vs=[.str f,.int n]/\Q (.int (ge f n)) H
def JX (K:Frag):Sp:=fun vs H Q _=>∃(a:Addr) (k:Nat) (ns:List Int),vs=[.ref a]/\k < 19/\SqT K H a (aE k ns)/\∀H',az H H'->Q (.int (cC k ns)) H'
theorem xB (B:Bi mg) (D:rX K mg) (aY:Has P w K mg base 2 "rest" kN iu):Has P w K mg base 3 "field_bits" Gi Ly:=by
 refine D.has wZ (fun vs H Q E h=> ?_) (fun f cdv A outer s H vs Q E hr h=> ?_)
 .obtain⟨f,n,rfl,_⟩:=h
  rfl
 obtain⟨fl,n,rfl,q⟩:=h;unfold Em at q
 refine⟨_,(aa (ax (pcT aD (pv 0) aw) (ae (ah (av cf (pv 1) (b_ (v:=16777216) (by rfl))))) al)
   (aa (ax (pcT aD (pv 0) aw) (ae (ah (av cf (pv 1) (b_ (v:=2097152) (by rfl))))) al)
   (aa (ax (pcT aD (pv 0) aw) (ae (ah (av cf (pv 1) (b_ (v:=262144) (by rfl))))) al)
   (ae (ah (pcH aY hr (pa2 (pv 1) ac))))))),?_⟩
 try dsimp only[aT]
 walk_at "g";refine bz (fun c=> ?_) (fun c=> ?_)
 .have c':fl="a":=by injection c
  rw[if_pos c'] at q;walk_at "g";exact q
 have c':¬fl="a":=fun z=>c (by rw[z])
 rw[if_neg c'] at q;walk_at "g";refine bz (fun c=> ?_) (fun c=> ?_)
 .have c':fl="b":=by injection c
  rw[if_pos c'] at q;walk_at "g";exact q
 have c':¬fl="b":=fun z=>c (by rw[z])
 rw[if_neg c'] at q;walk_at "g";refine bz (fun c=> ?_) (fun c=> ?_)
 .have c':fl="c":=by injection c
  rw[if_pos c'] at q;walk_at "g";exact q
 have c':¬fl="c":=fun z=>c (by rw[z])
 rw[if_neg c'] at q;walk_at "g";exact q
theorem uF (B:Bi mg) (D:nA K mg) (aY:Has P w K mg base 2 "rest" kN iu) (wB:Has P w K mg base 2 "signed" kN BJ):Has P w K mg base 3 "field_number" FX Ll:=by
 refine D.has ut (fun vs H Q E h=> ?_) (fun f cdv A outer s H vs Q E hr h=> ?_)
 .obtain⟨f,n,rfl,_⟩:=h
  rfl
 obtain⟨fl,n,rfl,q⟩:=h;unfold ge at q
 refine⟨_,(aa (ax (pcT aD (pv 0) aw) (ae (ah (pcH aY hr (pa2 (av cZ (pv 1) (b_ (v:=16777216) (by rfl))) ac)))) al)
   (aa (ax (pcT aD (pv 0) aw) (ae (ah (pcH aY hr (pa2 (av cZ (pv 1) (b_ (v:=2097152) (by rfl))) ac)))) al)
   (aa (ax (pcT aD (pv 0) aw) (ae (ah (pcH aY hr (pa2 (av cZ (pv 1) (b_ (v:=262144) (by rfl))) ac)))) al)
   (aa (ax (pcT aD (pv 0) aw) (ae (ah (pcH wB hr (pa2 (pcH aY hr (pa2 (pv 1) ac)) ac)))) al)
   (ae (ah (pcH aY hr (pa2 (pv 1) ac)))))))),?_⟩
 try dsimp only[aT]
 walk_at "g";refine bz (fun c=> ?_) (fun c=> ?_)
 .have c':fl="a":=by injection c
  rw[if_pos c'] at q;walk_at "g";exact q
 have c':¬fl="a":=fun z=>c (by rw[z])
 rw[if_neg c'] at q;walk_at "g";refine bz (fun c=> ?_) (fun c=> ?_)
 .have c':fl="b":=by injection c
  rw[if_pos c'] at q;walk_at "g";exact q
 have c':¬fl="b":=fun z=>c (by rw[z])
 rw[if_neg c'] at q;walk_at "g";refine bz (fun c=> ?_) (fun c=> ?_)
 .have c':fl="c":=by injection c
  rw[if_pos c'] at q;walk_at "g";exact q
 have c':¬fl="c":=fun z=>c (by rw[z])
 rw[if_neg c'] at q;walk_at "g";refine bz (fun c=> ?_) (fun c=> ?_)
 .have c':fl="move":=by injection c
  rw[if_pos c'] at q;walk_at "g";exact q
 have c':¬fl="move":=fun z=>c (by rw[z])
 rw[if_neg c'] at q;walk_at "g";exact q
theorem EQ {fs:List Str}{ns:List Int}{i:Nat}{f:Str}{n a:Int}(h1:fs[i]? =some f) (h2:ns[i]? =some n):((fs.zip ns).take (i+1)).foldl HR a=((fs.zip ns).take i).foldl HR a+Em f n:=by
 have e:(fs.zip ns)[i]? =some (f,n):=by rw[List.getElem?_zip_eq_some];exact⟨h1,h2⟩
 rw[List.take_succ,e,List.foldl_append]
 rfl
theorem cP {α β:Type}{g:α->β}{l:List α}{i:Nat}{y:β}(h:(l.map g)[i]? =some y):∃x,l[i]? =some x/\g x=y:=by
 rw[List.getElem?_map] at h
 cases e:l[i]? with
 | none=>rw[e] at h;cases h
 | some x=>rw[e] at h;exact⟨x,rfl,by cases h;rfl⟩
theorem CN:∀k,k < 19->AL (.str (aV k)) (qb.map V.str) 0=some k:=by decide +kernel
theorem LZ (x:V) (xs:List V):fe (x::xs) (some 1) none=xs:=by
 unfold fe
 simp [HT.sIx]
theorem JH {x:V}{xs:List V}{B:Prop}:¬(HT.sIx (x::xs).length 0 (some 1)=0/\B):=by
 rintro⟨h,_⟩
 simp [HT.sIx] at h
theorem wR (B:Bi mg) (T:Tb K mg w.params) (D:rQ K mg) (lK:Has P w K mg base 3 "field_bits" Gi Ly):Has P w K mg base 4 "first_word" cS (JX K):=by
 obtain⟨u5,uX,HZ⟩:=T.sorts;obtain⟨vW,kvs,vT,FL,t_F⟩:=T.fields;refine D.has dY (fun vs H Q E h=> ?_) (fun f cdv A outer s H vs Q E hr h=> ?_)
 .obtain⟨a,k,ns,rfl,_⟩:=h
  rfl
 obtain⟨a,k,ns,rfl,hk,ha,q⟩:=h;obtain⟨b,e_b,t_b⟩:=t_F k hk
 refine⟨_,(aa (psS 1 dY.nd (pX ak (pv 0) ac))
   (aa (psS 2 dY.nd (av cf (nS PySem.F.plainAttrs_tuple PySem.F.slot_tuple_index PySem.F.type_tuple_index Fr (lC (v:= .ref u5) (by rfl) uX (by rfl)) (pa1 (pv 1))) (b_ (v:=134217728) (by rfl))))
   (aa (aO (fB PassesOwn.never (by rfl) (GY (by rfl) B.zip (pa2 (FR Je (lC (v:= .ref vW) (by rfl) vT (by rfl)) (pv 1) (by intro _ _;rfl)) (c_ kc (pv 0) (eC ac) eB))) (sO (n:=2) (by rfl) (bE (aN (i:=3) dY.nd (by rfl) (by left;rfl)) (bE (aN (i:=4) dY.nd (by rfl) (by left;rfl)) jM))) (ae (psS 2 dY.nd (av aU (pv 2) (pcH lK hr (pa2 (pv 3) (pv 4))))))))
   (ae (ah (pv 2)))))),?_⟩
 try dsimp only[aT]
 walk_at "g";refine⟨GX (CN k hk),?_⟩
 walk_at "g";refine⟨?_⟩
 walk_at "g";refine⟨JH,fun p hp=> ?_⟩
 have hc:fe (aE k ns) (some 1) none=ns.map V.int:=LZ _ _;refine⟨false,false,b,p,rfl,⟨_,t_b.sq⟩,⟨_,SqT.of ad⟩,?_⟩
 rw[hc];refine Et (xs:=(aR k).map V.str) (ys:=ns.map V.int) (fun i Z H'=>aG (az (upd H p (.tup (ns.map V.int))) H'/\∃x y,Z=[some (.ref a),some (.str (aV k)),some (.int ((((aR k).zip ns).take i).foldl HR (k*134217728))),x,y])) ⟨az.refl _,_,_,rfl⟩ ?_ ?_ ?_
 .rintro i Z H' ⟨hs,x,y,rfl⟩
  exact⟨t_b.sq,hs.tup (SqT.of ad)⟩
 .rintro i x y r Z H' hx hy ⟨hs,u,v,rfl⟩ hr'
  obtain⟨fx,ex,rfl⟩:=cP hx;obtain⟨ny,ey,rfl⟩:=cP hy;walk_at "g";rw[EQ ex ey];exact⟨bM hr' hs,_,_,rfl⟩
 .rintro Z H' ⟨hs,x,y,rfl⟩
  walk_at "g";have hl:((aR k).zip ns).take (min ((aR k).map V.str).length (ns.map V.int).length)=(aR k).zip ns:=by
   rw[List.length_map,List.length_map, <-List.length_zip,List.take_length]
  rw[hl];exact q _ ((ag hp _).trans hs)
def d8 (k:Nat) (ns:List Int):List Int:=if k=1 then[cC k ns,ns.getD 1 0] else[cC k ns]
theorem kG:∀k,k < 19->(V.str (aV k)=V.str "put"↔k=1):=by decide +kernel
theorem Li {k:Nat}{ns:List Int}(h:2<=ns.length):atI (aE k ns) 2=some (.int (ns.getD 1 0)):=by
 match ns,h with
 | x::y::r,_=>exact pi
 | [_],h=>exact absurd h (by simp)
 | [],h=>exact absurd h (by simp)
def KN (K:Frag):Sp:=fun vs H Q _=>∃(a:Addr) (k:Nat) (ns:List Int),vs=[.ref a]/\k < 19/\(k=1->2<=ns.length)/\SqT K H a (aE k ns)/\∀p H',H p=none->H' p=some (.lst ((d8 k ns).map V.int))->az H H'->Q (.ref p) H'
def EL (K:Frag):Sp:=fun vs H Q _=>∃(a:Addr) (k:Nat) (ns:List Int),vs=[.ref a]/\k < 19/\SqT K H a (aE k ns)/\Q (.int (if k=1 then 2 else 1)) H
theorem B0 (B:Bi mg) (D:vQ K mg) (dO:Has P w K mg base 4 "first_word" cS (JX K)):Has P w K mg base 5 "words_of" cS (KN K):=by
 refine D.has Ax (fun vs H Q E h=> ?_) (fun f cdv A outer s H vs Q E hr h=> ?_)
 .obtain⟨a,k,ns,rfl,_⟩:=h
  rfl
 obtain⟨a,k,ns,rfl,hk,h2,ha,q⟩:=h;unfold d8 at q
 refine⟨_,(aa (ax (pcT aD (pX ak (pv 0) ac) aw) (ae (ah (cw (pa2 (pcH dO hr (pa1 (pv 0))) (pX ak (pv 0) ac))))) al)
   (ae (ah (cw (pa1 (pcH dO hr (pa1 (pv 0)))))))),?_⟩
 try dsimp only[aT]
 walk_at "g";refine bz (fun c=> ?_) (fun c=> ?_)
 .have c':=(kG k hk).mp c;rw[if_pos c'] at q;walk_at "g";intro H1 s1;walk_at "g";refine⟨Li (h2 c'),?_⟩
  walk_at "g";intro p hp;exact q p _ (s1.free hp) ad (bM hp s1)
 .have c':¬k=1:=fun z=>c ((kG k hk).mpr z)
  rw[if_neg c'] at q;walk_at "g";intro H1 s1;walk_at "g";intro p hp;exact q p _ (s1.free hp) ad (bM hp s1)
theorem yP (B:Bi mg) (D:tG K mg):Has P w K mg base 1 "length_of" cS (EL K):=by
 refine D.has zG (fun vs H Q E h=> ?_) (fun f cdv A outer s H vs Q E hr h=> ?_)
 .obtain⟨a,k,ns,rfl,_⟩:=h
  rfl
 obtain⟨a,k,ns,rfl,hk,ha,q⟩:=h;refine⟨_,(ae (ah (vS (pcT aD (pX ak (pv 0) ac) aw) ac ac))),?_⟩
 try dsimp only[aT]
 walk_at "g";refine bz (fun c=> ?_) (fun c=> ?_)
 .rw[if_pos ((kG k hk).mp c)] at q;exact q
 .rw[if_neg fun z=>c ((kG k hk).mpr z)] at q
  exact q
def owi (wd:Int):Option (Nat × List Int):=
 if 19<=wd / 134217728 then none else if cC (wd / 134217728).toNat ((aR (wd / 134217728).toNat).map fun f=>ge f wd)=wd then some ((wd / 134217728).toNat,(aR (wd / 134217728).toNat).map fun f=>ge f wd) else none
def Jz (K:Frag) (H:Hp):Option (Nat × List Int)->V->Prop
 | none,v=>v= .non
 | some (k,ns),v=>∃a,v= .ref a/\SqT K H a (aE k ns)
def Jo (K:Frag):Sp:=fun vs H Q _=>∃wd:Int,vs=[.int wd]/\0<=wd/\∀v H',az H H'->Jz K H' (owi wd) v->Q v H'
theorem DC {k:Nat}(hk:k < 19):atI (qb.map V.str) (k:Int)=some (.str (aV k)):=by
 refine aJ ?_
 have:∀k,k < 19->(qb.map V.str)[k]? =some (.str (aV k)):=by decide +kernel
 exact this k hk
theorem xf {α β:Type}{g:α->β}{l:List α}{i:Nat}{x:α}(h:l[i]? =some x):(l.take (i+1)).map g=(l.take i).map g++[g x]:=by
 rw[List.take_succ,h,List.map_append]
 rfl
theorem wn (k:Nat):(aR k).length<=3:=by
 by_cases hk:k < 19
 .have:∀k,k < 19->(aR k).length<=3:=by decide +kernel
  exact this k hk
 .unfold aR;rw[List.getD_eq_getElem?_getD,List.getElem?_eq_none (by show 19<=k;lia)]
  exact Nat.zero_le _
theorem kQ (B:Bi mg) (T:Tb K mg w.params) (D:gk K mg) (dO:Has P w K mg base 4 "first_word" cS (JX K)) (i9:Has P w K mg base 3 "field_number" FX Ll):
  Has P w K mg base 5 "one_word_instruction" G7 (Jo K):=by
 obtain⟨u5,uX,HZ⟩:=T.sorts;obtain⟨vW,kvs,vT,FL,t_F⟩:=T.fields;refine D.has bD (fun vs H Q E h=> ?_) (fun f cdv A outer s H vs Q E hr h=> ?_)
 .obtain⟨wd,rfl,_⟩:=h
  rfl
 obtain⟨wd,rfl,h0,q⟩:=h
 refine⟨_,(aa (psS 1 bD.nd (av cZ (pv 0) (b_ (v:=134217728) (by rfl))))
   (aa (aO (bq (ax (PW.pt (iF (pcT iI (pv 1) ac) (gf (pcT jH (pv 1) (aI aM (by rfl) B.len dk (pa1 (lC (v:= .ref u5) (by rfl) uX (by rfl)))))))) (ae (ah d5)) al)))
   (aa (psS 2 bD.nd (pX ak (lC (v:= .ref u5) (by rfl) uX (by rfl)) (pv 1)))
   (aa (zP (i:=3) (by rfl) (by rfl) (by rfl) (bk (sc0:=af cs) (N0:=["word","number","sort","numbers","instruction"]) ["field","word"] 1 [0]) bD.nd (by rfl) (by left;rfl) (ll (FR Je (lC (v:= .ref vW) (by rfl) vT (by rfl)) (pv 2) (by intro _ _;rfl))) (fun _ _ _ _=>(aN (i:=0) (show List.Nodup (["field","word"]:List Str) by decide) (by rfl) (by left;rfl))) (fun _ _ _ _=>(pcH i9 hr (pa2 (pv 0) (pv 1)))))
   (aa (psS 4 bD.nd (bN hU (by rfl) B.tuple il (pa1 (av sH (cw (pa1 (pv 2))) (pv 3)))))
   (aa (ax (pcT ug (pcH dO hr (pa1 (pv 4))) (pv 0)) (ae (ah d5)) al)
   (ae (ah (pv 4))))))))),?_⟩
 try dsimp only[aT]
 unfold owi at q;walk_at "g";refine⟨fun Z' H'=>aG (H'=H/\wd / 134217728 < 19/\Z'=[some (.int wd),some (.int (wd / 134217728)),none,none,none]),?_,?_⟩
 .walk_at "g";refine cA (by lia) ?_
  walk_at "g";refine bz (fun c=> ?_) (fun c=> ?_)
  .have c':19<=wd / 134217728:=c;rw[if_pos c'] at q;exact q _ _ (az.refl H) rfl
  .exact⟨rfl,by have c':¬19<=wd / 134217728:=c;lia,rfl⟩
 rintro Z1 H1 ⟨rfl,h19,rfl⟩
 rw[if_neg (by lia)] at q
 obtain⟨k,ek⟩:∃k:Nat,wd / 134217728=k:=⟨(wd / 134217728).toNat,by lia⟩
 rw[ek,Int.toNat_natCast] at q;rw[ek];have hk:k < 19:=by lia
 obtain⟨b,e_b,t_b⟩:=t_F k hk;walk_at "g";refine⟨DC hk,?_⟩
 walk_at "g"
 first | refine⟨⟨_,t_b.sq⟩,?_⟩ | skip
 intro p hp;refine rR (xs:=(aR k).map V.str) (fun i ys H'=>aG (i<=3/\ys=((aR k).take i).map (fun f=>V.int (ge f wd))/\H' p=some (.lst ys)/\az H1 H')) ⟨by lia,rfl,ad,ag hp _⟩ (fun _ _ _ _=>t_b.sq) ?_ ?_
 .rintro i x ys H2 F hF hx ⟨hi,rfl,hp2,s2⟩
  obtain⟨fx,ex,rfl⟩:=cP hx;have hi2:i < (aR k).length:=(List.getElem?_eq_some_iff.mp ex).1;have hl3:=wn k;walk_at "g";refine⟨?_,hF _ _ ⟨by lia,?_,ad,cr hp s2⟩⟩
  .rw[List.length_map,List.length_take];exact Nat.lt_of_le_of_lt (Nat.min_le_left _ _) (Nat.lt_of_le_of_lt hi (by decide))
  .rw[xf ex]
 rintro ys H2 ⟨_,rfl,hp2,s2⟩
 rw[List.length_map,List.take_length] at hp2;walk_at "g";intro l hl;walk_at "g";have hlen:[V.str (aV k)].length+((aR k).map fun f=>V.int (ge f wd)).length<=sizeLine:=by
  have:=wn k;rw[List.length_map];exact Nat.le_trans (show 1+(aR k).length<=4 by lia) (by decide)
 refine⟨hlen,fun r hr2=> ?_⟩
 refine⟨_,_,rfl,.inl ⟨SqL.of ad,fun t ht=> ?_⟩⟩
 have hv:[V.str (aV k)]++(aR k).map (fun f=>V.int (ge f wd))=aE k ((aR k).map fun f=>ge f wd):=by
  unfold aE;rw[List.map_map]
  rfl
 rw[hv];rw[hv] at ht;have s3:az H1 (upd (upd (upd H2 l (.lst [V.str (aV k)])) r (.lst (aE k ((aR k).map fun f=>ge f wd)))) t (.tup (aE k ((aR k).map fun f=>ge f wd)))):=bM ht (bM hr2 (bM hl s2))
 walk_at "g";intro H3 s4;walk_at "g";refine LP (fun c=> ?_) (fun c=> ?_)
 .have c':¬cC k ((aR k).map fun f=>ge f wd)=wd:=fun z=>by rw[z] at c;simp at c
  rw[if_neg c'] at q;exact q _ _ (s3.trans s4) rfl
 .have c':cC k ((aR k).map fun f=>ge f wd)=wd:=by simpa using c
  rw[if_pos c'] at q;walk_at "g";exact q _ _ (s3.trans s4) ⟨t,rfl,s4.tup (SqT.of ad)⟩
def ic (ws:List Int) (i:Int):Option (Nat × List Int):=
 if i < 0 then none else match ws[i.toNat]? with
  | none=>none
  | some wd=>match owi wd with
   | none=>none
   | some (k,ns)=>if k=1 then(match ws[i.toNat+1]? with | none=>none | some v=>some (1,[ns.getD 0 0,v])) else some (k,ns)
def JU (K:Frag):Sp:=fun vs H Q _=>∃(a:Addr) (ws:List Int) (i:Int),vs=[.ref a,.int i]/\SqL K H a (ws.map V.int)/\(∀ x∈ws,0<=x)/\∀v H',az H H'->Jz K H' (ic ws i) v->Q v H'
theorem IV {wd:Int}{ns:List Int}(h:owi wd=some (1,ns)):∃x,ns=[x]:=by
 unfold owi at h
 split at h
 .cases h
 .split at h
  .have h:=Option.some.inj h;have h1:(wd / 134217728).toNat=1:=congrArg Prod.fst h;have h2:=congrArg Prod.snd h;dsimp only at h2;rw[h1] at h2;exact⟨_,h2.symm⟩
  .cases h
theorem Gh {wd:Int}{k:Nat}{ns:List Int}(h0:0<=wd) (h:owi wd=some (k,ns)):k < 19:=by
 unfold owi at h
 split at h
 .cases h
 .split at h
  .have h:=Option.some.inj h;have h1:(wd / 134217728).toNat=k:=congrArg Prod.fst h
   lia
  .cases h
theorem qZ (B:Bi mg) (D:kP K mg) (dR:Has P w K mg base 5 "one_word_instruction" G7 (Jo K)):Has P w K mg base 6 "instruction_at" EN (JU K):=by
 refine D.has jB (fun vs H Q E h=> ?_) (fun f cdv A outer s H vs Q E hr h=> ?_)
 .obtain⟨a,ws,i,rfl,_⟩:=h
  rfl
 obtain⟨a,ws,i,rfl,ha,hw,q⟩:=h
 refine⟨_,(aa (aO (bq (ax (PW.pt (iF (pcT iI (pv 1) ac) (gf (pcT jH (pv 1) (aI aM (by rfl) B.len dk (pa1 (pv 0))))))) (ae (ah d5)) al)))
   (aa (psS 2 jB.nd (pcH dR hr (pa1 (pX bF (pv 0) (pv 1)))))
   (aa (aO (bq (ax (PW.pt (iF (lZ (qD (pv 2))) (gf (pcT ug (pX ak (pv 2) ac) aw)))) (ae (ah (pv 2))) al)))
   (aa (ax (pcT aD (av aU (pv 1) ac) (aI aM (by rfl) B.len dk (pa1 (pv 0)))) (ae (ah d5)) al)
   (ae (ah (aA (pa3 aw (pX ak (pv 2) ac) (pX bF (pv 0) (av aU (pv 1) ac)))))))))),?_⟩
 try dsimp only[aT]
 unfold ic at q;walk_at "n";refine⟨fun Z' H'=>aG (H'=H/\0<=i/\i < ws.length/\Z'=[some (.ref a),some (.int i),none]),?_,?_⟩
 .walk_at "g";refine bz (fun c=> ?_) (fun c=> ?_)
  .have c':i < 0:=c;rw[if_pos c'] at q;exact y_ (q _ _ (az.refl H) rfl)
  have c':¬i < 0:=c;rw[if_neg c'] at q;walk_at "g";refine bz (fun c=> ?_) (fun c=> ?_)
  .have c2:(((ws.map V.int).length:Nat):Int)<=i:=c;rw[List.length_map] at c2;rw[List.getElem?_eq_none (by lia)] at q
   exact q _ _ (az.refl H) rfl
  .have c2:¬(((ws.map V.int).length:Nat):Int)<=i:=c;rw[List.length_map] at c2;exact⟨rfl,by lia,by lia,rfl⟩
 rintro Z1 H1 ⟨rfl,hi0,hi1,rfl⟩
 rw[if_neg (by lia)] at q
 obtain⟨j,rfl⟩:∃j:Nat,i=j:=Int.eq_ofNat_of_zero_le (by first | assumption | lia)
 rw[Int.toNat_natCast] at q;have hj:j < ws.length:=by lia
 rw[List.getElem?_eq_getElem hj] at q;dsimp only at q;have hg:atI (ws.map V.int) (j:Int)=some (.int ws[j]):=aJ (by rw[List.getElem?_map,List.getElem?_eq_getElem hj];rfl)
 have hw0:=hw _ (List.getElem_mem hj);walk_at "g";intro v H2 s2 hv
 cases ho:owi ws[j] with
 | none=>
  rw[ho] at q hv
  cases hv
  walk_at "g";refine⟨fun _ _=>aG False,?_,fun _ _ z=>z.out.elim⟩
  walk_at "g";exact q _ _ s2 rfl
 | some kn=>
  obtain⟨k,ns⟩:=kn;rw[ho] at q hv;have hk:=Gh hw0 ho;obtain⟨p,rfl,hp⟩:=hv;dsimp only at q;walk_at "g";refine⟨fun Z' H'=>aG (H'=H2/\k=1/\Z'=[some (.ref a),some (.int j),some (.ref p)]),?_,?_⟩
  .walk_at "g";refine LP (fun c=> ?_) (fun c=> ?_)
   .have c':¬k=1:=fun z=>by rw[decide_eq_true ((kG k hk).mpr z)] at c;cases c
    rw[if_neg c'] at q;walk_at "g";exact q _ _ s2 ⟨p,rfl,hp⟩
   .have c':k=1:=(kG k hk).mp (by simpa using c)
    exact⟨rfl,c',rfl⟩
  rintro Z2 H3 ⟨rfl,rfl,rfl⟩
  obtain⟨x,rfl⟩:=IV ho;rw[if_pos rfl] at q;walk_at "g";refine bz (fun c=> ?_) (fun c=> ?_)
  .have c':(j:Int)+1=(((ws.map V.int).length:Nat):Int):=by injection c
   rw[List.length_map] at c';rw[List.getElem?_eq_none (by lia)] at q
   exact q _ _ s2 rfl
  .have c':¬(j:Int)+1=(((ws.map V.int).length:Nat):Int):=fun z=>c (congrArg V.int z)
   rw[List.length_map] at c';have hj2:j+1 < ws.length:=by lia
   rw[List.getElem?_eq_getElem hj2] at q;have hg2:atI (ws.map V.int) ((j:Int)+1)=some (.int ws[j+1]):=aJ (j:=j+1) (by rw[List.getElem?_map,List.getElem?_eq_getElem hj2];rfl)
   walk_at "g";intro r hr2;exact q _ _ (bM hr2 s2) ⟨r,rfl,SqT.of ad⟩
def aK (bx mo:Int) (k:Nat) (ns:List Int):Prop:=
 (k=0/\ns=[])\/(k=1/\∃a v,ns=[a,v]/\0<=a/\a < bx/\0<=v/\v < 4294967296)\/(2<=k/\k<=9/\∃a b c,ns=[a,b,c]/\0<=a/\a < bx/\0<=b/\b < bx/\0<=c/\c < bx)\/
 (10<=k/\k<=12/\∃a b n,ns=[a,b,n]/\0<=a/\a < bx/\0<=b/\b < bx/\ -131072<=n/\n < 131072)\/((k=13\/k=18)/\∃n,ns=[n]/\0<=n/\n < mo)\/(k=14/\∃a n,ns=[a,n]/\0<=a/\a < bx/\0<=n/\n < mo)\/
 (k=15/\∃b,ns=[b]/\0<=b/\b < bx)\/((k=16\/k=17)/\∃a b,ns=[a,b]/\0<=a/\a < bx/\0<=b/\b < bx)
theorem DU:∀k,k < 19->∀j,j < 19->k≠j->¬V.str (aV k)=V.str (aV j):=by decide +kernel
theorem Mb (w:Int):0<=ge "a" w/\ge "a" w < 8:=by
 have e:ge "a" w=w / 16777216 %8:=rfl
 lia
theorem Mu (w:Int):0<=ge "b" w/\ge "b" w < 8:=by
 have e:ge "b" w=w / 2097152 %8:=rfl
 lia
theorem Md (w:Int):0<=ge "c" w/\ge "c" w < 8:=by
 have e:ge "c" w=w / 262144 %8:=rfl
 lia
theorem Mm (w:Int):0<=ge "n" w/\ge "n" w < 262144:=by
 have e:ge "n" w=w %262144:=rfl
 lia
theorem Me (w:Int): -131072<=ge "move" w/\ge "move" w < 131072:=by
 have e:ge "move" w=if w %262144 < 131072 then w %262144 else w %262144 - 262144:=rfl
 rw[e]
 split <;> lia
theorem ud {ws:List Int}{i:Int}{k:Nat}{ns:List Int}(hw:∀x∈ws,0<=x/\x < 4294967296) (h:ic ws i=some (k,ns)):aK 8 262144 k ns:=by
 unfold ic at h
 split at h
 .cases h
 .split at h
  .cases h
  .rename_i wd hwd
   split at h
   .cases h
   .rename_i k' ns' ho
    have w0:=(hw wd (List.mem_of_getElem? hwd)).1;have hk:=Gh w0 ho;have hns:ns'=(aR k').map fun f=>ge f wd:=by
     unfold owi at ho
     split at ho
     .cases ho
     .split at ho
      .have e:=Option.some.inj ho;have e1:=congrArg Prod.fst e;have e2:=congrArg Prod.snd e;dsimp only at e1 e2;rw[<- e1, <-e2]
      .cases ho
    have fa:=Mb wd;have fb:=Mu wd;have fc:=Md wd;have fn:=Mm wd;have fm:=Me wd
    by_cases h1:k'=1
    .rw[if_pos h1] at h;subst h1
     split at h
     .cases h
     .rename_i v hv
      cases h
      have e:ns'=[ge "a" wd]:=hns;have v2:=hw v (List.mem_of_getElem? hv);exact .inr (.inl ⟨rfl,_,_,rfl,by rw[e];exact fa.1,by rw[e];exact fa.2,v2.1,v2.2⟩)
    .rw[if_neg h1] at h
     cases h
     obtain rfl | rfl | rfl | rfl | rfl | rfl | rfl | rfl | rfl | rfl | rfl | rfl | rfl | rfl | rfl | rfl | rfl | rfl:k=0\/k=2\/k=3\/k=4\/k=5\/k=6\/k=7\/k=8\/k=9\/k=10\/k=11\/k=12\/k=13\/k=14\/k=15\/k=16\/k=17\/k=18:=(show ∀k < 19, ¬k=1->k=0\/k=2\/k=3\/k=4\/k=5\/k=6\/k=7\/k=8\/k=9\/k=10\/k=11\/k=12\/k=13\/k=14\/k=15\/k=16\/k=17\/k=18 by set_option synthInstance.maxSize 4000 in decide) k hk (by assumption)
     .exact .inl ⟨rfl,hns⟩
     iterate 8 exact .inr (.inr (.inl ⟨by decide,by decide,_,_,_,hns,fa.1,fa.2,fb.1,fb.2,fc.1,fc.2⟩))
     iterate 3 exact .inr (.inr (.inr (.inl ⟨by decide,by decide,_,_,_,hns,fa.1,fa.2,fb.1,fb.2,fm.1,fm.2⟩)))
     .exact .inr (.inr (.inr (.inr (.inl ⟨.inl rfl,_,hns,fn.1,fn.2⟩))))
     .exact .inr (.inr (.inr (.inr (.inr (.inl ⟨rfl,_,_,hns,fa.1,fa.2,fn.1,fn.2⟩)))))
     .exact .inr (.inr (.inr (.inr (.inr (.inr (.inl ⟨rfl,_,hns,fb.1,fb.2⟩))))))
     .exact .inr (.inr (.inr (.inr (.inr (.inr (.inr ⟨.inl rfl,_,_,hns,fa.1,fa.2,fb.1,fb.2⟩))))))
     .exact .inr (.inr (.inr (.inr (.inr (.inr (.inr ⟨.inr rfl,_,_,hns,fa.1,fa.2,fb.1,fb.2⟩))))))
     .exact .inr (.inr (.inr (.inr (.inl ⟨.inr rfl,_,hns,fn.1,fn.2⟩))))
abbrev Tr (H:Hp) (a:Addr) (s:SpM.Span):Prop:=H a=some (.tup [.int s.lo,.int s.hi,.int s.z])
def qi:Sp:=fun vs H Q _=>∃(lo hi:Int) (z:Nat),vs=[.int lo,.int hi,.int z]/\∀p H',az H H'->Tr H' p (SpM.settled lo hi z)->Q (.ref p) H'
theorem Dh {lo hi:Int}{z:Nat}(h:lo=hi):SpM.settled lo hi z=SpM.single lo:=if_pos h
theorem C6 {lo hi:Int}{z:Nat}(h:lo≠hi):SpM.settled lo hi z=⟨lo,hi,z⟩:=if_neg h
theorem qR (a b:Nat):(if (b:Int) < (a:Int) then(b:Int) else(a:Int))=((min a b:Nat):Int):=by split <;> lia
theorem IM (a b:Nat):(if (b:Int) >(a:Int) then(b:Int) else(a:Int))=((max a b:Nat):Int):=by split <;> lia
theorem Ic (a b:Int):(if b < a then b else a)=min a b:=by split <;> lia
theorem IH (a b:Int):(if b >a then b else a)=max a b:=by split <;> lia
theorem Br (l:List Int) {r:Int}(h0:0<=r) (h1:r < l.length):∃i,i∈l/\atI (l.map V.int) r=some (.int i):=by
 have hk:r.toNat < l.length:=by lia
 have ek:r=((r.toNat:Nat):Int):=by lia
 have q:atI (l.map V.int) ((r.toNat:Nat):Int)=some (.int l[r.toNat]):=aJ (by rw[List.getElem?_map,List.getElem?_eq_getElem hk] <;> rfl)
 rw[<- ek] at q;exact⟨_,List.getElem_mem hk,q⟩
theorem Be {lo hi:Int}{z:Nat}(h:lo < 0\/4294967296<=hi):SpM.kept lo hi z=SpM.all z:=if_pos h
theorem HD {lo hi:Int}{z:Nat}(h:¬(lo < 0\/4294967296<=hi)):SpM.kept lo hi z=SpM.settled lo hi z:=if_neg h
def rA:Sp:=fun vs H Q _=>vs=[]/\∀p H',az H H'->Tr H' p SpM.whole->Q (.ref p) H'
def F2:Sp:=fun vs H Q _=>∃z:Nat,vs=[.int z]/\z<=32/\∀p H',az H H'->Tr H' p (SpM.all z)->Q (.ref p) H'
def kH:Sp:=fun vs H Q _=>∃v:Int,vs=[.int v]/\∀p H',az H H'->Tr H' p (SpM.single v)->Q (.ref p) H'
def A_ (K:Frag):Sp:=fun vs H Q _=>∃(a:Addr) (s:SpM.Span),vs=[.ref a]/\Tr H a s/\Q (.bl (decide (s.lo=s.hi))) H
def wu:Sp:=fun vs H Q _=>∃(lo hi:Int) (z:Nat),vs=[.int lo,.int hi,.int z]/\z<=32/\∀p H',az H H'->Tr H' p (SpM.kept lo hi z)->Q (.ref p) H'
def mD (g:SpM.Span->SpM.Span->SpM.Span):Sp:=fun vs H Q _=>∃(a b:Addr) (l r:SpM.Span),vs=[.ref a,.ref b]/\Tr H a l/\Tr H b r/\SpM.Sv l/\SpM.Sv r/\∀p H',az H H'->Tr H' p (g l r)->Q (.ref p) H'
theorem wX (B:Bi mg) (D:rj K mg):Has P w K mg base 1 "whole_span" [] rA:=by
 refine D.has xx (fun vs H Q E h=> ?_) (fun f cdv A outer s H vs Q E hr h=> ?_)
 .obtain⟨rfl,_⟩:=h
  rfl
 obtain⟨rfl,q⟩:=h;refine⟨_,(ae (ah (aA (pa3 ac (av bL (b_ (v:=4294967296) (by rfl)) ac) ac)))),?_⟩
 try dsimp only[aT]
 walk_at "g";intro p hp;exact q p _ (ag hp _) ad
theorem rS (B:Bi mg) (D:kI K mg) (ao:Has P w K mg base 1 "power_of_two" mh iJ):Has P w K mg base 2 "multiples_span" By F2:=by
 refine D.has si (fun vs H Q E h=> ?_) (fun f cdv A outer s H vs Q E hr h=> ?_)
 .obtain⟨z,rfl,_⟩:=h
  rfl
 obtain⟨z,rfl,hz,q⟩:=h;refine⟨_,(ae (ah (aA (pa3 ac (av bL (b_ (v:=4294967296) (by rfl)) (pcH ao hr (pa1 (pv 0)))) (pv 0))))),?_⟩
 try dsimp only[aT]
 walk_at "g";intro p hp;exact q p _ (ag hp _) ad
theorem EI (B:Bi mg) (D:As K mg) (iR:Has P w K mg base 1 "zeros" pe uZ):Has P w K mg base 2 "single" pe kH:=by
 refine D.has Fw (fun vs H Q E h=> ?_) (fun f cdv A outer s H vs Q E hr h=> ?_)
 .obtain⟨v,rfl,_⟩:=h
  rfl
 obtain⟨v,rfl,q⟩:=h;refine⟨_,(ae (ah (aA (pa3 (pv 0) (pv 0) (pcH iR hr (pa1 (pv 0))))))),?_⟩
 try dsimp only[aT]
 walk_at "g";intro p hp;exact q p _ (ag hp _) ad
theorem zp (B:Bi mg) (D:tV K mg):Has P w K mg base 1 "is_single" tH (A_ K):=by
 refine D.has yG (fun vs H Q E h=> ?_) (fun f cdv A outer s H vs Q E hr h=> ?_)
 .obtain⟨a,sp,rfl,_⟩:=h
  rfl
 obtain⟨a,sp,rfl,ht,q⟩:=h;refine⟨_,(ae (ah (pcE aD (pX ak (pv 0) ac) (pX ak (pv 0) ac)))),?_⟩
 try dsimp only[aT]
 walk_at "g";have e:decide (V.int sp.lo=V.int sp.hi)=decide (sp.lo=sp.hi):=by
  by_cases h:sp.lo=sp.hi
  .rw[decide_eq_true h,h,decide_eq_true rfl]
  .rw[decide_eq_false h,decide_eq_false (fun z=>h (by injection z))]
 rw[<- e] at q;exact q
theorem uw (B:Bi mg) (D:oH K mg) (cq:Has P w K mg base 2 "single" pe kH):Has P w K mg base 3 "settled_span" gw qi:=by
 refine D.has uA (fun vs H Q E h=> ?_) (fun f cdv A outer s H vs Q E hr h=> ?_)
 .obtain⟨lo,hi,z,rfl,_⟩:=h
  rfl
 obtain⟨lo,hi,z,rfl,q⟩:=h
 refine⟨_,(aa (ax (pcT aD (pv 0) (pv 1)) (ae (ah (pcH cq hr (pa1 (pv 0))))) al)
   (ae (ah (aA (pa3 (pv 0) (pv 1) (pv 2)))))),?_⟩
 try dsimp only[aT]
 walk_at "g";refine bz (fun c=> ?_) (fun c=> ?_)
 .have c':lo=hi:=by injection c
  walk_at "g";intro p H1 s1 t1;exact q p _ s1 (by rw[Dh c'];exact t1)
 .have c':lo≠hi:=fun z=>c (by rw[z])
  walk_at "g";intro p hp;exact q p _ (ag hp _) (by rw[C6 c'];exact ad)
theorem yZ (B:Bi mg) (D:tE K mg) (gH:Has P w K mg base 2 "multiples_span" By F2) (aH:Has P w K mg base 3 "settled_span" gw qi):Has P w K mg base 4 "kept_span" gw wu:=by
 refine D.has ze (fun vs H Q E h=> ?_) (fun f cdv A outer s H vs Q E hr h=> ?_)
 .obtain⟨lo,hi,z,rfl,_⟩:=h
  rfl
 obtain⟨lo,hi,z,rfl,hz,q⟩:=h
 refine⟨_,(aa (aO (bq (ax (PW.pt (iF (pcT iI (pv 0) ac) (gf (pcT jH (pv 1) (b_ (v:=4294967296) (by rfl)))))) (ae (ah (pcH gH hr (pa1 (pv 2))))) al)))
   (ae (ah (pcH aH hr (pa3 (pv 0) (pv 1) (pv 2)))))),?_⟩
 try dsimp only[aT]
 walk_at "n";refine⟨fun Z' H'=>aG (H'=H/\Z'=[some (.int lo),some (.int hi),some (.int z)]/\¬(lo < 0\/4294967296<=hi)),?_,?_⟩
 .walk_at "g";refine bz (fun c1=> ?_) (fun c1=> ?_)
  .apply y_
   walk_at "g";intro p H1 s1 t1;exact q p _ s1 (by rw[Be (Or.inl c1)];exact t1)
  .walk_at "g";refine bz (fun c2=> ?_) (fun c2=> ?_)
   .walk_at "g";intro p H1 s1 t1;exact q p _ s1 (by rw[Be (Or.inr c2)];exact t1)
   .exact⟨rfl,rfl,fun h=>h.elim c1 c2⟩
 .rintro Z1 H1 ⟨rfl,rfl,hc⟩
  walk_at "g";intro p H2 s1 t1;exact q p _ s1 (by rw[HD hc];exact t1)
theorem AB (B:Bi mg) (D:vD K mg) (bK:Has P w K mg base 4 "kept_span" gw wu):Has P w K mg base 5 "add_span" cT (mD SpM.addS):=by
 refine D.has Av (fun vs H Q E h=> ?_) (fun f cdv A outer s H vs Q E hr h=> ?_)
 .obtain⟨a,b,l,r,rfl,_⟩:=h
  rfl
 obtain⟨a,b,l,r,rfl,ha,hb,vl,vr,q⟩:=h;refine⟨_,(ae (ah (pcH bK hr (pa3 (av aU (pX ak (pv 0) ac) (pX ak (pv 1) ac)) (av aU (pX ak (pv 0) ac) (pX ak (pv 1) ac)) (aI (gG (by rfl)) (by rfl) B.min qm (pa2 (pX ak (pv 0) ac) (pX ak (pv 1) ac))))))),?_⟩
 try dsimp only[aT]
 have hz:min l.z r.z<=32:=by have:=vl.zz;lia
 walk_at "g";dsimp only;rw[qR];walk_at "g";exact q
theorem Cn (B:Bi mg) (D:wJ K mg) (bK:Has P w K mg base 4 "kept_span" gw wu):Has P w K mg base 5 "sub_span" cT (mD SpM.subS):=by
 refine D.has AM (fun vs H Q E h=> ?_) (fun f cdv A outer s H vs Q E hr h=> ?_)
 .obtain⟨a,b,l,r,rfl,_⟩:=h
  rfl
 obtain⟨a,b,l,r,rfl,ha,hb,vl,vr,q⟩:=h;refine⟨_,(ae (ah (pcH bK hr (pa3 (av bL (pX ak (pv 0) ac) (pX ak (pv 1) ac)) (av bL (pX ak (pv 0) ac) (pX ak (pv 1) ac)) (aI (gG (by rfl)) (by rfl) B.min qm (pa2 (pX ak (pv 0) ac) (pX ak (pv 1) ac))))))),?_⟩
 try dsimp only[aT]
 have hz:min l.z r.z<=32:=by have:=vl.zz;lia
 walk_at "g";dsimp only;rw[qR];walk_at "g";exact q
theorem t5 (x:Int):x %2^5=(((x %32).toNat:Nat):Int):=by show x %32=_;lia
theorem AJ (x:Int):(x %32).toNat<=64:=by lia
theorem Jn (x:Int):(x %32).toNat<=31:=by lia
theorem wx {t:Nat}(h:t<=31): -(2^64) < (2:Int)^t/\(2:Int)^t < 2^64:=by
 have h1:=SpM.pp t;have h2:=SpM.ple (show t<=32 by lia)
 rw[SpM.p32] at h2
 lia
theorem D0 {t:Nat}(h:t<=64):Bc 0 ((2:Int)^t):=⟨SpM.pp t,SpM.ple (by lia)⟩
def nm8:SpM.Op8->Str
 | .add=>"add" | .sub=>"sub" | .and=>"and" | .or=>"or" | .xor=>"xor" | .less=>"less" | .left=>"left" | .right=>"right"
def Kr:Sp:=fun vs H Q _=>∃(o:SpM.Op8) (b c:Int),vs=[.str (nm8 o),.int b,.int c]/\Q (.int (SpM.jv o b c)) H
def Ld:Sp:=fun vs H Q _=>∃(a b:Addr) (lo:Int) (l r:SpM.Span),vs=[.ref a,.ref b,.int lo]/\Tr H a l/\Tr H b r/\SpM.Sv l/\SpM.Sv r/\∀p H',az H H'->Tr H' p (SpM.orS l r lo)->Q (.ref p) H'
def Lx:Sp:=fun vs H Q _=>∃(o:SpM.Op8) (a b:Addr) (l r:SpM.Span),vs=[.str (nm8 o),.ref a,.ref b]/\Tr H a l/\Tr H b r/\SpM.Sv l/\SpM.Sv r/\∀p H',az H H'->Tr H' p (SpM.jS o l r)->Q (.ref p) H'
def Hh:Sp:=fun vs H Q _=>∃(a:Addr) (n:Int) (l:SpM.Span),vs=[.ref a,.int n]/\Tr H a l/\SpM.Sv l/\∀p H',az H H'->Tr H' p (SpM.moreS l n)->Q (.ref p) H'
theorem uG (B:Bi mg) (D:oA K mg) (ao:Has P w K mg base 1 "power_of_two" mh iJ) (aY:Has P w K mg base 2 "rest" kN iu):Has P w K mg base 3 "joined_value" Fa Kr:=by
 refine D.has mz (fun vs H Q E h=> ?_) (fun f cdv A outer s H vs Q E hr h=> ?_)
 .obtain⟨o,b,c,rfl,_⟩:=h
  rfl
 obtain⟨o,b,c,rfl,q⟩:=h
 refine⟨_,(aa (ax (pcT aD (pv 0) aw) (ae (ah (pcH aY hr (pa2 (av aU (pv 1) (pv 2)) ac)))) al)
   (aa (ax (pcT aD (pv 0) aw) (ae (ah (pcH aY hr (pa2 (av bL (pv 1) (pv 2)) ac)))) al)
   (aa (ax (pcT aD (pv 0) aw) (ae (ah (av JL (pv 1) (pv 2)))) al)
   (aa (ax (pcT aD (pv 0) aw) (ae (ah (av K5 (pv 1) (pv 2)))) al)
   (aa (ax (pcT aD (pv 0) aw) (ae (ah (av JO (pv 1) (pv 2)))) al)
   (aa (ax (pcT aD (pv 0) aw) (ae (ah (vS (pcT iI (pv 1) (pv 2)) ac ac))) al)
   (aa (psS 3 mz.nd (pcH ao hr (pa1 (pcH aY hr (pa2 (pv 2) ac)))))
   (aa (ax (pcT aD (pv 0) aw) (ae (ah (pcH aY hr (pa2 (av cf (pv 1) (pv 3)) ac)))) al)
   (ae (ah (av cZ (pv 1) (pv 3)))))))))))),?_⟩
 try dsimp only[aT]
 have hp:=wx (Jn c);have hd:=D0 (AJ c);have h5:=AJ c
 cases o
 all_goals dsimp only[nm8]
 .walk_at "g";walk_at "wd";exact q
 .walk_at "g";walk_at "wd";exact q
 .walk_at "g";walk_at "wd";exact q
 .walk_at "g";walk_at "wd";exact q
 .walk_at "g";walk_at "wd";exact q
 .walk_at "g";walk_at "wd";refine bz (fun cc=> ?_) (fun cc=> ?_)
  .have e:SpM.jv .less b c=1:=if_pos cc;rw[e] at q;exact q
  .have e:SpM.jv .less b c=0:=if_neg cc;rw[e] at q;exact q
 .walk_at "g";walk_at "wd";rw[t5];walk_at "g";walk_at "wd";exact q
 .walk_at "g";walk_at "wd";rw[t5];walk_at "g";walk_at "wd";exact q
theorem A1 (B:Bi mg) (D:wt K mg) (aY:Has P w K mg base 2 "rest" kN iu) (aH:Has P w K mg base 3 "settled_span" gw qi):Has P w K mg base 4 "and_span" cT (mD SpM.andS):=by
 refine D.has nZ (fun vs H Q E h=> ?_) (fun f cdv A outer s H vs Q E hr h=> ?_)
 .obtain⟨a,b,l,r,rfl,_⟩:=h
  rfl
 obtain⟨a,b,l,r,rfl,ha,hb,vl,vr,q⟩:=h
 refine⟨_,(aa (psS 2 nZ.nd (aI (sQ (by rfl)) (by rfl) B.max zV (pa2 (pX ak (pv 0) ac) (pX ak (pv 1) ac))))
   (aa (psS 3 nZ.nd (aI (gG (by rfl)) (by rfl) B.min qm (pa2 (pX ak (pv 0) ac) (pX ak (pv 1) ac))))
   (ae (ah (pcH aH hr (pa3 ac (av bL (pv 3) (pcH aY hr (pa2 (pv 3) (pv 2)))) (pv 2))))))),?_⟩
 try dsimp only[aT]
 have hz:max l.z r.z<=64:=by have:=vl.zz;have:=vr.zz;lia
 walk_at "g";rw[IM,Ic];walk_at "g";exact q
theorem CF (B:Bi mg) (D:ym K mg) (ao:Has P w K mg base 1 "power_of_two" mh iJ) (aH:Has P w K mg base 3 "settled_span" gw qi):Has P w K mg base 4 "or_span" Cf Ld:=by
 refine D.has lU (fun vs H Q E h=> ?_) (fun f cdv A outer s H vs Q E hr h=> ?_)
 .obtain⟨a,b,lo,l,r,rfl,_⟩:=h
  rfl
 obtain⟨a,b,lo,l,r,rfl,ha,hb,vl,vr,q⟩:=h
 refine⟨_,(aa (psS 3 lU.nd (aI (gG (by rfl)) (by rfl) B.min qm (pa2 (pX ak (pv 0) ac) (pX ak (pv 1) ac))))
   (aa (psS 4 lU.nd (pcH ao hr (pa1 (pv 3))))
   (aa (aO (kE PassesOwn.never (PW.pt (iF (pcT jH (pX ak (pv 0) ac) (pv 4)) (gf (pcT jH (pX ak (pv 1) ac) (pv 4))))) (ae (psS 4 lU.nd (av cf (pv 4) ac)))))
   (ae (ah (pcH aH hr (pa3 (pv 2) (av bL (pv 4) (pcH ao hr (pa1 (pv 3)))) (pv 3)))))))),?_⟩
 try dsimp only[aT]
 have hz:min l.z r.z<=64:=by have:=vl.zz;lia
 have hz2:min l.z r.z<=32:=by have:=vl.zz;lia
 have w1:=vl.hW;have w2:=vr.hW;walk_at "g";rw[qR];walk_at "g";refine⟨fun m Z H'=>H'=H/\∃j,j+m=min l.z r.z+33/\SpM.jf l.hi r.hi (min l.z r.z)=SpM.jst l.hi r.hi m j/\Z=[some (.ref a),some (.ref b),some (.int lo),some (.int (min l.z r.z:Nat)),some (.int (2^j))],⟨33,rfl,_,rfl,rfl,rfl⟩,?_⟩
 rintro m Z H' ⟨rfl,j,hj,hf,rfl⟩
 have big:m=0->(4294967296:Int) < 2^j:=fun h=>by
  have:=SpM.plt (show 32 < j by lia)
  rw[SpM.p32] at this;exact this
 have next:((2:Int)^j<=l.hi\/(2:Int)^j<=r.hi)->∃m',m=m'+1/\SpM.jf l.hi r.hi (min l.z r.z)=SpM.jst l.hi r.hi m' (j+1):=fun hc=>by
  cases m with
  | zero=>have:=big rfl;lia
  | succ m'=>
   refine⟨m',rfl,?_⟩
   rw[hf];show(if _ then _ else _)=_
   rw[if_pos hc]
 have stop:¬((2:Int)^j<=l.hi\/(2:Int)^j<=r.hi)->SpM.jf l.hi r.hi (min l.z r.z)=j:=fun hc=>by
  rw[hf]
  cases m with
  | zero=>rfl
  | succ m'=>
   show(if _ then _ else _)=_
   rw[if_neg hc]
 have turn:((2:Int)^j<=l.hi\/(2:Int)^j<=r.hi)->∃m',m' < m/\(m'=m - 1)/\SpM.jf l.hi r.hi (min l.z r.z)=SpM.jst l.hi r.hi m' (j+1):=fun hc=>by
  obtain⟨m',e,h⟩:=next hc;exact⟨m',by lia,by lia,h⟩
 have e2:(2:Int)^j*2=2^(j+1):=(Int.pow_succ _ _).symm;walk_at "g";refine bz (fun c1=> ?_) (fun c1=> ?_)
 .obtain⟨m',h1,h2,h3⟩:=turn (Or.inl c1);apply y_
  walk_at "n";refine⟨fun Z' H2=>aG (H2=H'/\Z'=[some (.ref a),some (.ref b),some (.int lo),some (.int (min l.z r.z:Nat)),some (.int (2^(j+1)))]),fun Z' H2 h=>⟨m',h1,h.out.1,j+1,by lia,h3,h.out.2⟩,?_⟩
  walk_at "g";dsimp only;rw[e2];exact⟨rfl,rfl⟩
 .walk_at "g";refine bz (fun c2=> ?_) (fun c2=> ?_)
  .obtain⟨m',h1,h2,h3⟩:=turn (Or.inr c2);walk_at "n";refine⟨fun Z' H2=>aG (H2=H'/\Z'=[some (.ref a),some (.ref b),some (.int lo),some (.int (min l.z r.z:Nat)),some (.int (2^(j+1)))]),fun Z' H2 h=>⟨m',h1,h.out.1,j+1,by lia,h3,h.out.2⟩,?_⟩
   walk_at "g";dsimp only;rw[e2];exact⟨rfl,rfl⟩
  .have e3:=stop (fun h=>h.elim c1 c2)
   walk_at "g";unfold SpM.orS at q;rw[e3] at q;exact q
theorem yV (B:Bi mg) (D:tT K mg) (cq:Has P w K mg base 2 "single" pe kH):Has P w K mg base 3 "less_span" cT (mD SpM.lessS):=by
 refine D.has zt (fun vs H Q E h=> ?_) (fun f cdv A outer s H vs Q E hr h=> ?_)
 .obtain⟨a,b,l,r,rfl,_⟩:=h
  rfl
 obtain⟨a,b,l,r,rfl,ha,hb,vl,vr,q⟩:=h
 refine⟨_,(aa (ax (pcT iI (pX ak (pv 0) ac) (pX ak (pv 1) ac)) (ae (ah (pcH cq hr (pa1 ac)))) al)
   (aa (ax (pcT jH (pX ak (pv 0) ac) (pX ak (pv 1) ac)) (ae (ah (pcH cq hr (pa1 ac)))) al)
   (ae (ah (aA (cj (by rfl))))))),?_⟩
 try dsimp only[aT]
 unfold SpM.lessS at q;walk_at "g";refine bz (fun c1=> ?_) (fun c1=> ?_)
 .rw[if_pos c1] at q;walk_at "g";exact q
 .rw[if_neg c1] at q;walk_at "g";refine bz (fun c2=> ?_) (fun c2=> ?_)
  .rw[if_pos c2] at q;walk_at "g";exact q
  .rw[if_neg c2] at q;walk_at "g";intro p hp;exact q p _ (ag hp _) ad
theorem zc (B:Bi mg) (D:tS K mg) (bC:Has P w K mg base 1 "is_single" tH (A_ K)) (bA:Has P w K mg base 1 "whole_span" [] rA) (aY:Has P w K mg base 2 "rest" kN iu) (ao:Has P w K mg base 1 "power_of_two" mh iJ)
  (bK:Has P w K mg base 4 "kept_span" gw wu):Has P w K mg base 5 "left_span" cT (mD SpM.leftS):=by
 refine D.has lV (fun vs H Q E h=> ?_) (fun f cdv A outer s H vs Q E hr h=> ?_)
 .obtain⟨a,b,l,r,rfl,_⟩:=h
  rfl
 obtain⟨a,b,l,r,rfl,ha,hb,vl,vr,q⟩:=h
 refine⟨_,(aa (ax (dZ (ce (pcH bC hr (pa1 (pv 1))))) (ae (ah (eU (bA.mono (by omega)) hr (by rfl)))) al)
   (aa (psS 2 lV.nd (pcH aY hr (pa2 (pX ak (pv 1) ac) ac)))
   (aa (psS 3 lV.nd (pcH ao hr (pa1 (pv 2))))
   (ae (ah (pcH bK hr (pa3 (av cf (pX ak (pv 0) ac) (pv 3)) (av cf (pX ak (pv 0) ac) (pv 3)) (aI (gG (by rfl)) (by rfl) B.min qm (pa2 ac (av aU (pX ak (pv 0) ac) (pv 2))))))))))),?_⟩
 try dsimp only[aT]
 have hp:=wx (Jn r.lo);have h5:=AJ r.lo;have hz:min 32 (l.z+(r.lo %32).toNat)<=32:=by lia
 unfold SpM.leftS at q;walk_at "g"
 by_cases c:r.lo=r.hi
 .rw[if_pos c] at q;rw[decide_eq_true c];walk_at "g";rw[t5];walk_at "g";have e:(if ((l.z:Int)+((r.lo %32).toNat:Nat)) < 32 then((l.z:Int)+((r.lo %32).toNat:Nat)) else 32)=((min 32 (l.z+(r.lo %32).toNat):Nat):Int):=by split <;> lia
  rw[e];walk_at "g";exact q
 .rw[if_neg c] at q;rw[decide_eq_false c];walk_at "g";exact q
theorem xA (B:Bi mg) (D:q_ K mg) (bC:Has P w K mg base 1 "is_single" tH (A_ K)) (aY:Has P w K mg base 2 "rest" kN iu) (ao:Has P w K mg base 1 "power_of_two" mh iJ)
  (aH:Has P w K mg base 3 "settled_span" gw qi):Has P w K mg base 4 "right_span" cT (mD SpM.rightS):=by
 refine D.has j9 (fun vs H Q E h=> ?_) (fun f cdv A outer s H vs Q E hr h=> ?_)
 .obtain⟨a,b,l,r,rfl,_⟩:=h
  rfl
 obtain⟨a,b,l,r,rfl,ha,hb,vl,vr,q⟩:=h
 refine⟨_,(aa (ax (dZ (ce (pcH bC hr (pa1 (pv 1))))) (ae (ah (pcH aH hr (pa3 ac (pX ak (pv 0) ac) ac)))) al)
   (aa (psS 2 j9.nd (pcH aY hr (pa2 (pX ak (pv 1) ac) ac)))
   (aa (psS 3 j9.nd (pcH ao hr (pa1 (pv 2))))
   (ae (ah (pcH aH hr (pa3 (av cZ (pX ak (pv 0) ac) (pv 3)) (av cZ (pX ak (pv 0) ac) (pv 3)) (aI (sQ (by rfl)) (by rfl) B.max zV (pa2 ac (av bL (pX ak (pv 0) ac) (pv 2))))))))))),?_⟩
 try dsimp only[aT]
 have hd:=D0 (AJ r.lo);have h5:=AJ r.lo;unfold SpM.rightS at q;walk_at "g"
 by_cases c:r.lo=r.hi
 .rw[if_pos c] at q;rw[decide_eq_true c];walk_at "g";rw[t5];walk_at "g";have e:(if ((l.z:Int) - ((r.lo %32).toNat:Nat)) >0 then((l.z:Int) - ((r.lo %32).toNat:Nat)) else 0)=((l.z - (r.lo %32).toNat:Nat):Int):=by split <;> lia
  rw[e];walk_at "g";exact q
 .rw[if_neg c] at q;rw[decide_eq_false c];walk_at "g";exact q
theorem wE (B:Bi mg) (D:pM K mg) (cq:Has P w K mg base 2 "single" pe kH) (bC:Has P w K mg base 1 "is_single" tH (A_ K)) (du:Has P w K mg base 3 "joined_value" Fa Kr)
  (qF:Has P w K mg base 5 "add_span" cT (mD SpM.addS)) (qK:Has P w K mg base 5 "sub_span" cT (mD SpM.subS)) (qA:Has P w K mg base 4 "and_span" cT (mD SpM.andS)) (oS:Has P w K mg base 4 "or_span" Cf Ld)
  (nJ:Has P w K mg base 3 "less_span" cT (mD SpM.lessS)) (nN:Has P w K mg base 5 "left_span" cT (mD SpM.leftS)) (lQ:Has P w K mg base 4 "right_span" cT (mD SpM.rightS)):Has P w K mg base 6 "joined_span" BZ Lx:=by
 refine D.has vk (fun vs H Q E h=> ?_) (fun f cdv A outer s H vs Q E hr h=> ?_)
 .obtain⟨o,a,b,l,r,rfl,_⟩:=h
  rfl
 obtain⟨o,a,b,l,r,rfl,ha,hb,vl,vr,q⟩:=h
 refine⟨_,(aa (ax (pcT aD (pv 0) aw) (ae (ah (pcH qF hr (pa2 (pv 1) (pv 2))))) al)
   (aa (ax (pcT aD (pv 0) aw) (ae (ah (pcH qK hr (pa2 (pv 1) (pv 2))))) al)
   (aa (aO (bq (ax (PW.pt (kY (ce (pcH bC hr (pa1 (pv 1)))) (iP (ce (pcH bC hr (pa1 (pv 2))))))) (ae (ah (pcH cq hr (pa1 (pcH du hr (pa3 (pv 0) (pX ak (pv 1) ac) (pX ak (pv 2) ac))))))) al)))
   (aa (ax (pcT aD (pv 0) aw) (ae (ah (pcH qA hr (pa2 (pv 1) (pv 2))))) al)
   (aa (ax (pcT aD (pv 0) aw) (ae (ah (pcH oS hr (pa3 (pv 1) (pv 2) (aI (sQ (by rfl)) (by rfl) B.max zV (pa2 (pX ak (pv 1) ac) (pX ak (pv 2) ac))))))) al)
   (aa (ax (pcT aD (pv 0) aw) (ae (ah (pcH oS hr (pa3 (pv 1) (pv 2) ac)))) al)
   (aa (ax (pcT aD (pv 0) aw) (ae (ah (pcH nJ hr (pa2 (pv 1) (pv 2))))) al)
   (aa (ax (pcT aD (pv 0) aw) (ae (ah (pcH nN hr (pa2 (pv 1) (pv 2))))) al)
   (ae (ah (pcH lQ hr (pa2 (pv 1) (pv 2))))))))))))),?_⟩
 try dsimp only[aT]
 by_cases h1:o= .add
 .subst h1;have e:SpM.jS .add l r=SpM.addS l r:=if_neg (fun h=>h.1 rfl)
  rw[e] at q;dsimp only[nm8];walk_at "g";walk_at "wd";exact q
 by_cases h2:o= .sub
 .subst h2;have e:SpM.jS .sub l r=SpM.subS l r:=if_neg (fun h=>h.2.1 rfl)
  rw[e] at q;dsimp only[nm8];walk_at "g";walk_at "wd";exact q
 have n1:V.str (nm8 o)≠V.str "add":=by cases o <;> first | exact absurd rfl h1 | (dsimp only[nm8];decide)
 have n2:V.str (nm8 o)≠V.str "sub":=by cases o <;> first | exact absurd rfl h2 | (dsimp only[nm8];decide)
 walk_at "g";refine cA n1 ?_
 walk_at "g";refine cA n2 ?_
 walk_at "n";refine⟨fun Z' H'=>aG (H'=H/\Z'=[some (.str (nm8 o)),some (.ref a),some (.ref b)]/\SpM.jS o l r=SpM.jS0 o l r),?_,?_⟩
 .walk_at "g";refine bz (fun c1=> ?_) (fun c1=> ?_)
  .walk_at "g";refine bz (fun c2=> ?_) (fun c2=> ?_)
   .have e:SpM.jS o l r=SpM.single (SpM.jv o l.lo r.lo):=if_pos ⟨h1,h2,c1,c2⟩;rw[e] at q;walk_at "g";exact q
   .exact⟨rfl,rfl,if_neg (fun h=>c2 h.2.2.2)⟩
  .exact CG ⟨rfl,rfl,if_neg (fun h=>c1 h.2.2.1)⟩
 rintro Z1 H1 ⟨rfl,rfl,e⟩
 rw[e] at q;clear n1 n2 e
 cases o
 .exact absurd rfl h1
 .exact absurd rfl h2
 all_goals dsimp only[nm8]
 all_goals walk_at "g"
 all_goals walk_at "wd"
 .exact q
 .rw[IH];walk_at "g";exact q
 .exact q
 .exact q
 .exact q
 .exact q
theorem zo (B:Bi mg) (D:ua K mg) (iR:Has P w K mg base 1 "zeros" pe uZ) (bK:Has P w K mg base 4 "kept_span" gw wu):Has P w K mg base 5 "more_span" Ba Hh:=by
 refine D.has zl (fun vs H Q E h=> ?_) (fun f cdv A outer s H vs Q E hr h=> ?_)
 .obtain⟨a,n,l,rfl,_⟩:=h
  rfl
 obtain⟨a,n,l,rfl,ha,vl,q⟩:=h;refine⟨_,(ae (ah (pcH bK hr (pa3 (av aU (pX ak (pv 0) ac) (pv 1)) (av aU (pX ak (pv 0) ac) (pv 1)) (aI (gG (by rfl)) (by rfl) B.min qm (pa2 (pX ak (pv 0) ac) (pcH iR hr (pa1 (pv 1))))))))),?_⟩
 try dsimp only[aT]
 have hz:min l.z (SpM.Zn n)<=32:=by have:=vl.zz;lia
 walk_at "g";rw[qR];walk_at "g";exact q
structure Pl (H:Hp) (a:Addr) (k:Nat) (b:Int) (m s:Nat) (g:Int):Prop where
 at_:H a=some (.tup [.int k,.int b,.int m,.int s,.int g])
 room:SpM.Room k b
 ms:m+s<=7
def Dv:Sp:=fun vs H Q _=>∃(a:Addr) (k:Nat) (b:Int) (m s:Nat) (g v:Int),vs=[.ref a,.int v]/\Pl H a k b m s g/\Q (.int (SpM.aimV m s v)) H
def JD:Sp:=fun vs H Q _=>∃(a:Addr) (k:Nat) (b:Int) (m s:Nat) (g:Int) (c:Addr) (l:SpM.Span),vs=[.ref a,.ref c]/\Pl H a k b m s g/\Tr H c l/\SpM.Sv l/\∀p H',az H H'->Tr H' p (SpM.fitS k b l)->Q (.ref p) H'
def Jb:Sp:=fun vs H Q _=>∃(a:Addr) (k:Nat) (b:Int) (m s:Nat) (g:Int) (c:Addr) (l:SpM.Span),vs=[.ref a,.ref c]/\Pl H a k b m s g/\Tr H c l/\SpM.Sv l/\∀p H',az H H'->Tr H' p (SpM.aimS m s l)->Q (.ref p) H'
theorem Pl.mv {H H':Hp}{a:Addr}{k:Nat}{b:Int}{m s:Nat}{g:Int}(p:Pl H a k b m s g) (e:az H H'):Pl H' a k b m s g:=⟨e _ _ p.at_,p.room,p.ms⟩
theorem zd (B:Bi mg) (D:tU K mg) (ao:Has P w K mg base 1 "power_of_two" mh iJ) (aY:Has P w K mg base 2 "rest" kN iu):Has P w K mg base 3 "aim_value" wM Dv:=by
 refine D.has zK (fun vs H Q E h=> ?_) (fun f cdv A outer s H vs Q E hr h=> ?_)
 .obtain⟨a,k,b,m,s,g,v,rfl,_⟩:=h
  rfl
 obtain⟨a,k,b,m,sx,g,v,rfl,pl,q⟩:=h;have hat:=pl.at_;have hms:=pl.ms;have h2:=wx (t:=sx) (by lia)
 refine⟨_,(ae (ah (av cf (av cf (pcH aY hr (pa2 (pv 1) (pX ak (pv 0) ac))) ac) (pcH ao hr (pa1 (pX ak (pv 0) ac)))))),?_⟩
 try dsimp only[aT]
 walk_at "g";exact q
theorem Ce (B:Bi mg) (D:wb K mg) (ao:Has P w K mg base 1 "power_of_two" mh iJ) (aY:Has P w K mg base 2 "rest" kN iu) (iR:Has P w K mg base 1 "zeros" pe uZ)
  (aH:Has P w K mg base 3 "settled_span" gw qi):Has P w K mg base 4 "fit_span" pN JD:=by
 refine D.has jI (fun vs H Q E h=> ?_) (fun f cdv A outer s H vs Q E hr h=> ?_)
 .obtain⟨a,k,b,m,s,g,c,l,rfl,_⟩:=h
  rfl
 obtain⟨a,k,b,m,sx,g,c,l,rfl,pl,hc,vl,q⟩:=h;have hat:=pl.at_;have hk:=pl.room.k20;have hz:min l.z (SpM.Zn b)<=64:=by have:=vl.zz;lia
 refine⟨_,(aa (psS 2 jI.nd (pX ak (pv 0) ac))
   (aa (psS 3 jI.nd (pcH ao hr (pa1 (pX ak (pv 0) ac))))
   (aa (aO (bq (ax (PW.pt (kY (pcT yf (pv 2) (pX ak (pv 1) ac)) (iP (pcT iI (pX ak (pv 1) ac) (av aU (pv 2) (pv 3)))))) (ae (ah (pv 1))) al)))
   (aa (psS 4 jI.nd (aI (gG (by rfl)) (by rfl) B.min qm (pa2 (pX ak (pv 1) ac) (pcH iR hr (pa1 (pv 2))))))
   (ae (ah (pcH aH hr (pa3 (pv 2) (av bL (av bL (av aU (pv 2) (pv 3)) ac) (pcH aY hr (pa2 (av bL (pv 3) ac) (pv 4)))) (pv 4))))))))),?_⟩
 try dsimp only[aT]
 unfold SpM.fitS at q;walk_at "g";refine⟨fun Z' H'=>aG (H'=H/\Z'=[some (.ref a),some (.ref c),some (.int b),some (.int (2^k)),none]/\¬(b<=l.lo/\l.hi < b+2^k)),?_,?_⟩
 .walk_at "g";refine bz (fun c1=> ?_) (fun c1=> ?_)
  .walk_at "g";refine bz (fun c2=> ?_) (fun c2=> ?_)
   .rw[if_pos ⟨c1,c2⟩] at q;walk_at "g";exact q _ _ (az.refl _) hc
   .exact⟨rfl,rfl,fun h=>c2 h.2⟩
  .exact CG ⟨rfl,rfl,fun h=>c1 h.1⟩
 rintro Z1 H1 ⟨rfl,rfl,e⟩
 rw[if_neg e] at q;walk_at "g";rw[qR];walk_at "g";exact q
theorem Bg (B:Bi mg) (D:wK K mg) (ao:Has P w K mg base 1 "power_of_two" mh iJ) (cq:Has P w K mg base 2 "single" pe kH) (bC:Has P w K mg base 1 "is_single" tH (A_ K)) (eF:Has P w K mg base 3 "aim_value" wM Dv)
  (aH:Has P w K mg base 3 "settled_span" gw qi):Has P w K mg base 4 "aim_span" pN Jb:=by
 refine D.has tW (fun vs H Q E h=> ?_) (fun f cdv A outer s H vs Q E hr h=> ?_)
 .obtain⟨a,k,b,m,s,g,c,l,rfl,_⟩:=h
  rfl
 obtain⟨a,k,b,m,sx,g,c,l,rfl,pl,hc,vl,q⟩:=h;have hat:=pl.at_;have hms:=pl.ms;have hm:m<=64:=by lia
 refine⟨_,(aa (ax (ce (pcH bC hr (pa1 (pv 1)))) (ae (ah (pcH cq hr (pa1 (pcH eF hr (pa2 (pv 0) (pX ak (pv 1) ac))))))) al)
   (aa (psS 2 tW.nd (av bL (pcH ao hr (pa1 (pX ak (pv 0) ac))) ac))
   (ae (ah (pcH aH hr (pa3 ac (pcH eF hr (pa2 (pv 0) (pv 2))) (av aU (pX ak (pv 0) ac) ac))))))),?_⟩
 try dsimp only[aT]
 unfold SpM.aimS at q;walk_at "g";refine bz (fun c1=> ?_) (fun c1=> ?_)
 .rw[if_pos c1] at q;walk_at "g";exact q
 .rw[if_neg c1] at q;walk_at "g";exact q
def SpA (H:Hp):List Addr->List SpM.Span->Prop
 | [],[]=>True
 | a::as,s::ss=>Tr H a s/\SpA H as ss
 | _,_=>False
theorem SpA.mono {H H':Hp}(h1:∀a xs,H a=some (.tup xs)->H' a=some (.tup xs)):∀ {as:List Addr}{ss:List SpM.Span},SpA H as ss->SpA H' as ss
 | [],[],_=>True.intro
 | _::_,_::_,h=>⟨h1 _ _ h.1,SpA.mono h1 h.2⟩
 | [],_::_,h=>h.elim
 | _::_,[],h=>h.elim
theorem SpA.same {H H':Hp}(e:az H H') {as:List Addr}{ss:List SpM.Span}(h:SpA H as ss):SpA H' as ss:=h.mono (fun _ _ z=>e _ _ z)
theorem SpA.len {H:Hp}:∀ {as:List Addr}{ss:List SpM.Span},SpA H as ss->as.length=ss.length
 | [],[],_=>rfl
 | _::_,_::_,h=>congrArg (· +1) (SpA.len h.2)
 | [],_::_,h=>h.elim
 | _::_,[],h=>h.elim
theorem SpA.app {H:Hp}{bs:List Addr}{ts:List SpM.Span}(hb:SpA H bs ts):∀ {as:List Addr}{ss:List SpM.Span},SpA H as ss->SpA H (as++bs) (ss++ts)
 | [],[],_=>hb
 | _::_,_::_,h=>⟨h.1,SpA.app hb h.2⟩
 | [],_::_,h=>h.elim
 | _::_,[],h=>h.elim
theorem SpA.take {H:Hp}:∀(n:Nat) {as:List Addr}{ss:List SpM.Span},SpA H as ss->SpA H (as.take n) (ss.take n)
 | 0,_,_,_=>True.intro
 | n+1,[],[],_=>True.intro
 | n+1,_::_,_::_,h=>⟨h.1,SpA.take n h.2⟩
 | n+1,[],_::_,h=>h.elim
 | n+1,_::_,[],h=>h.elim
theorem SpA.drop {H:Hp}:∀(n:Nat) {as:List Addr}{ss:List SpM.Span},SpA H as ss->SpA H (as.drop n) (ss.drop n)
 | 0,_,_,h=>h
 | n+1,[],[],_=>True.intro
 | n+1,_::_,_::_,h=>SpA.drop n h.2
 | n+1,[],_::_,h=>h.elim
 | n+1,_::_,[],h=>h.elim
theorem SpA.get {H:Hp}:∀ {as:List Addr}{ss:List SpM.Span},SpA H as ss->∀(j:Nat) s,ss[j]? =some s->∃a,as[j]? =some a/\Tr H a s
 | [],[],_=>fun j kn e=>by cases j <;> cases e
 | t::_,p::_,h=>fun j kn e=>by
  cases j with
  | zero=>
   have e':p=kn:=Option.some.inj e;subst e';exact⟨t,rfl,h.1⟩
  | succ j=>exact SpA.get h.2 j kn e
 | [],_::_,h=>h.elim
 | _::_,[],h=>h.elim
theorem SpA.rep {H:Hp}{a:Addr}{s:SpM.Span}(h:Tr H a s):∀n,SpA H (List.replicate n a) (List.replicate n s)
 | 0=>True.intro
 | n+1=>by
  rw[List.replicate_succ,List.replicate_succ];exact⟨h,SpA.rep h n⟩
structure Sp8 (sp:List SpM.Span):Prop where
 len:sp.length=8
 sv:∀s∈sp,SpM.Sv s
def spG (sp:List SpM.Span) (i:Int):SpM.Span:=sp.getD i.toNat SpM.whole
theorem Sp8.at {sp:List SpM.Span}(h:Sp8 sp) {i:Int}(h0:0<=i) (h1:i < 8):sp[i.toNat]? =some (spG sp i)/\SpM.Sv (spG sp i):=by
 have hk:i.toNat < sp.length:=by rw[h.len];lia
 have e:spG sp i=sp[i.toNat]:=by unfold spG;rw[List.getD_eq_getElem?_getD,List.getElem?_eq_getElem hk];rfl
 rw[e];exact⟨List.getElem?_eq_getElem hk,h.sv _ (List.getElem_mem hk)⟩
def SpT (K:Frag) (H:Hp) (a:Addr) (sp:List SpM.Span):Prop:=∃as,SqT K H a (as.map V.ref)/\SpA H as sp
theorem SpT.same {H H':Hp}(e:az H H') {a:Addr}{sp:List SpM.Span}(h:SpT K H a sp):SpT K H' a sp:=let ⟨as,h1,h2⟩:=h;⟨as,e.tup h1,h2.same e⟩
theorem SpT.at {H:Hp}{a:Addr}{sp:List SpM.Span}{as:List Addr}(h:SpA H as sp) (h8:Sp8 sp) {i:Int}(h0:0<=i) (h1:i < 8):∃b,atI (as.map V.ref) i=some (.ref b)/\Tr H b (spG sp i)/\SpM.Sv (spG sp i):=by
 obtain⟨e1,e2⟩:=h8.at h0 h1;obtain⟨b,e3,e4⟩:=h.get _ _ e1;refine⟨b,?_,e4,e2⟩
 have ek:i=((i.toNat:Nat):Int):=by lia
 have q:atI (as.map V.ref) ((i.toNat:Nat):Int)=some (.ref b):=aJ (by rw[List.getElem?_map,e3];rfl)
 rw[<- ek] at q;exact q
def mk8 (k:Nat):Prop:=(1<=k/\k<=11)\/k=16\/k=17
instance {k:Nat}:Decidable (mk8 k):=inferInstanceAs (Decidable (_\/_))
def Fi:Nat->SpM.Op8
 | 2=> .add | 3=> .sub | 4=> .and | 5=> .or | 6=> .xor | 7=> .less | 8=> .left | _=> .right
theorem I_:∀k,2<=k->k<=9->aV k=nm8 (Fi k):=by
 intro k h1 h2;obtain rfl | rfl | rfl | rfl | rfl | rfl | rfl | rfl:k=2\/k=3\/k=4\/k=5\/k=6\/k=7\/k=8\/k=9:=by lia
 all_goals rfl
noncomputable def eG (pk:Nat) (pb:Int) (pm ps:Nat) (k:Nat) (ns:List Int) (sp:List SpM.Span):SpM.Span:=
 if k=1 then SpM.single (ns.getD 1 0) else if k=11 then SpM.whole else if k=10 then SpM.moreS (spG sp (ns.getD 1 0)) (ns.getD 2 0) else if k=16 then SpM.fitS pk pb (spG sp (ns.getD 1 0)) else if k=17 then SpM.aimS pm ps (spG sp (ns.getD 1 0))
 else SpM.jS (Fi k) (spG sp (ns.getD 1 0)) (spG sp (ns.getD 2 0))
noncomputable def cV (pk:Nat) (pb:Int) (pm ps:Nat) (k:Nat) (ns:List Int) (sp:List SpM.Span):List SpM.Span:=
 if k=18 then List.replicate 7 SpM.whole++[spG sp 7] else if mk8 k then sp.set (ns.getD 0 0).toNat (eG pk pb pm ps k ns sp) else sp
def nT (pk:Nat) (pb:Int) (ns:List Int) (sp:List SpM.Span):Prop:=(spG sp (ns.getD 1 0)).lo+ns.getD 2 0 < pb\/pb+2^pk<=(spG sp (ns.getD 1 0)).hi+ns.getD 2 0
instance {pk:Nat}{pb:Int}{ns:List Int}{sp:List SpM.Span}:Decidable (nT pk pb ns sp):=inferInstanceAs (Decidable (_\/_))
def tgt (k:Nat) (ns:List Int):Int:=if k=13 then ns.getD 0 0 else ns.getD 1 0
def bR (pk:Nat) (pb pg:Int) (total:Int) (k:Nat) (ns:List Int) (sp:List SpM.Span):Option Str:=
 if mk8 k/\ns.getD 0 0=7 then some "host" else if (k=11\/k=12)/\nT pk pb ns sp then some "beyond" else if (k=13\/k=14)/\(tgt k ns %8≠0\/total<=tgt k ns) then some "target"
 else if k=15/\(total<=(spG sp (ns.getD 0 0)).hi\/(spG sp (ns.getD 0 0)).z < 3) then some "way" else if k=18/\pg<=ns.getD 0 0 then some "gate" else none
theorem sne {k j:Nat}(hk:k < 19) (hj:j < 19) (h:k≠j):V.str (aV k)≠V.str (aV j):=DU k hk j hj h
theorem seq {k j:Nat}(hk:k < 19) (hj:j < 19) (h:V.str (aV k)=V.str (aV j)):k=j:=by
 by_cases e:k=j
 .exact e
 .exact absurd h (DU k hk j hj e)
theorem aK.lt {nb mo:Int}{k:Nat}{ns:List Int}(h:aK nb mo k ns):k < 19:=by
 rcases h with⟨rfl,rfl⟩|⟨rfl,x,v,rfl,x0,x1,v0,v1⟩|⟨h1,h2,x,y,z,rfl,x0,x1,y0,y1,z0,z1⟩|⟨h1,h2,x,y,z,rfl,x0,x1,y0,y1,z0,z1⟩|⟨hk,z,rfl,z0,z1⟩|⟨rfl,x,z,rfl,x0,x1,z0,z1⟩|⟨rfl,y,rfl,y0,y1⟩|⟨hk,x,y,rfl,x0,x1,y0,y1⟩
 all_goals lia
theorem Fm {pk:Nat}{pb:Int}{pm ps k:Nat}{ns:List Int}{sp:List SpM.Span}(hR:SpM.Room pk pb) (hms:pm+ps<=7) (hv:aK 8 262144 k ns) (hm:mk8 k) (h8:Sp8 sp):SpM.Sv (eG pk pb pm ps k ns sp):=by
 unfold mk8 at hm;unfold eG;rcases hv with⟨rfl,rfl⟩|⟨rfl,x,v,rfl,x0,x1,v0,v1⟩|⟨h1,h2,x,y,z,rfl,x0,x1,y0,y1,z0,z1⟩|⟨h1,h2,x,y,z,rfl,x0,x1,y0,y1,z0,z1⟩|⟨hk,z,rfl,z0,z1⟩|⟨rfl,x,z,rfl,x0,x1,z0,z1⟩|⟨rfl,y,rfl,y0,y1⟩|⟨hk,x,y,rfl,x0,x1,y0,y1⟩
 .lia
 .exact SpM.Sv_single v0 v1
 .rw[if_neg (by lia),if_neg (by lia),if_neg (by lia),if_neg (by lia),if_neg (by lia)]
  exact SpM.Sv_j _ (h8.at y0 y1).2 (h8.at z0 z1).2
 .obtain rfl | rfl:k=10\/k=11:=by lia
  .exact SpM.Sv_more (h8.at y0 y1).2 _
  .exact SpM.Sv_whole
 .lia
 .lia
 .lia
 .rcases hk with rfl | rfl
  .exact SpM.Sv_fit hR (h8.at y0 y1).2
  .exact SpM.Sv_aim hms _
theorem Sp8.set {sp:List SpM.Span}(h:Sp8 sp) {i:Nat}{s:SpM.Span}(hs:SpM.Sv s):Sp8 (sp.set i s):=
 ⟨by rw[List.length_set];exact h.len,fun x hx=>by
  rcases List.mem_or_eq_of_mem_set hx with hx | hx
  .exact h.sv x hx
  .subst hx;exact hs⟩
theorem sW {pk:Nat}{pb:Int}{pm ps k:Nat}{ns:List Int}{sp:List SpM.Span}(hR:SpM.Room pk pb) (hms:pm+ps<=7) (hv:aK 8 262144 k ns) (h8:Sp8 sp):Sp8 (cV pk pb pm ps k ns sp):=by
 unfold cV
 split
 .refine⟨rfl,fun s hs=> ?_⟩
  rcases List.mem_append.mp hs with hs | hs
  .rw[List.eq_of_mem_replicate hs];exact SpM.Sv_whole
  .have:s=spG sp 7:=by simpa using hs
   rw[this];exact(h8.at (by decide) (by decide)).2
 .split
  .exact h8.set (Fm hR hms hv (by assumption) h8)
  .exact h8
theorem FM {xs:List V}{n:Nat}:fe xs none (some (n:Int))=xs.take n:=by
 unfold fe;have e1:HT.sIx xs.length 0 none=0:=rfl;rw[e1,HT.sIx_nat]
 simp only[List.drop_zero,Nat.sub_zero]
 rw[<- List.take_eq_take_min]
theorem vU {xs:List V}{n:Nat}:fe xs (some (n:Int)) none=xs.drop n:=by
 unfold fe;have e1:HT.sIx xs.length xs.length none=xs.length:=rfl;rw[e1,HT.sIx_nat]
 by_cases h:n<=xs.length
 .rw[Nat.min_eq_left h];exact List.take_of_length_le (by rw[List.length_drop];exact Nat.le_refl _)
 .rw[Nat.min_eq_right (by lia),List.drop_eq_nil_of_le (Nat.le_refl _),List.drop_eq_nil_of_le (by lia)]
  exact List.take_nil
structure Tb2 (K:Frag) (mg:Str->Option Value):Prop where
 none_:∃a,mg "MAKING_NONE"=some (.ref a)/\fT K a [.str "stop",.str "store",.str "jump",.str "jumpif",.str "through",.str "gate"]
 last:∃a,mg "LAST_SORTS"=some (.ref a)/\fT K a [.str "stop",.str "jump",.str "through"]
theorem DO:∀k,k < 19->inV (.str (aV k)) [.str "stop",.str "store",.str "jump",.str "jumpif",.str "through",.str "gate"]=decide (¬ mk8 k):=by decide +kernel
theorem Ib:∀k,k < 19->inV (.str (aV k)) [.str "stop",.str "jump",.str "through"]=decide (k=0\/k=13\/k=15):=by decide +kernel
theorem kS {k:Nat}{ns:List Int}(h:aK 8 262144 k ns) (hm:mk8 k):∃x r,ns=x::r/\0<=x/\x < 8:=by
 unfold mk8 at hm;rcases h with⟨rfl,rfl⟩|⟨rfl,x,v,rfl,x0,x1,v0,v1⟩|⟨h1,h2,x,y,z,rfl,x0,x1,y0,y1,z0,z1⟩|⟨h1,h2,x,y,z,rfl,x0,x1,y0,y1,z0,z1⟩|⟨hk,z,rfl,z0,z1⟩|⟨rfl,x,z,rfl,x0,x1,z0,z1⟩|⟨rfl,y,rfl,y0,y1⟩|⟨hk,x,y,rfl,x0,x1,y0,y1⟩
 all_goals first | lia | exact⟨_,_,rfl,x0,x1⟩
def HF (K:Frag):Sp:=fun vs H Q _=>∃(a:Addr) (k:Nat) (ns:List Int),vs=[.ref a]/\aK 8 262144 k ns/\SqT K H a (aE k ns)/\(mk8 k->Q (.int (ns.getD 0 0)) H)/\(¬ mk8 k->Q .non H)
theorem Cm (B:Bi mg) (T2:Tb2 K mg) (D:wk K mg):Has P w K mg base 1 "made_box" cS (HF K):=by
 obtain⟨xm,xo,Ho⟩:=T2.none_;refine D.has AS (fun vs H Q E h=> ?_) (fun f cdv A outer s H vs Q E hr h=> ?_)
 .obtain⟨a,k,ns,rfl,_⟩:=h
  rfl
 obtain⟨a,k,ns,rfl,hv,ha,q1,q2⟩:=h;have hk:=hv.lt;have i0:atI (aE k ns) 0=some (.str (aV k)):=mT
 refine⟨_,(aa (ax (zb xV (pX ak (pv 0) ac) (lC (v:= .ref xm) (by rfl) xo (by rfl)) (by rfl)) (ae (ah d5)) al)
   (ae (ah (pX ak (pv 0) ac)))),?_⟩
 try dsimp only[aT]
 walk_at "g";refine Cv (fun c=> ?_) (fun c=> ?_)
 .have hm:¬mk8 k:=of_decide_eq_true ((DO k hk).symm.trans c);walk_at "g";exact q2 hm
 .have hm:mk8 k:=by
   have:=of_decide_eq_false ((DO k hk).symm.trans c);exact Classical.not_not.mp this
  obtain⟨x,r,rfl,_⟩:=kS hv hm;have i1:atI (aE k (x::r)) 1=some (.int x):=s_;walk_at "g";exact q1 hm
def Hx (K:Frag):Sp:=fun vs H Q _=>vs=[]/\∀p H',az H H'->SpT K H' p (List.replicate 8 SpM.whole)->Q (.ref p) H'
theorem wj (B:Bi mg) (D:pE K mg) (bA:Has P w K mg base 1 "whole_span" [] rA):Has P w K mg base 2 "first_spans" [] (Hx K):=by
 refine D.has vM (fun vs H Q E h=> ?_) (fun f cdv A outer s H vs Q E hr h=> ?_)
 .obtain⟨rfl,_⟩:=h
  rfl
 obtain⟨rfl,q⟩:=h;refine⟨_,(ae (ah (bN hU (by rfl) B.tuple il (pa1 (av Da (cw (pa1 (eU (bA.mono (by omega)) hr (by rfl)))) ac))))),?_⟩
 try dsimp only[aT]
 walk_at "g";intro p1 H1 s1 t1;walk_at "g";intro p2 hp2;have s2:=s1.trans (ag hp2 (.lst [.ref p1]));have l2:upd H1 p2 (.lst [.ref p1]) p2=some (.lst [.ref p1]):=ad;have t2:Tr (upd H1 p2 (.lst [.ref p1])) p1 SpM.whole:=bh hp2 t1;generalize upd H1 p2 (.lst [.ref p1])=H2 at*;walk_at "g";intro p3 hp3;have e8:(List.replicate (8:Int).toNat [V.ref p1]).flatten=(List.replicate 8 p1).map V.ref:=rfl;rw[e8];have s3:=s2.trans (ag hp3 (.lst ((List.replicate 8 p1).map V.ref)));have l3:upd H2 p3 (.lst ((List.replicate 8 p1).map V.ref)) p3=some (.lst ((List.replicate 8 p1).map V.ref)):=ad;have t3:Tr (upd H2 p3 (.lst ((List.replicate 8 p1).map V.ref))) p1 SpM.whole:=bh hp3 t2;generalize upd H2 p3 (.lst ((List.replicate 8 p1).map V.ref))=H3 at*;walk_at "g";refine .inl ⟨SqL.of l3,fun p4 hp4=> ?_⟩
 exact q p4 _ (s3.trans (ag hp4 _)) ⟨_,SqT.of ad,SpA.rep (bh hp4 t3) 8⟩
def KY (K:Frag):Sp:=fun vs H Q _=>∃(pl a sa:Addr) (k:Nat) (ns:List Int) (sp:List SpM.Span) (pk:Nat) (pb:Int) (pm ps:Nat) (pg:Int),vs=[.ref pl,.ref a,.ref sa]/\Pl H pl pk pb pm ps pg/\aK 8 262144 k ns/\mk8 k/\SqT K H a (aE k ns)/\SpT K H sa sp/\Sp8 sp/\
 ∀p H',az H H'->Tr H' p (eG pk pb pm ps k ns sp)->Q (.ref p) H'
theorem yY (B:Bi mg) (D:tF K mg) (cq:Has P w K mg base 2 "single" pe kH) (bA:Has P w K mg base 1 "whole_span" [] rA) (nV:Has P w K mg base 5 "more_span" Ba Hh) (pY:Has P w K mg base 4 "fit_span" pN JD)
  (qy:Has P w K mg base 4 "aim_span" pN Jb) (ki:Has P w K mg base 6 "joined_span" BZ Lx):Has P w K mg base 7 "made_span" ig (KY K):=by
 refine D.has ly (fun vs H Q E h=> ?_) (fun f cdv A outer s H vs Q E hr h=> ?_)
 .obtain⟨pl,a,sa,k,ns,sp,pk,pb,pm,ps,pg,rfl,_⟩:=h
  rfl
 obtain⟨pl,a,sa,k,ns,sp,pk,pb,pm,ps,pg,rfl,hpl,hv,hm,ha,⟨as,hsa,hsp⟩,h8,q⟩:=h;have i0:atI (aE k ns) 0=some (.str (aV k)):=mT;have hk19:=hv.lt
 refine⟨_,(aa (psS 3 ly.nd (pX ak (pv 1) ac))
   (aa (ax (pcT aD (pv 3) aw) (ae (ah (pcH cq hr (pa1 (pX ak (pv 1) ac))))) al)
   (aa (ax (pcT aD (pv 3) aw) (ae (ah (eU (bA.mono (by omega)) hr (by rfl)))) al)
   (aa (psS 4 ly.nd (pX ak (pv 2) (pX ak (pv 1) ac)))
   (aa (ax (pcT aD (pv 3) aw) (ae (ah (pcH nV hr (pa2 (pv 4) (pX ak (pv 1) ac))))) al)
   (aa (ax (pcT aD (pv 3) aw) (ae (ah (pcH pY hr (pa2 (pv 0) (pv 4))))) al)
   (aa (ax (pcT aD (pv 3) aw) (ae (ah (pcH qy hr (pa2 (pv 0) (pv 4))))) al)
   (ae (ah (pcH ki hr (pa3 (pv 3) (pv 4) (pX ak (pv 2) (pX ak (pv 1) ac))))))))))))),?_⟩
 try dsimp only[aT]
 unfold mk8 at hm;rcases hv with⟨rfl,rfl⟩|⟨rfl,x,v,rfl,x0,x1,v0,v1⟩|⟨h1,h2,x,y,z,rfl,x0,x1,y0,y1,z0,z1⟩|⟨h1,h2,x,y,z,rfl,x0,x1,y0,y1,z0,z1⟩|⟨hk,z,rfl,z0,z1⟩|⟨rfl,x,z,rfl,x0,x1,z0,z1⟩|⟨rfl,y,rfl,y0,y1⟩|⟨hk,x,y,rfl,x0,x1,y0,y1⟩
 .lia
 .have i2:atI (aE 1 [x,v]) 2=some (.int v):=pi;walk_at "g";walk_at "wd";exact q
 .obtain⟨b1,e1,t1,v1⟩:=SpT.at (a:=sa) hsp h8 y0 y1;obtain⟨b2,e2,t2,v2⟩:=SpT.at (a:=sa) hsp h8 z0 z1;have i2:atI (aE k [x,y,z]) 2=some (.int y):=pi;have i3:atI (aE k [x,y,z]) 3=some (.int z):=C9;have e:eG pk pb pm ps k [x,y,z] sp=SpM.jS (Fi k) (spG sp y) (spG sp z):=by
   unfold eG;rw[if_neg (by lia),if_neg (by lia),if_neg (by lia),if_neg (by lia),if_neg (by lia)]
   rfl
  rw[e] at q;have es:=I_ k h1 h2;walk_at "g";refine cA (sne hk19 (j:=1) (by decide) (by lia)) ?_
  walk_at "g";refine cA (sne hk19 (j:=11) (by decide) (by lia)) ?_
  walk_at "g";refine cA (sne hk19 (j:=10) (by decide) (by lia)) ?_
  walk_at "g";refine cA (sne hk19 (j:=16) (by decide) (by lia)) ?_
  walk_at "g";refine cA (sne hk19 (j:=17) (by decide) (by lia)) ?_
  walk_at "g";rw[es];walk_at "g";exact q
 .obtain⟨b1,e1,t1,v1⟩:=SpT.at (a:=sa) hsp h8 y0 y1;obtain rfl | rfl:k=10\/k=11:=by lia
  .have i2:atI (aE 10 [x,y,z]) 2=some (.int y):=pi;have i3:atI (aE 10 [x,y,z]) 3=some (.int z):=C9;walk_at "g";walk_at "wd";exact q
  .walk_at "g";walk_at "wd";exact q
 .lia
 .lia
 .lia
 .obtain⟨b1,e1,t1,v1⟩:=SpT.at (a:=sa) hsp h8 y0 y1;rcases hk with rfl | rfl
  .have i2:atI (aE 16 [x,y]) 2=some (.int y):=pi;walk_at "g";walk_at "wd";exact q
  .have i2:atI (aE 17 [x,y]) 2=some (.int y):=pi;walk_at "g";walk_at "wd";exact q
def Kf (K:Frag):Sp:=fun vs H Q _=>∃(pl a sa:Addr) (k:Nat) (ns:List Int) (sp:List SpM.Span) (pk:Nat) (pb:Int) (pm ps:Nat) (pg:Int),vs=[.ref pl,.ref a,.ref sa]/\Pl H pl pk pb pm ps pg/\aK 8 262144 k ns/\SqT K H a (aE k ns)/\SpT K H sa sp/\Sp8 sp/\
 ∀p H',az H H'->SpT K H' p (cV pk pb pm ps k ns sp)->Q (.ref p) H'
theorem jW {α:Type}{xs:List α}{i:Nat}{x:α}(h:i < xs.length):xs.take i++[x]++xs.drop (i+1)=xs.set i x:=by
 rw[List.set_eq_take_append_cons_drop,if_pos h,List.append_assoc]
 rfl
theorem uk (B:Bi mg) (D:oJ K mg) (bA:Has P w K mg base 1 "whole_span" [] rA) (dH:Has P w K mg base 1 "made_box" cS (HF K)) (nX:Has P w K mg base 7 "made_span" ig (KY K)):
  Has P w K mg base 8 "spans_behind" ig (Kf K):=by
 refine D.has mG (fun vs H Q E h=> ?_) (fun f cdv A outer s H vs Q E hr h=> ?_)
 .obtain⟨pl,a,sa,k,ns,sp,pk,pb,pm,ps,pg,rfl,_⟩:=h
  rfl
 obtain⟨pl,a,sa,k,ns,sp,pk,pb,pm,ps,pg,rfl,hpl,hv,ha,hst,h8,q⟩:=h;obtain⟨as,hsa,hsp⟩:=hst;have i0:atI (aE k ns) 0=some (.str (aV k)):=mT;have hk19:=hv.lt;have hal:as.length=8:=by rw[hsp.len];exact h8.len
 refine⟨_,(aa (ax (pcT aD (pX ak (pv 1) ac) aw) (ae (ah (bN hU (by rfl) B.tuple il (pa1 (av sH (av Da (cw (pa1 (eU (bA.mono (by omega)) hr (by rfl)))) ac) (cw (pa1 (pX ak (pv 2) ac)))))))) al)
   (aa (psS 3 mG.nd (pcH dH hr (pa1 (pv 1))))
   (aa (ax (lZ (qD (pv 3))) (ae (ah (pv 2))) al)
   (ae (ah (av Ez (av Ez (c_ kc (pv 2) eB (eC (pv 3))) (aA (pa1 (pcH nX hr (pa3 (pv 0) (pv 1) (pv 2)))))) (c_ kc (pv 2) (eC (av aU (pv 3) ac)) eB))))))),?_⟩
 try dsimp only[aT]
 walk_at "g";refine bz (fun c1=> ?_) (fun c1=> ?_)
 .obtain rfl:=seq hk19 (j:=18) (by decide) c1
  have eb:cV pk pb pm ps 18 ns sp=List.replicate 7 SpM.whole++[spG sp 7]:=if_pos rfl;rw[eb] at q;walk_at "g";intro p1 H1 s1 t1;walk_at "g";intro p2 hp2;have s2:=s1.trans (ag hp2 (.lst [.ref p1]));have l2:upd H1 p2 (.lst [.ref p1]) p2=some (.lst [.ref p1]):=ad;have t2:Tr (upd H1 p2 (.lst [.ref p1])) p1 SpM.whole:=bh hp2 t1;generalize upd H1 p2 (.lst [.ref p1])=H2 at*;walk_at "g";intro p3 hp3;have e7:(List.replicate (7:Int).toNat [V.ref p1]).flatten=(List.replicate 7 p1).map V.ref:=rfl;rw[e7];have s3:=s2.trans (ag hp3 (.lst ((List.replicate 7 p1).map V.ref)));have l3:upd H2 p3 (.lst ((List.replicate 7 p1).map V.ref)) p3=some (.lst ((List.replicate 7 p1).map V.ref)):=ad;have t3:Tr (upd H2 p3 (.lst ((List.replicate 7 p1).map V.ref))) p1 SpM.whole:=bh hp3 t2;generalize upd H2 p3 (.lst ((List.replicate 7 p1).map V.ref))=H3 at*;have sa3:=s3.tup hsa;obtain⟨b7,e7',t7,_⟩:=SpT.at (a:=sa) (hsp.same s3) h8 (i:=7) (by decide) (by decide)
  walk_at "g";intro p4 hp4;have s4:=s3.trans (ag hp4 (.lst [.ref b7]));have l4:upd H3 p4 (.lst [.ref b7]) p4=some (.lst [.ref b7]):=ad;have l34:=bh (o:= .lst [.ref b7]) hp4 l3;have t4:Tr (upd H3 p4 (.lst [.ref b7])) p1 SpM.whole:=bh hp4 t3;have t74:Tr (upd H3 p4 (.lst [.ref b7])) b7 (spG sp 7):=bh hp4 t7;generalize upd H3 p4 (.lst [.ref b7])=H4 at*;have hz4:((List.replicate 7 p1).map V.ref).length+[V.ref b7].length<=sizeLine:=Nat.le_trans (show 8<=100 by decide) (by decide)
  walk_at "g";intro p5 hp5;have e5:(List.replicate 7 p1).map V.ref++[V.ref b7]=(List.replicate 7 p1++[b7]).map V.ref:=by rw[List.map_append];rfl
  rw[e5];have s5:=s4.trans (ag hp5 (.lst ((List.replicate 7 p1++[b7]).map V.ref)));have l5:upd H4 p5 (.lst ((List.replicate 7 p1++[b7]).map V.ref)) p5=some (.lst ((List.replicate 7 p1++[b7]).map V.ref)):=ad;have t5:Tr (upd H4 p5 (.lst ((List.replicate 7 p1++[b7]).map V.ref))) p1 SpM.whole:=bh hp5 t4;have t75:Tr (upd H4 p5 (.lst ((List.replicate 7 p1++[b7]).map V.ref))) b7 (spG sp 7):=bh hp5 t74;generalize upd H4 p5 (.lst ((List.replicate 7 p1++[b7]).map V.ref))=H5 at*;walk_at "g";refine .inl ⟨SqL.of l5,fun p6 hp6=> ?_⟩
  exact q p6 _ (s5.trans (ag hp6 _)) ⟨_,SqT.of ad,SpA.app (show SpA _ [b7] [spG sp 7] from⟨bh hp6 t75,True.intro⟩) (SpA.rep (bh hp6 t5) 7)⟩
 have k18:k≠18:=fun e=>c1 (by rw[e];rfl)
 by_cases hm:mk8 k
 .have eb:cV pk pb pm ps k ns sp=sp.set (ns.getD 0 0).toNat (eG pk pb pm ps k ns sp):=by
   unfold cV;rw[if_neg k18,if_pos hm]
  rw[eb] at q;obtain⟨x,r,ens,x0,x1⟩:=kS hv hm;have ex:ns.getD 0 0=x:=by rw[ens];rfl
  have hst:SpT K H sa sp:=⟨as,hsa,hsp⟩;walk_at "g";refine⟨fun _=> ?_,fun z=>absurd hm z⟩
  rw[ex] at q ⊢;obtain⟨xn,rfl⟩:∃n:Nat,x=n:=Int.eq_ofNat_of_zero_le (by first | assumption | lia)
  rw[Int.toNat_natCast] at q;walk_at "g";refine⟨(fun z=>by have:=z.2;rw[List.length_map,hal,HT.sIx_nat] at this;lia),fun p1 hp1=> ?_⟩
  have ec:fe (as.map V.ref) none (some (xn:Int))=(as.take xn).map V.ref:=by rw[FM,List.map_take]
  rw[ec];have s1:=ag hp1 (.tup ((as.take xn).map V.ref));have t1:SqT K (upd H p1 (.tup ((as.take xn).map V.ref))) p1 ((as.take xn).map V.ref):=SqT.of ad;generalize upd H p1 (.tup ((as.take xn).map V.ref))=H1 at*;have pl1:=hpl.mv s1;have ha1:=s1.tup ha;have st1:=hst.same s1;walk_at "g";intro p2 H2 s2 t2;walk_at "g";intro p3 hp3;have s3:=ag hp3 (.tup [.ref p2]);have t3:SqT K (upd H2 p3 (.tup [.ref p2])) p3 [.ref p2]:=SqT.of ad;generalize upd H2 p3 (.tup [.ref p2])=H3 at*;have t13:=s3.tup (s2.tup t1);have hz3:((as.take xn).map V.ref).length+[V.ref p2].length<=sizeLine:=Nat.le_trans (show _<=100 by rw[List.length_map,List.length_take];simp only[List.length_cons,List.length_nil];lia) (by decide)
  walk_at "g";intro p4 H4 s4 t4;have S4:=((s1.trans s2).trans s3).trans s4;have sa4:=S4.tup hsa;walk_at "g";refine⟨(fun z=>by have:=z.1;rw[List.length_map,hal] at this;have e:HT.sIx 8 0 (some ((xn:Int)+1))=min (xn+1) 8:=HT.sIx_nat 8 0 (xn+1);rw[e] at this;lia),fun p5 hp5=> ?_⟩
  have ed:fe (as.map V.ref) (some ((xn:Int)+1)) none=(as.drop (xn+1)).map V.ref:=by
   have:=vU (xs:=as.map V.ref) (n:=xn+1);rw[<- List.map_drop] at this;exact this
  rw[ed];have s5:=ag hp5 (.tup ((as.drop (xn+1)).map V.ref));have t5:SqT K (upd H4 p5 (.tup ((as.drop (xn+1)).map V.ref))) p5 ((as.drop (xn+1)).map V.ref):=SqT.of ad;generalize upd H4 p5 (.tup ((as.drop (xn+1)).map V.ref))=H5 at*;have t45:=s5.tup t4;have hz5:((as.take xn).map V.ref++[V.ref p2]).length+((as.drop (xn+1)).map V.ref).length<=sizeLine:=Nat.le_trans (show _<=100 by rw[List.length_append,List.length_map,List.length_take,List.length_map,List.length_drop];simp only[List.length_cons,List.length_nil];lia) (by decide)
  walk_at "g";intro p6 H6 s6 t6;have S6:=(S4.trans s5).trans s6;refine q p6 H6 S6 ⟨as.set xn p2,?_,?_⟩
  .have e:(as.take xn).map V.ref++[V.ref p2]++(as.drop (xn+1)).map V.ref=(as.set xn p2).map V.ref:=by
    rw[<- jW (x:=p2) (show xn < as.length by lia),List.map_append,List.map_append]
    rfl
   rw[e] at t6;exact t6
  .rw[<- jW (x:=p2) (show xn < as.length by lia), <-jW (x:=eG pk pb pm ps k ns sp) (show xn < sp.length by rw[h8.len];lia)]
   exact SpA.app (SpA.drop _ (hsp.same S6)) (SpA.app (show SpA H6 [p2] [eG pk pb pm ps k ns sp] from⟨((s3.trans s4).trans (s5.trans s6)) _ _ t2,True.intro⟩) (SpA.take _ (hsp.same S6)))
 .have eb:cV pk pb pm ps k ns sp=sp:=by
   unfold cV;rw[if_neg k18,if_neg hm]
  rw[eb] at q;walk_at "g";refine⟨fun z=>absurd z hm,fun _=> ?_⟩
  walk_at "g";exact q sa H (az.refl _) ⟨as,hsa,hsp⟩
def Gq (K:Frag):Sp:=fun vs H Q _=>∃(pl a sa:Addr) (k:Nat) (ns:List Int) (sp:List SpM.Span) (pk:Nat) (pb:Int) (pm ps:Nat) (pg:Int),vs=[.ref pl,.ref a,.ref sa]/\Pl H pl pk pb pm ps pg/\aK 8 262144 k ns/\(k=11\/k=12)/\SqT K H a (aE k ns)/\SpT K H sa sp/\Sp8 sp/\Q (.bl (decide (nT pk pb ns sp))) H
theorem sI (B:Bi mg) (D:mI K mg) (ao:Has P w K mg base 1 "power_of_two" mh iJ):Has P w K mg base 2 "may_reach_out" ig (Gq K):=by
 refine D.has fg (fun vs H Q E h=> ?_) (fun f cdv A outer s H vs Q E hr h=> ?_)
 .obtain⟨pl,a,sa,k,ns,sp,pk,pb,pm,ps,pg,rfl,_⟩:=h
  rfl
 obtain⟨pl,a,sa,k,ns,sp,pk,pb,pm,ps,pg,rfl,hpl,hv,hk,ha,⟨as,hsa,hsp⟩,h8,q⟩:=h;obtain⟨x,y,z,rfl,x0,x1,y0,y1,z0,z1⟩:∃x y z,ns=[x,y,z]/\0<=x/\x < 8/\0<=y/\y < 8/\ -131072<=z/\z < 131072:=by
  rcases hv with⟨rfl,rfl⟩|⟨rfl,x,v,rfl,x0,x1,v0,v1⟩|⟨h1,h2,x,y,z,rfl,x0,x1,y0,y1,z0,z1⟩|⟨h1,h2,x,y,z,rfl,x0,x1,y0,y1,z0,z1⟩|⟨hk,z,rfl,z0,z1⟩|⟨rfl,x,z,rfl,x0,x1,z0,z1⟩|⟨rfl,y,rfl,y0,y1⟩|⟨hk,x,y,rfl,x0,x1,y0,y1⟩
  all_goals first | lia | exact⟨x,y,z,rfl,x0,x1,y0,y1,z0,z1⟩
 obtain⟨b1,e1,t1,v1⟩:=SpT.at (a:=sa) hsp h8 y0 y1;have hat:=hpl.at_;have hk20:=hpl.room.k20;have p0:atI [V.int pk,V.int pb,V.int pm,V.int ps,V.int pg] 0=some (.int pk):=aJ (j:=0) rfl;have p1:atI [V.int pk,V.int pb,V.int pm,V.int ps,V.int pg] 1=some (.int pb):=aJ (j:=1) rfl;have i2:atI (aE k [x,y,z]) 2=some (.int y):=pi;have i3:atI (aE k [x,y,z]) 3=some (.int z):=C9;have j0:atI [V.int (spG sp y).lo,V.int (spG sp y).hi,V.int (spG sp y).z] 0=some (.int (spG sp y).lo):=mT;have j1:atI [V.int (spG sp y).lo,V.int (spG sp y).hi,V.int (spG sp y).z] 1=some (.int (spG sp y).hi):=s_;have q':Q (.bl (decide ((spG sp y).lo+z < pb\/pb+2^pk<=(spG sp y).hi+z))) H:=q;clear q;have q:=q';clear q'
 refine⟨_,(aa (psS 3 fg.nd (pX ak (pv 2) (pX ak (pv 1) ac)))
   (aa (psS 4 fg.nd (pX ak (pv 1) ac))
   (aa (psS 5 fg.nd (pX ak (pv 0) ac))
   (ae (ah (wz (pcE iI (av aU (pX ak (pv 3) ac) (pv 4)) (pv 5)) (mW (pcE jH (av aU (pX ak (pv 3) ac) (pv 4)) (av aU (pv 5) (pcH ao hr (pa1 (pX ak (pv 0) ac)))))))))))),?_⟩
 try dsimp only[aT]
 walk_at "g"
 by_cases c:(spG sp y).lo+z < pb
 .rw[decide_eq_true (p:=(spG sp y).lo+z < pb\/_) (.inl c)] at q;rw[decide_eq_true c];walk_at "g";exact q
 .have e:decide ((spG sp y).lo+z < pb\/pb+2^pk<=(spG sp y).hi+z)=decide (pb+2^pk<=(spG sp y).hi+z):=decide_eq_decide.mpr ⟨fun h=>h.resolve_left c,.inr⟩
  rw[e] at q;rw[decide_eq_false c];walk_at "g";exact q
def Lz:Sp:=fun vs H Q _=>∃p c:Int,vs=[.int p,.int c]/\Q (.bl (decide (p %8≠0\/c<=p))) H
theorem ul (B:Bi mg) (D:n_ K mg):Has P w K mg base 1 "is_no_target" AI Lz:=by
 refine D.has ur (fun vs H Q E h=> ?_) (fun f cdv A outer s H vs Q E hr h=> ?_)
 .obtain⟨p,c,rfl,_⟩:=h
  rfl
 obtain⟨p,c,rfl,q⟩:=h;refine⟨_,(ae (ah (wz (pcE ug (av dJ (pv 0) ac) ac) (mW (pcE jH (pv 0) (pv 1)))))),?_⟩
 try dsimp only[aT]
 walk_at "g"
 by_cases h:p %8=0
 .have e:decide (p %8≠0\/c<=p)=decide (c<=p):=decide_eq_decide.mpr ⟨fun z=>z.resolve_left (fun n=>n h),.inr⟩
  rw[e] at q;have e2:(!decide (V.int (p %8)=V.int 0))=false:=by rw[h];rfl
  rw[e2];walk_at "g";exact q
 .rw[decide_eq_true (p:=p %8≠0\/c<=p) (.inl h)] at q;have e2:(!decide (V.int (p %8)=V.int 0))=true:=by rw[decide_eq_false (fun z=>h (by injection z))];rfl
  rw[e2];walk_at "g";exact q
def LA:Sp:=fun vs H Q _=>∃(a:Addr) (s:SpM.Span) (c:Int),vs=[.ref a,.int c]/\Tr H a s/\Q (.bl (decide (c<=s.hi\/s.z < 3))) H
theorem Ak (B:Bi mg) (D:tI K mg):Has P w K mg base 1 "is_no_way" A5 LA:=by
 refine D.has yM (fun vs H Q E h=> ?_) (fun f cdv A outer s H vs Q E hr h=> ?_)
 .obtain⟨a,s,c,rfl,_⟩:=h
  rfl
 obtain⟨a,sp,c,rfl,ht,q⟩:=h;have j1:atI [V.int sp.lo,V.int sp.hi,V.int sp.z] 1=some (.int sp.hi):=s_;have j2:atI [V.int sp.lo,V.int sp.hi,V.int sp.z] 2=some (.int sp.z):=pi;refine⟨_,(ae (ah (wz (pcE jH (pX ak (pv 0) ac) (pv 1)) (mW (pcE iI (pX ak (pv 0) ac) ac))))),?_⟩
 try dsimp only[aT]
 walk_at "g"
 by_cases h:c<=sp.hi
 .rw[decide_eq_true (p:=c<=sp.hi\/sp.z < 3) (.inl h)] at q;rw[decide_eq_true h];walk_at "g";exact q
 .have e:decide (c<=sp.hi\/sp.z < 3)=decide ((sp.z:Int) < 3):=decide_eq_decide.mpr ⟨fun z=>by have:=z.resolve_left h;lia,fun z=> .inr (by lia)⟩
  rw[e] at q;rw[decide_eq_false h];walk_at "g";exact q
def Jv (K:Frag):Sp:=fun vs H Q _=>∃(a:Addr) (k:Nat) (ns:List Int) (at_:Int),vs=[.ref a,.int at_]/\k < 19/\SqT K H a (aE k ns)/\Q (.bl (decide (8 < at_ %8+(if k=1 then 2 else 1)))) H
theorem xr (B:Bi mg) (D:rC K mg) (bf:Has P w K mg base 1 "length_of" cS (EL K)):Has P w K mg base 2 "is_no_word" Bo (Jv K):=by
 refine D.has w4 (fun vs H Q E h=> ?_) (fun f cdv A outer s H vs Q E hr h=> ?_)
 .obtain⟨a,k,ns,at_,rfl,_⟩:=h
  rfl
 obtain⟨a,k,ns,at_,rfl,hk,ha,q⟩:=h;refine⟨_,(ae (ah (wz (F8 (qD (pv 0))) (mW (pcE xO (av aU (av dJ (pv 1) ac) (pcH bf hr (pa1 (pv 0)))) ac))))),?_⟩
 try dsimp only[aT]
 walk_at "g";exact q
def fV:Option Str->V
 | none=> .non
 | some x=> .str x
def DA (K:Frag):Sp:=fun vs H Q _=>∃(pl a sa:Addr) (c:Int) (k:Nat) (ns:List Int) (sp:List SpM.Span) (pk:Nat) (pb:Int) (pm ps:Nat) (pg:Int),vs=[.ref pl,.int c,.ref a,.ref sa]/\Pl H pl pk pb pm ps pg/\aK 8 262144 k ns/\SqT K H a (aE k ns)/\SpT K H sa sp/\Sp8 sp/\Q (fV (bR pk pb pg c k ns sp)) H
theorem Bz (B:Bi mg) (D:vb K mg) (dH:Has P w K mg base 1 "made_box" cS (HF K)) (cX:Has P w K mg base 2 "may_reach_out" ig (Gq K)) (jr:Has P w K mg base 1 "is_no_target" AI Lz)
  (m9:Has P w K mg base 1 "is_no_way" A5 LA):Has P w K mg base 3 "fault_of" Cp (DA K):=by
 refine D.has tw (fun vs H Q E h=> ?_) (fun f cdv A outer s H vs Q E hr h=> ?_)
 .obtain⟨pl,a,sa,c,k,ns,sp,pk,pb,pm,ps,pg,rfl,_⟩:=h
  rfl
 obtain⟨pl,a,sa,c,k,ns,sp,pk,pb,pm,ps,pg,rfl,hpl,hv,ha,hst,h8,q⟩:=h;obtain⟨as,hsa,hsp⟩:=id hst;have i0:atI (aE k ns) 0=some (.str (aV k)):=mT;have hk19:=hv.lt
 refine⟨_,(aa (psS 4 tw.nd (pX ak (pv 2) ac))
   (aa (aO (bq (ax (pcT aD (pcH dH hr (pa1 (pv 2))) ac) (ae (ah aw)) al)))
   (aa (aO (bq (ax (PW.pt (kY (PW.pt (iF (pcT aD (pv 4) aw) (gf (pcT aD (pv 4) aw)))) (iP (ce (pcH cX hr (pa3 (pv 0) (pv 2) (pv 3))))))) (ae (ah aw)) al)))
   (aa (aO (bq (ax (PW.pt (kY (PW.pt (iF (pcT aD (pv 4) aw) (gf (pcT aD (pv 4) aw)))) (iP (ce (pcH jr hr (pa2 (pX ak (pv 2) (yJ (v:= -1) (by rfl))) (pv 1))))))) (ae (ah aw)) al)))
   (aa (aO (bq (ax (PW.pt (kY (pcT aD (pv 4) aw) (iP (ce (pcH m9 hr (pa2 (pX ak (pv 3) (pX ak (pv 2) ac)) (pv 1))))))) (ae (ah aw)) al)))
   (aa (aO (bq (ax (PW.pt (kY (pcT aD (pv 4) aw) (iP (pcT jH (pX ak (pv 2) ac) (pX ak (pv 0) ac))))) (ae (ah aw)) al)))
   (ae (ah d5)))))))),?_⟩
 try dsimp only[aT]
 walk_at "g";refine⟨fun Z' H'=>aG (H=H'/\Z'=[some (.ref pl),some (.int c),some (.ref a),some (.ref sa),some (.str (aV k))]/\¬(mk8 k/\ns.getD 0 0=7)),?_,?_⟩
 .walk_at "g";refine⟨fun hm=> ?_,fun hm=> ?_⟩
  .walk_at "g";refine bz (fun c7=> ?_) (fun c7=> ?_)
   .have e:bR pk pb pg c k ns sp=some ("host":Str):=if_pos ⟨hm,by injection c7⟩
    rw[e] at q;walk_at "g";exact q
   .exact aG.mk ⟨rfl,rfl,fun z=>c7 (by rw[z.2])⟩
  .walk_at "g";refine cA (fun z=>by cases z) ?_
   exact aG.mk ⟨rfl,rfl,fun z=>hm z.1⟩
 rintro Z1 H1 ⟨rfl,rfl,n1⟩
 walk_at "n";refine⟨fun Z' H'=>aG (H=H'/\Z'=[some (.ref pl),some (.int c),some (.ref a),some (.ref sa),some (.str (aV k))]/\¬((k=11\/k=12)/\nT pk pb ns sp)),?_,?_⟩
 .by_cases k11:k=11\/k=12
  .have ho:∀b:Bool,b=decide (nT pk pb ns sp)->b=true->Q (.str "beyond") H:=fun b e1 e2=>by
    have hz:nT pk pb ns sp:=of_decide_eq_true (e1.symm.trans e2);have e:bR pk pb pg c k ns sp=some ("beyond":Str):=by
     unfold bR;rw[if_neg n1,if_pos ⟨k11,hz⟩]
    rw[e] at q;exact q
   have hn:∀b:Bool,b=decide (nT pk pb ns sp)->¬b=true->¬((k=11\/k=12)/\nT pk pb ns sp):=fun b e1 e2 z=>e2 (e1.trans (decide_eq_true z.2))
   generalize hb:decide (nT pk pb ns sp)=bb at*;have k11':=k11;rcases k11 with rfl | rfl
   .walk_at "g";walk_at "wd";rw[hb];refine Cv (fun cb=> ?_) (fun cb=> ?_)
    .walk_at "g";exact ho bb rfl cb
    .exact aG.mk ⟨rfl,rfl,hn bb rfl (by rw[cb];decide)⟩
   .walk_at "g";walk_at "wd";rw[hb];refine Cv (fun cb=> ?_) (fun cb=> ?_)
    .walk_at "g";exact ho bb rfl cb
    .exact aG.mk ⟨rfl,rfl,hn bb rfl (by rw[cb];decide)⟩
  .walk_at "g";refine cA (sne hk19 (j:=11) (by decide) (fun e=>k11 (.inl e))) ?_
   walk_at "g";refine cA (sne hk19 (j:=12) (by decide) (fun e=>k11 (.inr e))) ?_
   exact aG.mk ⟨rfl,rfl,fun z=>k11 z.1⟩
 rintro Z2 H2 ⟨rfl,rfl,n2⟩
 walk_at "n";refine⟨fun Z' H'=>aG (H=H'/\Z'=[some (.ref pl),some (.int c),some (.ref a),some (.ref sa),some (.str (aV k))]/\¬((k=13\/k=14)/\(tgt k ns %8≠0\/c<=tgt k ns))),?_,?_⟩
 .by_cases kj:k=13\/k=14
  .have ho:∀b:Bool,b=decide (tgt k ns %8≠0\/c<=tgt k ns)->b=true->Q (.str "target") H:=fun b e1 e2=>by
    have hz:=of_decide_eq_true (e1.symm.trans e2);have e:bR pk pb pg c k ns sp=some ("target":Str):=by
     unfold bR;rw[if_neg n1,if_neg n2,if_pos ⟨kj,hz⟩]
    rw[e] at q;exact q
   have hn:∀b:Bool,b=decide (tgt k ns %8≠0\/c<=tgt k ns)->¬b=true->¬((k=13\/k=14)/\(tgt k ns %8≠0\/c<=tgt k ns)):=fun b e1 e2 z=>e2 (e1.trans (decide_eq_true z.2))
   have hl:atI (aE k ns) (-1)=some (.int (tgt k ns)):=by
    rcases hv with⟨rfl,rfl⟩|⟨rfl,x,v,rfl,x0,x1,v0,v1⟩|⟨h1,h2,x,y,z,rfl,x0,x1,y0,y1,z0,z1⟩|⟨h1,h2,x,y,z,rfl,x0,x1,y0,y1,z0,z1⟩|⟨hk,z,rfl,z0,z1⟩|⟨rfl,x,z,rfl,x0,x1,z0,z1⟩|⟨rfl,y,rfl,y0,y1⟩|⟨hk,x,y,rfl,x0,x1,y0,y1⟩
    .lia
    .lia
    .lia
    .lia
    .obtain rfl:k=13:=by lia
     rfl
    .rfl
    .lia
    .lia
   generalize hb:decide (tgt k ns %8≠0\/c<=tgt k ns)=bb at*;rcases kj with rfl | rfl
   .walk_at "g";walk_at "wd";rw[hb];refine Cv (fun cb=> ?_) (fun cb=> ?_)
    .walk_at "g";exact ho bb rfl cb
    .exact aG.mk ⟨rfl,rfl,hn bb rfl (by rw[cb];decide)⟩
   .walk_at "g";walk_at "wd";rw[hb];refine Cv (fun cb=> ?_) (fun cb=> ?_)
    .walk_at "g";exact ho bb rfl cb
    .exact aG.mk ⟨rfl,rfl,hn bb rfl (by rw[cb];decide)⟩
  .walk_at "g";refine cA (sne hk19 (j:=13) (by decide) (fun e=>kj (.inl e))) ?_
   walk_at "g";refine cA (sne hk19 (j:=14) (by decide) (fun e=>kj (.inr e))) ?_
   exact aG.mk ⟨rfl,rfl,fun z=>kj z.1⟩
 rintro Z3 H3 ⟨rfl,rfl,n3⟩
 walk_at "n";refine⟨fun Z' H'=>aG (H=H'/\Z'=[some (.ref pl),some (.int c),some (.ref a),some (.ref sa),some (.str (aV k))]/\¬(k=15/\(c<=(spG sp (ns.getD 0 0)).hi\/(spG sp (ns.getD 0 0)).z < 3))),?_,?_⟩
 .by_cases kt:k=15
  .subst kt;obtain⟨y,rfl,y0,y1⟩:∃y,ns=[y]/\0<=y/\y < 8:=by
    rcases hv with⟨e,rfl⟩|⟨e,x,v,rfl,x0,x1,v0,v1⟩|⟨h1,h2,x,y,z,rfl,x0,x1,y0,y1,z0,z1⟩|⟨h1,h2,x,y,z,rfl,x0,x1,y0,y1,z0,z1⟩|⟨hk,z,rfl,z0,z1⟩|⟨e,x,z,rfl,x0,x1,z0,z1⟩|⟨e,y,rfl,y0,y1⟩|⟨hk,x,y,rfl,x0,x1,y0,y1⟩
    all_goals first | lia | exact⟨_,rfl,y0,y1⟩
   have ho:∀b:Bool,b=decide (c<=(spG sp y).hi\/(spG sp y).z < 3)->b=true->Q (.str "way") H:=fun b e1 e2=>by
    have hz:=of_decide_eq_true (e1.symm.trans e2);have e:bR pk pb pg c 15 [y] sp=some ("way":Str):=by
     unfold bR;rw[if_neg n1,if_neg n2,if_neg n3,if_pos ⟨rfl,hz⟩]
    rw[e] at q;exact q
   have hn:∀b:Bool,b=decide (c<=(spG sp y).hi\/(spG sp y).z < 3)->¬b=true->¬((15:Nat)=15/\(c<=(spG sp ([y].getD 0 0)).hi\/(spG sp ([y].getD 0 0)).z < 3)):=fun b e1 e2 z=>e2 (e1.trans (decide_eq_true z.2))
   obtain⟨b1,e1,t1,v1⟩:=SpT.at (a:=sa) hsp h8 y0 y1;have i1:atI (aE 15 [y]) 1=some (.int y):=s_;generalize hb:decide (c<=(spG sp y).hi\/(spG sp y).z < 3)=bb at*;walk_at "g";walk_at "wd";rw[hb];refine Cv (fun cb=> ?_) (fun cb=> ?_)
   .walk_at "g";exact ho bb rfl cb
   .exact aG.mk ⟨rfl,rfl,hn bb rfl (by rw[cb];decide)⟩
  .walk_at "g";refine cA (sne hk19 (j:=15) (by decide) kt) ?_
   exact aG.mk ⟨rfl,rfl,fun z=>kt z.1⟩
 rintro Z4 H4 ⟨rfl,rfl,n4⟩
 walk_at "n";refine⟨fun Z' H'=>aG (H=H'/\Z'=[some (.ref pl),some (.int c),some (.ref a),some (.ref sa),some (.str (aV k))]/\¬(k=18/\pg<=ns.getD 0 0)),?_,?_⟩
 .by_cases kg:k=18
  .subst kg;obtain⟨y,rfl⟩:∃y,ns=[y]:=by
    rcases hv with⟨e,rfl⟩|⟨e,x,v,rfl,x0,x1,v0,v1⟩|⟨h1,h2,x,y,z,rfl,x0,x1,y0,y1,z0,z1⟩|⟨h1,h2,x,y,z,rfl,x0,x1,y0,y1,z0,z1⟩|⟨hk,z,rfl,z0,z1⟩|⟨e,x,z,rfl,x0,x1,z0,z1⟩|⟨e,y,rfl,y0,y1⟩|⟨hk,x,y,rfl,x0,x1,y0,y1⟩
    all_goals first | lia | exact⟨_,rfl⟩
   have i1:atI (aE 18 [y]) 1=some (.int y):=s_;have hat:=hpl.at_;have p4:atI [V.int pk,V.int pb,V.int pm,V.int ps,V.int pg] 4=some (.int pg):=aJ (j:=4) rfl;walk_at "g";walk_at "wd";refine bz (fun cg=> ?_) (fun cg=> ?_)
   .have e:bR pk pb pg c 18 [y] sp=some ("gate":Str):=by
     unfold bR;rw[if_neg n1,if_neg n2,if_neg n3,if_neg n4,if_pos ⟨rfl,cg⟩]
    rw[e] at q;walk_at "g";exact q
   .exact aG.mk ⟨rfl,rfl,fun z=>cg z.2⟩
  .walk_at "g";refine cA (sne hk19 (j:=18) (by decide) kg) ?_
   exact aG.mk ⟨rfl,rfl,fun z=>kg z.1⟩
 rintro Z5 H5 ⟨rfl,rfl,n5⟩
 have e:bR pk pb pg c k ns sp=none:=by
  unfold bR;rw[if_neg n1,if_neg n2,if_neg n3,if_neg n4,if_neg n5]
 rw[e] at q;walk_at "g";exact q
def Jw (K:Frag):Sp:=fun vs H Q _=>∃(pl cd sa:Addr) (at_:Int) (k:Nat) (ns ws:List Int) (sp:List SpM.Span) (pk:Nat) (pb:Int) (pm ps:Nat) (pg:Int),vs=[.ref pl,.ref cd,.int at_,.ref sa]/\Pl H pl pk pb pm ps pg/\SqL K H cd (ws.map V.int)/\(∀ y∈ws,0<=y/\y < 4294967296)/\ic ws at_=some (k,ns)/\at_ %8+(if k=1 then 2 else 1)<=8/\SpT K H sa sp/\Sp8 sp/\bR pk pb pg ws.length k ns sp=none/\
 ∀p H',az H H'->SqT K H' p (aE k ns)->Q (.ref p) H'
theorem mS (B:Bi mg) (D:ik K mg) (cK:Has P w K mg base 6 "instruction_at" EN (JU K)) (lE:Has P w K mg base 2 "is_no_word" Bo (Jv K)) (p8:Has P w K mg base 3 "fault_of" Cp (DA K)):
  Has P w K mg base 7 "instruction_let_by" A2 (Jw K):=by
 refine D.has d6 (fun vs H Q E h=> ?_) (fun f cdv A outer s H vs Q E hr h=> ?_)
 .obtain⟨pl,cd,sa,at_,k,ns,ws,sp,pk,pb,pm,ps,pg,rfl,_⟩:=h
  rfl
 obtain⟨pl,cd,sa,at_,k,ns,ws,sp,pk,pb,pm,ps,pg,rfl,hpl,hcd,hwr,hins,hlen,hst,h8,hf,q⟩:=h;have hwn:∀y∈ws,0<=y:=fun y hy=>(hwr y hy).1
 have hval:=ud hwr hins;have hk19:=hval.lt
 refine⟨_,(aa (psS 4 d6.nd (pcH cK hr (pa2 (pv 1) (pv 2))))
   (aa (ax (ce (pcH lE hr (pa2 (pv 4) (pv 2)))) (ae qY) al)
   (aa (psS 5 d6.nd (pcH p8 hr (pa4 (pv 0) (aI aM (by rfl) B.len dk (pa1 (pv 1))) (pv 4) (pv 3))))
   (aa (ax (lZ (uR (pv 5))) (ae qY) al)
   (ae (ah (pv 4))))))),?_⟩
 try dsimp only[aT]
 walk_at "g";intro v H1 s1 hi;rw[hins] at hi;obtain⟨ia,rfl,hia⟩:=hi;have pl1:=hpl.mv s1;have cd1:=s1.seq hcd;have st1:=hst.same s1;walk_at "g";refine xK (decide_eq_false (by lia)) ?_
 walk_at "g";have el:(((ws.map V.int).length:Nat):Int)=((ws.length:Nat):Int):=by rw[List.length_map]
 rw[el,hf];walk_at "g";exact q ia H1 s1 hia
theorem G1:∀k,k < 19->2<=k->k<=9->aR k=(["a","b","c"]:List Str):=by decide +kernel
theorem GA:∀k,k < 19->10<=k->k<=12->aR k=(["a","b","move"]:List Str):=by decide +kernel
theorem Ji:∀k,k < 19->16<=k->k<=17->aR k=(["a","b"]:List Str):=by decide +kernel
theorem Hb {k:Nat}{a b c:Int}(h1:2<=k) (h2:k<=9):cC k [a,b,c]=k*134217728+a*16777216+b*2097152+c*262144:=by
 unfold cC;rw[G1 k (by lia) h1 h2]
 rfl
theorem FF {k:Nat}{a b n:Int}(h1:10<=k) (h2:k<=12):cC k [a,b,n]=k*134217728+a*16777216+b*2097152+n %262144:=by
 unfold cC;rw[GA k (by lia) h1 h2]
 rfl
theorem JC {k:Nat}{a b:Int}(h1:16<=k) (h2:k<=17):cC k [a,b]=k*134217728+a*16777216+b*2097152:=by
 unfold cC;rw[Ji k (by lia) h1 h2]
 rfl
theorem nv {wd:Int}{k:Nat}{ns:List Int}(hk:wd / 134217728=k) (h19:k < 19) (hn:(aR k).map (fun x=>ge x wd)=ns) (hw:cC k ns=wd):owi wd=some (k,ns):=by
 unfold owi;rw[hk,if_neg (by lia),Int.toNat_natCast,hn,if_pos hw]
theorem yp {k:Nat}{ns:List Int}(h:aK 8 262144 k ns):0<=cC k ns/\owi (cC k ns)=some (k,if k=1 then ns.take 1 else ns):=by
 rcases h with⟨rfl,rfl⟩|⟨rfl,a,v,rfl,a0,a1,v0,v1⟩|⟨h1,h2,a,b,c,rfl,a0,a1,b0,b1,c0,c1⟩|⟨h1,h2,a,b,n,rfl,a0,a1,b0,b1,n0,n1⟩|⟨hk,n,rfl,n0,n1⟩|⟨rfl,a,n,rfl,a0,a1,n0,n1⟩|⟨rfl,b,rfl,b0,b1⟩|⟨hk,a,b,rfl,a0,a1,b0,b1⟩
 .exact⟨by decide,nv (k:=0) (by decide) (by decide) rfl rfl⟩
 .have e:cC 1 [a,v]=134217728+a*16777216:=rfl;rw[e,if_pos rfl];clear e;refine⟨by lia,nv (k:=1) (by lia) (by decide) ?_ rfl⟩
  show[(134217728+a*16777216) / 16777216 %8]=[a]
  rw[show(134217728+a*16777216) / 16777216 %8=a by lia]
 .have e:=Hb (a:=a) (b:=b) (c:=c) h1 h2;rw[if_neg (by lia)]
  refine⟨by rw[e];clear e;lia,nv (by rw[e];clear e;lia) (by lia) ?_ rfl⟩
  rw[G1 k (by lia) h1 h2,e]
  clear e;show[(k*134217728+a*16777216+b*2097152+c*262144) / 16777216 %8,(k*134217728+a*16777216+b*2097152+c*262144) / 2097152 %8,(k*134217728+a*16777216+b*2097152+c*262144) / 262144 %8]=[a,b,c]
  rw[show(k*134217728+a*16777216+b*2097152+c*262144) / 16777216 %8=a by lia,show(k*134217728+a*16777216+b*2097152+c*262144) / 2097152 %8=b by lia,show(k*134217728+a*16777216+b*2097152+c*262144) / 262144 %8=c by lia]
 .have e:=FF (a:=a) (b:=b) (n:=n) h1 h2;rw[if_neg (by lia)]
  refine⟨by rw[e];clear e;lia,nv (by rw[e];clear e;lia) (by lia) ?_ rfl⟩
  rw[GA k (by lia) h1 h2,e]
  clear e;generalize hx:(k:Int)*134217728+a*16777216+b*2097152+n %262144=x;show[x / 16777216 %8,x / 2097152 %8,if x %262144 < 131072 then x %262144 else x %262144 - 262144]=[a,b,n]
  have h3:(if x %262144 < 131072 then x %262144 else x %262144 - 262144)=n:=by split <;> lia
  rw[h3,show x / 16777216 %8=a by lia,show x / 2097152 %8=b by lia]
 .have e:cC k [n]=k*134217728+n %262144:=by rcases hk with rfl | rfl <;> rfl
  rw[if_neg (by lia)]
  refine⟨by rw[e];clear e;lia,nv (by rw[e];clear e;lia) (by lia) ?_ rfl⟩
  have ef:aR k=(["n"]:List Str):=by rcases hk with rfl | rfl <;> rfl
  rw[ef,e];clear e;show[(k*134217728+n %262144) %262144]=[n]
  rw[show(k*134217728+n %262144) %262144=n by lia]
 .have e:cC 14 [a,n]=14*134217728+a*16777216+n %262144:=rfl;rw[if_neg (by lia)]
  refine⟨by rw[e];clear e;lia,nv (by rw[e];clear e;lia) (by lia) ?_ rfl⟩
  rw[e];clear e;show[(14*134217728+a*16777216+n %262144) / 16777216 %8,(14*134217728+a*16777216+n %262144) %262144]=[a,n]
  rw[show(14*134217728+a*16777216+n %262144) / 16777216 %8=a by lia,show(14*134217728+a*16777216+n %262144) %262144=n by lia]
 .have e:cC 15 [b]=15*134217728+b*2097152:=rfl;rw[if_neg (by lia)]
  refine⟨by rw[e];clear e;lia,nv (by rw[e];clear e;lia) (by lia) ?_ rfl⟩
  rw[e];clear e;show[(15*134217728+b*2097152) / 2097152 %8]=[b]
  rw[show(15*134217728+b*2097152) / 2097152 %8=b by lia]
 .have e:=JC (k:=k) (a:=a) (b:=b) (by lia) (by lia)
  rw[if_neg (by lia)]
  refine⟨by rw[e];clear e;lia,nv (by rw[e];clear e;lia) (by lia) ?_ rfl⟩
  rw[Ji k (by lia) (by lia) (by lia),e]
  clear e;show[(k*134217728+a*16777216+b*2097152) / 16777216 %8,(k*134217728+a*16777216+b*2097152) / 2097152 %8]=[a,b]
  rw[show(k*134217728+a*16777216+b*2097152) / 16777216 %8=a by lia,show(k*134217728+a*16777216+b*2097152) / 2097152 %8=b by lia]
theorem yr {A Bs:List Int}{k:Nat}{ns:List Int}(h:aK 8 262144 k ns):ic (A++d8 k ns++Bs) (A.length:Nat)=some (k,ns):=by
 obtain⟨h0,ho⟩:=yp h;have hw:d8 k ns=if k=1 then[cC k ns,ns.getD 1 0] else[cC k ns]:=rfl
 unfold ic;rw[if_neg (by lia),Int.toNat_natCast]
 by_cases k1:k=1
 .subst k1;rw[hw,if_pos rfl];have e1:(A++[cC 1 ns,ns.getD 1 0]++Bs)[A.length]? =some (cC 1 ns):=by
   rw[List.append_assoc,List.getElem?_append_right (Nat.le_refl _),Nat.sub_self]
   rfl
  have e2:(A++[cC 1 ns,ns.getD 1 0]++Bs)[A.length+1]? =some (ns.getD 1 0):=by
   rw[List.append_assoc,List.getElem?_append_right (by lia)]
   have:A.length+1 - A.length=1:=by lia
   rw[this]
   rfl
  rw[e1];dsimp only;rw[ho,if_pos rfl];obtain⟨a,v,rfl⟩:∃a v,ns=[a,v]:=by
   rcases h with⟨e,rfl⟩|⟨e,x,v,rfl,x0,x1,v0,v1⟩|⟨h1,h2,x,y,z,rfl,x0,x1,y0,y1,z0,z1⟩|⟨h1,h2,x,y,z,rfl,x0,x1,y0,y1,z0,z1⟩|⟨hk,z,rfl,z0,z1⟩|⟨e,x,z,rfl,x0,x1,z0,z1⟩|⟨e,y,rfl,y0,y1⟩|⟨hk,x,y,rfl,x0,x1,y0,y1⟩
   all_goals first | lia | exact⟨_,_,rfl⟩
  dsimp only;rw[if_pos rfl,e2]
  rfl
 .rw[hw,if_neg k1];have e1:(A++[cC k ns]++Bs)[A.length]? =some (cC k ns):=by
   rw[List.append_assoc,List.getElem?_append_right (Nat.le_refl _),Nat.sub_self]
   rfl
  rw[e1];dsimp only;rw[ho,if_neg k1];dsimp only;rw[if_neg k1]
def bo (k:Nat):Nat:=if k=1 then 2 else 1
def ay (is:List (Nat × List Int)):List Int:=is.flatMap (fun kn=>d8 kn.1 kn.2)
theorem qg (k:Nat) (ns:List Int):(d8 k ns).length=bo k:=by
 unfold d8 bo
 split <;> rfl
theorem EF {k:Nat}{ns:List Int}(h:aK 8 262144 k ns):∀y∈d8 k ns,0<=y/\y < 4294967296:=by
 have one:cC k ns < 4294967296/\(k=1->0<=ns.getD 1 0/\ns.getD 1 0 < 4294967296):=by
  rcases h with⟨rfl,rfl⟩|⟨rfl,x,v,rfl,x0,x1,v0,v1⟩|⟨h1,h2,x,y,z,rfl,x0,x1,y0,y1,z0,z1⟩|⟨h1,h2,x,y,z,rfl,x0,x1,y0,y1,z0,z1⟩|⟨hk,z,rfl,z0,z1⟩|⟨rfl,x,z,rfl,x0,x1,z0,z1⟩|⟨rfl,y,rfl,y0,y1⟩|⟨hk,x,y,rfl,x0,x1,y0,y1⟩
  .exact⟨by decide,fun z=>by lia⟩
  .refine⟨?_,fun _=>⟨v0,v1⟩⟩
   have e:cC 1 [x,v]=134217728+x*16777216:=rfl;rw[e]
   lia
  .rw[Hb h1 h2];exact⟨by lia,fun z=>by lia⟩
  .rw[FF h1 h2];exact⟨by lia,fun z=>by lia⟩
  .rcases hk with rfl | rfl
   .have e:cC 13 [z]=13*134217728+z %262144:=rfl;rw[e];exact⟨by lia,fun z=>by lia⟩
   .have e:cC 18 [z]=18*134217728+z %262144:=rfl;rw[e];exact⟨by lia,fun z=>by lia⟩
  .have e:cC 14 [x,z]=14*134217728+x*16777216+z %262144:=rfl;rw[e];exact⟨by lia,fun z=>by lia⟩
  .have e:cC 15 [y]=15*134217728+y*2097152:=rfl;rw[e];exact⟨by lia,fun z=>by lia⟩
  .rw[JC (by lia) (by lia)]
   exact⟨by lia,fun z=>by lia⟩
 have h0:=(yp h).1;intro y hy;unfold d8 at hy
 split at hy
 .rename_i k1
  simp only[List.mem_cons,List.not_mem_nil,or_false] at hy
  rcases hy with rfl | rfl
  .exact⟨h0,one.1⟩
  .exact one.2 k1
 .simp only[List.mem_cons,List.not_mem_nil,or_false] at hy
  subst hy;exact⟨h0,one.1⟩
def w8:List SpM.Span:=List.replicate 8 SpM.whole
theorem zO:Sp8 w8:=⟨rfl,fun s hs=>by rw[List.eq_of_mem_replicate hs];exact SpM.Sv_whole⟩
def aQ (at_:Nat) (sp:List SpM.Span):List SpM.Span:=if at_ %8=0 then w8 else sp
theorem h_ {at_:Nat}{sp:List SpM.Span}(h:Sp8 sp):Sp8 (aQ at_ sp):=by
 unfold aQ
 split
 .exact zO
 .exact h
structure Pn where
 pk:Nat
 pb:Int
 pm:Nat
 ps:Nat
 pg:Int
noncomputable def jF (x:Pn):Nat->List SpM.Span->List (Nat × List Int)->List (Option (List SpM.Span))
 | _,_,[]=>[]
 | at_,sp,kn::r=>some (aQ at_ sp)::((if kn.1=1 then[none] else[])++jF x (at_+bo kn.1) (cV x.pk x.pb x.pm x.ps kn.1 kn.2 (aQ at_ sp)) r)
def okC (x:Pn) (total:Int):Nat->List SpM.Span->List (Nat × List Int)->Prop
 | _,_,[]=>True
 | at_,sp,kn::r=>aK 8 262144 kn.1 kn.2/\at_ %8+bo kn.1<=8/\bR x.pk x.pb x.pg total kn.1 kn.2 (aQ at_ sp)=none/\okC x total (at_+bo kn.1) (cV x.pk x.pb x.pm x.ps kn.1 kn.2 (aQ at_ sp)) r
def TdA (K:Frag) (H:Hp):List V->List (Option (List SpM.Span))->Prop
 | [],[]=>True
 | v::vs,none::r=>v= .non/\TdA K H vs r
 | v::vs,some sp::r=>(∃ a,v= .ref a/\SpT K H a sp)/\TdA K H vs r
 | _,_=>False
theorem TdA.same {H H':Hp}(e:az H H'):∀ {vs:List V}{r:List (Option (List SpM.Span))},TdA K H vs r->TdA K H' vs r
 | [],[],_=>True.intro
 | _::_,none::_,h=>⟨h.1,TdA.same e h.2⟩
 | _::_,some _::_,h=>⟨let ⟨a,h1,h2⟩:=h.1;⟨a,h1,h2.same e⟩,TdA.same e h.2⟩
 | [],none::_,h=>h.elim
 | [],some _::_,h=>h.elim
 | _::_,[],h=>h.elim
theorem TdA.len {H:Hp}:∀ {vs:List V}{r:List (Option (List SpM.Span))},TdA K H vs r->vs.length=r.length
 | [],[],_=>rfl
 | _::_,none::_,h=>congrArg (· +1) (TdA.len h.2)
 | _::_,some _::_,h=>congrArg (· +1) (TdA.len h.2)
 | [],none::_,h=>h.elim
 | [],some _::_,h=>h.elim
 | _::_,[],h=>h.elim
theorem TdA.app {H:Hp}{us:List V}{t:List (Option (List SpM.Span))}(hu:TdA K H us t):∀ {vs:List V}{r:List (Option (List SpM.Span))},TdA K H vs r->TdA K H (vs++us) (r++t)
 | [],[],_=>hu
 | _::_,none::_,h=>⟨h.1,TdA.app hu h.2⟩
 | _::_,some _::_,h=>⟨h.1,TdA.app hu h.2⟩
 | [],none::_,h=>h.elim
 | [],some _::_,h=>h.elim
 | _::_,[],h=>h.elim
theorem SpT.wr {H:Hp}{a b:Addr}{zs:List V}{o:HO}{sp:List SpM.Span}(hb:H b=some (.lst zs)) (h:SpT K H a sp):SpT K (upd H b o) a sp:=by
 obtain⟨as,h1,h2⟩:=h;refine⟨as,?_,h2.mono (fun a' xs e=>by rw[ai (fun z=>by rw[z,hb] at e;cases e)];exact e)⟩
 unfold SqT at h1 ⊢;rcases h1 with h1 | h1
 .refine .inl ?_
  rcases h1 with h1 | ⟨ob,h1⟩
  .exact .inl (by rw[ai (fun z=>by rw[z,hb] at h1;cases h1)];exact h1)
  .exact .inr ⟨ob,by rw[ai (fun z=>by rw[z,hb] at h1;cases h1)];exact h1⟩
 .exact .inr h1
theorem TdA.wr {H:Hp}{b:Addr}{zs:List V}{o:HO}(hb:H b=some (.lst zs)):∀ {vs:List V}{r:List (Option (List SpM.Span))},TdA K H vs r->TdA K (upd H b o) vs r
 | [],[],_=>True.intro
 | _::_,none::_,h=>⟨h.1,TdA.wr hb h.2⟩
 | _::_,some _::_,h=>⟨let ⟨a,h1,h2⟩:=h.1;⟨a,h1,h2.wr hb⟩,TdA.wr hb h.2⟩
 | [],none::_,h=>h.elim
 | [],some _::_,h=>h.elim
 | _::_,[],h=>h.elim
theorem C5 {x:Pn}{total:Int}:∀ {is:List (Nat × List Int)}{at_:Nat}{sp:List SpM.Span},okC x total at_ sp is->∀y∈ay is,0<=y/\y < 4294967296
 | [],_,_,_,y,hy=>by cases hy
 | j::r,at_,sp,h,y,hy=>by
  rcases List.mem_append.mp (show y∈d8 j.1 j.2++ay r from hy) with hy | hy
  .exact EF h.1 y hy
  .exact C5 (is:=r) h.2.2.2 y hy
noncomputable def gv (x:Pn):Nat->List SpM.Span->List (Nat × List Int)->List SpM.Span
 | _,sp,[]=>sp
 | at_,sp,kn::r=>gv x (at_+bo kn.1) (cV x.pk x.pb x.pm x.ps kn.1 kn.2 (aQ at_ sp)) r
structure km (x:Pn) (is:List (Nat × List Int)):Prop where
 len:(ay is).length=8*2^(x.pm+x.ps)
 ok:okC x (ay is).length 0 w8 is
 last:∃pre kn,is=pre++[kn]/\(kn.1=0\/kn.1=13\/kn.1=15)
 rng:∀y∈ay is,0<=y/\y < 4294967296
def JS (K:Frag):Sp:=fun vs H Q _=>∃(pl cd:Addr) (is:List (Nat × List Int)) (x:Pn),vs=[.ref pl,.ref cd]/\Pl H pl x.pk x.pb x.pm x.ps x.pg/\SqL K H cd ((ay is).map V.int)/\km x is/\∀p vs H',az H H'->H p=none->H' p=some (.lst vs)->TdA K H' vs (jF x 0 w8 is)->Q (.ref p) H'
theorem vI (B:Bi mg) (T2:Tb2 K mg) (D:pO K mg) (ao:Has P w K mg base 1 "power_of_two" mh iJ) (bJ:Has P w K mg base 2 "first_spans" [] (Hx K)) (eO:Has P w K mg base 7 "instruction_let_by" A2 (Jw K))
  (dz:Has P w K mg base 8 "spans_behind" ig (Kf K)) (bf:Has P w K mg base 1 "length_of" cS (EL K)):Has P w K mg base 9 "spans_ahead" pF (JS K):=by
 obtain⟨yI,Ag,H_⟩:=T2.last;refine D.has bX (fun vs H Q E h=> ?_) (fun f cdv A outer s H vs Q E hr h=> ?_)
 .obtain⟨pl,cd,is,x,rfl,_⟩:=h
  rfl
 obtain⟨pl,cd,is,x,rfl,hpl,hcd,co,q⟩:=h;have hat:=hpl.at_;have hms:=hpl.ms;have p2:atI [V.int x.pk,V.int x.pb,V.int x.pm,V.int x.ps,V.int x.pg] 2=some (.int x.pm):=aJ (j:=2) rfl;have p3:atI [V.int x.pk,V.int x.pb,V.int x.pm,V.int x.ps,V.int x.pg] 3=some (.int x.ps):=aJ (j:=3) rfl
 refine⟨_,(aa (ax (pcT ug (aI aM (by rfl) B.len dk (pa1 (pv 1))) (av cf ac (pcH ao hr (pa1 (av aU (pX ak (pv 0) ac) (pX ak (pv 0) ac)))))) (ae qY) al)
   (aa (psS 2 bX.nd (cw gU))
   (aa (psS 3 bX.nd (eU (bJ.mono (by omega)) hr (by rfl)))
   (aa (psS 4 bX.nd aw)
   (aa (aO (kE PassesOwn.never (pcT iI (aI aM (by rfl) B.len dk (pa1 (pv 2))) (aI aM (by rfl) B.len dk (pa1 (pv 1)))) (aa (aO (bq (ax (pcT aD (av dJ (aI aM (by rfl) B.len dk (pa1 (pv 2))) ac) ac) (ae (psS 3 bX.nd (eU (bJ.mono (by omega)) hr (by rfl)))) al)))
   (aa (psS 5 bX.nd (pcH eO hr (pa4 (pv 0) (pv 1) (aI aM (by rfl) B.len dk (pa1 (pv 2))) (pv 3))))
   (aa (psS 4 bX.nd (pX ak (pv 5) ac))
   (aa (cu (nS PySem.F.plainAttrs_list PySem.F.slot_list_append PySem.F.type_list_append gx (pv 2) (pa1 (pv 3))))
   (aa (psS 3 bX.nd (pcH dz hr (pa3 (pv 0) (pv 5) (pv 3))))
   (ae (aO (bq (ax (pcT aD (pcH bf hr (pa1 (pv 5))) ac) (ae (cu (nS PySem.F.plainAttrs_list PySem.F.slot_list_append PySem.F.type_list_append gx (pv 2) (pa1 d5)))) al)))))))))))
   (aa (ax (zb Af (pv 4) (lC (v:= .ref yI) (by rfl) Ag (by rfl)) (by rfl)) (ae qY) al)
   (ae (ah (pv 2))))))))),?_⟩
 try dsimp only[aT]
 walk_at "g";refine xK ?_ ?_
 .have e:(((ay is).map V.int).length:Int)=8*2^(x.pm+x.ps):=by
   rw[List.length_map,co.len,Int.natCast_mul,Int.natCast_pow]
   rfl
  rw[e,decide_eq_true rfl]
  rfl
 walk_at "g";intro td htd;have td0:H td=none:=htd;have s1:=ag htd (.lst []);have l1:upd H td (.lst []) td=some (.lst []):=ad;generalize upd H td (.lst [])=H1 at*;walk_at "g";intro sa H2 s2 t2;have l2:=s2 _ _ l1;have S2:=s1.trans s2;walk_at "g"
 refine⟨fun m Z H'=>∃(pre r:List (Nat × List Int)) (at_:Nat) (sp:List SpM.Span) (vs:List V) (tds:List (Option (List SpM.Span))) (sa:Addr) (sort:Str) (i5:Option V),m=r.length/\is=pre++r/\at_=(ay pre).length/\tds.length=at_/\tds++jF x at_ sp r=jF x 0 w8 is/\okC x (ay is).length at_ sp r/\Sp8 sp/\SpT K H' sa sp/\TdA K H' vs tds/\H' td=some (.lst vs)/\az H H'/\
  (∀ kn∈pre.getLast?,sort=aV kn.1)/\Z=[some (.ref pl),some (.ref cd),some (.ref td),some (.ref sa),some (.str sort),i5],⟨is.length,[],is,0,w8,[],[],sa,"",none,rfl,rfl,rfl,rfl,rfl,co.ok,zO,t2,True.intro,l2,S2,(fun kn hk=>by cases hk),rfl⟩,?_⟩
 intro m Z H3 hh_;refine bI fun G_ hG_=> ?_
 obtain⟨pre,r,at_,sp,vs,tds,sa,sort,i5,rfl,eis,eat,etl,etd,hok,h8,hst,htda,hl3,S3,hso,rfl⟩:=hh_;refine hG_ ?_
 have cd3:=S3.seq hcd;have pl3:=hpl.mv S3;have evs:vs.length=at_:=by rw[htda.len];exact etl
 have elen:(ay is).length=at_+(ay r).length:=by
  rw[eis,eat];unfold ay;rw[List.flatMap_append,List.length_append]
 have ct1:(((vs.length:Nat):Int) < (((ay is).map V.int).length:Nat))↔r≠[]:=by
  rw[List.length_map,evs,elen]
  cases r with
  | nil=>simp [ay]
  | cons kn r'=>
   have:0 < (ay (kn::r')).length:=by
    show 0 < (d8 kn.1 kn.2++ay r').length
    rw[List.length_append,qg];unfold bo
    split <;> lia
   constructor
   .intro _ z;cases z
   .intro _;lia
 walk_at "g";refine bz (fun c=> ?_) (fun c=> ?_)
 .have hr':=ct1.mp c;refine bI fun G_ hG_=> ?_
  obtain⟨⟨k,ns⟩,r',rfl⟩:=List.exists_cons_of_ne_nil hr';refine hG_ ?_
  refine bI fun G_ hG_=> ?_
  obtain⟨hv,hw8,hft,hok'⟩:=hok;refine hG_ ?_
  dsimp only at hv hw8 hft hok';walk_at "n"
  refine⟨fun Z' H'=>aG (∃ (pre r:List (Nat × List Int)) (at_:Nat) (sp:List SpM.Span) (vs:List V) (tds:List (Option (List SpM.Span))) (sa:Addr) (sort:Str) (i5:Option V),r.length < r'.length+1/\is=pre++r/\at_=(ay pre).length/\tds.length=at_/\tds++jF x at_ sp r=jF x 0 w8 is/\okC x (ay is).length at_ sp r/\Sp8 sp/\SpT K H' sa sp/\TdA K H' vs tds/\H' td=some (.lst vs)/\az H H'/\
  (∀ kn∈pre.getLast?,sort=aV kn.1)/\Z'=[some (.ref pl),some (.ref cd),some (.ref td),some (.ref sa),some (.str sort),i5]),fun Z' H' h=> ?_,?_⟩
  .refine bI fun G_ hG_=> ?_
   obtain⟨pre2,r2,at2,sp2,vs2,tds2,sa2,so2,i52,z1,z2⟩:=h.out;refine hG_ ?_
   exact⟨r2.length,z1,pre2,r2,at2,sp2,vs2,tds2,sa2,so2,i52,rfl,z2⟩
  walk_at "n";refine⟨fun Z' H'=>aG (∃ sa':Addr,SpT K H' sa' (aQ at_ sp)/\az H3 H'/\Z'=[some (.ref pl),some (.ref cd),some (.ref td),some (.ref sa'),some (.str sort),i5]),?_,?_⟩
  .walk_at "g";refine bz (fun c8=> ?_) (fun c8=> ?_)
   .have e8:aQ at_ sp=w8:=if_pos (by rw[evs] at c8;have h:((at_:Nat):Int) %8=0:=V.int.inj c8;lia)
    walk_at "g";intro sa2 H4 s4 t4;exact aG.mk ⟨sa2,by rw[e8];exact t4,s4,rfl⟩
   .have e8:aQ at_ sp=sp:=if_neg (fun z=>c8 (by rw[evs];show V.int (((at_:Nat):Int) %8)=V.int 0;rw[show((at_:Nat):Int) %8=0 by lia]))
    exact aG.mk ⟨sa,by rw[e8];exact hst,az.refl _,rfl⟩
  intro Z4 H4 hh_;refine bI fun G_ hG_=> ?_
  obtain⟨sa4,t4,s4,rfl⟩:=hh_;refine hG_ ?_
  have h8':=h_ (at_:=at_) h8;have etd2:tds++(some (aQ at_ sp)::((if k=1 then[none] else[])++jF x (at_+bo k) (cV x.pk x.pb x.pm x.ps k ns (aQ at_ sp)) r'))=jF x 0 w8 is:=etd
  generalize aQ at_ sp=sh at*;have l4:=s4 _ _ hl3;have S4:=S3.trans s4;have cd4:=s4.seq cd3;have pl4:=pl3.mv s4;have td4:=htda.same s4;have ews:ay is=ay pre++d8 k ns++ay r':=by
   rw[eis];unfold ay;rw[List.flatMap_append,List.append_assoc]
   rfl
  have hins:ic (ay is) ((vs.length:Nat):Int)=some (k,ns):=by
   rw[evs,eat,ews];exact yr hv
  have hl8:((vs.length:Nat):Int) %8+(if k=1 then 2 else 1)<=8:=by
   rw[evs];unfold bo at hw8
   split at hw8 <;> (rename_i z;simp only[z,if_true,if_false];lia)
  have hrng:=co.rng;walk_at "g";intro ia H5 s5 hia;have i0:atI (aE k ns) 0=some (.str (aV k)):=mT;have l5:=s5 _ _ l4;have t5:=t4.same s5;have td5:=td4.same s5;have pl5:=pl4.mv s5;have S5:=S4.trans s5;have hty:tyV K "list" (.ref td) H5:= .inl ⟨rfl,_,SqL.of l5⟩
  have hll:vs.length < sizeLine:=Nat.lt_of_le_of_lt (show vs.length<=8*2^7 by
   have h1:(2:Nat)^(x.pm+x.ps)<=2^7:=Nat.pow_le_pow_right (by decide) hms
   have h2:=co.len
   lia) (by decide)
  have S6:az H (upd H5 td (.lst (vs++[.ref sa4]))):=cr td0 S5;have l6:upd H5 td (.lst (vs++[.ref sa4])) td=some (.lst (vs++[.ref sa4])):=ad;have t6:SpT K (upd H5 td (.lst (vs++[.ref sa4]))) sa4 sh:=t5.wr l5;have td6:TdA K (upd H5 td (.lst (vs++[.ref sa4]))) (vs++[.ref sa4]) (tds++[some sh]):=TdA.app (show TdA K _ [V.ref sa4] [some sh] from⟨⟨sa4,rfl,t6⟩,True.intro⟩) (td5.wr l5);have ia6:SqT K (upd H5 td (.lst (vs++[.ref sa4]))) ia (aE k ns):=by
   unfold SqT at hia ⊢;rcases hia with h1 | h1
   .refine .inl ?_
    rcases h1 with h1 | ⟨ob,h1⟩
    .exact .inl (by rw[ai (fun z=>by rw[z,l5] at h1;cases h1)];exact h1)
    .exact .inr ⟨ob,by rw[ai (fun z=>by rw[z,l5] at h1;cases h1)];exact h1⟩
   .exact .inr h1
  have pl6:=hpl.mv S6;walk_at "g";generalize upd H5 td (.lst (vs++[.ref sa4]))=H6 at*;intro sa7 H7 s7 t7;have l7:=s7 _ _ l6;have td7:=td6.same s7;have ia7:=s7.tup ia6;have S7:=S6.trans s7;have hk19:=hv.lt;have hb8:Sp8 (cV x.pk x.pb x.pm x.ps k ns sh):=sW hpl.room hms hv h8';have fin:∀(H8:Hp) (us:List V),az H7 H8\/(∃ zs o,H7 td=some (.lst zs)/\H8=upd H7 td o)->az H H8->H8 td=some (.lst (vs++[.ref sa4]++us))->us=(if k=1 then[.non] else[])->
    ∃(pre r:List (Nat × List Int)) (at_:Nat) (sp:List SpM.Span) (vs:List V) (tds:List (Option (List SpM.Span))) (sa:Addr) (sort:Str) (i5:Option V),r.length < r'.length+1/\is=pre++r/\at_=(ay pre).length/\tds.length=at_/\tds++jF x at_ sp r=jF x 0 w8 is/\okC x (ay is).length at_ sp r/\Sp8 sp/\SpT K H8 sa sp/\TdA K H8 vs tds/\H8 td=some (.lst vs)/\az H H8/\
     (∀ kn∈pre.getLast?,sort=aV kn.1)/\[some (.ref pl),some (.ref cd),some (.ref td),some (.ref sa7),some (.str (aV k)),some (.ref ia)]=[some (.ref pl),some (.ref cd),some (.ref td),some (.ref sa),some (.str sort),i5]:=by
   intro H8 us h78 S8 l8 eus;have t8:SpT K H8 sa7 (cV x.pk x.pb x.pm x.ps k ns sh):=by
    rcases h78 with h | ⟨zs,o,h1,rfl⟩
    .exact t7.same h
    .exact t7.wr h1
   have td8:TdA K H8 (vs++[.ref sa4]) (tds++[some sh]):=by
    rcases h78 with h | ⟨zs,o,h1,rfl⟩
    .exact td7.same h
    .exact td7.wr h1
   have tdu:TdA K H8 us (if k=1 then[none] else[]):=by
    rw[eus]
    split
    .exact⟨rfl,True.intro⟩
    .exact True.intro
   refine⟨pre++[(k,ns)],r',at_+bo k,cV x.pk x.pb x.pm x.ps k ns sh,vs++[.ref sa4]++us,tds++[some sh]++(if k=1 then[none] else[]),sa7,aV k,some (.ref ia),Nat.lt_succ_self _,by rw[eis,List.append_assoc];rfl,?_,?_,?_,hok',hb8,t8,TdA.app tdu td8,l8,S8,?_,rfl⟩
   .rw[eat];unfold ay;rw[List.flatMap_append,List.length_append];show _=_+(d8 k ns++[]).length
    rw[List.append_nil,qg]
   .rw[List.length_append,List.length_append,etl];unfold bo
    split <;> rfl
   .rw[<- etd2,List.append_assoc,List.append_assoc]
    rfl
   .intro kn hk;have:(k,ns)=kn:=by simpa using hk
    rw[<- this]
  have hty7:tyV K "list" (.ref td) H7:= .inl ⟨rfl,_,SqL.of l7⟩
  have hll7:(vs++[V.ref sa4]).length < sizeLine:=Nat.lt_of_le_of_lt (show(vs++[V.ref sa4]).length<=8*2^7+1 by
   rw[List.length_append];have h1:(2:Nat)^(x.pm+x.ps)<=2^7:=Nat.pow_le_pow_right (by decide) hms
   have h2:=co.len
   simp only[List.length_cons,List.length_nil]
   lia) (by decide)
  walk_at "n";refine⟨_,?_,fun Z' H' h=>h⟩
  walk_at "g"
  by_cases k1:k=1
  .refine yg (by rw[if_pos k1]) ?_
   walk_at "g";exact aG.mk (fin _ [.non] (.inr ⟨_,_,l7,rfl⟩) (cr td0 S7) ad (by rw[if_pos k1]))
  .refine cA (fun z=>by rw[if_neg k1] at z;have:=V.int.inj z;lia) ?_
   exact aG.mk (fin H7 [] (.inl (az.refl _)) S7 (by rw[List.append_nil];exact l7) (by rw[if_neg k1]))
 .have hr':r=[]:=Classical.not_not.mp (fun z=>c (ct1.mpr z))
  subst hr';rw[List.append_nil] at eis;subst eis;refine bI fun G_ hG_=> ?_
  obtain⟨pre',kn,e1,e2⟩:=co.last;refine hG_ ?_
  have es:sort=aV kn.1:=hso kn (by rw[e1];simp)
  have hk:kn.1 < 19:=by lia
  have etd':tds=jF x 0 w8 is:=by
   rw[<- etd];exact(List.append_nil tds).symm
  rw[etd'] at htda;subst es;have hin:=Ib kn.1 hk;walk_at "g";rw[if_pos rfl,hin,decide_eq_true e2];walk_at "g";exact q td vs H3 S3 td0 hl3 htda
def HA (K:Frag):Sp:=fun vs H Q _=>∃(pl cd:Addr) (is:List (Nat × List Int)) (x:Pn),vs=[.ref pl,.ref cd]/\Pl H pl x.pk x.pb x.pm x.ps x.pg/\SqL K H cd ((ay is).map V.int)/\km x is/\∀H',az H H'->Q .non H'
theorem FO (B:Bi mg) (D:EB K mg) (dW:Has P w K mg base 9 "spans_ahead" pF (JS K)):Has P w K mg base 10 "check" pF (HA K):=by
 refine D.has F_ (fun vs H Q E h=> ?_) (fun f cdv A outer s H vs Q E hr h=> ?_)
 .obtain⟨pl,cd,is,x,rfl,_⟩:=h
  rfl
 obtain⟨pl,cd,is,x,rfl,hpl,hcd,co,q⟩:=h;refine⟨_,(ae (cu (pcH dW hr (pa2 (pv 0) (pv 1))))),?_⟩
 try dsimp only[aT]
 refine⟨_,rfl,_,rfl,pl,cd,is,x,rfl,hpl,hcd,co,fun p vs H1 s1 _ _ _=> ?_⟩
 walk_at "g";exact q H1 s1
abbrev Ins:=Nat × List Int
def lnW (is:List Ins):Nat:=(is.map fun kn=>bo kn.1).sum
theorem eu (a b:List Ins):lnW (a++b)=lnW a+lnW b:=by unfold lnW;rw[List.map_append,List.sum_append]
theorem a9 (a:Ins) (b:List Ins):lnW (a::b)=bo a.1+lnW b:=by unfold lnW;rw[List.map_cons,List.sum_cons]
theorem hV (a:Ins):lnW [a]=bo a.1:=by rw[a9];rfl
theorem bO:∀is:List Ins,(ay is).length=lnW is
 | []=>rfl
 | kn::r=>by
  rw[a9, <-bO r, <-qg kn.1 kn.2, <-List.length_append]
  rfl
theorem iZ (a b:List Ins):ay (a++b)=ay a++ay b:=by unfold ay;rw[List.flatMap_append]
theorem tQ (a:Ins) (b:List Ins):ay (a::b)=d8 a.1 a.2++ay b:=rfl
theorem iO (k:Nat):1<=bo k/\bo k<=2:=by unfold bo;split <;> lia
theorem CW:∀is:List Ins,is.length<=lnW is
 | []=>Nat.le_refl _
 | kn::r=>by rw[a9,List.length_cons];have:=CW r;have:=iO kn.1;lia
theorem GQ:∀is:List Ins,lnW is<=2*is.length
 | []=>Nat.le_refl _
 | kn::r=>by rw[a9,List.length_cons];have:=GQ r;have:=iO kn.1;lia
theorem vO {is:List Ins}(h:∀kn∈is,kn.1≠1):lnW is=is.length:=by
 induction is with
 | nil=>rfl
 | cons kn r ih=>
  rw[a9,List.length_cons,ih (fun x hx=>h x (List.mem_cons_of_mem _ hx))]
  have:bo kn.1=1:=by unfold bo;rw[if_neg (h kn List.mem_cons_self)]
  lia
def grp (kn:Ins):List Ins:=
 if kn.1=15 then[(17,[6,kn.2.getD 0 0]),(15,[6])]
 else if kn.1=11\/kn.1=12 then
  if kn.2.getD 2 0=0 then[(16,[6,kn.2.getD 1 0]),(kn.1,[kn.2.getD 0 0,6,0])]
  else[(10,[6,kn.2.getD 1 0,kn.2.getD 2 0]),(16,[6,6]),(kn.1,[kn.2.getD 0 0,6,0])]
 else[kn]
def nop:Ins:=(10,[0,0,0])
def rG (n:Nat):List Ins:=List.replicate ((8 - n %8) %8) nop
def cG (is g:List Ins):List Ins:=if lnW is %8+lnW g<=8 then is else is++rG (lnW is)
abbrev Bk:=List Ins × List Nat
def Km (st:Bk) (g:List Ins):Bk:=(cG st.1 g++g,st.2++[lnW (cG st.1 g)])
def cR (b:List Ins):Bk:=b.foldl (fun st kn=>Km st (grp kn)) ([],[])
theorem wg (n:Nat):lnW (rG n)=(8 - n %8) %8:=by
 unfold rG;rw[vO (fun kn hk=>by rw[(List.mem_replicate.mp hk).2];decide),List.length_replicate]
theorem A4 (m:Nat):lnW (List.replicate m nop)=m:=by
 rw[vO (is:=List.replicate m nop) (fun kn hk=>by rw[(List.mem_replicate.mp hk).2];decide),List.length_replicate]
theorem oV {b:List Ins}{j:Nat}{kn:Ins}(h:b[j]? =some kn):cR (b.take (j+1))=Km (cR (b.take j)) (grp kn):=by
 unfold cR;rw[List.take_succ,h,List.foldl_append]
 rfl
def plc (n:Nat) (kn:Ins):Ins:=if kn.1=13 then(13,[kn.2.getD 0 0*n]) else if kn.1=14 then(14,[kn.2.getD 0 0,kn.2.getD 1 0*n]) else kn
theorem Ci (n:Nat) (kn:Ins):(plc n kn).1=kn.1:=by
 unfold plc
 split
 .rename_i h;exact h.symm
 .split
  .rename_i h;exact h.symm
  .rfl
def fD (n:Nat) (is:List Ins):List Ins:=is.map (plc n)++List.replicate (n - lnW is) (0,[])
def gg (n tot:Nat) (bs:List Bk):List Ins:=bs.flatMap (fun b=>fD n b.1)++List.replicate (tot - bs.length*n) (0,[])
theorem oY (n:Nat):∀is:List Ins,lnW (is.map (plc n))=lnW is
 | []=>rfl
 | kn::r=>by rw[List.map_cons,a9,a9,oY n r,Ci]
theorem oZ (n:Nat):lnW (List.replicate n ((0,[]):Ins))=n:=by
 rw[vO (fun kn hk=>by rw[(List.mem_replicate.mp hk).2];decide),List.length_replicate]
theorem sy {n:Nat}{is:List Ins}(h:lnW is<=n):lnW (fD n is)=n:=by
 unfold fD;rw[eu,oY,oZ]
 lia
theorem rn {n:Nat}:∀ {bs:List Bk},(∀ b∈bs,lnW b.1<=n)->lnW (bs.flatMap fun b=>fD n b.1)=bs.length*n
 | [],_=>by simp [lnW]
 | b::r,h=>by
  rw[List.flatMap_cons,eu,sy (h b List.mem_cons_self),rn (fun x hx=>h x (List.mem_cons_of_mem _ hx)),List.length_cons,Nat.succ_mul]
  lia
theorem yl {n tot:Nat}{bs:List Bk}(h:∀b∈bs,lnW b.1<=n) (ht:bs.length*n<=tot):lnW (gg n tot bs)=tot:=by
 unfold gg;rw[eu,rn h,oZ]
 lia
theorem sB {kn:Ins}(h:aK 8 262144 kn.1 kn.2):∀g∈grp kn,aK 8 262144 g.1 g.2:=by
 obtain⟨k,ns⟩:=kn;dsimp only at h;intro g hg;unfold grp at hg;dsimp only at hg
 split at hg
 .rename_i k15
  subst k15;obtain⟨b,rfl,b0,b1⟩:∃b,ns=[b]/\0<=b/\b < 8:=by
   rcases h with⟨e,rfl⟩|⟨e,x,v,rfl,x0,x1,v0,v1⟩|⟨h1,h2,x,y,z,rfl,x0,x1,y0,y1,z0,z1⟩|⟨h1,h2,x,y,z,rfl,x0,x1,y0,y1,z0,z1⟩|⟨hk,z,rfl,z0,z1⟩|⟨e,x,z,rfl,x0,x1,z0,z1⟩|⟨e,y,rfl,y0,y1⟩|⟨hk,x,y,rfl,x0,x1,y0,y1⟩
   all_goals first | lia | exact⟨_,rfl,by assumption,by assumption⟩
  simp only[List.mem_cons,List.not_mem_nil,or_false] at hg
  rcases hg with rfl | rfl
  .exact .inr (.inr (.inr (.inr (.inr (.inr (.inr ⟨.inr rfl,6,b,rfl,by decide,by decide,b0,b1⟩))))))
  .exact .inr (.inr (.inr (.inr (.inr (.inr (.inl ⟨rfl,6,rfl,by decide,by decide⟩))))))
 .split at hg
  .rename_i hk
   obtain⟨a,b,n,rfl,a0,a1,b0,b1,n0,n1⟩:∃a b n,ns=[a,b,n]/\0<=a/\a < 8/\0<=b/\b < 8/\ -131072<=n/\n < 131072:=by
    rcases h with⟨e,rfl⟩|⟨e,x,v,rfl,x0,x1,v0,v1⟩|⟨h1,h2,x,y,z,rfl,x0,x1,y0,y1,z0,z1⟩|⟨h1,h2,x,y,z,rfl,x0,x1,y0,y1,z0,z1⟩|⟨hk,z,rfl,z0,z1⟩|⟨e,x,z,rfl,x0,x1,z0,z1⟩|⟨e,y,rfl,y0,y1⟩|⟨hk,x,y,rfl,x0,x1,y0,y1⟩
    all_goals first | lia | exact⟨_,_,_,rfl,by assumption,by assumption,by assumption,by assumption,by assumption,by assumption⟩
   split at hg
   .simp only[List.mem_cons,List.not_mem_nil,or_false] at hg
    rcases hg with rfl | rfl
    .exact .inr (.inr (.inr (.inr (.inr (.inr (.inr ⟨.inl rfl,6,b,rfl,by decide,by decide,b0,b1⟩))))))
    .exact .inr (.inr (.inr (.inl ⟨by show 10<=k;lia,by show k<=12;lia,a,6,0,rfl,a0,a1,by decide,by decide,by decide,by decide⟩)))
   .simp only[List.mem_cons,List.not_mem_nil,or_false] at hg
    rcases hg with rfl | rfl | rfl
    .exact .inr (.inr (.inr (.inl ⟨by show 10<=10;decide,by show 10<=12;decide,6,b,n,rfl,by decide,by decide,b0,b1,n0,n1⟩)))
    .exact .inr (.inr (.inr (.inr (.inr (.inr (.inr ⟨.inl rfl,6,6,rfl,by decide,by decide,by decide,by decide⟩))))))
    .exact .inr (.inr (.inr (.inl ⟨by show 10<=k;lia,by show k<=12;lia,a,6,0,rfl,a0,a1,by decide,by decide,by decide,by decide⟩)))
  .rw[List.mem_singleton.mp hg];exact h
theorem uW (kn:Ins):1<=lnW (grp kn)/\lnW (grp kn)<=3:=by
 unfold grp
 split
 .simp only[a9]
  exact⟨by show 1<=1+(1+0);decide,by show 1+(1+0)<=3;decide⟩
 .split
  .rename_i h
   have e:bo kn.1=1:=by unfold bo;rw[if_neg (by lia)]
   split
   .simp only[a9,e];exact⟨by show 1<=1+(1+0);decide,by show 1+(1+0)<=3;decide⟩
   .simp only[a9,e];exact⟨by show 1<=1+(1+(1+0));decide,by show 1+(1+(1+0))<=3;decide⟩
  .rw[hV];have:=iO kn.1
   lia
theorem D5 (kn:Ins):(grp kn).length<=3:=by
 unfold grp
 split
 .simp
 .split
  .split <;> simp
  .simp
theorem xM:aK 8 262144 nop.1 nop.2:= .inr (.inr (.inr (.inl ⟨by decide,by decide,0,0,0,rfl,by decide,by decide,by decide,by decide,by decide,by decide⟩)))
theorem Aw (is g:List Ins):lnW is<=lnW (cG is g)/\(lnW (cG is g)=lnW is\/(8 < lnW is %8+lnW g/\lnW (cG is g)=lnW is+(8 - lnW is %8) %8)):=by
 unfold cG
 split
 .exact⟨Nat.le_refl _,.inl rfl⟩
 .rw[eu,wg];exact⟨by lia,.inr ⟨by lia,rfl⟩⟩
theorem tu (b:List Ins):∀j,j<=b.length->lnW (cR (b.take j)).1<=if j %2=0 then 4*j else 4*(j - 1)+3
 | 0,_=>by simp [cR,lnW]
 | j+1,h=>by
  have ih:=tu b j (by lia)
  have e:b[j]? =some b[j]:=List.getElem?_eq_getElem (by lia)
  rw[oV e];show lnW (cG _ _++grp b[j])<=_
  rw[eu];have h1:=(Aw (cR (b.take j)).1 (grp b[j])).2;have h2:=uW b[j];generalize lnW (cG (cR (b.take j)).1 (grp b[j]))=x at*;generalize lnW (cR (b.take j)).1=y at*
  by_cases c:j %2=0
  .rw[if_pos c] at ih;rw[if_neg (by lia)]
   lia
  .rw[if_neg c] at ih;rw[if_pos (by lia)]
   lia
theorem Iy (b:List Ins):lnW (cR b).1<=4*b.length+3:=by
 have:=tu b b.length (Nat.le_refl _);rw[List.take_length] at this
 split at this <;> lia
theorem z_ (b:List Ins):∀j,j<=b.length->(cR (b.take j)).2.length=j
 | 0,_=>by simp [cR]
 | j+1,h=>by
  have e:b[j]? =some b[j]:=List.getElem?_eq_getElem (by lia)
  rw[oV e];show((cR (b.take j)).2++[_]).length=_
  rw[List.length_append,z_ b j (by lia)]
  rfl
def fk (K:Frag) (H:Hp):List Addr->List Ins->Prop
 | [],[]=>True
 | t::ts,kn::is=>SqT K H t (aE kn.1 kn.2)/\fk K H ts is
 | _,_=>False
theorem fk.mono {K:Frag}{H H':Hp}(f:∀t xs,SqT K H t xs->SqT K H' t xs):∀ {ts:List Addr}{is:List Ins},fk K H ts is->fk K H' ts is
 | [],[],_=>True.intro
 | _::_,_::_,h=>⟨f _ _ h.1,fk.mono f h.2⟩
 | [],_::_,h=>h.elim
 | _::_,[],h=>h.elim
theorem fk.same {K:Frag}{H H':Hp}(s:az H H') {ts:List Addr}{is:List Ins}(h:fk K H ts is):fk K H' ts is:=h.mono fun _ _ z=>s.tup z
theorem fk.len {K:Frag}{H:Hp}:∀ {ts:List Addr}{is:List Ins},fk K H ts is->ts.length=is.length
 | [],[],_=>rfl
 | _::_,_::_,h=>congrArg (· +1) (fk.len h.2)
 | [],_::_,h=>h.elim
 | _::_,[],h=>h.elim
theorem fk.app {K:Frag}{H:Hp}{us:List Addr}{ks:List Ins}(hu:fk K H us ks):∀ {ts:List Addr}{is:List Ins},fk K H ts is->fk K H (ts++us) (is++ks)
 | [],[],_=>hu
 | _::_,_::_,h=>⟨h.1,fk.app hu h.2⟩
 | [],_::_,h=>h.elim
 | _::_,[],h=>h.elim
theorem fk.get {K:Frag}{H:Hp}:∀ {ts:List Addr}{is:List Ins}{j:Nat}{t:Addr},fk K H ts is->ts[j]? =some t->∃kn,is[j]? =some kn/\SqT K H t (aE kn.1 kn.2)
 | _::_,kn::_,0,_,h,e=>by cases e;exact⟨kn,rfl,h.1⟩
 | _::_,_::_,j+1,_,h,e=>fk.get (j:=j) h.2 e
 | [],[],_,_,_,e=>by simp at e
 | [],_::_,_,_,h,_=>h.elim
 | _::_,[],_,_,h,_=>h.elim
theorem aK.lt19 {bx mo:Int}{k:Nat}{ns:List Int}(h:aK bx mo k ns):k < 19:=by
 rcases h with⟨e,rfl⟩|⟨e,x,v,rfl,x0,x1,v0,v1⟩|⟨h1,h2,x,y,z,rfl,x0,x1,y0,y1,z0,z1⟩|⟨h1,h2,x,y,z,rfl,x0,x1,y0,y1,z0,z1⟩|⟨hk,z,rfl,z0,z1⟩|⟨e,x,z,rfl,x0,x1,z0,z1⟩|⟨e,y,rfl,y0,y1⟩|⟨hk,x,y,rfl,x0,x1,y0,y1⟩
 all_goals lia
theorem aK.put2 {bx mo:Int}{k:Nat}{ns:List Int}(h:aK bx mo k ns) (k1:k=1):2<=ns.length:=by
 rcases h with⟨e,rfl⟩|⟨e,x,v,rfl,x0,x1,v0,v1⟩|⟨h1,h2,x,y,z,rfl,x0,x1,y0,y1,z0,z1⟩|⟨h1,h2,x,y,z,rfl,x0,x1,y0,y1,z0,z1⟩|⟨hk,z,rfl,z0,z1⟩|⟨e,x,z,rfl,x0,x1,z0,z1⟩|⟨e,y,rfl,y0,y1⟩|⟨hk,x,y,rfl,x0,x1,y0,y1⟩
 all_goals first | lia | exact Nat.le_refl _
abbrev VI (kn:Ins):Prop:=aK 8 262144 kn.1 kn.2
abbrev lfs (i b:Addr) (n:Int):List (Str × V):=[("instructions",.ref i),("begins",.ref b),("length",.int n)]
abbrev vn (n:Nat):V:= .int (n:Int)
def B3 (x i b:Addr) (H H':Hp):Prop:=∀a o,a≠x->a≠i->a≠b->H a=some o->H' a=some o
theorem B3.refl {x i b:Addr}(H:Hp):B3 x i b H H:=fun _ _ _ _ _ h=>h
theorem B3.trans {x i b:Addr}{H H1 H2:Hp}(p:B3 x i b H H1) (q:B3 x i b H1 H2):B3 x i b H H2:=fun a o h1 h2 h3 h=>q a o h1 h2 h3 (p a o h1 h2 h3 h)
theorem B3.of {x i b:Addr}{H H1:Hp}(s:az H H1):B3 x i b H H1:=fun a o _ _ _ h=>s a o h
theorem B3.ux {x i b:Addr}{H H1:Hp}{o:HO}(p:B3 x i b H H1):B3 x i b H (upd H1 x o):=fun a u h1 h2 h3 h=>by rw[ai h1];exact p a u h1 h2 h3 h
theorem B3.ui {x i b:Addr}{H H1:Hp}{o:HO}(p:B3 x i b H H1):B3 x i b H (upd H1 i o):=fun a u h1 h2 h3 h=>by rw[ai h2];exact p a u h1 h2 h3 h
theorem B3.ub {x i b:Addr}{H H1:Hp}{o:HO}(p:B3 x i b H H1):B3 x i b H (upd H1 b o):=fun a u h1 h2 h3 h=>by rw[ai h3];exact p a u h1 h2 h3 h
theorem B3.same {x i b:Addr}{H H1 H2:Hp}(s:az H H1) (hx:H x=none) (hi:H i=none) (hb:H b=none) (p:B3 x i b H1 H2):az H H2:=fun a o h=>
 p a o (aj h hx) (aj h hi) (aj h hb) (s a o h)
structure aX (K:Frag) (C:Addr) (H:Hp) (x dx i b:Addr) (js:List Addr) (is:List Ins) (bs:List Nat):Prop where
 at_:H x=some (.ins C dx (lfs i b (lnW is:Nat)))
 li:H i=some (.lst (js.map V.ref))
 lb:H b=some (.lst (bs.map vn))
 ib:i≠b
 ow:fk K H js is
 va:∀kn∈is,VI kn
theorem aX.xi {K:Frag}{C:Addr}{H:Hp}{x dx i b:Addr}{js:List Addr}{is:List Ins}{bs:List Nat}(l:aX K C H x dx i b js is bs):x≠i:=dS l.at_ l.li (by intro z;cases z)
theorem aX.xb {K:Frag}{C:Addr}{H:Hp}{x dx i b:Addr}{js:List Addr}{is:List Ins}{bs:List Nat}(l:aX K C H x dx i b js is bs):x≠b:=dS l.at_ l.lb (by intro z;cases z)
theorem aX.same {K:Frag}{C:Addr}{H H':Hp}{x dx i b:Addr}{js:List Addr}{is:List Ins}{bs:List Nat}(s:az H H') (l:aX K C H x dx i b js is bs):aX K C H' x dx i b js is bs:=
 ⟨s _ _ l.at_,s _ _ l.li,s _ _ l.lb,l.ib,l.ow.same s,l.va⟩
theorem B3.tup {K:Frag}{C:Addr}{H H':Hp}{x dx i b t:Addr}{js:List Addr}{is:List Ins}{bs:List Nat}{xs:List V}(l:aX K C H x dx i b js is bs) (p:B3 x i b H H') (h:SqT K H t xs):SqT K H' t xs:=by
 rcases h with(h | ⟨o,h⟩) | h
 .exact .inl (.inl (p _ _ (dS h l.at_ (by intro z;cases z)) (dS h l.li (by intro z;cases z)) (dS h l.lb (by intro z;cases z)) h))
 .exact .inl (.inr ⟨o,p _ _ (dS h l.at_ (by intro z;cases z)) (dS h l.li (by intro z;cases z)) (dS h l.lb (by intro z;cases z)) h⟩)
 .exact .inr h
theorem fk.b3 {K:Frag}{C:Addr}{H H':Hp}{x dx i b:Addr}{js ts:List Addr}{is ks:List Ins}{bs:List Nat}(l:aX K C H x dx i b js is bs) (p:B3 x i b H H') (h:fk K H ts ks):fk K H' ts ks:=h.mono fun _ _ z=>p.tup l z
def Ai (K:Frag) (C:Addr):Sp:=fun vs H Q _=>∃(H0:Hp) (x dx:Addr),vs=[.ref x]/\H x=some (.ins C dx [])/\H0 x=none/\az H0 H/\
 ∀H' i b,H0 i=none->H0 b=none->az H0 H'->aX K C H' x dx i b [] [] []->Q .non H'
def Hf (K:Frag) (C:Addr):Sp:=fun vs H Q _=>∃(x dx i b:Addr) (js:List Addr) (is:List Ins) (bs:List Nat),vs=[.ref x]/\aX K C H x dx i b js is bs/\Q (.bl (decide (lnW is %8=0))) H
def yD (K:Frag) (C:Addr):Sp:=fun vs H Q _=>∃(x dx i b g:Addr) (js ts:List Addr) (is gs:List Ins) (bs:List Nat),vs=[.ref x,.ref g]/\aX K C H x dx i b js is bs/\SqT K H g (ts.map V.ref)/\fk K H ts gs/\(∀ kn∈gs,VI kn)/\gs.length<=100/\
 ∀H',az H H'->Q (.bl (decide (lnW is %8+lnW gs<=8))) H'
def Dp (K:Frag) (C:Addr):Sp:=fun vs H Q _=>∃(x dx i b t:Addr) (js:List Addr) (is:List Ins) (kn:Ins) (bs:List Nat),vs=[.ref x,.ref t]/\aX K C H x dx i b js is bs/\SqT K H t (aE kn.1 kn.2)/\VI kn/\is.length < 1000/\
 ∀H',B3 x i b H H'->aX K C H' x dx i b (js++[t]) (is++[kn]) bs->Q .non H'
def yN (K:Frag) (C:Addr):Sp:=fun vs H Q _=>∃(x dx i b g:Addr) (js ts:List Addr) (is gs:List Ins) (bs:List Nat),vs=[.ref x,.ref g]/\aX K C H x dx i b js is bs/\SqT K H g (ts.map V.ref)/\fk K H ts gs/\(∀ kn∈gs,VI kn)/\is.length+gs.length<=1000/\bs.length < 1000/\
 ∀H',B3 x i b H H'->aX K C H' x dx i b (js++ts) (is++gs) (bs++[lnW is])->Q .non H'
def Dl (K:Frag) (C:Addr):Sp:=fun vs H Q _=>∃(x dx i b:Addr) (js:List Addr) (is:List Ins) (bs:List Nat),vs=[.ref x]/\aX K C H x dx i b js is bs/\is.length<=900/\
 ∀(H':Hp) (js':List Addr),B3 x i b H H'->aX K C H' x dx i b js' (is++rG (lnW is)) bs->Q .non H'
theorem jy {C:Addr}(B:Bi mg) (c:dE K mg "LaidBlock" C) (n:bV K C) (D:di K C):bY P w K mg base 1 C "is_at_bundle" eM (Hf K C):=by
 refine D.has c.cl jz (fun vs H Q E h=> ?_) (fun f cdv A outer s H vs Q E hr h=> ?_)
 .obtain⟨x,dx,i,b,js,is,bs,rfl,_⟩:=h
  rfl
 obtain⟨x,dx,i,b,js,is,bs,rfl,l,q⟩:=h;have hc:=c.cl;have n3:=n.length;have hat:=l.at_;refine⟨_,(ae (ah (pcE aD (av dJ (aP (pv 0) (by rfl)) ac) ac))),?_⟩
 try dsimp only[aT]
 walk_at "g";have e:decide (V.int ((lnW is:Int) %8)=V.int 0)=decide (lnW is %8=0):=decide_eq_decide.mpr ⟨fun h=>by injection h with h;lia,fun h=>by rw[show(lnW is:Int) %8=0 by lia]⟩
 rw[e];exact q
theorem rc {C:Addr}(B:Bi mg) (c:dE K mg "LaidBlock" C) (n:bV K C) (D:gX K C) (bf:Has P w K mg base 1 "length_of" cS (EL K)):bY P w K mg base 2 C "take" cM (Dp K C):=by
 refine D.has c.cl rP (fun vs H Q E h=> ?_) (fun f cdv A outer s H vs Q E hr h=> ?_)
 .obtain⟨x,dx,i,b,t,js,is,kn,bs,rfl,_⟩:=h
  rfl
 obtain⟨x,dx,i,b,t,js,is,⟨k,ns⟩,bs,rfl,l,ht,hv,hl,q⟩:=h;have k19:k < 19:=hv.lt19;have hc:=c.cl;have n1:=n.instructions;have n3:=n.length;have hat:=l.at_;have hli:=l.li;have hz:(js.map V.ref).length < sizeLine:=by rw[List.length_map,l.ow.len];exact Nat.lt_of_lt_of_le hl (by decide)
 have hty:tyV K "list" (.ref i) H:= .inl ⟨rfl,_,SqL.of hli⟩;have p1:B3 x i b H (upd H i (.lst (js.map V.ref++[V.ref t]))):=(B3.refl H).ui;have ht1:=p1.tup l ht;have hat1:upd H i (.lst (js.map V.ref++[V.ref t])) x=some (.ins C dx (lfs i b (lnW is:Nat))):=by rw[ai l.xi];exact hat
 refine⟨_,(aa (cu (nS PySem.F.plainAttrs_list PySem.F.slot_list_append PySem.F.type_list_append gx (aP (pv 0) (by rfl)) (pa1 (pv 1))))
   (ae (bU (pv 0) (av aU (aP (pv 0) (by rfl)) (pcH bf hr (pa1 (pv 1)))) (by rfl)))),?_⟩
 try dsimp only[aT]
 walk_at "g";have e:((lnW is:Int)+(if k=1 then 2 else 1))=(lnW (is++[(k,ns)]):Nat):=by rw[eu,hV];unfold bo;split <;> lia
 refine q _ p1.ux ⟨?_,?_,?_,l.ib,?_,fun u hu=> ?_⟩
 .rw[ad];show some (HO.ins C dx (lfs i b ((lnW is:Int)+(if k=1 then 2 else 1))))=_
  rw[e]
 .rw[ai (Ne.symm l.xi),ad,List.map_append]
  rfl
 .rw[ai (Ne.symm l.xb),ai (Ne.symm l.ib)];exact l.lb
 .exact(show fk K _ [t] [(k,ns)] from⟨p1.ux.tup l ht,True.intro⟩).app (l.ow.b3 l p1.ux)
 .rcases List.mem_append.mp hu with hu | hu
  .exact l.va u hu
  .rw[List.mem_singleton.mp hu];exact hv
theorem fJ {H H':Hp}{p:Addr}{o:HO}(hp:H p=none) (s:az H H'):az H (upd H' p o):=fun a u h=>by rw[ai (aj h hp)];exact s a u h
theorem fE {α:Type}{l:List α}{j:Nat}{t:α}(h:l[j]? =some t):l.take (j+1)=l.take j++[t]:=by rw[List.take_succ,h];rfl
theorem mR {C:Addr}(B:Bi mg) (c:dE K mg "LaidBlock" C) (n:bV K C) (D:eJ K C):bY P w K mg base 1 C "__init__" eM (Ai K C):=by
 refine D.has c.cl mP (fun vs H Q E h=> ?_) (fun f cdv A outer s H vs Q E hr h=> ?_)
 .obtain⟨H0,x,dx,rfl,_⟩:=h
  rfl
 obtain⟨H0,x,dx,rfl,hx,x0,sm,q⟩:=h;have hc:=c.cl;have n1:=n.instructions;have n2:=n.begins;have n3:=n.length
 refine⟨_,(aa (bU (pv 0) (cw gU) (by rfl))
   (aa (bU (pv 0) (cw gU) (by rfl))
   (ae (bU (pv 0) ac (by rfl))))),?_⟩
 try dsimp only[aT]
 walk_at "g";intro i hi;have xi:x≠i:=aj hx hi;have hx1:upd H i (.lst []) x=some (.ins C dx []):=by rw[ai xi];exact hx
 walk_at "g";intro b hb;have bx:b≠x:=fun z=>by rw[z,ad] at hb;cases hb
 rw[ai bx] at hb;have bi:b≠i:=fun z=>by rw[z,ad] at hb;cases hb
 rw[ai bi] at hb;have hx2:upd (upd (upd H i (.lst [])) x (.ins C dx (bG "instructions" (.ref i) []))) b (.lst []) x=some (.ins C dx [("instructions",.ref i)]):=by
  rw[ai (Ne.symm bx),ad]
  rfl
 walk_at "g";refine q _ i b (sm.free hi) (sm.free hb) (fun a o h=> ?_) ⟨?_,?_,?_,Ne.symm bi,True.intro,fun t ht=>by cases ht⟩
 .have h1:=sm a o h;have a1:=aj h x0;rw[ai a1,ai a1,ai (aj h1 hb),ai a1,ai (aj h1 hi)];exact h1
 .rw[ad]
  rfl
 .rw[ai (Ne.symm xi),ai (Ne.symm xi),ai (Ne.symm bi),ai (Ne.symm xi),ad]
  rfl
 .rw[ai bx,ai bx,ad]
  rfl
theorem kK {C:Addr}(B:Bi mg) (c:dE K mg "LaidBlock" C) (n:bV K C) (D:dP K C) (cJ:bY P w K mg base 2 C "take" cM (Dp K C)):
  bY P w K mg base 3 C "take_group" mB (yN K C):=by
 refine D.has c.cl ga (fun vs H Q E h=> ?_) (fun f cdv A outer s H vs Q E hr h=> ?_)
 .obtain⟨x,dx,i,b,g,js,ts,is,gs,bs,rfl,_⟩:=h
  rfl
 obtain⟨x,dx,i,b,g,js,ts,is,gs,bs,rfl,l,hg,how,hva,hl,hbl,q⟩:=h;have hc:=c.cl;have n2:=n.begins;have n3:=n.length;have hat:=l.at_;have hlb:=l.lb;have hz:(bs.map vn).length < sizeLine:=by rw[List.length_map];exact Nat.lt_of_lt_of_le hbl (by decide)
 have hty:tyV K "list" (.ref b) H:= .inl ⟨rfl,_,SqL.of hlb⟩;have p1:B3 x i b H (upd H b (.lst (bs.map vn++[V.int (lnW is:Nat)]))):=(B3.refl H).ub;have l1:aX K C (upd H b (.lst (bs.map vn++[V.int (lnW is:Nat)]))) x dx i b js is (bs++[lnW is]):=by
  refine⟨?_,?_,?_,l.ib,l.ow.b3 l p1,l.va⟩
  .rw[ai l.xb];exact l.at_
  .rw[ai l.ib];exact l.li
  .rw[ad,List.map_append];rfl
 have hg1:=p1.tup l hg;have ho1:=how.b3 l p1
 refine⟨_,(aa (cu (nS PySem.F.plainAttrs_list PySem.F.slot_list_append PySem.F.type_list_append gx (aP (pv 0) (by rfl)) (pa1 (aP (pv 0) (by rfl)))))
   (ae (fB PassesOwn.never (by rfl) (eA (ll (pv 1))) (aN (i:=2) ga.nd (by rfl) (by left;rfl)) (ae (cu (ck (cJ.mono (by omega)) hr (pv 0) (pa1 (pv 2)))))))),?_⟩
 try dsimp only[aT]
 walk_at "g";generalize upd H b (.lst (bs.map vn++[V.int (lnW is:Nat)]))=H1 at*;refine⟨r_ (xs:=ts.map V.ref) (fun j Z H'=>∃y,Z=[some (.ref x),some (.ref g),y]/\aG (B3 x i b H1 H')/\aX K C H' x dx i b (js++ts.take j) (is++gs.take j) (bs++[lnW is])) ⟨_,rfl,⟨B3.refl _⟩,by simpa using l1⟩ ?_ ?_ ?_⟩
 .rintro j Z H' _ ⟨y,rfl,⟨p⟩,_⟩
  exact p.tup l1 hg1
 .rintro j u Z H' hj ⟨y,rfl,⟨p⟩,l2⟩
  obtain⟨t,et,rfl⟩:=cP hj;obtain⟨kn,ek,ht⟩:=ho1.get et;have ht2:=p.tup l1 ht;have hv2:=hva kn (List.mem_of_getElem? ek);have hlt:j < gs.length:=(List.getElem?_eq_some_iff.mp ek).1;have hlen:(is++gs.take j).length < 1000:=by rw[List.length_append,List.length_take];lia
  have hat2:=l2.at_;walk_at "g";intro H3 p3 l3;refine⟨_,rfl,⟨p.trans p3⟩,?_⟩
  rw[List.append_assoc,List.append_assoc, <-fE et, <-fE ek] at l3;exact l3
 .rintro Z H' ⟨y,rfl,⟨p⟩,l2⟩
  rw[List.length_map,List.take_length,how.len,List.take_length] at l2;exact q _ (p1.trans p) l2
theorem ER {is:List Ins}{m:Nat}(h:lnW (is++List.replicate m nop) %8≠0) (hm:m<=(8 - lnW is %8) %8):m+1<=(8 - lnW is %8) %8:=by
 rw[eu,A4] at h
 lia
theorem Ge {is:List Ins}{m:Nat}(h:lnW (is++List.replicate m nop) %8=0) (hm:m<=(8 - lnW is %8) %8):m=(8 - lnW is %8) %8:=by
 rw[eu,A4] at h
 lia
theorem j_ {C:Addr}(B:Bi mg) (c:dE K mg "LaidBlock" C) (n:bV K C) (D:dA K C) (cJ:bY P w K mg base 2 C "take" cM (Dp K C))
  (a8:bY P w K mg base 1 C "is_at_bundle" eM (Hf K C)):bY P w K mg base 3 C "fill_bundle" eM (Dl K C):=by
 refine D.has c.cl kf (fun vs H Q E h=> ?_) (fun f cdv A outer s H vs Q E hr h=> ?_)
 .obtain⟨x,dx,i,b,js,is,bs,rfl,_⟩:=h
  rfl
 obtain⟨x,dx,i,b,js,is,bs,rfl,l,hl,q⟩:=h;refine⟨_,(ae (aO (kE PassesOwn.never (dZ (ce (kM (a8.mono (by omega)) hr (pv 0)))) (ae (cu (ck (cJ.mono (by omega)) hr (pv 0) (pa1 (aA (cj (by rfl)))))))))),?_⟩
 try dsimp only[aT]
 refine⟨?_⟩
 refine⟨fun m Z H'=>Z=[some (.ref x)]/\aG (B3 x i b H H')/\∃(js':List Addr) (e:Nat),e<=(8 - lnW is %8) %8/\aX K C H' x dx i b js' (is++List.replicate e nop) bs/\m=(8 - lnW is %8) %8 - e,⟨_,rfl,⟨B3.refl _⟩,js,0,Nat.zero_le _,by simpa using l,rfl⟩,?_⟩
 rintro m Z H' ⟨rfl,⟨p⟩,js',e,he,l',rfl⟩
 have hat:=l'.at_;walk_at "g"
 by_cases c0:lnW (is++List.replicate e nop) %8=0
 .refine DD c0 ?_
  have ee:=Ge c0 he;rw[ee] at l';exact q _ js' p l'
 .rw[decide_eq_false c0];have ee:=ER c0 he;refine y_ ⟨_,fun _ _ z=>z,?_⟩
  walk_at "g";intro t ht;have ow:SqT K (upd H' t (.tup [.str "more",.int 0,.int 0,.int 0])) t (aE nop.1 nop.2):=SqT.of ad;have l2:=l'.same (ag ht (.tup [.str "more",.int 0,.int 0,.int 0]));have hat2:=l2.at_;have hv:=xM;have hlen:(is++List.replicate e nop).length < 1000:=by rw[List.length_append,List.length_replicate];lia
  walk_at "g";intro H3 p3 l3;rw[List.append_assoc, <-List.replicate_succ'] at l3;exact⟨_,by lia,rfl,⟨(p.trans (B3.of (ag ht _))).trans p3⟩,js'++[t],e+1,ee,l3,rfl⟩
theorem AH (gs:List Ins):(gs.map fun kn=>((bo kn.1:Nat):Int)).sum=(lnW gs:Nat):=by
 induction gs with
 | nil=>rfl
 | cons kn r ih=>rw[List.map_cons,List.sum_cons,ih,a9];lia
theorem lN {C:Addr}(B:Bi mg) (c:dE K mg "LaidBlock" C) (n:bV K C) (D:d9 K C) (bf:Has P w K mg base 1 "length_of" cS (EL K)):
  bY P w K mg base 2 C "has_space" mB (yD K C):=by
 refine D.has c.cl lG (fun vs H Q E h=> ?_) (fun f cdv A outer s H vs Q E hr h=> ?_)
 .obtain⟨x,dx,i,b,g,js,ts,is,gs,bs,rfl,_⟩:=h
  rfl
 obtain⟨x,dx,i,b,g,js,ts,is,gs,bs,rfl,l,hg,how,hva,hl,q⟩:=h;have hc:=c.cl;have n3:=n.length;have hat:=l.at_;refine⟨_,(ae (ah (pcE yf (av aU (av dJ (aP (pv 0) (by rfl)) ac) (aI (Hg (by rfl)) (by rfl) B.sum J8 (pa1 (lS (by rfl) (by rfl) (by rfl) (bk (sc0:=af cQ) (N0:=["self","group"]) ["instruction"] 1 []) (ll (pv 1)) (fun _ _ _ _=>(aN (i:=0) (show List.Nodup (["instruction"]:List Str) by decide) (by rfl) (by left;rfl))) (fun _ _ _ _=>(pcH bf hr (pa1 (pv 0)))))))) ac))),?_⟩
 try dsimp only[aT]
 walk_at "g";intro p hp;refine rR (xs:=ts.map V.ref) (fun j ys H'=>aG (az H H')/\H' p=some (.lst ys)/\ys=((gs.take j).map fun kn=>((bo kn.1:Nat):Int)).map V.int) ⟨⟨ag hp _⟩,ad,rfl⟩ ?_ ?_ ?_
 .rintro j ys H' ⟨⟨s1⟩,_⟩
  exact s1.tup hg
 .rintro j u ys H' F hF hj ⟨⟨s1⟩,hp1,rfl⟩
  obtain⟨t,et,rfl⟩:=cP hj;obtain⟨⟨k,ns⟩,ek,ht⟩:=how.get et;have ht1:=s1.tup ht;have k19:k < 19:=(hva _ (List.mem_of_getElem? ek)).lt19;have hlt:=(List.getElem?_eq_some_iff.mp ek).1;have hz:(((gs.take j).map fun kn=>((bo kn.1:Nat):Int)).map V.int).length < sizeLine:=by
   rw[List.length_map,List.length_map,List.length_take];exact Nat.lt_of_lt_of_le (show min j gs.length < 100 by lia) (by decide)
  walk_at "g";refine hF _ _ ⟨⟨fJ hp s1⟩,ad,?_⟩
  rw[fE ek,List.map_append,List.map_append];show _++[V.int (if k=1 then 2 else 1)]=_++[V.int ((bo k:Nat):Int)]
  unfold bo
  split <;> rfl
 .rintro ys H' ⟨⟨s1⟩,hp1,rfl⟩
  rw[List.length_map,how.len,List.take_length] at hp1;have hq:SqL K H' p ((gs.map fun kn=>((bo kn.1:Nat):Int)).map V.int):=SqL.of hp1
  refine⟨p,_,rfl,hq,fun j hj=> ?_,?_⟩
  .rw[List.length_map] at hj;rw[<- List.map_take,AH];have h1:(gs.map fun kn=>((bo kn.1:Nat):Int)).getD j 0=((bo gs[j].1:Nat):Int):=by
    rw[List.getD_eq_getElem?_getD,List.getElem?_map,List.getElem?_eq_getElem hj]
    rfl
   rw[h1];have h2:=iO gs[j].1;have h3:=GQ (gs.take (j+1));rw[List.length_take] at h3;unfold InLong
   lia
  rw[AH];walk_at "g";have e:decide ((lnW is:Int) %8+(lnW gs:Nat)<=8)=decide (lnW is %8+lnW gs<=8):=decide_eq_decide.mpr (by lia)
  show Q (V.bl (decide ((lnW is:Int) %8+(lnW gs:Nat)<=8))) H'
  rw[e];exact q _ s1
theorem xN:∀k,k < 19->(V.str (aV k)=V.str "load"↔k=11):=by decide +kernel
theorem wy:∀k,k < 19->(V.str (aV k)=V.str "store"↔k=12):=by decide +kernel
theorem yQ:∀k,k < 19->(V.str (aV k)=V.str "through"↔k=15):=by decide +kernel
theorem Fe:∀k,k < 19->(V.str (aV k)=V.str "jump"↔k=13):=by decide +kernel
theorem Bh:∀k,k < 19->(V.str (aV k)=V.str "jumpif"↔k=14):=by decide +kernel
theorem aK.acc {bx mo:Int}{k:Nat}{ns:List Int}(h:aK bx mo k ns) (hk:k=11\/k=12):∃a b n,ns=[a,b,n]/\0<=a/\a < bx/\0<=b/\b < bx/\ -131072<=n/\n < 131072:=by
 rcases h with⟨e,rfl⟩|⟨e,x,v,rfl,x0,x1,v0,v1⟩|⟨h1,h2,x,y,z,rfl,x0,x1,y0,y1,z0,z1⟩|⟨h1,h2,x,y,z,rfl,x0,x1,y0,y1,z0,z1⟩|⟨hk,z,rfl,z0,z1⟩|⟨e,x,z,rfl,x0,x1,z0,z1⟩|⟨e,y,rfl,y0,y1⟩|⟨hk,x,y,rfl,x0,x1,y0,y1⟩
 all_goals first | lia | exact⟨_,_,_,rfl,by assumption,by assumption,by assumption,by assumption,by assumption,by assumption⟩
theorem aK.thr {bx mo:Int}{k:Nat}{ns:List Int}(h:aK bx mo k ns) (hk:k=15):∃b,ns=[b]/\0<=b/\b < bx:=by
 rcases h with⟨e,rfl⟩|⟨e,x,v,rfl,x0,x1,v0,v1⟩|⟨h1,h2,x,y,z,rfl,x0,x1,y0,y1,z0,z1⟩|⟨h1,h2,x,y,z,rfl,x0,x1,y0,y1,z0,z1⟩|⟨hk,z,rfl,z0,z1⟩|⟨e,x,z,rfl,x0,x1,z0,z1⟩|⟨e,y,rfl,y0,y1⟩|⟨hk,x,y,rfl,x0,x1,y0,y1⟩
 all_goals first | lia | exact⟨_,rfl,by assumption,by assumption⟩
theorem aK.jmp {bx mo:Int}{k:Nat}{ns:List Int}(h:aK bx mo k ns) (hk:k=13):∃n,ns=[n]/\0<=n/\n < mo:=by
 rcases h with⟨e,rfl⟩|⟨e,x,v,rfl,x0,x1,v0,v1⟩|⟨h1,h2,x,y,z,rfl,x0,x1,y0,y1,z0,z1⟩|⟨h1,h2,x,y,z,rfl,x0,x1,y0,y1,z0,z1⟩|⟨hk,z,rfl,z0,z1⟩|⟨e,x,z,rfl,x0,x1,z0,z1⟩|⟨e,y,rfl,y0,y1⟩|⟨hk,x,y,rfl,x0,x1,y0,y1⟩
 all_goals first | lia | exact⟨_,rfl,by assumption,by assumption⟩
theorem aK.jif {bx mo:Int}{k:Nat}{ns:List Int}(h:aK bx mo k ns) (hk:k=14):∃a n,ns=[a,n]/\0<=a/\a < bx/\0<=n/\n < mo:=by
 rcases h with⟨e,rfl⟩|⟨e,x,v,rfl,x0,x1,v0,v1⟩|⟨h1,h2,x,y,z,rfl,x0,x1,y0,y1,z0,z1⟩|⟨h1,h2,x,y,z,rfl,x0,x1,y0,y1,z0,z1⟩|⟨hk,z,rfl,z0,z1⟩|⟨e,x,z,rfl,x0,x1,z0,z1⟩|⟨e,y,rfl,y0,y1⟩|⟨hk,x,y,rfl,x0,x1,y0,y1⟩
 all_goals first | lia | exact⟨_,_,rfl,by assumption,by assumption,by assumption,by assumption⟩
def GO (K:Frag):Sp:=fun vs H Q _=>∃(t:Addr) (k:Nat) (ns:List Int),vs=[.ref t]/\k < 19/\SqT K H t (aE k ns)/\Q (.bl (decide (k=11\/k=12))) H
def GP (K:Frag):Sp:=fun vs H Q _=>∃(t:Addr) (k:Nat) (a:Int) (ns:List Int),vs=[.ref t]/\SqT K H t (aE k (a::ns))/\∀p,H p=none->Q (.ref p) (upd H p (.tup (aE k [a,6,0])))
def JP (K:Frag):Sp:=fun vs H Q _=>∃(t:Addr) (kn:Ins),vs=[.ref t]/\SqT K H t (aE kn.1 kn.2)/\VI kn/\
 ∀(g:Addr) (ts:List Addr) (H':Hp),az H H'->SqT K H' g (ts.map V.ref)->fk K H' ts (grp kn)->Q (.ref g) H'
theorem y8 (B:Bi mg) (D:tZ K mg):Has P w K mg base 1 "is_access" cS (GO K):=by
 refine D.has zJ (fun vs H Q E h=> ?_) (fun f cdv A outer s H vs Q E hr h=> ?_)
 .obtain⟨t,k,ns,rfl,_⟩:=h
  rfl
 obtain⟨t,k,ns,rfl,hk,ht,q⟩:=h;have i0:atI (aE k ns) 0=some (.str (aV k)):=mT;refine⟨_,((ae (ah (wz (pcE aD (pX ak (pv 0) ac) aw) (mW (pcE aD (pX ak (pv 0) ac) aw))))):PSs (fP CX0 P w K mg base ["instruction"] "is_access" (af jD) f cdv A outer s H E).nox (_::_) _),?_⟩
 try dsimp only[aT]
 walk_at "g";refine bz (fun c=> ?_) (fun c=> ?_)
 .rw[decide_eq_true (show k=11\/k=12 from .inl ((xN k hk).mp c))] at q;exact q
 walk_at "g";have e:decide (V.str (aV k)=V.str "store")=decide (k=11\/k=12):=decide_eq_decide.mpr ⟨fun z=> .inr ((wy k hk).mp z),fun z=>z.elim (fun z=>absurd ((xN k hk).mpr z) c) (fun z=>(wy k hk).mpr z)⟩
 rw[e];exact q
theorem rY (B:Bi mg) (D:kF K mg):Has P w K mg base 1 "access_by_mask" cS (GP K):=by
 refine D.has rV (fun vs H Q E h=> ?_) (fun f cdv A outer s H vs Q E hr h=> ?_)
 .obtain⟨t,k,a,ns,rfl,_⟩:=h
  rfl
 obtain⟨t,k,a,ns,rfl,ht,q⟩:=h;have i0:atI (aE k (a::ns)) 0=some (.str (aV k)):=mT;have i1:atI (aE k (a::ns)) 1=some (.int a):=s_;refine⟨_,((ae (ah (aA (pa4 (pX ak (pv 0) ac) (pX ak (pv 0) ac) ac ac)))):PSs (fP CX0 P w K mg base ["instruction"] "access_by_mask" (af eY) f cdv A outer s H E).nox (_::_) _),?_⟩
 try dsimp only[aT]
 walk_at "g";exact q
theorem uB (B:Bi mg) (D:nM K mg) (de:Has P w K mg base 1 "is_access" cS (GO K)) (aS:Has P w K mg base 1 "access_by_mask" cS (GP K)):
  Has P w K mg base 2 "masked_group" cS (JP K):=by
 refine D.has br (fun vs H Q E h=> ?_) (fun f cdv A outer s H vs Q E hr h=> ?_)
 .obtain⟨t,kn,rfl,_⟩:=h
  rfl
 obtain⟨t,⟨k,ns⟩,rfl,ht,hv,q⟩:=h;dsimp only at ht
 by_cases h15:k=15
 .obtain⟨b,rfl,b0,b1⟩:=hv.thr h15;subst h15;have i0:atI (aE 15 [b]) 0=some (.str "through"):=rfl;have i1:atI (aE 15 [b]) 1=some (.int b):=rfl
  refine⟨_,((aa (ax (pcT aD (pX ak (pv 0) ac) aw) (ae (ah (aA (pa2 (aA (pa3 aw ac (pX ak (pv 0) ac))) (aA (cj (by rfl))))))) al)
   (aa (ax (dZ (ce (pcH de hr (pa1 (pv 0))))) (ae (ah (aA (pa1 (pv 0))))) al)
   (aa (psS 1 br.nd (pX ak (pv 0) ac))
   (aa (psS 2 br.nd (pX ak (pv 0) ac))
   (aa (ax (pcT aD (pv 2) ac) (ae (ah (aA (pa2 (aA (pa3 aw ac (pv 1))) (pcH aS hr (pa1 (pv 0))))))) al)
   (ae (ah (aA (pa3 (aA (pa4 aw ac (pv 1) (pv 2))) (aA (cj (by rfl))) (pcH aS hr (pa1 (pv 0)))))))))))):PSs (fP CX0 P w K mg base ["instruction","b","n"] "masked_group" (af cO) f cdv A outer s H E).nox (_::_) _),?_⟩
  try dsimp only[aT]
  walk_at "g";intro t1 h1;walk_at "g";intro t2 h2;walk_at "g";intro g hg;have s1:=ag h1 (.tup [.str "aim",.int 6,.int b]);have s2:=ag h2 (.tup [.str "through",.int 6]);have s3:=ag hg (.tup [.ref t1,.ref t2]);exact q g [t1,t2] _ ((s1.trans s2).trans s3) (SqT.of ad) ⟨s3.tup (s2.tup (SqT.of ad)),s3.tup (SqT.of ad),True.intro⟩
 by_cases h11:k=11
 .obtain⟨a,b,n,rfl,a0,a1,b0,b1,n0,n1⟩:=hv.acc (.inl h11);subst h11;have i0:atI (aE 11 [a,b,n]) 0=some (.str "load"):=rfl;have i2:atI (aE 11 [a,b,n]) 2=some (.int b):=rfl;have i3:atI (aE 11 [a,b,n]) 3=some (.int n):=rfl;have k19:11 < 19:=by decide
  refine⟨_,((aa (ax (pcT aD (pX ak (pv 0) ac) aw) (ae (ah (aA (pa2 (aA (pa3 aw ac (pX ak (pv 0) ac))) (aA (cj (by rfl))))))) al)
   (aa (ax (dZ (ce (pcH de hr (pa1 (pv 0))))) (ae (ah (aA (pa1 (pv 0))))) al)
   (aa (psS 1 br.nd (pX ak (pv 0) ac))
   (aa (psS 2 br.nd (pX ak (pv 0) ac))
   (aa (ax (pcT aD (pv 2) ac) (ae (ah (aA (pa2 (aA (pa3 aw ac (pv 1))) (pcH aS hr (pa1 (pv 0))))))) al)
   (ae (ah (aA (pa3 (aA (pa4 aw ac (pv 1) (pv 2))) (aA (cj (by rfl))) (pcH aS hr (pa1 (pv 0)))))))))))):PSs (fP CX0 P w K mg base ["instruction","b","n"] "masked_group" (af cO) f cdv A outer s H E).nox (_::_) _),?_⟩
  try dsimp only[aT]
  walk_at "g";refine bz (fun c=> ?_) (fun c=> ?_)
  .have n0:n=0:=by injection c
   subst n0;walk_at "g";intro t1 h1;have ht1:=(ag h1 (.tup [.str "fit",.int 6,.int b])).tup ht;walk_at "g";intro t2 h2;walk_at "g";intro g hg;have s1:=ag h1 (.tup [.str "fit",.int 6,.int b]);have s2:=ag h2 (.tup (aE 11 [a,6,0]));have s3:=ag hg (.tup [.ref t1,.ref t2]);exact q g [t1,t2] _ ((s1.trans s2).trans s3) (SqT.of ad) ⟨s3.tup (s2.tup (SqT.of ad)),s3.tup (SqT.of ad),True.intro⟩
  .have n0:¬n=0:=fun z=>c (by rw[z])
   have eg:grp (11,[a,b,n])=[(10,[6,b,n]),(16,[6,6]),(11,[a,6,0])]:=by
    show(if n=0 then _ else _)=_
    rw[if_neg n0]
    rfl
   rw[eg] at q;walk_at "g";intro t1 h1;have ht1:=(ag h1 (.tup [.str "more",.int 6,.int b,.int n])).tup ht;walk_at "g";intro t2 h2;have ht2:=(ag h2 (.tup [.str "fit",.int 6,.int 6])).tup ht1;walk_at "g";intro t3 h3;walk_at "g";intro g hg;have s1:=ag h1 (.tup [.str "more",.int 6,.int b,.int n]);have s2:=ag h2 (.tup [.str "fit",.int 6,.int 6]);have s3:=ag h3 (.tup (aE 11 [a,6,0]));have s4:=ag hg (.tup [.ref t1,.ref t2,.ref t3]);exact q g [t1,t2,t3] _ (((s1.trans s2).trans s3).trans s4) (SqT.of ad) ⟨s4.tup (s3.tup (s2.tup (SqT.of ad))),s4.tup (s3.tup (SqT.of ad)),s4.tup (SqT.of ad),True.intro⟩
 by_cases h12:k=12
 .obtain⟨a,b,n,rfl,a0,a1,b0,b1,n0,n1⟩:=hv.acc (.inr h12);subst h12;have i0:atI (aE 12 [a,b,n]) 0=some (.str "store"):=rfl;have i2:atI (aE 12 [a,b,n]) 2=some (.int b):=rfl;have i3:atI (aE 12 [a,b,n]) 3=some (.int n):=rfl;have k19:12 < 19:=by decide
  refine⟨_,((aa (ax (pcT aD (pX ak (pv 0) ac) aw) (ae (ah (aA (pa2 (aA (pa3 aw ac (pX ak (pv 0) ac))) (aA (cj (by rfl))))))) al)
   (aa (ax (dZ (ce (pcH de hr (pa1 (pv 0))))) (ae (ah (aA (pa1 (pv 0))))) al)
   (aa (psS 1 br.nd (pX ak (pv 0) ac))
   (aa (psS 2 br.nd (pX ak (pv 0) ac))
   (aa (ax (pcT aD (pv 2) ac) (ae (ah (aA (pa2 (aA (pa3 aw ac (pv 1))) (pcH aS hr (pa1 (pv 0))))))) al)
   (ae (ah (aA (pa3 (aA (pa4 aw ac (pv 1) (pv 2))) (aA (cj (by rfl))) (pcH aS hr (pa1 (pv 0)))))))))))):PSs (fP CX0 P w K mg base ["instruction","b","n"] "masked_group" (af cO) f cdv A outer s H E).nox (_::_) _),?_⟩
  try dsimp only[aT]
  walk_at "g";refine bz (fun c=> ?_) (fun c=> ?_)
  .have n0:n=0:=by injection c
   subst n0;walk_at "g";intro t1 h1;have ht1:=(ag h1 (.tup [.str "fit",.int 6,.int b])).tup ht;walk_at "g";intro t2 h2;walk_at "g";intro g hg;have s1:=ag h1 (.tup [.str "fit",.int 6,.int b]);have s2:=ag h2 (.tup (aE 12 [a,6,0]));have s3:=ag hg (.tup [.ref t1,.ref t2]);exact q g [t1,t2] _ ((s1.trans s2).trans s3) (SqT.of ad) ⟨s3.tup (s2.tup (SqT.of ad)),s3.tup (SqT.of ad),True.intro⟩
  .have n0:¬n=0:=fun z=>c (by rw[z])
   have eg:grp (12,[a,b,n])=[(10,[6,b,n]),(16,[6,6]),(12,[a,6,0])]:=by
    show(if n=0 then _ else _)=_
    rw[if_neg n0]
    rfl
   rw[eg] at q;walk_at "g";intro t1 h1;have ht1:=(ag h1 (.tup [.str "more",.int 6,.int b,.int n])).tup ht;walk_at "g";intro t2 h2;have ht2:=(ag h2 (.tup [.str "fit",.int 6,.int 6])).tup ht1;walk_at "g";intro t3 h3;walk_at "g";intro g hg;have s1:=ag h1 (.tup [.str "more",.int 6,.int b,.int n]);have s2:=ag h2 (.tup [.str "fit",.int 6,.int 6]);have s3:=ag h3 (.tup (aE 12 [a,6,0]));have s4:=ag hg (.tup [.ref t1,.ref t2,.ref t3]);exact q g [t1,t2,t3] _ (((s1.trans s2).trans s3).trans s4) (SqT.of ad) ⟨s4.tup (s3.tup (s2.tup (SqT.of ad))),s4.tup (s3.tup (SqT.of ad)),s4.tup (SqT.of ad),True.intro⟩
 have k19:k < 19:=hv.lt19;have i0:atI (aE k ns) 0=some (.str (aV k)):=mT;have eg:grp (k,ns)=[(k,ns)]:=by
  unfold grp;rw[if_neg h15,if_neg (by show ¬(k=11\/k=12);lia)]
 rw[eg] at q
 refine⟨_,((aa (ax (pcT aD (pX ak (pv 0) ac) aw) (ae (ah (aA (pa2 (aA (pa3 aw ac (pX ak (pv 0) ac))) (aA (cj (by rfl))))))) al)
   (aa (ax (dZ (ce (pcH de hr (pa1 (pv 0))))) (ae (ah (aA (pa1 (pv 0))))) al)
   (aa (psS 1 br.nd (pX ak (pv 0) ac))
   (aa (psS 2 br.nd (pX ak (pv 0) ac))
   (aa (ax (pcT aD (pv 2) ac) (ae (ah (aA (pa2 (aA (pa3 aw ac (pv 1))) (pcH aS hr (pa1 (pv 0))))))) al)
   (ae (ah (aA (pa3 (aA (pa4 aw ac (pv 1) (pv 2))) (aA (cj (by rfl))) (pcH aS hr (pa1 (pv 0)))))))))))):PSs (fP CX0 P w K mg base ["instruction","b","n"] "masked_group" (af cO) f cdv A outer s H E).nox (_::_) _),?_⟩
 try dsimp only[aT]
 walk_at "g";refine cA (fun z=>h15 ((yQ k k19).mp z)) ?_
 walk_at "g";rw[decide_eq_false (show ¬(k=11\/k=12) by lia)]
 refine y_ ?_
 walk_at "g";intro g hg;exact q g [t] _ (ag hg _) (SqT.of ad) ⟨(ag hg _).tup ht,True.intro⟩
def GBk (K:Frag) (H:Hp) (blk:Addr) (b:List Ins):Prop:=∃ts:List Addr,SqT K H blk (ts.map V.ref)/\fk K H ts b
theorem GBk.same {K:Frag}{H H':Hp}{blk:Addr}{b:List Ins}(s:az H H') (h:GBk K H blk b):GBk K H' blk b:=by
 obtain⟨ts,h1,h2⟩:=h;exact⟨ts,s.tup h1,h2.same s⟩
def JA (K:Frag) (C:Addr):Sp:=fun vs H Q _=>∃(blk:Addr) (bk:List Ins),vs=[.ref blk]/\GBk K H blk bk/\(∀ kn∈bk,VI kn)/\bk.length<=30/\
 ∀(x dx i b:Addr) (js:List Addr) (H':Hp),az H H'->H x=none->H i=none->H b=none->aX K C H' x dx i b js (cR bk).1 (cR bk).2->Q (.ref x) H'
theorem uL {C:Addr}(B:Bi mg) (aZ:dE K mg "LaidBlock" C) (D:oG K mg) (bB:bY P w K mg base 1 C "__init__" eM (Ai K C)) (cN:Has P w K mg base 2 "masked_group" cS (JP K))
  (bp:bY P w K mg base 2 C "has_space" mB (yD K C)) (a_:bY P w K mg base 3 C "fill_bundle" eM (Dl K C)) (bn:bY P w K mg base 3 C "take_group" mB (yN K C)):
  Has P w K mg base 4 "masked_block" pQ (JA K C):=by
 refine D.has fG (fun vs H Q E h=> ?_) (fun f cdv A outer s H vs Q E hr h=> ?_)
 .obtain⟨blk,bk,rfl,_⟩:=h
  rfl
 obtain⟨blk,bk,rfl,gb,hva,h30,q⟩:=h;obtain⟨ts,hts,hall⟩:=id gb
 refine⟨_,(aa (psS 1 fG.nd (xU aZ (bB.mono (by omega)) hr (by rfl)))
   (aa (fB PassesOwn.never (by rfl) (eA (ll (pv 0))) (aN (i:=2) fG.nd (by rfl) (by left;rfl)) (aa (psS 3 fG.nd (pcH cN hr (pa1 (pv 2))))
   (aa (aO (bq (ax (dZ (ce (ck (bp.mono (by omega)) hr (pv 1) (pa1 (pv 3))))) (ae (cu (kM (a_.mono (by omega)) hr (pv 1)))) al)))
   (ae (cu (ck (bn.mono (by omega)) hr (pv 1) (pa1 (pv 3))))))))
   (ae (ah (pv 1))))),?_⟩
 try dsimp only[aT]
 walk_at "g";intro x dx hx hdx hne;refine⟨H,x,dx,rfl,ad,hx,fJ hx (ag hdx _),?_⟩
 intro H1 i b hi hb s1 l1;refine⟨rfl,?_⟩
 have hts1:=s1.tup hts;walk_at "g"
 refine⟨r_ (xs:=ts.map V.ref) (fun j Z H'=>∃y z,Z=[some (.ref blk),some (.ref x),y,z]/\aG (az H H')/\∃js,aX K C H' x dx i b js (cR (bk.take j)).1 (cR (bk.take j)).2)
  ⟨_,_,rfl,⟨s1⟩,[],by simpa [cR] using l1⟩ ?_ ?_ ?_⟩
 .rintro j Z H' _ ⟨y,z,rfl,⟨s2⟩,_⟩
  exact s2.tup hts
 .rintro j u Z H' hj ⟨y,z,rfl,⟨s2⟩,js,l2⟩
  obtain⟨t,et,rfl⟩:=cP hj;obtain⟨kn,ek,ht⟩:=hall.get et;have hlt:j < bk.length:=(List.getElem?_eq_some_iff.mp ek).1;have ht2:=s2.tup ht;have hv2:=hva kn (List.mem_of_getElem? ek);have hgv:=sB hv2;have hgl:=uW kn;have hgf:=D5 kn;have hlj:=tu bk j (by lia)
  have hbs:=z_ bk j (by lia)
  have hls:=oV ek;have hjl:(cR (bk.take j)).1.length<=200:=by
   have:=CW (cR (bk.take j)).1
   split at hlj <;> lia
  generalize cR (bk.take j)=st at*;walk_at "g";intro g us H3 s3 hg3 how3;generalize grp kn=gs at*;have l3:=l2.same s3;have hat3:=l3.at_;have h100:gs.length<=100:=by lia
  walk_at "g";refine⟨⟨fun Z' H4=>Z'=[some (.ref blk),some (.ref x),some (.ref t),some (.ref g)]/\aG (az H H4)/\SqT K H4 g (us.map V.ref)/\fk K H4 us gs/\∃js',aX K C H4 x dx i b js' (cG st.1 gs) st.2,?_,?_⟩⟩
  .walk_at "g";intro H4 s4;have l4:=l3.same s4;have hat4:=l4.at_;walk_at "g"
   by_cases c:lnW st.1 %8+lnW gs<=8
   .refine DD c ?_
    refine⟨rfl,⟨(s2.trans s3).trans s4⟩,s4.tup hg3,how3.same s4,js,?_⟩
    unfold cG;rw[if_pos c];exact l4
   .rw[decide_eq_false c];refine y_ ?_
    have h900:st.1.length<=900:=by lia
    walk_at "g";intro H5 js' p5 l5;refine⟨rfl,⟨B3.same ((s2.trans s3).trans s4) hx hi hb p5⟩,p5.tup l4 (s4.tup hg3),(how3.same s4).b3 l4 p5,js',?_⟩
    unfold cG;rw[if_neg c];exact l5
  .rintro Z' H4 ⟨rfl,⟨s4⟩,hg4,how4,js',l4⟩
   have hat4:=l4.at_;have hbl:(cG st.1 gs).length<=st.1.length+8:=by
    unfold cG
    split
    .lia
    .rw[List.length_append];unfold rG;rw[List.length_replicate]
     lia
   have hk1:(cG st.1 gs).length+gs.length<=1000:=by lia
   have hk2:st.2.length < 1000:=by lia
   walk_at "g";intro H5 p5 l5;refine⟨_,_,rfl,⟨B3.same s4 hx hi hb p5⟩,js'++us,?_⟩
   rw[hls];exact l5
 .rintro Z H' ⟨y,z,rfl,⟨s2⟩,js,l2⟩
  rw[List.length_map,hall.len,List.take_length] at l2;walk_at "g";exact q x dx i b js H' s2 hx hi hb l2
def um (n b:Nat):Prop:=n<=2^b/\∀j,j < b->2^j < n
def DX:Sp:=fun vs H Q _=>∃n:Nat,vs=[.int n]/\n<=1048576/\∀b,um n b->Q (.int b) H
def JB (K:Frag) (C:Addr):Sp:=fun vs H Q _=>∃(x dx i b:Addr) (js:List Addr) (is:List Ins) (bs:List Nat),vs=[.ref x]/\aX K C H x dx i b js is bs/\Q (.int ((lnW is+7) / 8:Nat)) H
def BH (K:Frag):Sp:=fun vs H Q _=>∃(t:Addr) (kn:Ins) (n:Nat),vs=[.ref t,.int n]/\SqT K H t (aE kn.1 kn.2)/\VI kn/\n<=2000/\∀t' H',az H H'->SqT K H' t' (aE (plc n kn).1 (plc n kn).2)->Q (.ref t') H'
abbrev stp (n:Nat):List Ins:=List.replicate n (0,[])
def zh:Sp:=fun vs H Q _=>∃n:Nat,vs=[.int n]/\n<=2000/\∀(p:Addr) (H':Hp),az H H'->H p=none->H' p=some (.lst ((ay (stp n)).map V.int))->Q (.ref p) H'
def KU (K:Frag) (C:Addr):Sp:=fun vs H Q _=>∃(x dx i b:Addr) (js:List Addr) (is:List Ins) (bs:List Nat) (n:Nat),vs=[.ref x,.int n]/\aX K C H x dx i b js is bs/\lnW is<=n/\n<=2000/\
 ∀(p:Addr) (H':Hp),az H H'->H p=none->H' p=some (.lst ((ay (fD n is)).map V.int))->Q (.ref p) H'
theorem xj (B : Bi mg) (D : rB K mg) (ao : Has P w K mg base 1 "power_of_two" mh iJ) : Has P w K mg base 2 "least_bits" nR DX := by
  refine D.has kA (fun vs H Q E h => ?_) (fun f cdv A outer s H vs Q E hr h => ?_)
  . obtain⟨n, rfl, _⟩ := h
    rfl
  obtain⟨n, rfl, hn, q⟩ := h
  refine⟨_, (aa (psS 1 kA.nd ac)
      (aa (aO (kE PassesOwn.never (pcT iI (pcH ao hr (pa1 (pv 1))) (pv 0)) (ae (psS 1 kA.nd (av aU (pv 1) ac)))))
      (ae (ah (pv 1))))), ?_⟩
  try dsimp only[aT]
  walk_at "g"
  refine⟨?_⟩
  refine⟨fun m Z H' => H' = H ∧ ∃ b : Nat, Z = [some (.int n), some (.int b)] ∧ b ≤ 20 ∧ (∀ j, j < b → 2 ^ j < n) ∧ m = 20 - b, ⟨_, rfl, 0, rfl, by lia, fun j z => absurd z (by lia), rfl⟩, ?_⟩
  rintro m Z H' ⟨rfl, b, rfl, hb, hj, rfl⟩
  have hb64 : b ≤ 64 := by lia
  walk_at "g"
  refine bz (fun c => ?_) (fun c => ?_)
  . have c' : 2 ^ b < n := by exact_mod_cast c
    have hb20 : b < 20 := by
      by_cases z : b = 20
      . subst z
        exact absurd c' (by lia)
      . lia
    walk_at "n"
    refine⟨fun Z' H' => aG _, fun _ _ z => z.out, ?_⟩
    walk_at "g"
    refine⟨⟨20 - (b + 1), by lia, rfl, b + 1, rfl, hb20, fun j z => ?_, rfl⟩⟩
    by_cases e : j = b
    . rw[e]; exact c'
    . exact hj j (by lia)
  . walk_at "g"
    exact q b ⟨by have : ¬ ((2 ^ b : Nat) : Int) < n := by exact_mod_cast c
                  lia, hj⟩
theorem wQ {C:Addr}(B:Bi mg) (c:dE K mg "LaidBlock" C) (n:bV K C) (D:r8 K mg):Has P w K mg base 1 "bundles_of" pQ (JB K C):=by
 refine D.has xy (fun vs H Q E h=> ?_) (fun f cdv A outer s H vs Q E hr h=> ?_)
 .obtain⟨x,dx,i,b,js,is,bs,rfl,_⟩:=h
  rfl
 obtain⟨x,dx,i,b,js,is,bs,rfl,l,q⟩:=h;have hc:=c.cl;have n3:=n.length;have hat:=l.at_;have cd:Bc ((lnW is:Int)+7) 8:=⟨by decide,by decide⟩
 refine⟨_,(ae (ah (av cZ (av aU (aP (pv 0) (by rfl)) ac) ac))),?_⟩
 try dsimp only[aT]
 walk_at "g";have e:((lnW is:Int)+7) / 8=((lnW is+7) / 8:Nat):=by lia
 show Q (V.int (((lnW is:Int)+7) / 8)) H
 rw[e];exact q
theorem EV (B:Bi mg) (D:A9 K mg):Has P w K mg base 1 "placed" BD (BH K):=by
 refine D.has ES (fun vs H Q E h=> ?_) (fun f cdv A outer s H vs Q E hr h=> ?_)
 .obtain⟨t,kn,n,rfl,_⟩:=h
  rfl
 obtain⟨t,⟨k,ns⟩,n,rfl,ht,hv,hn,q⟩:=h;dsimp only at ht;have k19:k < 19:=hv.lt19
 refine⟨_,(aa (aO (bq (ax (PW.pt (iF (pcT aD (pX ak (pv 0) ac) aw) (gf (pcT aD (pX ak (pv 0) ac) aw)))) (ae (ah (av DY (c_ kc (pv 0) eB (eC (yJ (v:= -1) (by rfl)))) (aA (pa1 (av cf (pX ak (pv 0) (yJ (v:= -1) (by rfl))) (pv 1))))))) al)))
   (ae (ah (pv 0)))),?_⟩
 try dsimp only[aT]
 by_cases h13:k=13
 .obtain⟨z,rfl,z0,z1⟩:=hv.jmp h13;subst h13;have i0:atI (aE 13 [z]) 0=some (.str "jump"):=rfl;have im:atI (aE 13 [z]) (-1)=some (.int z):=rfl;have ec:fe (aE 13 [z]) none (some (-1))=[.str "jump"]:=rfl;have hw:¬(HT.sIx (aE 13 [z]).length 0 none=0/\HT.sIx (aE 13 [z]).length (aE 13 [z]).length (some (-1))=(aE 13 [z]).length):=by show ¬(HT.sIx 2 0 none=0/\HT.sIx 2 2 (some (-1))=2);decide
  have cm:zB z (n:Int):= .inr ⟨by lia,by lia⟩
  walk_at "n";refine⟨⟨fun Z' H'=>aG False,?_,fun _ _ z=>z.out.elim⟩⟩
  walk_at "g";intro p1 hp1;rw[ec];walk_at "g";intro p2 hp2;have hp3:upd (upd H p1 (.tup [.str "jump"])) p2 (.tup [.int (z*n)]) p1=some (.tup [.str "jump"]):=by rw[ai (aj ad hp2)];exact ad
  walk_at "g";refine⟨(fun z=>by cases z),fun _ p3 hp4=> ?_⟩
  exact q p3 _ (((ag hp1 _).trans (ag hp2 _)).trans (ag hp4 _)) (SqT.of ad)
 by_cases h14:k=14
 .obtain⟨x,z,rfl,x0,x1,z0,z1⟩:=hv.jif h14;subst h14;have i0:atI (aE 14 [x,z]) 0=some (.str "jumpif"):=rfl;have im:atI (aE 14 [x,z]) (-1)=some (.int z):=rfl;have ec:fe (aE 14 [x,z]) none (some (-1))=[.str "jumpif",.int x]:=rfl;have hw:¬(HT.sIx (aE 14 [x,z]).length 0 none=0/\HT.sIx (aE 14 [x,z]).length (aE 14 [x,z]).length (some (-1))=(aE 14 [x,z]).length):=by show ¬(HT.sIx 3 0 none=0/\HT.sIx 3 3 (some (-1))=3);decide
  have cm:zB z (n:Int):= .inr ⟨by lia,by lia⟩
  walk_at "n";refine⟨⟨fun Z' H'=>aG False,?_,fun _ _ z=>z.out.elim⟩⟩
  walk_at "g";intro p1 hp1;rw[ec];walk_at "g";intro p2 hp2;have hp3:upd (upd H p1 (.tup [.str "jumpif",.int x])) p2 (.tup [.int (z*n)]) p1=some (.tup [.str "jumpif",.int x]):=by rw[ai (aj ad hp2)];exact ad
  walk_at "g";refine⟨(fun z=>by cases z),Nat.le_of_ble_eq_true rfl,(fun z=>by cases z),fun _ p3 hp4=> ?_⟩
  exact q p3 _ (((ag hp1 _).trans (ag hp2 _)).trans (ag hp4 _)) (SqT.of ad)
 have i0:atI (aE k ns) 0=some (.str (aV k)):=mT;have ep:plc n (k,ns)=(k,ns):=by unfold plc;rw[if_neg h13,if_neg h14]
 rw[ep] at q;walk_at "n";refine⟨⟨fun Z' H'=>Z'=[some (.ref t),some (.int n)]/\H'=H,?_,?_⟩⟩
 .walk_at "g";refine cA (fun z=>h13 ((Fe k k19).mp z)) ?_
  walk_at "g";refine cA (fun z=>h14 ((Bh k k19).mp z)) ?_
  exact⟨rfl,rfl⟩
 .rintro Z' H' ⟨rfl,rfl⟩
  walk_at "g";exact q t H' (fun _ _ z=>z) ht
theorem xZ:∀n:Nat,ay (stp n)=List.replicate n 0
 | 0=>rfl
 | n+1=>by
  show ay ((0,[])::stp n)=_
  rw[tQ,xZ n]
  rfl
theorem xW {α:Type}(x:α):∀n,(List.replicate n [x]).flatten=List.replicate n x
 | 0=>rfl
 | n+1=>by rw[List.replicate_succ,List.flatten_cons,xW x n,List.replicate_succ];rfl
theorem GM (B:Bi mg) (D:El K mg) (gE:Has P w K mg base 5 "words_of" cS (KN K)):Has P w K mg base 6 "stops" nR zh:=by
 refine D.has GG (fun vs H Q E h=> ?_) (fun f cdv A outer s H vs Q E hr h=> ?_)
 .obtain⟨n,rfl,_⟩:=h
  rfl
 obtain⟨n,rfl,hn,q⟩:=h;refine⟨_,(ae (ah (av Da (pcH gE hr (pa1 (aA (pa1 aw)))) (pv 0)))),?_⟩
 try dsimp only[aT]
 walk_at "g";intro t ht;refine⟨t,0,[],rfl,by decide,(fun z=>by cases z),SqT.of ad,?_⟩
 intro p1 H1 hp1 h1 s1;have hz:((d8 0 []).map V.int).length*(n:Int).toNat<=sizeLine:=by
  show 1*n<=sizeLine
  exact Nat.le_trans (by lia) (show 2000<=sizeLine by decide)
 walk_at "g";intro p hp;refine q p _ (((ag ht _).trans s1).trans (ag hp _)) ((ag ht _).free (s1.free hp)) ?_
 rw[ad,xZ,List.map_replicate];show some (HO.lst (List.replicate n [V.int 0]).flatten)=_
 rw[xW]
theorem vV {C:Addr}(B:Bi mg) (c:dE K mg "LaidBlock" C) (n:bV K C) (D:pJ K mg) (gE:Has P w K mg base 5 "words_of" cS (KN K)) (wC:Has P w K mg base 1 "placed" BD (BH K))
  (oW:Has P w K mg base 6 "stops" nR zh):Has P w K mg base 7 "block_words" Au (KU K C):=by
 refine D.has ja (fun vs H Q E h=> ?_) (fun f cdv A outer s H vs Q E hr h=> ?_)
 .obtain⟨x,dx,i,b,js,is,bs,nn,rfl,_⟩:=h
  rfl
 obtain⟨x,dx,i,b,js,is,bs,nn,rfl,l,hjn,hnn,q⟩:=h;have hc:=c.cl;have n1:=n.instructions
 refine⟨_,(aa (psS 2 ja.nd (cw gU))
   (aa (fB PassesOwn.never (by rfl) (eA (uV (aP (pv 0) (by rfl)))) (aN (i:=3) ja.nd (by rfl) (by left;rfl)) (ae (cu (nS PySem.F.plainAttrs_list PySem.F.slot_list_extend PySem.F.type_list_extend sZ (pv 2) (pa1 (pcH gE hr (pa1 (pcH wC hr (pa2 (pv 3) (pv 1))))))))))
   (ae (ah (av sH (pv 2) (pcH oW hr (pa1 (av bL (pv 1) (aI aM (by rfl) B.len dk (pa1 (pv 2))))))))))),?_⟩
 try dsimp only[aT]
 walk_at "g";intro p hp;have s0:=ag hp (.lst []);have hp0:upd H p (.lst []) p=some (.lst []):=ad;generalize upd H p (.lst [])=H0 at*;have l0:=l.same s0;have hat0:=l0.at_;have hli0:=l0.li;walk_at "g";refine⟨Ao (xs:=js.map V.ref) (fun j Z H'=>aG (∃ y,Z=[some (.ref x),some (.int nn),some (.ref p),y]/\az H H'/\H' p=some (.lst ((ay ((is.take j).map (plc nn))).map V.int)))) ⟨_,rfl,s0,hp0⟩ ?_ ?_ ?_⟩
 .rintro j Z H' _ ⟨y,rfl,s1,_⟩
  exact SqL.of (s1 _ _ l.li)
 .rintro j u Z H' hj ⟨y,rfl,s1,hp1⟩
  obtain⟨t,et,rfl⟩:=cP hj;obtain⟨kn,ek,ht⟩:=l.ow.get et;have hlt:j < is.length:=(List.getElem?_eq_some_iff.mp ek).1;have ht1:=s1.tup ht;have hv1:=l.va kn (List.mem_of_getElem? ek);have hty:tyV K "list" (.ref p) H':= .inl ⟨rfl,_,SqL.of hp1⟩;have hlw:lnW (is.take (j+1))<=2000:=by
   have e:=congrArg lnW (List.take_append_drop (j+1) is);rw[eu] at e
   lia
  have k19:(plc nn kn).1 < 19:=by rw[Ci];exact hv1.lt19
  have kk:(plc nn kn).1=1->2<=(plc nn kn).2.length:=fun z=>by
   rw[Ci] at z;have e:plc nn kn=kn:=by unfold plc;rw[if_neg (by lia),if_neg (by lia)]
   rw[e];exact hv1.put2 z
  have ew:ay ((is.take (j+1)).map (plc nn))=ay ((is.take j).map (plc nn))++d8 (plc nn kn).1 (plc nn kn).2:=by
   rw[fE ek,List.map_append,iZ];show _++(d8 _ _++[])=_
   rw[List.append_nil]
   all_goals rfl
  have el:(ay ((is.take (j+1)).map (plc nn))).length<=2000:=by rw[bO,oY];exact hlw
  rw[ew] at el;walk_at "g";intro t2 H2 s2 ht2;have hp1':=s2 _ _ hp1;have hty2:tyV K "list" (.ref p) H2:= .inl ⟨rfl,_,SqL.of hp1'⟩;walk_at "g";intro p3 H3 hp3 h3 s3;have hp1'':=s3 _ _ hp1';have hz:((ay ((is.take j).map (plc nn))).map V.int).length+((d8 (plc nn kn).1 (plc nn kn).2).map V.int).length<=sizeLine:=by
   rw[List.length_map,List.length_map, <-List.length_append];exact Nat.le_trans el (by decide)
  walk_at "g";refine⟨_,rfl,fJ hp ((s1.trans s2).trans s3),?_⟩
  rw[ad,ew,List.map_append]
 .rintro Z H' ⟨y,rfl,s1,hp1⟩
  rw[List.length_map,l.ow.len,List.take_length] at hp1;have el:((ay (is.map (plc nn))).map V.int).length=lnW is:=by rw[List.length_map,bO,oY]
  have hsub:((nn:Int) - (((ay (is.map (plc nn))).map V.int).length:Nat))=((nn - lnW is:Nat):Int):=by rw[el];lia
  have hsz:nn - lnW is<=2000:=by lia
  walk_at "g";refine⟨(congrArg (fun z=>[V.int z]) hsub:[V.int ((nn:Int) - (((ay (is.map (plc nn))).map V.int).length:Nat))]=[V.int ((nn - lnW is:Nat):Int)]),hsz,?_⟩
  intro p2 H2 s2 hp2 h2;have hp1':=s2 _ _ hp1;have hz:((ay (is.map (plc nn))).map V.int).length+((ay (stp (nn - lnW is))).map V.int).length<=sizeLine:=by
   rw[el,List.length_map,bO,oZ];exact Nat.le_trans (show lnW is+(nn - lnW is)<=2000 by lia) (by decide)
  walk_at "g";intro p3 hp3;refine q p3 _ ((s1.trans s2).trans (ag hp3 _)) (s1.free (s2.free hp3)) ?_
  rw[ad, <-List.map_append, <-iZ]
  rfl
def Lds (K:Frag) (C:Addr) (H:Hp) (xs:List Addr) (ds:List Bk):Prop:=xs.length=ds.length/\∀(j:Nat) (x:Addr) (d:Bk),xs[j]? =some x->ds[j]? =some d->
 ∃dx i b js,aX K C H x dx i b js d.1 d.2
theorem Lds.same {K:Frag}{C:Addr}{H H':Hp}{xs:List Addr}{ds:List Bk}(s:az H H') (h:Lds K C H xs ds):Lds K C H' xs ds:=by
 refine⟨h.1,fun j x d e1 e2=> ?_⟩
 obtain⟨dx,i,b,js,l⟩:=h.2 j x d e1 e2;exact⟨dx,i,b,js,l.same s⟩
abbrev pk (n a:Nat):List Key:=[.inl (n:Int),.inl (a:Int)]
theorem Gg {n a n' a':Nat}(h:pk n a=pk n' a'):n=n'/\a=a':=by
 injection h with h1 h2
 injection h2 with h2 _
 injection h1 with h1
 injection h2 with h2
 lia
theorem Hr {κ:Type} [DecidableEq κ] {kvs:List (κ × V)}{k:κ}{v:V}(h:∀kv∈kvs,kv.1≠k):cx kvs k v=kvs++[(k,v)]:=by
 unfold cx;rw[if_neg];intro z;obtain⟨kv,h1,h2⟩:=List.any_eq_true.mp z;exact h kv h1 (of_decide_eq_true h2)
def rZ (n u:Nat):Nat->List Nat->List (List Key × V)
 | _,[]=>[]
 | a,b::r=>(pk u a,.int ((u*n+b:Nat):Int))::rZ n u (a+1) r
def p_ (n:Nat):Nat->List (List Nat)->List (List Key × V)
 | _,[]=>[]
 | u,bs::r=>rZ n u 0 bs++p_ n (u+1) r
theorem vq (n u:Nat):∀(a:Nat) (bs:List Nat),(rZ n u a bs).length=bs.length
 | _,[]=>rfl
 | a,b::r=>congrArg (· +1) (vq n u (a+1) r)
theorem wa {n u:Nat}:∀ {a:Nat}{bs:List Nat}{kv:List Key × V},kv∈rZ n u a bs->∃j,kv.1=pk u j/\a<=j/\j < a+bs.length
 | a,b::r,kv,h=>by
  rcases List.mem_cons.mp h with rfl | h
  .exact⟨a,rfl,Nat.le_refl _,by rw[List.length_cons];lia⟩
  .obtain⟨j,h1,h2,h3⟩:=wa h;exact⟨j,h1,by lia,by rw[List.length_cons];lia⟩
theorem Bl {n:Nat}:∀ {u:Nat}{bss:List (List Nat)}{kv:List Key × V},kv∈p_ n u bss->∃v j,kv.1=pk v j/\u<=v/\v < u+bss.length
 | u,bs::r,kv,h=>by
  rcases List.mem_append.mp h with h | h
  .obtain⟨j,h1,h2,h3⟩:=wa h;exact⟨u,j,h1,Nat.le_refl _,by rw[List.length_cons];lia⟩
  .obtain⟨v,j,h1,h2,h3⟩:=Bl h;exact⟨v,j,h1,by lia,by rw[List.length_cons];lia⟩
theorem xP (n u b:Nat):∀(a:Nat) (bs:List Nat),rZ n u a (bs++[b])=rZ n u a bs++[(pk u (a+bs.length),.int ((u*n+b:Nat):Int))]
 | a,[]=>rfl
 | a,c::r=>by
  show _::rZ n u (a+1) (r++[b])=_
  rw[xP n u b (a+1) r,List.length_cons,show a+1+r.length=a+(r.length+1) by lia]
  rfl
theorem yk (n:Nat) (bs:List Nat):∀(u:Nat) (l:List (List Nat)),p_ n u (l++[bs])=p_ n u l++rZ n (u+l.length) 0 bs
 | u,[]=>by show rZ n u 0 bs++[]=_;rw[List.append_nil];rfl
 | u,c::r=>by
  show rZ n u 0 c++p_ n (u+1) (r++[bs])=_
  rw[yk n bs (u+1) r,List.length_cons,show u+1+r.length=u+(r.length+1) by lia, <-List.append_assoc]
  rfl
theorem AK (n:Nat):∀(u:Nat) (l:List (List Nat)),(∀ bs∈l,bs.length<=30)->(p_ n u l).length<=30*l.length
 | _,[],_=>Nat.le_refl _
 | u,c::r,h=>by
  show(rZ n u 0 c++p_ n (u+1) r).length<=_
  have h1:=AK n (u+1) r (fun x hx=>h x (List.mem_cons_of_mem _ hx))
  have h2:=h c List.mem_cons_self;rw[List.length_append,vq,List.length_cons]
  lia
def Co (K:Frag) (C:Addr):Sp:=fun vs H Q _=>∃(bl:Addr) (xs:List Addr) (ds:List Bk) (n:Nat),vs=[.ref bl,.int n]/\SqL K H bl (xs.map V.ref)/\Lds K C H xs ds/\ds.length<=16/\(∀ d∈ds,d.2.length<=30)/\n<=2000/\
 ∀(p:Addr) (H':Hp),az H H'->H p=none->H' p=some (.dT (p_ n 0 (ds.map (·.2))))->Q (.ref p) H'
theorem zW {C:Addr}(B:Bi mg) (c:dE K mg "LaidBlock" C) (n:bV K C) (D:uf K mg):Has P w K mg base 1 "places_of" Bb (Co K C):=by
 refine D.has eV (fun vs H Q E h=> ?_) (fun f cdv A outer s H vs Q E hr h=> ?_)
 .obtain⟨bl,xs,ds,nn,rfl,_⟩:=h
  rfl
 obtain⟨bl,xs,ds,nn,rfl,hbl,lds,h16,h30,hnn,q⟩:=h;have hc:=c.cl;have n2:=n.begins;have e30:∀j,(p_ nn 0 ((ds.take j).map (·.2))).length<=500:=fun j=>by
  have h1:=AK nn 0 ((ds.take j).map (·.2)) (fun bs hb=>by
   obtain⟨d,hd,rfl⟩:=List.mem_map.mp hb
   exact h30 d (List.mem_of_mem_take hd))
  rw[List.length_map,List.length_take] at h1
  lia
 refine⟨_,(aa (psS 2 eV.nd Gm)
   (aa (fB PassesOwn.never (by rfl) (eA (Ec (by rfl) B.enumerate (pa1 (pv 0)))) (sO (n:=2) (by rfl) (bE (aN (i:=3) eV.nd (by rfl) (by left;rfl)) (bE (aN (i:=4) eV.nd (by rfl) (by left;rfl)) jM))) (ae (fB PassesOwn.never (by rfl) (eA (Ec (by rfl) B.enumerate (pa1 (aP (pv 4) (by rfl))))) (sO (n:=2) (by rfl) (bE (aN (i:=5) eV.nd (by rfl) (by left;rfl)) (bE (aN (i:=6) eV.nd (by rfl) (by left;rfl)) jM))) (ae (uP (ya hr) (pv 2) (aA (pa2 (pv 3) (pv 5))) (av aU (av cf (pv 3) (pv 1)) (pv 6)) (by rfl))))))
   (ae (ah (pv 2))))),?_⟩
 try dsimp only[aT]
 walk_at "g";intro p hp;have s0:=ag hp (.dT []);have hp0:upd H p (.dT []) p=some (.dT []):=ad;generalize upd H p (.dT [])=H0 at*;have hbl0:=s0.seq hbl;walk_at "g"
 refine⟨Bt (xs:=xs.map V.ref) (fun k Z H'=>aG (∃ y1 y2 y3 y4,Z=[some (.ref bl),some (.int nn),some (.ref p),y1,y2,y3,y4]/\az H H'/\H' p=some (.dT (p_ nn 0 ((ds.take k).map (·.2))))))
  ⟨_,_,_,_,rfl,s0,hp0⟩ ?_ ?_ ?_⟩
 .rintro k Z H' ⟨y1,y2,y3,y4,rfl,s1,_⟩
  exact s1.seq hbl
 .rintro k u r Z H' hk ⟨y1,y2,y3,y4,rfl,s1,hp1⟩ hr1
  obtain⟨x,ex,rfl⟩:=cP hk;have hlt:k < xs.length:=(List.getElem?_eq_some_iff.mp ex).1;have hkd:k < ds.length:=by have:=lds.1;lia
  obtain⟨d,ed⟩:∃d,ds[k]? =some d:=⟨_,List.getElem?_eq_getElem hkd⟩;obtain⟨dx,i,b,js,l⟩:=lds.2 k x d ex ed;have hd30:=h30 d (List.mem_of_getElem? ed);have hk16:k < 16:=by lia
  have s2:=s1.trans (ag hr1 (.tup [.int k,.ref x]));have hp2:=ag hr1 (.tup [.int k,.ref x]) _ _ hp1;have ht2:upd H' r (.tup [.int k,.ref x]) r=some (.tup [.int k,.ref x]):=ad;generalize upd H' r (.tup [.int k,.ref x])=H2 at*;have hat2:=s2 _ _ l.at_;have hlb2:=s2 _ _ l.lb;have e30k:=e30 k;walk_at "g"
  refine⟨Bt (xs:=d.2.map vn) (fun a Z H'=>aG (∃ y3 y4,Z=[some (.ref bl),some (.int nn),some (.ref p),some (.int k),some (.ref x),y3,y4]/\az H H'/\H' p=some (.dT (p_ nn 0 ((ds.take k).map (·.2))++rZ nn k 0 (d.2.take a)))))
   ⟨_,_,rfl,s2,by rw[hp2];show _=some (HO.dT (_++[]));rw[List.append_nil]⟩ ?_ ?_ ?_⟩
  .rintro a Z H' ⟨y3,y4,rfl,s3,_⟩
   exact SqL.of (s3 _ _ l.lb)
  .rintro a v r3 Z H3 ha ⟨y3,y4,rfl,s3,hp3⟩ hr3
   obtain⟨b0,eb,rfl⟩:=cP ha;have halt:a < d.2.length:=(List.getElem?_eq_some_iff.mp eb).1;have s4:=s3.trans (ag hr3 (.tup [.int a,.int b0]));have hp4:=ag hr3 (.tup [.int a,.int b0]) _ _ hp3;have ht4:upd H3 r3 (.tup [.int a,.int b0]) r3=some (.tup [.int a,.int b0]):=ad;generalize upd H3 r3 (.tup [.int a,.int b0])=H4 at*;have cm:zB (k:Int) (nn:Int):= .inl ⟨by lia,by lia⟩
   walk_at "g";intro r5 hr5;have hp5:=ag hr5 (.tup [.int k,.int a]) _ _ hp4;have hkl:(p_ nn 0 ((ds.take k).map (·.2))++rZ nn k 0 (d.2.take a)).length < sizeLine:=by
    rw[List.length_append,vq,List.length_take];exact Nat.lt_of_lt_of_le (show _ < 1000 by lia) (by decide)
   have dp:qX (upd H4 r5 (.tup [.int k,.int a])) p (.ref r5) (.int ((k:Int)*nn+b0)) _:=qX.t (k:=pk k a) hp5 ad hkl;have hnew:∀kv∈p_ nn 0 ((ds.take k).map (·.2))++rZ nn k 0 (d.2.take a),kv.1≠pk k a:=fun kv hk z=>by
    rcases List.mem_append.mp hk with hk | hk
    .obtain⟨v,j,h1,h2,h3⟩:=Bl hk;rw[z] at h1;have:=(Gg h1).1;rw[List.length_map,List.length_take] at h3
     lia
    .obtain⟨j,h1,h2,h3⟩:=wa hk;rw[z] at h1;have:=(Gg h1).2;rw[List.length_take] at h3
     lia
   walk_at "g";refine⟨_,_,rfl,fJ hp (s4.trans (ag hr5 _)),?_⟩
   rw[ad,Hr hnew,fE eb,xP,List.length_take,Nat.min_eq_left (Nat.le_of_lt halt),List.append_assoc,Nat.zero_add];have e:(k:Int)*nn+b0=((k*nn+b0:Nat):Int):=by push_cast;rfl
   rw[e]
  .rintro Z H' ⟨y3,y4,rfl,s3,hp3⟩
   rw[List.length_map,List.take_length] at hp3;refine⟨_,_,_,_,rfl,s3,?_⟩
   rw[hp3,fE ed,List.map_append];show _=some (HO.dT (p_ nn 0 ((ds.take k).map (·.2)++[d.2])))
   rw[yk,List.length_map,List.length_take,Nat.min_eq_left (Nat.le_of_lt hkd),Nat.zero_add]
 .rintro Z H' ⟨y1,y2,y3,y4,rfl,s1,hp1⟩
  rw[List.length_map,lds.1,List.take_length] at hp1;walk_at "g";exact q p H' s1 hp hp1
def bun (d:Bk):Nat:=(lnW d.1+7) / 8
structure vc (M:Nat) (ds:List Bk):Prop where
 mem:∃d∈ds,bun d=M
 le:∀d∈ds,bun d<=M
def vf (H H':Hp) (r:Addr) (ds:List Bk) (rk rb gt:Int) (m s:Nat):Prop:=∃a1 a2 a3,H' r=some (.tup [.ref a1,.ref a2,.ref a3])/\H' a1=some (.tup [.int rk,.int rb,.int m,.int s,.int gt])/\
 H' a2=some (.lst ((ay (gg (8*2^s) (2^m*(8*2^s)) ds)).map V.int))/\H' a3=some (.dT (p_ (8*2^s) 0 (ds.map (·.2))))/\H r=none/\H a1=none/\H a2=none/\H a3=none
def Dw (K:Frag) (C CT:Addr):Sp:=fun vs H Q E=>∃(bl rm:Addr) (xs:List Addr) (ds:List Bk) (rk rb gt:Int) (M:Nat),vs=[.ref bl,.ref rm,.int gt]/\SqL K H bl (xs.map V.ref)/\Lds K C H xs ds/\SqT K H rm [.int rk,.int rb]/\
 0 < ds.length/\ds.length<=16/\(∀ d∈ds,lnW d.1<=300/\d.2.length<=30)/\vc M ds/\
 ∀m s,um ds.length m->um M s->(7 < m+s->∀H',az H H'->E (.ref CT) none H')/\(m+s<=7->∀r H',az H H'->vf H H' r ds rk rb gt m s->Q (.ref r) H')
theorem qO {C CT:Addr}(B:Bi mg) (x_TooLong:Fq K CT) (sT:mg "TooLong"=some (.ref CT)) (D:kO K mg) (ao:Has P w K mg base 1 "power_of_two" mh iJ) (iN:Has P w K mg base 2 "least_bits" nR DX)
  (lr:Has P w K mg base 1 "bundles_of" pQ (JB K C)) (jT:Has P w K mg base 7 "block_words" Au (KU K C)) (oW:Has P w K mg base 6 "stops" nR zh) (nD:Has P w K mg base 1 "places_of" Bb (Co K C)):
  pA P w K mg base 8 "code_of_blocks" yB [] (Dw K C CT):=by
 refine D.hasO bZ (fun vs H Q E h=> ?_) (fun f cdv A outer s H vs Q E hr h=> ?_)
 .obtain⟨bl,rm,xs,ds,rk,rb,gt,M,rfl,_⟩:=h
  rfl
 obtain⟨bl,rm,xs,ds,rk,rb,gt,M,rfl,hbl,lds,hrm,h0,h16,hd,hM,q⟩:=h;have hlx:(xs.map V.ref).length=ds.length:=by rw[List.length_map];exact lds.1
 have hlx2:(xs.map V.ref).length<=1048576:=by lia
 refine⟨_,(aa (qc (psS 3 bZ.nd (pcH iN hr (pa1 (aI aM (by rfl) B.len dk (pa1 (pv 0)))))))
   (aa (qc (psS 4 bZ.nd (pcH iN hr (pa1 (aI (Fb (by rfl)) (by rfl) B.max zV (pa1 (PE.nox (lS (by rfl) (by rfl) (by rfl) (bk (sc0:=af e_) (N0:=["blocks","room","gates","m","s","size","code","block"]) ["block"] 1 []) (uV (pv 0)) (fun _ _ _ _=>(aN (i:=0) (show List.Nodup (["block"]:List Str) by decide) (by rfl) (by left;rfl))) (fun _ _ _ _=>(pcH lr hr (pa1 (pv 0))))))))))))
   (aa (ax (pcT xO (av aU (pv 3) (pv 4)) ac) (ae (EZ x_TooLong (by rfl) sT)) al)
   (aa (qc (psS 5 bZ.nd (av cf ac (pcH ao hr (pa1 (pv 4))))))
   (aa (qc (psS 6 bZ.nd (cw gU)))
   (aa (qc (fB PassesOwn.never (by rfl) (eA (uV (pv 0))) (aN (i:=7) bZ.nd (by rfl) (by left;rfl)) (ae (cu (nS PySem.F.plainAttrs_list PySem.F.slot_list_extend PySem.F.type_list_extend sZ (pv 6) (pa1 (pcH jT hr (pa2 (pv 7) (pv 5)))))))))
   (aa (qc (cu (nS PySem.F.plainAttrs_list PySem.F.slot_list_extend PySem.F.type_list_extend sZ (pv 6) (pa1 (pcH oW hr (pa1 (av bL (av cf (pcH ao hr (pa1 (pv 3))) (pv 5)) (aI aM (by rfl) B.len dk (pa1 (pv 6))))))))))
   (ae (qc (ah (aA (pa3 (aA (pa5 (pX ak (pv 1) ac) (pX ak (pv 1) ac) (pv 3) (pv 4) (pv 2))) (pv 6) (pcH nD hr (pa2 (pv 0) (pv 5))))))))))))))),?_⟩
 try dsimp only[Kq]
 walk_at "g";intro m hm;rw[hlx] at hm;walk_at "g";intro p hp;refine yz (xs:=xs.map V.ref) (fun j ys H'=>aG (az H H')/\H' p=some (.lst ys)/\ys=((ds.take j).map fun d=>V.int (bun d:Nat))) ⟨⟨ag hp _⟩,ad,rfl⟩ ?_ ?_ ?_
 .rintro j ys H' ⟨⟨s1⟩,_⟩
  exact s1.seq hbl
 .rintro j u ys H' F hF hj ⟨⟨s1⟩,hp1,rfl⟩
  obtain⟨x,ex,rfl⟩:=cP hj;have hlt:j < xs.length:=(List.getElem?_eq_some_iff.mp ex).1;obtain⟨d,ed⟩:∃d,ds[j]? =some d:=⟨_,List.getElem?_eq_getElem (by have:=lds.1;lia)⟩
  obtain⟨dx,i,b,js,l⟩:=lds.2 j x d ex ed;have l1:=l.same s1;have hz:((ds.take j).map fun d=>V.int (bun d:Nat)).length < sizeLine:=by
   rw[List.length_map,List.length_take];exact Nat.lt_of_lt_of_le (show min j ds.length < 100 by lia) (by decide)
  walk_at "g";refine hF _ _ ⟨⟨fJ hp s1⟩,ad,?_⟩
  rw[fE ed,List.map_append]
  rfl
 rintro ys H1 ⟨⟨s1⟩,hp1,rfl⟩
 rw[hlx,List.take_length] at hp1;have hq:SqL K H1 p ((ds.map fun d=>((bun d:Nat):Int)).map V.int):=by
  rw[List.map_map];exact SqL.of hp1
 refine⟨p,ds.map fun d=>((bun d:Nat):Int),rfl,hq,(fun z=>by rw[List.map_eq_nil_iff] at z;rw[z] at h0;exact absurd h0 (by decide)),?_⟩
 intro mx h1 h2;have emx:mx=(M:Nat):=by
  obtain⟨d,hd1,rfl⟩:=List.mem_map.mp h1;obtain⟨d',hd2,hd3⟩:=hM.mem;have a1:=hM.le d hd1;have a2:=h2 _ (List.mem_map.mpr ⟨d',hd2,rfl⟩)
  lia
 subst emx;have hM2:M<=1048576:=by
  obtain⟨d,hd1,hd2⟩:=hM.mem;have:=(hd d hd1).1;unfold bun at hd2
  lia
 walk_at "g";intro sx hs;obtain⟨qE,qQ⟩:=q m sx hm hs;walk_at "g";refine bz (fun c=> ?_) (fun c=> ?_)
 .exact qE (by lia) H1 s1
 have ms:m+sx<=7:=by lia
 have s64:sx<=64:=by lia
 have m64:m<=64:=by lia
 have hS:8*2^sx<=1024:=by
  have:2^sx<=2^7:=Nat.pow_le_pow_right (by decide) (by lia)
  lia
 have eS:(8:Int)*2^sx=((8*2^sx:Nat):Int):=by push_cast;rfl
 walk_at "g";dsimp only;rw[eS];have hdS:∀d∈ds,lnW d.1<=8*2^sx:=fun d hd=>by
  have a1:=hM.le d hd;have a2:=hs.1;unfold bun at a1
  lia
 have hmS:2^m*(8*2^sx)=8*2^(m+sx):=by rw[Nat.pow_add];ac_rfl
 have hmS2:2^(m+sx)<=2^7:=Nat.pow_le_pow_right (by decide) ms
 have hnm:ds.length*(8*2^sx)<=2^m*(8*2^sx):=Nat.mul_le_mul_right _ hm.1;generalize hSS:8*2^sx=S at*;intro cp hcp;have s2:=s1.trans (ag hcp (.lst []));have hc2:upd H1 cp (.lst []) cp=some (.lst []):=ad;have hcp0:H cp=none:=s1.free hcp;generalize upd H1 cp (.lst [])=H2 at*;have hbl2:=s2.seq hbl;have eLn:∀j,(ay ((ds.take j).flatMap fun d=>fD S d.1)).length<=16*1024:=fun j=>by
  rw[bO,rn (fun d hd=>hdS d (List.mem_of_mem_take hd)),List.length_take]
  exact Nat.mul_le_mul (by lia) hS
 walk_at "g";refine⟨Ao (xs:=xs.map V.ref) (fun j Z H'=>aG (∃ y,Z=[some (.ref bl),some (.ref rm),some (.int gt),some (.int m),some (.int sx),some (.int (S:Nat)),some (.ref cp),y]/\az H H'/\H' cp=some (.lst ((ay ((ds.take j).flatMap fun d=>fD S d.1)).map V.int)))) ⟨_,rfl,s2,hc2⟩ ?_ ?_ ?_⟩
 .rintro j Z H' _ ⟨y,rfl,s3,_⟩
  exact s3.seq hbl
 .rintro j u Z H' hj ⟨y,rfl,s3,hw⟩
  obtain⟨x,ex,rfl⟩:=cP hj;have hlt:j < xs.length:=(List.getElem?_eq_some_iff.mp ex).1;obtain⟨d,ed⟩:∃d,ds[j]? =some d:=⟨_,List.getElem?_eq_getElem (by have:=lds.1;lia)⟩
  obtain⟨dx,i,b,js,l⟩:=lds.2 j x d ex ed;have l3:=l.same s3;have hjs:lnW d.1<=S:=hdS d (List.mem_of_getElem? ed);have hS2:S<=2000:=by lia
  have hty:tyV K "list" (.ref cp) H':= .inl ⟨rfl,_,SqL.of hw⟩;have eLj:=eLn j;walk_at "g";intro p4 H4 s4 hp4 h4;have hw4:=s4 _ _ hw;have hz:((ay ((ds.take j).flatMap fun d=>fD S d.1)).map V.int).length+((ay (fD S d.1)).map V.int).length<=sizeLine:=by
   rw[List.length_map,List.length_map,bO (fD S d.1),sy hjs];exact Nat.le_trans (show _<=20000 by lia) (by decide)
  walk_at "g";refine⟨_,rfl,fJ hcp0 (s3.trans s4),?_⟩
  rw[ad,fE ed,List.flatMap_append,iZ,List.map_append]
  simp
 .rintro Z H3 ⟨y,rfl,s3,hw⟩
  rw[hlx,List.take_length] at hw;have ew:((ay (ds.flatMap fun d=>fD S d.1)).map V.int).length=ds.length*S:=by rw[List.length_map,bO,rn hdS]
  have cm:zB ((2:Int)^m) (S:Int):= .inr ⟨by lia,by lia⟩
  have eN:(2:Int)^m*(S:Int) - (((ay (ds.flatMap fun d=>fD S d.1)).map V.int).length:Nat)=((2^m*S - ds.length*S:Nat):Int):=by
   rw[ew,Int.ofNat_sub hnm]
   push_cast
   rfl
  have hN:2^m*S - ds.length*S<=2000:=by lia
  have hty:tyV K "list" (.ref cp) H3:= .inl ⟨rfl,_,SqL.of hw⟩;walk_at "g";refine⟨(congrArg (fun z=>[V.int z]) eN:[V.int ((2:Int)^m*(S:Int) - (((ay (ds.flatMap fun d=>fD S d.1)).map V.int).length:Nat))]=[V.int ((2^m*S - ds.length*S:Nat):Int)]),hN,?_⟩
  intro p4 H4 s4 hp4 h4;have hw4:=s4 _ _ hw;have hz:((ay (ds.flatMap fun d=>fD S d.1)).map V.int).length+((ay (stp (2^m*S - ds.length*S))).map V.int).length<=sizeLine:=by
   rw[ew,List.length_map,bO,oZ];exact Nat.le_trans (show ds.length*S+(2^m*S - ds.length*S)<=2000 by lia) (by decide)
  walk_at "g";have eAll:(ay (ds.flatMap fun d=>fD S d.1)).map V.int++(ay (stp (2^m*S - ds.length*S))).map V.int=(ay (gg S (2^m*S) ds)).map V.int:=by
   rw[<- List.map_append, <-iZ]
   rfl
  rw[eAll];generalize hws:(ay (gg S (2^m*S) ds)).map V.int=ws at*;have s5:az H (upd H4 cp (.lst ws)):=fJ hcp0 (s3.trans s4);have hw5:upd H4 cp (.lst ws) cp=some (.lst ws):=ad;generalize upd H4 cp (.lst ws)=H5 at*;have hrm5:=s5.tup hrm;walk_at "g";intro a1 ha1;have s6:=s5.trans (ag ha1 (.tup [.int rk,.int rb,.int m,.int sx,.int gt]));have hw6:=ag ha1 (.tup [.int rk,.int rb,.int m,.int sx,.int gt]) _ _ hw5;have ha6:upd H5 a1 (.tup [.int rk,.int rb,.int m,.int sx,.int gt]) a1=some (.tup [.int rk,.int rb,.int m,.int sx,.int gt]):=ad;generalize upd H5 a1 (.tup [.int rk,.int rb,.int m,.int sx,.int gt])=H6 at*;have hbl6:=s6.seq hbl;have lds6:=lds.same s6;have hd30:∀d∈ds,d.2.length<=30:=fun d z=>(hd d z).2
  have hS2:S<=2000:=by lia
  walk_at "g";intro p7 H7 s7 hp7 h7;walk_at "g";intro r hr8;have s8:=ag hr8 (.tup [.ref a1,.ref cp,.ref p7]);exact qQ ms r _ ((s6.trans s7).trans s8) ⟨a1,cp,p7,ad,s8 _ _ (s7 _ _ ha6),(by rw[hSS,hws];exact s8 _ _ (s7 _ _ hw6)),(by rw[hSS];exact s8 _ _ h7),(s6.trans s7).free hr8,s5.free ha1,hcp0,s6.free hp7⟩
def del (p:Addr) (H:Hp):Hp:=fun a=>if a=p then none else H a
theorem u9 {p:Addr}{H:Hp}{o:HO}:del p (upd H p o)=del p H:=by
 funext a
 unfold del upd
 split <;> rfl
theorem m_ {p:Addr}{H:Hp}:az (del p H) H:=fun a o h=>by
 unfold del at h
 split at h
 .cases h
 .exact h
theorem SqT.del {K:Frag}{H:Hp}{p t:Addr}{xs ys:List V}(hp:H p=some (.lst ys)) (h:SqT K H t xs):SqT K (del p H) t xs:=by
 rcases h with(h | ⟨o,h⟩) | h
 .refine .inl (.inl ?_)
  show My.del p H t=_
  unfold My.del;rw[if_neg (dS h hp (by intro z;cases z))]
  exact h
 .refine .inl (.inr ⟨o,?_⟩)
  show My.del p H t=_
  unfold My.del;rw[if_neg (dS h hp (by intro z;cases z))]
  exact h
 .exact .inr h
theorem aX.del {K:Frag}{C:Addr}{H:Hp}{p x dx i b:Addr}{js:List Addr}{is:List Ins}{bs:List Nat}{ys:List V}(l:aX K C H x dx i b js is bs) (hp:H p=some (.lst ys)) (hi:i≠p) (hb:b≠p):aX K C (del p H) x dx i b js is bs:=by
 refine⟨?_,?_,?_,l.ib,l.ow.mono fun _ _ z=>SqT.del hp z,l.va⟩
 .unfold My.del;rw[if_neg (dS l.at_ hp (by intro z;cases z))]
  exact l.at_
 .unfold My.del;rw[if_neg hi];exact l.li
 .unfold My.del;rw[if_neg hb];exact l.lb
theorem Lds.snoc {K:Frag}{C:Addr}{H:Hp}{xs:List Addr}{ds:List Bk}{x dx i b:Addr}{js:List Addr}{d:Bk}(h:Lds K C H xs ds) (l:aX K C H x dx i b js d.1 d.2):Lds K C H (xs++[x]) (ds++[d]):=by
 refine⟨by rw[List.length_append,List.length_append,h.1];rfl,fun a y e h1 h2=> ?_⟩
 by_cases z:a < xs.length
 .rw[List.getElem?_append_left z] at h1;rw[List.getElem?_append_left (by have:=h.1;lia)] at h2
  exact h.2 a y e h1 h2
 .have za:a=xs.length:=by
   have:=(List.getElem?_eq_some_iff.mp h1).1;rw[List.length_append,List.length_singleton] at this
   lia
  subst za;rw[List.getElem?_append_right (by lia),Nat.sub_self] at h1
  rw[h.1,List.getElem?_append_right (by lia),Nat.sub_self] at h2
  cases h1
  cases h2
  exact⟨dx,i,b,js,l⟩
def GSt (K:Frag) (H:Hp) (bls:List Addr) (gs:List (List Ins)):Prop:=bls.length=gs.length/\∀(j:Nat) (b:Addr) (bk:List Ins),bls[j]? =some b->gs[j]? =some bk->GBk K H b bk
theorem GSt.same {K:Frag}{H H':Hp}{bls:List Addr}{gs:List (List Ins)}(s:az H H') (h:GSt K H bls gs):GSt K H' bls gs:=⟨h.1,fun j b bk e1 e2=>(h.2 j b bk e1 e2).same s⟩
structure GuB (gs:List (List Ins)):Prop where
 n0:0 < gs.length
 n16:gs.length<=16
 va:∀bk∈gs,(∀ kn∈bk,VI kn)/\bk.length<=30
def FJ (K:Frag) (CT:Addr):Sp:=fun vs H Q E=>∃(gst rm:Addr) (bls:List Addr) (gs:List (List Ins)) (rk rb gt:Int) (M:Nat),vs=[.ref gst,.ref rm,.int gt]/\SqT K H gst (bls.map V.ref)/\GSt K H bls gs/\SqT K H rm [.int rk,.int rb]/\
 GuB gs/\vc M (gs.map cR)/\
 ∀m s,um gs.length m->um M s->(7 < m+s->∀H',az H H'->E (.ref CT) none H')/\(m+s<=7->∀r H',az H H'->vf H H' r (gs.map cR) rk rb gt m s->Q (.ref r) H')
theorem Iw {C CT:Addr}(B:Bi mg) (D:Hn K mg) (jj:Has P w K mg base 4 "masked_block" pQ (JA K C)) (cE:pA P w K mg base 8 "code_of_blocks" yB [] (Dw K C CT)):
  pA P w K mg base 9 "make" pT [] (FJ K CT):=by
 refine D.hasO IK (fun vs H Q E h=> ?_) (fun f cdv A outer s H vs Q E hr h=> ?_)
 .obtain⟨gst,rm,bls,gs,rk,rb,gt,M,rfl,_⟩:=h
  rfl
 obtain⟨gst,rm,bls,gs,rk,rb,gt,M,rfl,hg,hgs,hrm,gu,hM,q⟩:=h;have n16:=gu.n16;refine⟨_,(ae (ah (sg (cE.mono (by omega)) hr (by rfl) (FU (by rfl)) (pa3 (PE.nox (lS (by rfl) (by rfl) (by rfl) (bk (sc0:=af zS) (N0:=["guest","room","gates"]) ["block"] 1 []) (ll (pv 0)) (fun _ _ _ _=>(aN (i:=0) (show List.Nodup (["block"]:List Str) by decide) (by rfl) (by left;rfl))) (fun _ _ _ _=>(pcH jj hr (pa1 (pv 0)))))) (pv 1) (pv 2))))),?_⟩
 try dsimp only[Kq]
 walk_at "g";intro p hp;refine rR (xs:=bls.map V.ref) (fun j ys H'=>aG (az H H')/\∃xs,H' p=some (.lst ys)/\ys=xs.map V.ref/\Lds K C (del p H') xs ((gs.take j).map cR)) ⟨⟨ag hp _⟩,[],ad,rfl,rfl,fun j x d e=>by simp at e⟩ ?_ ?_ ?_
 .rintro j ys H' ⟨⟨s1⟩,_⟩
  exact s1.tup hg
 .rintro j u ys H' F hF hj ⟨⟨s1⟩,xs,hp1,rfl,lds⟩
  obtain⟨b,eb,rfl⟩:=cP hj;have hlt:j < bls.length:=(List.getElem?_eq_some_iff.mp eb).1;obtain⟨bk,es⟩:∃bk,gs[j]? =some bk:=⟨_,List.getElem?_eq_getElem (by have:=hgs.1;lia)⟩
  have gb1:=(hgs.2 j b bk eb es).same s1;obtain⟨hv,h30⟩:=gu.va bk (List.mem_of_getElem? es);have hlx:xs.length=j:=by
   rw[lds.1,List.length_map,List.length_take];have:=hgs.1
   lia
  have hz:(xs.map V.ref).length < sizeLine:=by
   rw[List.length_map,hlx];exact Nat.lt_of_lt_of_le (show j < 100 by have:=hgs.1;lia) (by decide)
  walk_at "g";intro x dx i b' js H2 s2 hx hi hb l;have hp2:=s2 _ _ hp1;walk_at "g";refine hF _ _ ⟨⟨fJ hp (s1.trans s2)⟩,xs++[x],ad,by rw[List.map_append];rfl,?_⟩
  have sd:az (del p H') (del p (upd H2 p (.lst (xs.map V.ref++[V.ref x])))):=fun a o h=>by
   unfold del at*
   by_cases z:a=p
   .rw[if_pos z] at h;cases h
   .rw[if_neg z] at h ⊢;rw[ai z];exact s2 _ _ h
  have l2:aX K C (del p (upd H2 p (.lst (xs.map V.ref++[V.ref x])))) x dx i b' js (cR bk).1 (cR bk).2:=by
   rw[u9];exact l.del hp2 (Ne.symm (aj hp1 hi)) (Ne.symm (aj hp1 hb))
  rw[fE es,List.map_append];exact(lds.same sd).snoc l2
 .rintro ys H1 ⟨⟨s1⟩,xs,hp1,rfl,lds⟩
  rw[List.length_map,hgs.1,List.take_length] at lds;have lds1:=lds.same (m_ (H:=H1) (p:=p));have hq:SqL K H1 p (xs.map V.ref):=SqL.of hp1;have hrm1:=s1.tup hrm;have hdl:(gs.map cR).length=gs.length:=by rw[List.length_map]
  have h0':0 < (gs.map cR).length:=by rw[hdl];exact gu.n0
  have h16':(gs.map cR).length<=16:=by lia
  have hdd:∀d∈gs.map cR,lnW d.1<=300/\d.2.length<=30:=fun d hd=>by
   obtain⟨bk,h1,rfl⟩:=List.mem_map.mp hd;have h2:=(gu.va bk h1).2;have h3:=Iy bk;have h4:=z_ bk bk.length (Nat.le_refl _);rw[List.take_length] at h4
   lia
  walk_at "g";intro m sx hm hs;rw[hdl] at hm;obtain⟨q1,q2⟩:=q m sx hm hs;refine⟨fun z H' s2=>q1 z H' (s1.trans s2),fun z r H' s2 ca=>q2 z r H' (s1.trans s2) ?_⟩
  obtain⟨a1,a2,a3,c1,c2,c3,c4,f1,f2,f3,f4⟩:=ca;exact⟨a1,a2,a3,c1,c2,c3,c4,s1.free f1,s1.free f2,s1.free f3,s1.free f4⟩
theorem yx {k:Nat}{base:Int}{s:SpM.Span}:base<=(SpM.fitS k base s).lo/\(SpM.fitS k base s).hi < base+2^k:=by
 unfold SpM.fitS
 split
 .rename_i h;exact h
 .have h3:=SpM.pp k;have h7:=Int.emod_nonneg ((2:Int)^k - 1) (show(2:Int)^min s.z (SpM.Zn base)≠0 by have:=SpM.pp (min s.z (SpM.Zn base));lia)
  unfold SpM.settled
  split
  .exact⟨Int.le_refl _,by show base < _;lia⟩
  .exact⟨Int.le_refl _,by show base+2^k - 1 - _ < _;lia⟩
theorem yv {v:Int}{s:Nat}(h:(2:Int)^(s+3)∣v):3<=SpM.Zn v:=by
 by_cases e:v=0
 .subst e;rw[SpM.Zn_zero]
  decide
 .have:=SpM.dvd_Zn e h
  lia
theorem GL {m s:Nat}(h:m+s<=7) (x:SpM.Span):(SpM.aimS m s x).hi < ((8*2^(m+s):Nat):Int)/\3<=(SpM.aimS m s x).z:=by
 have hp:=SpM.pp m;have hs:=SpM.pp s;have eT:((8*2^(m+s):Nat):Int)=8*(2^m*2^s):=by rw[<- Int.pow_add];push_cast;rfl
 have e:((2:Int)^m - 1) %2^m=2^m - 1:=Int.emod_eq_of_lt (by lia) (by lia)
 have h4:SpM.aimV m s (2^m - 1)=8*(2^m*2^s) - 8*2^s:=by
  unfold SpM.aimV;rw[e,Int.mul_comm (2^m - 1) 8,Int.mul_assoc,Int.sub_mul,Int.mul_sub]
  lia
 have hl:∀v,SpM.aimV m s v < ((8*2^(m+s):Nat):Int):=fun v=>by
  have:=(SpM.aim_le h v).2.1
  lia
 unfold SpM.aimS
 split
 .exact⟨hl _,yv (SpM.aim_dvd m s _)⟩
 .unfold SpM.settled
  split
  .rename_i z
   exact⟨by show(0:Int) < _;rw[eT];have:=Int.mul_pos hp hs;lia,yv (v:=0) (s:=s) ⟨0,by rw[Int.mul_zero]⟩⟩
  .exact⟨hl _,by show 3<=s+3;lia⟩
def d4 (x:Pn) (t:Int) (at_:Nat) (is:List Ins):Prop:=∀sp,Sp8 sp->okC x t at_ sp is
theorem uQ {x:Pn}{t:Int}{b:List Ins}:∀ {a:List Ins}{at_:Nat}{sp:List SpM.Span},okC x t at_ sp a->okC x t (at_+lnW a) (gv x at_ sp a) b->okC x t at_ sp (a++b)
 | [],_,_,_,h=>h
 | kn::r,at_,sp,h,hb=>⟨h.1,h.2.1,h.2.2.1,uQ (a:=r) h.2.2.2 (by
   rw[a9, <-Nat.add_assoc] at hb
   exact hb)⟩
theorem we {x:Pn}{t:Int}(hR:SpM.Room x.pk x.pb) (hms:x.pm+x.ps<=7):∀ {a:List Ins}{at_:Nat}{sp:List SpM.Span},okC x t at_ sp a->Sp8 sp->Sp8 (gv x at_ sp a)
 | [],_,_,_,h=>h
 | _::r,_,_,h,h8=>we (a:=r) hR hms h.2.2.2 (sW hR hms h.1 (h_ h8))
theorem d4.app {x:Pn}{t:Int}{at_:Nat}{a b:List Ins}(hR:SpM.Room x.pk x.pb) (hms:x.pm+x.ps<=7) (ha:d4 x t at_ a) (hb:d4 x t (at_+lnW a) b):d4 x t at_ (a++b):=fun sp h8=>uQ (ha sp h8) (hb _ (we hR hms (ha sp h8) h8))
theorem d4.nil {x:Pn}{t:Int}{at_:Nat}:d4 x t at_ []:=fun _ _=>True.intro
theorem d4.one {x:Pn}{t:Int}{at_:Nat}{kn:Ins}(h1:VI kn) (h2:at_ %8+bo kn.1<=8) (h3:∀sp,Sp8 sp->bR x.pk x.pb x.pg t kn.1 kn.2 sp=none):d4 x t at_ [kn]:=fun sp h8=>⟨h1,h2,h3 _ (h_ h8),True.intro⟩
theorem dG {pk:Nat}{pb pg c:Int}{k:Nat}{ns:List Int}{sp:List SpM.Span}(h1:mk8 k->ns.getD 0 0≠7) (h2:(k=11\/k=12)->¬nT pk pb ns sp) (h3:(k=13\/k=14)->tgt k ns %8=0/\tgt k ns < c)
  (h4:k=15->(spG sp (ns.getD 0 0)).hi < c/\3<=(spG sp (ns.getD 0 0)).z) (h5:k=18->ns.getD 0 0 < pg):bR pk pb pg c k ns sp=none:=by
 unfold bR;rw[if_neg (fun z=>h1 z.1 z.2),if_neg (fun z=>h2 z.1 z.2),if_neg (fun z=>by have:=h3 z.1;lia),if_neg (fun z=>by have:=h4 z.1;lia),if_neg (fun z=>by have:=h5 z.1;lia)]
theorem nY {pk:Nat}{pb pg c:Int}{k:Nat}{ns:List Int}{sp:List SpM.Span}(h:k=10\/k=16\/k=17) (h7:ns.getD 0 0≠7):bR pk pb pg c k ns sp=none:=dG (fun _=>h7) (fun z=>by lia) (fun z=>by lia) (fun z=>by lia) (fun z=>by lia)
theorem Ft {pk:Nat}{pb pg c b:Int}{sp:List SpM.Span}(h:(spG sp b).hi < c/\3<=(spG sp b).z):bR pk pb pg c 15 [b] sp=none:=dG (fun z=>by unfold mk8 at z;lia) (fun z=>by lia) (fun z=>by lia) (fun _=>h) (fun z=>by lia)
theorem yy {pk:Nat}{pb pg c:Int}{k:Nat}{ns:List Int}{sp:List SpM.Span}(hk:k=13\/k=14) (h:tgt k ns %8=0/\tgt k ns < c):bR pk pb pg c k ns sp=none:=dG (fun z=>by unfold mk8 at z;lia) (fun z=>by lia) (fun _=>h) (fun z=>by lia) (fun z=>by lia)
theorem CK {pk:Nat}{pb pg c:Int}{ns:List Int}{sp:List SpM.Span}:bR pk pb pg c 0 ns sp=none:=dG (fun z=>by unfold mk8 at z;lia) (fun z=>by lia) (fun z=>by lia) (fun z=>by lia) (fun z=>by lia)
theorem yW {sp:List SpM.Span}{s:SpM.Span}(h:Sp8 sp):spG (sp.set 6 s) 6=s:=by
 show(sp.set 6 s).getD 6 SpM.whole=s
 rw[List.getD_eq_getElem?_getD,List.getElem?_set_self (by rw[h.len];decide)]
 rfl
structure GI (nb:Nat) (g:Int) (kn:Ins):Prop where
 v6:aK 6 262144 kn.1 kn.2
 nm:kn.1≠16/\kn.1≠17
 j1:kn.1=13->kn.2.getD 0 0 < nb
 j2:kn.1=14->kn.2.getD 1 0 < nb
 gt:kn.1=18->kn.2.getD 0 0 < g
theorem aK.w8 {k:Nat}{ns:List Int}(h:aK 6 262144 k ns):aK 8 262144 k ns:=by
 rcases h with⟨e,rfl⟩|⟨e,x,v,rfl,x0,x1,v0,v1⟩|⟨h1,h2,x,y,z,rfl,x0,x1,y0,y1,z0,z1⟩|⟨h1,h2,x,y,z,rfl,x0,x1,y0,y1,z0,z1⟩|⟨hk,z,rfl,z0,z1⟩|⟨e,x,z,rfl,x0,x1,z0,z1⟩|⟨e,y,rfl,y0,y1⟩|⟨hk,x,y,rfl,x0,x1,y0,y1⟩
 .exact .inl ⟨e,rfl⟩
 .exact .inr (.inl ⟨e,x,v,rfl,x0,by lia,v0,v1⟩)
 .exact .inr (.inr (.inl ⟨h1,h2,x,y,z,rfl,x0,by lia,y0,by lia,z0,by lia⟩))
 .exact .inr (.inr (.inr (.inl ⟨h1,h2,x,y,z,rfl,x0,by lia,y0,by lia,z0,z1⟩)))
 .exact .inr (.inr (.inr (.inr (.inl ⟨hk,z,rfl,z0,z1⟩))))
 .exact .inr (.inr (.inr (.inr (.inr (.inl ⟨e,x,z,rfl,x0,by lia,z0,z1⟩)))))
 .exact .inr (.inr (.inr (.inr (.inr (.inr (.inl ⟨e,y,rfl,y0,by lia⟩))))))
 .exact .inr (.inr (.inr (.inr (.inr (.inr (.inr ⟨hk,x,y,rfl,x0,by lia,y0,by lia⟩))))))
theorem aK.box0 {bx mo:Int}{k:Nat}{ns:List Int}(h:aK bx mo k ns) (hm:mk8 k):ns.getD 0 0 < bx:=by
 unfold mk8 at hm;rcases h with⟨e,rfl⟩|⟨e,x,v,rfl,x0,x1,v0,v1⟩|⟨h1,h2,x,y,z,rfl,x0,x1,y0,y1,z0,z1⟩|⟨h1,h2,x,y,z,rfl,x0,x1,y0,y1,z0,z1⟩|⟨hk,z,rfl,z0,z1⟩|⟨e,x,z,rfl,x0,x1,z0,z1⟩|⟨e,y,rfl,y0,y1⟩|⟨hk,x,y,rfl,x0,x1,y0,y1⟩
 all_goals first | lia | assumption
theorem Bv {n:Int}{nb m s:Nat}(h0:0<=n) (h1:n < nb) (hm:nb<=2^m):(n*((8*2^s:Nat):Int)) %8=0/\0<=n*((8*2^s:Nat):Int)/\n*((8*2^s:Nat):Int) < ((8*2^(m+s):Nat):Int):=by
 have e:n*((8*2^s:Nat):Int)=8*(n*2^s):=by push_cast;rw[Int.mul_left_comm]
 have hs:=SpM.pp s;have h4:(nb:Int)<=2^m:=by exact_mod_cast hm
 have h2:n*2^s < 2^m*2^s:=Int.mul_lt_mul_of_pos_right (by lia) hs
 have h3:=Int.mul_nonneg h0 (Int.le_of_lt hs);have eT:((8*2^(m+s):Nat):Int)=8*(2^m*2^s):=by rw[<- Int.pow_add];push_cast;rfl
 rw[e,eT]
 lia
theorem J3 {m s:Nat}(h:m+s<=7):((8*2^(m+s):Nat):Int)<=1024:=by
 have:2^(m+s)<=2^7:=Nat.pow_le_pow_right (by decide) h
 lia
theorem sk {at_:Nat}{sp:List SpM.Span}(h:at_ %8≠0):aQ at_ sp=sp:=by unfold aQ;rw[if_neg h]
theorem AF {x:Pn}{nb at_:Nat}{kn:Ins}(hR:SpM.Room x.pk x.pb) (hms:x.pm+x.ps<=7) (h:GI nb x.pg kn) (hnb:nb<=2^x.pm) (hat:at_ %8+lnW (grp kn)<=8):d4 x ((8*2^(x.pm+x.ps):Nat):Int) at_ ((grp kn).map (plc (8*2^x.ps))):=by
 obtain⟨k,ns⟩:=kn;obtain⟨hv,hnm,j1,j2,gt⟩:=h;dsimp only at hv hnm j1 j2 gt;have hgv:=sB (kn:=(k,ns)) hv.w8
 by_cases h15:k=15
 .obtain⟨b,rfl,b0,b1⟩:=hv.thr h15;subst h15;have eg:grp (15,[b])=[(17,[6,b]),(15,[6])]:=rfl;rw[eg] at hat hgv ⊢;have hat:at_ %8+2<=8:=hat;intro sp h8;have v1:=hgv (17,[6,b]) List.mem_cons_self;have v2:=hgv (15,[6]) (List.mem_cons_of_mem _ List.mem_cons_self);show okC x _ at_ sp [(17,[6,b]),(15,[6])]
  refine⟨v1,by show at_ %8+1<=8;lia,?_,v2,by show(at_+1) %8+1<=8;lia,?_,True.intro⟩
  .exact nY (k:=17) (.inr (.inr rfl)) (by show(6:Int)≠7;decide)
  .rw[sk (at_:=at_+bo 17) (by show(at_+1) %8≠0;lia)]
   refine Ft ?_
   show(spG ((aQ at_ sp).set 6 (SpM.aimS x.pm x.ps (spG (aQ at_ sp) b))) 6).hi < _/\3<=(spG ((aQ at_ sp).set 6 (SpM.aimS x.pm x.ps (spG (aQ at_ sp) b))) 6).z
   rw[yW (h_ h8)];exact GL hms _
 by_cases hac:k=11\/k=12
 .obtain⟨a,b,n,rfl,a0,a1,b0,b1,n0,n1⟩:=hv.acc hac;have k1:bo k=1:=by unfold bo;rw[if_neg (by lia)]
  have pk_:plc (8*2^x.ps) (k,[a,6,0])=(k,[a,6,0]):=by unfold plc;rw[if_neg (by show ¬k=13;lia),if_neg (by show ¬k=14;lia)]
  have facc:∀(sp:List SpM.Span) (s:SpM.Span),Sp8 sp->bR x.pk x.pb x.pg ((8*2^(x.pm+x.ps):Nat):Int) k [a,6,0] (sp.set 6 (SpM.fitS x.pk x.pb s))=none:=fun sp s h8=>by
   refine dG (fun _=>by show a≠7;lia) (fun _=> ?_) (fun z=>by lia) (fun z=>by lia) (fun z=>by lia)
   unfold nT;show ¬((spG (sp.set 6 (SpM.fitS x.pk x.pb s)) 6).lo+0 < x.pb\/x.pb+2^x.pk<=(spG (sp.set 6 (SpM.fitS x.pk x.pb s)) 6).hi+0)
   rw[yW h8];have:=yx (k:=x.pk) (base:=x.pb) (s:=s)
   lia
  by_cases e0:n=0
  .subst e0;have eg:grp (k,[a,b,0])=[(16,[6,b]),(k,[a,6,0])]:=by
    unfold grp;rw[if_neg h15,if_pos hac]
    rfl
   rw[eg] at hat hgv ⊢;rw[a9,hV] at hat;have hat:at_ %8+(1+bo k)<=8:=hat;intro sp h8;have v1:=hgv (16,[6,b]) List.mem_cons_self;have v2:=hgv (k,[a,6,0]) (List.mem_cons_of_mem _ List.mem_cons_self);show okC x _ at_ sp [(16,[6,b]),plc (8*2^x.ps) (k,[a,6,0])]
   rw[pk_];refine⟨v1,by show at_ %8+1<=8;lia,?_,v2,by show(at_+1) %8+bo k<=8;lia,?_,True.intro⟩
   .exact nY (k:=16) (.inr (.inl rfl)) (by show(6:Int)≠7;decide)
   .rw[sk (by show(at_+1) %8≠0;lia)]
    exact facc _ _ (h_ h8)
  .have eg:grp (k,[a,b,n])=[(10,[6,b,n]),(16,[6,6]),(k,[a,6,0])]:=by
    unfold grp;rw[if_neg h15,if_pos hac,if_neg (show ¬(k,[a,b,n]).2.getD 2 0=0 from e0)]
    rfl
   rw[eg] at hat hgv ⊢;rw[a9,a9,hV] at hat;have hat:at_ %8+(1+(1+bo k))<=8:=hat;intro sp h8;have v1:=hgv (10,[6,b,n]) List.mem_cons_self;have v2:=hgv (16,[6,6]) (List.mem_cons_of_mem _ List.mem_cons_self);have v3:=hgv (k,[a,6,0]) (List.mem_cons_of_mem _ (List.mem_cons_of_mem _ List.mem_cons_self));show okC x _ at_ sp [(10,[6,b,n]),(16,[6,6]),plc (8*2^x.ps) (k,[a,6,0])]
   rw[pk_];refine⟨v1,by show at_ %8+1<=8;lia,?_,v2,by show(at_+1) %8+1<=8;lia,?_,v3,by show(at_+1+1) %8+bo k<=8;lia,?_,True.intro⟩
   .exact nY (k:=10) (.inl rfl) (by show(6:Int)≠7;decide)
   .exact nY (k:=16) (.inr (.inl rfl)) (by show(6:Int)≠7;decide)
   .rw[sk (by show(at_+1+1) %8≠0;lia)]
    exact facc _ _ (h_ (sW hR hms v1 (h_ h8)))
 have eg:grp (k,ns)=[(k,ns)]:=by
  unfold grp;rw[if_neg h15,if_neg hac]
 rw[eg] at hat ⊢;rw[hV] at hat;dsimp only at hat;have hT:=J3 hms
 by_cases h13:k=13
 .obtain⟨n,rfl,n0,n1⟩:=hv.jmp h13;subst h13;have p3:=Bv (s:=x.ps) n0 (j1 rfl) hnb;refine d4.one (kn:=(13,[n*((8*2^x.ps:Nat):Int)])) (.inr (.inr (.inr (.inr (.inl ⟨.inl rfl,_,rfl,p3.2.1,by lia⟩))))) hat (fun sp _=> ?_)
  exact yy (k:=13) (.inl rfl) ⟨p3.1,p3.2.2⟩
 by_cases h14:k=14
 .obtain⟨a,n,rfl,a0,a1,n0,n1⟩:=hv.jif h14;subst h14;have p3:=Bv (s:=x.ps) n0 (j2 rfl) hnb;refine d4.one (kn:=(14,[a,n*((8*2^x.ps:Nat):Int)])) (.inr (.inr (.inr (.inr (.inr (.inl ⟨rfl,a,_,rfl,a0,by lia,p3.2.1,by lia⟩)))))) hat (fun sp _=> ?_)
  exact yy (k:=14) (.inr rfl) ⟨p3.1,p3.2.2⟩
 have ep:plc (8*2^x.ps) (k,ns)=(k,ns):=by unfold plc;rw[if_neg h13,if_neg h14]
 show d4 x _ at_ [plc (8*2^x.ps) (k,ns)]
 rw[ep];refine d4.one hv.w8 hat (fun sp _=> ?_)
 exact dG (fun z=>by have:=hv.box0 z;show ns.getD 0 0≠7;lia) (fun z=>absurd z hac) (fun z=>z.elim (fun z=>absurd z h13) (fun z=>absurd z h14)) (fun z=>absurd z h15) gt
theorem vG {x:Pn}{t:Int}{kn:Ins}(hR:SpM.Room x.pk x.pb) (hms:x.pm+x.ps<=7) (h1:VI kn) (k1:kn.1≠1) (h3:∀sp,Sp8 sp->bR x.pk x.pb x.pg t kn.1 kn.2 sp=none):∀(n at_:Nat),d4 x t at_ (List.replicate n kn)
 | 0,_=>d4.nil
 | n+1,at_=>by
  rw[List.replicate_succ];have e:bo kn.1=1:=by unfold bo;rw[if_neg k1]
  exact d4.app (a:=[kn]) hR hms (d4.one h1 (by rw[e];lia) h3) (vG hR hms h1 k1 h3 n _)
theorem BB {x:Pn}{t:Int}(hR:SpM.Room x.pk x.pb) (hms:x.pm+x.ps<=7) (n at_:Nat):d4 x t at_ (List.replicate n nop):=
 vG hR hms xM (by decide) (fun sp _=>nY (k:=10) (.inl rfl) (by show(0:Int)≠7;decide)) n at_
theorem wq {x:Pn}{t:Int}(hR:SpM.Room x.pk x.pb) (hms:x.pm+x.ps<=7) (n at_:Nat):d4 x t at_ (List.replicate n ((0,[]):Ins)):=
 vG hR hms (.inl ⟨rfl,rfl⟩) (by decide) (fun sp _=>CK) n at_
theorem BU (S n:Nat):(rG n).map (plc S)=rG n:=by
 unfold rG;rw[List.map_replicate]
 rfl
theorem G3 (is g:List Ins) (h:lnW g<=8):lnW (cG is g) %8+lnW g<=8:=by
 unfold cG
 split
 .assumption
 .rw[eu,wg]
  lia
theorem G8 {x:Pn}{t:Int}{at_ S:Nat}{is g:List Ins}(hR:SpM.Room x.pk x.pb) (hms:x.pm+x.ps<=7) (h:d4 x t at_ (is.map (plc S))):d4 x t at_ ((cG is g).map (plc S)):=by
 unfold cG
 split
 .exact h
 .rw[List.map_append,BU];exact d4.app hR hms h (BB hR hms _ _)
theorem yb {x:Pn}{nb at_:Nat}{bk:List Ins}(hR:SpM.Room x.pk x.pb) (hms:x.pm+x.ps<=7) (h:∀kn∈bk,GI nb x.pg kn) (hnb:nb<=2^x.pm) (hat:at_ %8=0):∀j,j<=bk.length->d4 x ((8*2^(x.pm+x.ps):Nat):Int) at_ ((cR (bk.take j)).1.map (plc (8*2^x.ps)))
 | 0,_=>d4.nil
 | j+1,hj=>by
  have ih:=yb hR hms h hnb hat j (by lia)
  have e:bk[j]? =some bk[j]:=List.getElem?_eq_getElem (by lia)
  rw[oV e];show d4 x _ at_ ((cG _ _++grp bk[j]).map _)
  rw[List.map_append];have hg:=uW bk[j];have hf:=G3 (cR (bk.take j)).1 (grp bk[j]) (by lia)
  refine d4.app hR hms (G8 hR hms ih) (AF hR hms (h _ (List.getElem_mem _)) hnb ?_)
  rw[oY]
  lia
theorem CO {x:Pn}{nb at_:Nat}{bk:List Ins}(hR:SpM.Room x.pk x.pb) (hms:x.pm+x.ps<=7) (h:∀kn∈bk,GI nb x.pg kn) (hnb:nb<=2^x.pm) (hat:at_ %8=0):d4 x ((8*2^(x.pm+x.ps):Nat):Int) at_ (fD (8*2^x.ps) (cR bk).1):=by
 have:=yb hR hms h hnb hat bk.length (Nat.le_refl _);rw[List.take_length] at this;exact d4.app hR hms this (wq hR hms _ _)
def tY (k:Nat):Prop:=k=0\/k=13\/k=15
structure IR (g:Int) (gs:List (List Ins)):Prop where
 n0:0 < gs.length
 n16:gs.length<=16
 blk:∀bk∈gs,(∀ kn∈bk,GI gs.length g kn)/\bk.length<=30/\∃pre kn,bk=pre++[kn]/\tY kn.1
theorem IR.gub {g:Int}{gs:List (List Ins)}(h:IR g gs):GuB gs:=⟨h.n0,h.n16,fun bk hb=>⟨fun kn hk=>((h.blk bk hb).1 kn hk).v6.w8,(h.blk bk hb).2.1⟩⟩
theorem ye {x:Pn}{t:Int}(hR:SpM.Room x.pk x.pb) (hms:x.pm+x.ps<=7):∀ {ds:List Bk}{at_:Nat},at_ %8=0->(∀ d∈ds,(∀ a,a %8=0->d4 x t a (fD (8*2^x.ps) d.1))/\lnW d.1<=8*2^x.ps)->d4 x t at_ (ds.flatMap fun d=>fD (8*2^x.ps) d.1)
 | [],_,_,_=>d4.nil
 | d::r,at_,hat,h=>by
  rw[List.flatMap_cons];obtain⟨h1,h2⟩:=h d List.mem_cons_self;refine d4.app hR hms (h1 _ hat) (ye hR hms ?_ (fun e he=>h e (List.mem_cons_of_mem _ he)))
  rw[sy h2]
  lia
theorem wp {x:Pn}{t:Int}{tot:Nat}{ds:List Bk}(hR:SpM.Room x.pk x.pb) (hms:x.pm+x.ps<=7) (h:∀d∈ds,(∀ a,a %8=0->d4 x t a (fD (8*2^x.ps) d.1))/\lnW d.1<=8*2^x.ps):d4 x t 0 (gg (8*2^x.ps) tot ds):=
 d4.app hR hms (ye hR hms rfl h) (wq hR hms _ _)
def jn (is:List Ins):Prop:=∃pre kn,is=pre++[kn]/\tY kn.1
theorem jn.app {a b:List Ins}(h:jn b):jn (a++b):=by
 obtain⟨pre,kn,rfl,hk⟩:=h;exact⟨a++pre,kn,by rw[List.append_assoc],hk⟩
theorem jn.stops {a:List Ins}{n:Nat}(h:jn a):jn (a++List.replicate n (0,[])):=by
 cases n with
 | zero=>rw[List.replicate_zero,List.append_nil];exact h
 | succ n=>exact jn.app ⟨List.replicate n (0,[]),(0,[]),List.replicate_succ',.inl rfl⟩
theorem jn.plc {is:List Ins}{S:Nat}(h:jn is):jn (is.map (plc S)):=by
 obtain⟨pre,kn,rfl,hk⟩:=h;exact⟨pre.map (My.plc S),My.plc S kn,by rw[List.map_append];rfl,by rw[Ci];exact hk⟩
theorem DR {kn:Ins}(h:tY kn.1):jn (grp kn):=by
 obtain⟨k,ns⟩:=kn;unfold grp
 split
 .exact⟨[(17,[6,ns.getD 0 0])],(15,[6]),rfl,.inr (.inr rfl)⟩
 .split
  .rename_i z
   unfold tY at h;dsimp only at z h
   lia
  .exact⟨[],(k,ns),rfl,h⟩
theorem E_ (bk:List Ins) (kn:Ins):cR (bk++[kn])=Km (cR bk) (grp kn):=by
 unfold cR;rw[List.foldl_append]
 rfl
theorem FE {bk:List Ins}(h:jn bk):jn (cR bk).1:=by
 obtain⟨pre,kn,rfl,hk⟩:=h;rw[E_];exact jn.app (DR hk)
theorem BO {S:Nat}:∀ {ds:List Bk},ds≠[]->(∀ d∈ds,jn d.1)->jn (ds.flatMap fun d=>fD S d.1)
 | [],h,_=>absurd rfl h
 | d::[],_,h=>by
  rw[List.flatMap_cons];show jn (fD S d.1++[])
  rw[List.append_nil];exact(h d List.mem_cons_self).plc.stops
 | d::e::r,_,h=>by
  rw[List.flatMap_cons];exact jn.app (BO (by intro z;cases z) (fun f hf=>h f (List.mem_cons_of_mem _ hf)))
theorem xS {S tot:Nat}{ds:List Bk}(h0:ds≠[]) (h:∀d∈ds,jn d.1):jn (gg S tot ds):=(BO h0 h).stops
theorem A7 {x:Pn}{gs:List (List Ins)}(hR:SpM.Room x.pk x.pb) (hms:x.pm+x.ps<=7) (h:IR x.pg gs) (hm:gs.length<=2^x.pm) (hs:∀bk∈gs,lnW (cR bk).1<=8*2^x.ps):km x (gg (8*2^x.ps) (2^x.pm*(8*2^x.ps)) (gs.map cR)):=by
 have hl:lnW (gg (8*2^x.ps) (2^x.pm*(8*2^x.ps)) (gs.map cR))=8*2^(x.pm+x.ps):=by
  rw[yl (fun d hd=>by obtain⟨bk,hb,rfl⟩:=List.mem_map.mp hd;exact hs bk hb) (by rw[List.length_map];exact Nat.mul_le_mul_right _ hm),Nat.pow_add]
  ac_rfl
 have hl2:=(bO (gg (8*2^x.ps) (2^x.pm*(8*2^x.ps)) (gs.map cR))).trans hl;have hok:okC x (ay (gg (8*2^x.ps) (2^x.pm*(8*2^x.ps)) (gs.map cR))).length 0 w8 (gg (8*2^x.ps) (2^x.pm*(8*2^x.ps)) (gs.map cR)):=by
  rw[hl2];refine wp hR hms (fun d hd=> ?_) w8 zO
  obtain⟨bk,hb,rfl⟩:=List.mem_map.mp hd;exact⟨fun a ha=>CO hR hms (h.blk bk hb).1 hm ha,hs bk hb⟩
 refine⟨hl2,hok,xS (fun z=>by rw[List.map_eq_nil_iff] at z;have:=h.n0;rw[z] at this;exact absurd this (by decide)) (fun d hd=> ?_),C5 hok⟩
 obtain⟨bk,hb,rfl⟩:=List.mem_map.mp hd;exact FE (h.blk bk hb).2.2
theorem DS {x:Pn}{T:Int}{kn:Ins}{r:List Ins}:∀ {pre:List Ins}{at_:Nat}{sp:List SpM.Span},okC x T at_ sp (pre++kn::r)->VI kn/\(at_+lnW pre) %8+bo kn.1<=8/\bR x.pk x.pb x.pg T kn.1 kn.2 (aQ (at_+lnW pre) (gv x at_ sp pre))=none
 | [],_,_,h=>⟨h.1,h.2.1,h.2.2.1⟩
 | j::p,at_,sp,h=>by
  have ih:=DS (pre:=p) (at_:=at_+bo j.1) h.2.2.2;rw[a9, <-Nat.add_assoc];exact ih
theorem Ik {kn:Ins}{pre r:List Ins}(h:VI kn):ic (ay (pre++kn::r)) (lnW pre:Nat)=some kn:=by
 rw[iZ,tQ, <-List.append_assoc, <-bO];exact yr h
structure Kn where
 sp:List SpM.Span
 ft:Option (Int × Int)
def kn0:Kn:=⟨w8,none⟩
abbrev bnO (kn:Ins):Int × Int:=(kn.2.getD 1 0,kn.2.getD 2 0)
noncomputable def thG (rk:Nat) (rb:Int) (s:Kn) (kn:Ins):List Ins:=
 if ¬(kn.1=11\/kn.1=12) then grp kn
 else if ¬nT rk rb kn.2 s.sp then[kn]
 else if s.ft=some (bnO kn) then[(kn.1,[kn.2.getD 0 0,6,0])]
 else grp kn
def tP (m:Ins) (ft:Option (Int × Int)):Bool:=decide (m.1=18) || (decide (mk8 m.1) && (decide (m.2.getD 0 0=6) || (match ft with | none=>false | some f=>decide (m.2.getD 0 0=f.1))))
noncomputable def lrn1 (rk:Nat) (rb:Int) (kn:Ins) (s:Kn) (m:Ins):Kn:=⟨cV rk rb 0 0 m.1 m.2 s.sp,if m.1=16 then some (bnO kn) else if tP m s.ft=true then none else s.ft⟩
noncomputable def lrnG (rk:Nat) (rb:Int) (kn:Ins) (s:Kn) (g:List Ins):Kn:=g.foldl (lrn1 rk rb kn) s
noncomputable def knB (is:List Ins) (s:Kn):Kn:=if lnW is %8=0 then kn0 else s
noncomputable def thS (rk : Nat) (rb : Int) (st : Bk × Kn) (kn : Ins) : Bk × Kn :=
  ((cG st.1.1 (thG rk rb st.2 kn) ++ thG rk rb (knB (cG st.1.1 (thG rk rb st.2 kn)) st.2) kn, st.1.2 ++ [lnW (cG st.1.1 (thG rk rb st.2 kn))]),
   lrnG rk rb kn (knB (cG st.1.1 (thG rk rb st.2 kn)) st.2) (thG rk rb (knB (cG st.1.1 (thG rk rb st.2 kn)) st.2) kn))
noncomputable def thB (rk:Nat) (rb:Int) (b:List Ins):Bk × Kn:=b.foldl (thS rk rb) (([],[]),kn0)
theorem rW {rk:Nat}{rb:Int}{b:List Ins}{j:Nat}{kn:Ins}(h:b[j]? =some kn):thB rk rb (b.take (j+1))=thS rk rb (thB rk rb (b.take j)) kn:=by
 unfold thB;rw[List.take_succ,h,List.foldl_append]
 rfl
theorem gd (rk:Nat) (rb:Int) (s:Kn) (kn:Ins):thG rk rb s kn=grp kn\/((kn.1=11\/kn.1=12)/\¬nT rk rb kn.2 s.sp/\thG rk rb s kn=[kn])\/((kn.1=11\/kn.1=12)/\s.ft=some (bnO kn)/\thG rk rb s kn=[(kn.1,[kn.2.getD 0 0,6,0])]):=by
 unfold thG
 split
 .exact .inl rfl
 .rename_i h
  have h:kn.1=11\/kn.1=12:=Decidable.not_not.mp h
  split
  .rename_i h2;exact .inr (.inl ⟨h,h2,rfl⟩)
  .split
   .rename_i h3;exact .inr (.inr ⟨h,h3,rfl⟩)
   .exact .inl rfl
theorem xX {kn:Ins}(h:VI kn) (hk:kn.1=11\/kn.1=12):VI (kn.1,[kn.2.getD 0 0,6,0]):=by
 obtain⟨k,ns⟩:=kn;obtain⟨a,b,n,e,a0,a1,b0,b1,n0,n1⟩:=aK.acc h hk;dsimp only at e hk;subst e;exact .inr (.inr (.inr (.inl ⟨by show 10<=k;lia,by show k<=12;lia,a,6,0,rfl,a0,a1,by decide,by decide,by decide,by decide⟩)))
theorem o4 {rk:Nat}{rb:Int}{s:Kn}{kn:Ins}(h:VI kn):∀g∈thG rk rb s kn,VI g:=by
 intro g hg;rcases gd rk rb s kn with e | ⟨hk,_,e⟩|⟨hk,_,e⟩
 .rw[e] at hg;exact sB h g hg
 .rw[e,List.mem_singleton] at hg;rw[hg];exact h
 .rw[e,List.mem_singleton] at hg;rw[hg];exact xX h hk
theorem u6 (rk:Nat) (rb:Int) (s:Kn) (kn:Ins):1<=lnW (thG rk rb s kn)/\lnW (thG rk rb s kn)<=3:=by
 rcases gd rk rb s kn with e | ⟨hk,_,e⟩|⟨hk,_,e⟩
 .rw[e];exact uW kn
 .rw[e,hV];have:=iO kn.1;lia
 .rw[e,hV];have:=iO kn.1;exact⟨this.1,by show bo kn.1<=3;lia⟩
theorem Ea (rk:Nat) (rb:Int) (s:Kn) (kn:Ins):(thG rk rb s kn).length<=3:=by
 rcases gd rk rb s kn with e | ⟨hk,_,e⟩|⟨hk,_,e⟩
 .rw[e];exact D5 kn
 .rw[e];simp
 .rw[e];simp
theorem Hu {kn:Ins}(h:kn.1≠16):∀g∈grp kn,g.1=16->kn.1=11\/kn.1=12:=by
 intro g hg e;unfold grp at hg
 split at hg
 .simp only[List.mem_cons,List.not_mem_nil,or_false] at hg
  rcases hg with rfl | rfl
  .exact absurd (show(17:Nat)=16 from e) (by decide)
  .exact absurd (show(15:Nat)=16 from e) (by decide)
 .split at hg
  .assumption
  .rw[List.mem_singleton] at hg;rw[hg] at e;exact absurd e h
theorem HQ {rk:Nat}{rb:Int}{s:Kn}{kn:Ins}(h:kn.1≠16):∀g∈thG rk rb s kn,g.1=16->kn.1=11\/kn.1=12:=by
 intro g hg e;rcases gd rk rb s kn with z | ⟨hk,_,z⟩|⟨hk,_,z⟩
 .rw[z] at hg;exact Hu h g hg e
 .exact hk
 .exact hk
theorem HC (is g:List Ins):(cG is g).length<=is.length+8:=by
 unfold cG
 split
 .lia
 .rw[List.length_append];unfold rG;rw[List.length_replicate]
  lia
theorem vy (rk:Nat) (rb:Int) (b:List Ins):∀j,j<=b.length->lnW (thB rk rb (b.take j)).1.1<=if j %2=0 then 4*j else 4*(j - 1)+3
 | 0,_=>by simp [thB,lnW]
 | j+1,h=>by
  have ih:=vy rk rb b j (by lia)
  have e:b[j]? =some b[j]:=List.getElem?_eq_getElem (by lia)
  rw[rW e];show lnW (cG _ _++thG rk rb _ b[j])<=_
  rw[eu];have h1:=(Aw (thB rk rb (b.take j)).1.1 (thG rk rb (thB rk rb (b.take j)).2 b[j])).2;have h2:=u6 rk rb (thB rk rb (b.take j)).2 b[j];have h3:=u6 rk rb (knB (cG (thB rk rb (b.take j)).1.1 (thG rk rb (thB rk rb (b.take j)).2 b[j])) (thB rk rb (b.take j)).2) b[j];generalize lnW (cG (thB rk rb (b.take j)).1.1 (thG rk rb (thB rk rb (b.take j)).2 b[j]))=x at*;generalize lnW (thB rk rb (b.take j)).1.1=y at*
  by_cases c:j %2=0
  .rw[if_pos c] at ih;rw[if_neg (by lia)]
   lia
  .rw[if_neg c] at ih;rw[if_pos (by lia)]
   lia
theorem Kg (rk:Nat) (rb:Int) (b:List Ins):lnW (thB rk rb b).1.1<=4*b.length+3:=by
 have:=vy rk rb b b.length (Nat.le_refl _);rw[List.take_length] at this
 split at this <;> lia
theorem CS (rk:Nat) (rb:Int) (b:List Ins):∀j,j<=b.length->(thB rk rb (b.take j)).1.2.length=j
 | 0,_=>by simp [thB]
 | j+1,h=>by
  have e:b[j]? =some b[j]:=List.getElem?_eq_getElem (by lia)
  rw[rW e];show((thB rk rb (b.take j)).1.2++[_]).length=_
  rw[List.length_append,CS rk rb b j (by lia)]
  rfl
theorem Jk {rk:Nat}{rb:Int}(hR:SpM.Room rk rb) {kn:Ins}:∀ {g:List Ins}{s:Kn},(∀ m∈g,VI m)->Sp8 s.sp->Sp8 (lrnG rk rb kn s g).sp
 | [],_,_,h=>h
 | m::r,s,hv,h=>Jk hR (g:=r) (s:=lrn1 rk rb kn s m) (fun x hx=>hv x (List.mem_cons_of_mem _ hx)) (sW hR (by decide) (hv m List.mem_cons_self) h)
abbrev kfs (pl sa:Addr) (fv:V):List (Str × V):=[("plan",.ref pl),("spans",.ref sa),("fitted",fv)]
def FtA (K:Frag) (H:Hp) (v:V):Option (Int × Int)->Prop
 | none=>v= .non
 | some f=>∃t,v= .ref t/\SqT K H t (([f.1,f.2]:List Int).map V.int)
theorem FtA.mono {K:Frag}{H H':Hp}{v:V}{o:Option (Int × Int)}(f:∀t xs,SqT K H t xs->SqT K H' t xs) (h:FtA K H v o):FtA K H' v o:=by
 cases o with
 | none=>exact h
 | some z=>obtain⟨t,e,h⟩:=h;exact⟨t,e,f _ _ h⟩
structure kR (K:Frag) (C:Addr) (H:Hp) (x dx:Addr) (rk:Nat) (rb:Int) (s:Kn):Prop where
 ex:∃pl sa fv,H x=some (.ins C dx (kfs pl sa fv))/\Pl H pl rk rb 0 0 0/\SpT K H sa s.sp/\FtA K H fv s.ft
 s8:Sp8 s.sp
theorem SpT.keep {H H':Hp}{a:Addr}{sp:List SpM.Span}(f:∀t xs,SqT K H t xs->SqT K H' t xs) (g:∀t xs,H t=some (.tup xs)->H' t=some (.tup xs)) (h:SpT K H a sp):SpT K H' a sp:=let ⟨as,h1,h2⟩:=h;⟨as,f _ _ h1,h2.mono g⟩
theorem kR.same {K:Frag}{C:Addr}{H H':Hp}{x dx:Addr}{rk:Nat}{rb:Int}{s:Kn}(e:az H H') (h:kR K C H x dx rk rb s):kR K C H' x dx rk rb s:=by
 obtain⟨⟨pl,sa,fv,h1,h2,h3,h4⟩,h8⟩:=h;exact⟨⟨pl,sa,fv,e _ _ h1,h2.mv e,h3.same e,h4.mono (fun _ _ z=>e.tup z)⟩,h8⟩
theorem gp {K:Frag}{H H':Hp}{x t:Addr}{C dx:Addr}{fs:List (Str × V)}{xs:List V}(b:But x H H') (hx:H x=some (.ins C dx fs)) (h:SqT K H t xs):SqT K H' t xs:=by
 rcases h with(h | ⟨o,h⟩) | h
 .exact .inl (.inl (b _ _ (dS h hx (by intro z;cases z)) h))
 .exact .inl (.inr ⟨o,b _ _ (dS h hx (by intro z;cases z)) h⟩)
 .exact .inr h
theorem rH {H H':Hp}{x a:Addr}{C dx:Addr}{fs:List (Str × V)}{k:Nat}{bb:Int}{m s:Nat}{g:Int}(b:But x H H') (hx:H x=some (.ins C dx fs)) (h:Pl H a k bb m s g):Pl H' a k bb m s g:=
 ⟨b _ _ (dS h.at_ hx (by intro z;cases z)) h.at_,h.room,h.ms⟩
theorem qT {H H':Hp}{x a:Addr}{C dx:Addr}{fs:List (Str × V)}{sp:List SpM.Span}(b:But x H H') (hx:H x=some (.ins C dx fs)) (h:SpT K H a sp):SpT K H' a sp:=
 h.keep (fun _ _ z=>gp b hx z) (fun _ _ z=>b _ _ (dS z hx (by intro z;cases z)) z)
theorem sN:∀k,k < 19->(V.str (aV k)=V.str "gate"↔k=18):=by decide +kernel
theorem Bf:∀k,k < 19->(V.str (aV k)=V.str "fit"↔k=16):=by decide +kernel
def Ei (K:Frag) (C:Addr):Sp:=fun vs H Q _=>∃(H0:Hp) (x dx rm:Addr) (rk:Nat) (rb:Int),vs=[.ref x,.ref rm]/\H x=some (.ins C dx [])/\H0 x=none/\az H0 H/\SqT K H rm [.int rk,.int rb]/\SpM.Room rk rb/\
 ∀H',az H0 H'->kR K C H' x dx rk rb kn0->Q .non H'
def A8 (K:Frag) (C:Addr):Sp:=fun vs H Q _=>∃(x dx:Addr) (rk:Nat) (rb:Int) (s:Kn),vs=[.ref x]/\kR K C H x dx rk rb s/\∀H',But x H H'->kR K C H' x dx rk rb kn0->Q .non H'
def Js (K:Frag) (C:Addr):Sp:=fun vs H Q _=>∃(x dx t:Addr) (rk:Nat) (rb:Int) (s:Kn) (kn:Ins),vs=[.ref x,.ref t]/\kR K C H x dx rk rb s/\SqT K H t (aE kn.1 kn.2)/\VI kn/\
 ∀(g:Addr) (ts:List Addr) (H':Hp),az H H'->SqT K H' g (ts.map V.ref)->fk K H' ts (thG rk rb s kn)->Q (.ref g) H'
def G6 (K:Frag) (C:Addr):Sp:=fun vs H Q _=>∃(x dx t:Addr) (rk:Nat) (rb:Int) (s:Kn) (m:Ins),vs=[.ref x,.ref t]/\kR K C H x dx rk rb s/\SqT K H t (aE m.1 m.2)/\VI m/\Q (.bl (tP m s.ft)) H
def IZ (K:Frag) (C:Addr):Sp:=fun vs H Q _=>∃(x dx t g:Addr) (ts:List Addr) (rk:Nat) (rb:Int) (s:Kn) (kn:Ins) (gs:List Ins),vs=[.ref x,.ref t,.ref g]/\kR K C H x dx rk rb s/\SqT K H t (aE kn.1 kn.2)/\VI kn/\SqT K H g (ts.map V.ref)/\fk K H ts gs/\(∀ m∈gs,VI m)/\
 (∀ m∈gs,m.1=16->kn.1=11\/kn.1=12)/\gs.length<=10/\∀H',But x H H'->kR K C H' x dx rk rb (lrnG rk rb kn s gs)->Q .non H'
theorem rh {C:Addr}(B:Bi mg) (c:dE K mg "Known" C) (n:lW K C) (D:gD K C) (bJ:Has P w K mg base 2 "first_spans" [] (Hx K)):bY P w K mg base 3 C "__init__" Cq (Ei K C):=by
 refine D.has c.cl qP (fun vs H Q E h=> ?_) (fun f cdv A outer s H vs Q E hr h=> ?_)
 .obtain⟨H0,x,dx,rm,rk,rb,rfl,_⟩:=h
  rfl
 obtain⟨H0,x,dx,rm,rk,rb,rfl,hx,x0,sm,hrm,hR,q⟩:=h;have hc:=c.cl;have n1:=n.plan;have n2:=n.spans;have n3:=n.fitted;have i0:atI [V.int rk,V.int rb] 0=some (.int rk):=aJ (j:=0) rfl;have i1:atI [V.int rk,V.int rb] 1=some (.int rb):=aJ (j:=1) rfl
 refine⟨_,(aa (bU (pv 0) (aA (pa5 (pX ak (pv 1) ac) (pX ak (pv 1) ac) ac ac ac)) (by rfl))
   (aa (bU (pv 0) (eU (bJ.mono (by omega)) hr (by rfl)) (by rfl))
   (ae (bU (pv 0) d5 (by rfl))))),?_⟩
 try dsimp only[aT]
 walk_at "g";intro pl hpl;have xp:x≠pl:=aj hx hpl;have hx1:upd H pl (.tup [.int rk,.int rb,.int 0,.int 0,.int 0]) x=some (.ins C dx []):=by rw[ai xp];exact hx
 have s1:=ag hpl (.tup [.int rk,.int rb,.int 0,.int 0,.int 0]);have p1:upd H pl (.tup [.int rk,.int rb,.int 0,.int 0,.int 0]) pl=some (.tup [.int rk,.int rb,.int 0,.int 0,.int 0]):=ad;generalize upd H pl (.tup [.int rk,.int rb,.int 0,.int 0,.int 0])=H1 at*;walk_at "g";intro sa H2 s2 hsa;have x2:H2 x=some (.ins C dx [("plan",.ref pl)]):=s2 _ _ ad;have p2:H2 pl=some (.tup [.int rk,.int rb,.int 0,.int 0,.int 0]):=s2 _ _ (by rw[ai (Ne.symm xp)];exact p1)
 have S2:az H0 H2:=fun a o h=>s2 _ _ (by rw[ai (aj h x0)];exact s1 _ _ (sm _ _ h))
 clear s2 s1 hx1 p1 hx;walk_at "g";have b3:But x H2 (upd (upd H2 x (.ins C dx (bG "spans" (.ref sa) [("plan",.ref pl)]))) x (.ins C dx (bG "fitted" .non (bG "spans" (.ref sa) [("plan",.ref pl)])))):=fun a o na h=>by rw[ai na,ai na];exact h
 refine q _ (fun a o h=>b3 _ _ (aj h x0) (S2 _ _ h)) ⟨⟨pl,sa,.non,?_,rH b3 x2 ⟨p2,hR,by decide⟩,qT b3 x2 hsa,rfl⟩,zO⟩
 rw[ad]
 rfl
theorem uj {C:Addr}(B:Bi mg) (c:dE K mg "Known" C) (n:lW K C) (D:jd K C) (bJ:Has P w K mg base 2 "first_spans" [] (Hx K)):bY P w K mg base 3 C "forget" eM (A8 K C):=by
 refine D.has c.cl uH (fun vs H Q E h=> ?_) (fun f cdv A outer s H vs Q E hr h=> ?_)
 .obtain⟨x,dx,rk,rb,st,rfl,_⟩:=h
  rfl
 obtain⟨x,dx,rk,rb,st,rfl,⟨⟨pl,sa,fv,hx,hpl,hsa,hft⟩,h8⟩,q⟩:=h;have hc:=c.cl;have n2:=n.spans;have n3:=n.fitted
 refine⟨_,(aa (bU (pv 0) (eU (bJ.mono (by omega)) hr (by rfl)) (by rfl))
   (ae (bU (pv 0) d5 (by rfl)))),?_⟩
 try dsimp only[aT]
 walk_at "g";intro sa2 H2 s2 hsa2;have x2:=s2 _ _ hx;have p2:=hpl.mv s2;walk_at "g";have b3:But x H2 (upd (upd H2 x (.ins C dx (bG "spans" (.ref sa2) (kfs pl sa fv)))) x (.ins C dx (bG "fitted" .non (bG "spans" (.ref sa2) (kfs pl sa fv))))):=fun a o na h=>by rw[ai na,ai na];exact h
 refine q _ (fun a o na h=>b3 _ _ na (s2 _ _ h)) ⟨⟨pl,sa2,.non,?_,rH b3 x2 p2,qT b3 x2 hsa2,rfl⟩,zO⟩
 rw[ad]
 rfl
theorem pd {C:Addr}(B:Bi mg) (c:dE K mg "Known" C) (n:lW K C) (D:fO K C) (de:Has P w K mg base 1 "is_access" cS (GO K)) (aS:Has P w K mg base 1 "access_by_mask" cS (GP K)) (cN:Has P w K mg base 2 "masked_group" cS (JP K))
  (cX:Has P w K mg base 2 "may_reach_out" ig (Gq K)):bY P w K mg base 3 C "thin_group" cM (Js K C):=by
 refine D.has c.cl o5 (fun vs H Q E h=> ?_) (fun f cdv A outer s H vs Q E hr h=> ?_)
 .obtain⟨x,dx,t,rk,rb,st,kn,rfl,_⟩:=h
  rfl
 obtain⟨x,dx,t,rk,rb,st,kn,rfl,⟨⟨pl,sa,fv,hx,hpl,hsa,hft⟩,h8⟩,ht,hv,q⟩:=h;have k19:kn.1 < 19:=hv.lt19;have hc:=c.cl;have n1:=n.plan;have n2:=n.spans;have n3:=n.fitted
 refine⟨_,(aa (ax (dZ (ce (pcH de hr (pa1 (pv 1))))) (ae (ah (pcH cN hr (pa1 (pv 1))))) al)
   (aa (ax (dZ (ce (pcH cX hr (pa3 (aP (pv 0) (by rfl)) (pv 1) (aP (pv 0) (by rfl)))))) (ae (ah (aA (pa1 (pv 1))))) al)
   (aa (ax (pcT (GE (Iv hr)) (aP (pv 0) (by rfl)) (c_ kc (pv 1) (eC ac) eB)) (ae (ah (aA (pa1 (pcH aS hr (pa1 (pv 1))))))) al)
   (ae (ah (pcH cN hr (pa1 (pv 1)))))))),?_⟩
 try dsimp only[aT]
 walk_at "g"
 by_cases hac:kn.1=11\/kn.1=12
 rotate_left
 .rw[decide_eq_false hac];walk_at "g";intro g ts H1 s1 hg hi;refine q g ts H1 s1 hg ?_
  unfold thG;rw[if_pos hac];exact hi
 rw[decide_eq_true hac];walk_at "g"
 by_cases ho:nT rk rb kn.2 st.sp
 rotate_left
 .rw[decide_eq_false ho];walk_at "g";intro g hg;refine q g [t] _ (ag hg _) (SqT.of ad) ?_
  unfold thG;rw[if_neg (not_not_intro hac),if_pos ho];exact⟨(ag hg _).tup ht,True.intro⟩
 rw[decide_eq_true ho];walk_at "g";obtain⟨a,b,nn,ens,a0,a1,b0,b1,nn0,nn1⟩:=hv.acc hac;refine⟨(fun z=>by rw[ens] at z;exact absurd (show(2:Nat)=0 from z.1) (by decide)),fun p hp=> ?_⟩
 have hcut:fe (aE kn.1 kn.2) (some 2) none=([b,nn]:List Int).map V.int:=by rw[ens];rfl
 rw[hcut];have s1:=ag hp (.tup (([b,nn]:List Int).map V.int));have p1:SqT K (upd H p (.tup (([b,nn]:List Int).map V.int))) p (([b,nn]:List Int).map V.int):=SqT.of ad;generalize upd H p (.tup (([b,nn]:List Int).map V.int))=H1 at*;have ht1:=s1.tup ht;have eb:bnO kn=(b,nn):=by unfold bnO;rw[ens];rfl
 have fin:st.ft≠some (b,nn)->∀g ts H2,az H1 H2->SqT K H2 g (ts.map V.ref)->fk K H2 ts (grp kn)->Q (.ref g) H2:=fun hne g ts H2 s2 hg hi=>by
  refine q g ts H2 (s1.trans s2) hg ?_
  unfold thG;rw[if_neg (not_not_intro hac),if_neg (not_not_intro ho),if_neg (by rw[eb];exact hne)]
  exact hi
 have hft1:=hft.mono (fun _ _ z=>s1.tup z)
 cases hf:st.ft with
 | none=>
  rw[hf] at hft1;obtain rfl:fv= .non:=hft1;refine .inl ⟨rfl,p,_,rfl,p1,?_⟩
  walk_at "g";exact fin (by rw[hf];intro z;cases z)
 | some fb=>
  rw[hf] at hft1;obtain⟨tf,rfl,htf⟩:=hft1;refine .inr ⟨tf,p,_,_,rfl,rfl,htf,p1,?_⟩
  by_cases he:fb=(b,nn)
  .subst he;rw[show(if false=true then !decide (([b,nn]:List Int)=[b,nn]) else decide (([b,nn]:List Int)=[b,nn]))=true from by rw[if_neg (by decide),decide_eq_true rfl]]
   have ht2:SqT K H1 t (aE kn.1 (a::[b,nn])):=by rw[<- ens];exact ht1
   walk_at "g";intro g1 hg1;have s2:=ag hg1 (.tup (aE kn.1 [a,6,0]));have q2:SqT K (upd H1 g1 (.tup (aE kn.1 [a,6,0]))) g1 (aE kn.1 [a,6,0]):=SqT.of ad;generalize upd H1 g1 (.tup (aE kn.1 [a,6,0]))=H2 at*;walk_at "g";intro g hg;refine q g [g1] _ ((s1.trans s2).trans (ag hg _)) (SqT.of ad) ?_
   unfold thG;rw[if_neg (not_not_intro hac),if_neg (not_not_intro ho),if_pos (by rw[eb];exact hf),ens]
   exact⟨(ag hg _).tup q2,True.intro⟩
  .have hne:([fb.1,fb.2]:List Int)≠[b,nn]:=fun z=>he (by
    injection z with z1 z2
    injection z2 with z2 _
    exact Prod.ext z1 z2)
   rw[show(if false=true then !decide (([fb.1,fb.2]:List Int)=[b,nn]) else decide (([fb.1,fb.2]:List Int)=[b,nn]))=false from by rw[if_neg (by decide),decide_eq_false hne]]
   walk_at "g";exact fin (by rw[hf];intro z;exact he (Option.some.inj z))
theorem o7 {C:Addr}(B:Bi mg) (c:dE K mg "Known" C) (n:lW K C) (D:fN K C) (dH:Has P w K mg base 1 "made_box" cS (HF K)):bY P w K mg base 2 C "is_lost_by" Ay (G6 K C):=by
 refine D.has c.cl iG (fun vs H Q E h=> ?_) (fun f cdv A outer s H vs Q E hr h=> ?_)
 .obtain⟨x,dx,t,rk,rb,st,kn,rfl,_⟩:=h
  rfl
 obtain⟨x,dx,t,rk,rb,st,kn,rfl,⟨⟨pl,sa,fv,hx,hpl,hsa,hft⟩,h8⟩,ht,hv,q⟩:=h;have k19:kn.1 < 19:=hv.lt19;have hc:=c.cl;have n3:=n.fitted;have i0:atI (aE kn.1 kn.2) 0=some (.str (aV kn.1)):=mT
 refine⟨_,(aa (psS 2 iG.nd (pcH dH hr (pa1 (pv 1))))
   (ae (ah (wz (pcE aD (pX ak (pv 1) ac) aw) (wz (pcE aD (pv 2) ac) (mW (FQ (F8 (uR (aP (pv 0) (by rfl)))) (mW (pcE aD (pv 2) (pX ak (aP (pv 0) (by rfl)) ac)))))))))),?_⟩
 try dsimp only[aT]
 walk_at "g";have k18m:¬(kn.1=18/\mk8 kn.1):=by unfold mk8;lia
 have lq:tP kn st.ft=(decide (kn.1=18) || (decide (mk8 kn.1) && (decide (kn.2.getD 0 0=6) || (match st.ft with | none=>false | some f=>decide (kn.2.getD 0 0=f.1))))):=rfl
 refine⟨fun hm=> ?_,fun hm=> ?_⟩
 .have k18:kn.1≠18:=fun z=>k18m ⟨z,hm⟩
  rw[decide_eq_false k18,decide_eq_true hm,Bool.false_or,Bool.true_and] at lq;walk_at "g";refine cA (fun z=>k18 ((sN kn.1 k19).mp z)) ?_
  walk_at "g";refine bz (fun c6=> ?_) (fun c6=> ?_)
  .have c6:kn.2.getD 0 0=6:=by injection c6
   rw[decide_eq_true c6,Bool.true_or] at lq;rw[lq] at q;walk_at "g";exact q
  have c6:¬kn.2.getD 0 0=6:=fun z=>c6 (by rw[z])
  rw[decide_eq_false c6,Bool.false_or] at lq;walk_at "g"
  cases hf:st.ft with
  | none=>
   rw[hf] at hft lq q;obtain rfl:fv= .non:=hft;rw[lq] at q;walk_at "g";exact q
  | some fb=>
   rw[hf] at hft lq q;obtain⟨tf,rfl,htf⟩:=hft;have j0:atI (([fb.1,fb.2]:List Int).map V.int) 0=some (.int fb.1):=aJ (j:=0) rfl;rw[lq] at q;walk_at "g";rw[show decide (V.int (kn.2.getD 0 0)=V.int fb.1)=decide (kn.2.getD 0 0=fb.1) from decide_eq_decide.mpr ⟨fun z=>(by injection z),fun z=>by rw[z]⟩]
   exact q
 .rw[decide_eq_false hm,Bool.false_and,Bool.or_false] at lq;walk_at "g";refine bz (fun c=> ?_) (fun c=> ?_)
  .have k18:kn.1=18:=(sN kn.1 k19).mp c;rw[decide_eq_true k18] at lq;rw[lq] at q;walk_at "g";exact q
  have k18:¬kn.1=18:=fun z=>c ((sN kn.1 k19).mpr z)
  rw[decide_eq_false k18] at lq;rw[lq] at q;walk_at "g"
  cases hf:st.ft with
  | none=>
   rw[hf] at hft;obtain rfl:fv= .non:=hft;refine DD rfl ?_
   exact q
  | some fb=>
   rw[hf] at hft;obtain⟨tf,rfl,htf⟩:=hft;have j0:atI (([fb.1,fb.2]:List Int).map V.int) 0=some (.int fb.1):=aJ (j:=0) rfl;refine Jm rfl ?_
   walk_at "g";exact q
theorem oo {C:Addr}(B:Bi mg) (c:dE K mg "Known" C) (n:lW K C) (D:fu K C) (dz:Has P w K mg base 8 "spans_behind" ig (Kf K)) (f9:bY P w K mg base 2 C "is_lost_by" Ay (G6 K C)):
  bY P w K mg base 9 C "learn_group" Ch (IZ K C):=by
 refine D.has c.cl ii (fun vs H Q E h=> ?_) (fun f cdv A outer s H vs Q E hr h=> ?_)
 .obtain⟨x,dx,t,g,ts,rk,rb,st,kn,gs,rfl,_⟩:=h
  rfl
 obtain⟨x,dx,t,g,ts,rk,rb,st,kn,gs,rfl,hk,ht,hv,hg,hi,hgv,hgf,hgl,q⟩:=h;have hc:=c.cl;have n1:=n.plan;have n2:=n.spans;have n3:=n.fitted;have hR:SpM.Room rk rb:=by obtain⟨_,_,_,_,z,_⟩:=hk.ex;exact z.room
 obtain⟨pl0,sa0,fv0,hx0,_⟩:=hk.ex
 refine⟨_,(ae (fB PassesOwn.never (by rfl) (eA (ll (pv 2))) (aN (i:=3) ii.nd (by rfl) (by left;rfl)) (aa (bU (pv 0) (pcH dz hr (pa3 (aP (pv 0) (by rfl)) (pv 3) (aP (pv 0) (by rfl)))) (by rfl))
   (ae (aO (bq (ax (pcT aD (pX ak (pv 3) ac) aw) (ae (bU (pv 0) (c_ kc (pv 1) (eC ac) eB) (by rfl))) (ae (aO (bq (ax (ce (ck (f9.mono (by omega)) hr (pv 0) (pa1 (pv 3)))) (ae (bU (pv 0) d5 (by rfl))) al))))))))))),?_⟩
 try dsimp only[aT]
 walk_at "g"
 refine⟨r_ (xs:=ts.map V.ref) (fun j Z H'=>∃y,Z=[some (.ref x),some (.ref t),some (.ref g),y]/\aG (But x H H')/\kR K C H' x dx rk rb (lrnG rk rb kn st (gs.take j)))
  ⟨_,rfl,⟨But.refl _ _⟩,hk⟩ ?_ ?_ ?_⟩
 .rintro j Z H' _ ⟨y,rfl,⟨s2⟩,_⟩
  exact gp s2 hx0 hg
 .rintro j u Z H' hj ⟨y,rfl,⟨b2⟩,hk2⟩
  obtain⟨tm,et,rfl⟩:=cP hj;obtain⟨m,em,hm⟩:=hi.get et;have hvm:=hgv m (List.mem_of_getElem? em);have hfm:=hgf m (List.mem_of_getElem? em);have m19:m.1 < 19:=hvm.lt19;have hm2:=gp b2 hx0 hm;have ht2:=gp b2 hx0 ht;have els:lrnG rk rb kn st (gs.take (j+1))=lrn1 rk rb kn (lrnG rk rb kn st (gs.take j)) m:=by
   unfold lrnG;rw[List.take_succ,em,List.foldl_append]
   rfl
  generalize lrnG rk rb kn st (gs.take j)=s2 at*;obtain⟨⟨pl,sa,fv,hx,hpl,hsa,hft⟩,h8⟩:=id hk2;have i0:atI (aE m.1 m.2) 0=some (.str (aV m.1)):=mT;walk_at "g";intro p3 H2 s3 hsp3;have x2:=s3 _ _ hx;have b3:But x H2 (upd H2 x (.ins C dx (bG "spans" (.ref p3) (kfs pl sa fv)))):=fun a o na h=>by rw[ai na];exact h
  have B3:But x H (upd H2 x (.ins C dx (bG "spans" (.ref p3) (kfs pl sa fv)))):=fun a o na h=>b3 _ _ na (s3 _ _ (b2 _ _ na h))
  have x3:upd H2 x (.ins C dx (bG "spans" (.ref p3) (kfs pl sa fv))) x=some (.ins C dx (kfs pl p3 fv)):=ad;have pl3:=rH b3 x2 (hpl.mv s3);have sp3:=qT b3 x2 hsp3;have ft3:=(hft.mono (fun _ _ z=>s3.tup z)).mono (fun _ _ z=>gp b3 x2 z)
  have hm3:=gp b3 x2 (s3.tup hm2);have ht3:=gp b3 x2 (s3.tup ht2);have e8:Sp8 (cV rk rb 0 0 m.1 m.2 s2.sp):=sW hR (by decide) hvm h8
  walk_at "g";generalize upd H2 x (.ins C dx (bG "spans" (.ref p3) (kfs pl sa fv)))=H3 at*;have kn3:kR K C H3 x dx rk rb ⟨cV rk rb 0 0 m.1 m.2 s2.sp,s2.ft⟩:=⟨⟨pl,p3,fv,x3,pl3,sp3,ft3⟩,e8⟩;walk_at "n";refine⟨fun Z' H'=>aG (∃ y,Z'=[some (.ref x),some (.ref t),some (.ref g),y]/\aG (But x H H')/\kR K C H' x dx rk rb (lrnG rk rb kn st (gs.take (j+1)))),?_,fun Z' H' h=>h.out⟩
  walk_at "g";rw[els];refine bz (fun c16=> ?_) (fun c16=> ?_)
  .have m16:m.1=16:=(Bf m.1 m19).mp c16;obtain⟨a,b,nn,ens,_⟩:=hv.acc (hfm m16);walk_at "g";refine⟨(fun z=>by rw[ens] at z;exact absurd (show(2:Nat)=0 from z.1) (by decide)),fun p hp=> ?_⟩
   have hcut:fe (aE kn.1 kn.2) (some 2) none=([b,nn]:List Int).map V.int:=by rw[ens];rfl
   rw[hcut];have s4:=ag hp (.tup (([b,nn]:List Int).map V.int));have p4:SqT K (upd H3 p (.tup (([b,nn]:List Int).map V.int))) p (([b,nn]:List Int).map V.int):=SqT.of ad;generalize upd H3 p (.tup (([b,nn]:List Int).map V.int))=H4 at*;have x4:=s4 _ _ x3;walk_at "g";have b5:But x H4 (upd H4 x (.ins C dx (bG "fitted" (.ref p) (kfs pl p3 fv)))):=fun a o na h=>by rw[ai na];exact h
   refine aG.mk ⟨_,rfl,⟨fun a o na h=>b5 _ _ na (s4 _ _ (B3 _ _ na h))⟩,⟨⟨pl,p3,.ref p,?_,rH b5 x4 (pl3.mv s4),qT b5 x4 (sp3.same s4),?_⟩,e8⟩⟩
   .rw[ad]
    rfl
   .unfold lrn1;rw[if_pos m16];have eb:bnO kn=(b,nn):=by unfold bnO;rw[ens];rfl
    rw[eb];exact⟨p,rfl,gp b5 x4 p4⟩
  .have m16:¬m.1=16:=fun z=>c16 ((Bf m.1 m19).mpr z)
   walk_at "n";refine⟨fun Z' H'=>aG (∃ y,Z'=[some (.ref x),some (.ref t),some (.ref g),y]/\aG (But x H H')/\kR K C H' x dx rk rb (lrn1 rk rb kn s2 m)),?_,fun Z' H' h=>h⟩
   walk_at "g";refine Cv (fun cl=> ?_) (fun cl=> ?_)
   .have cl:tP m s2.ft=true:=cl;walk_at "g";have b5:But x H3 (upd H3 x (.ins C dx (bG "fitted" .non (kfs pl p3 fv)))):=fun a o na h=>by rw[ai na];exact h
    refine aG.mk ⟨_,rfl,⟨fun a o na h=>b5 _ _ na (B3 _ _ na h)⟩,⟨⟨pl,p3,.non,?_,rH b5 x3 pl3,qT b5 x3 sp3,?_⟩,e8⟩⟩
    .rw[ad]
     rfl
    .unfold lrn1;rw[if_neg m16,if_pos cl]
     rfl
   .have cl:¬tP m s2.ft=true:=by rw[show tP m s2.ft=false from cl];decide
    refine aG.mk ⟨_,rfl,⟨B3⟩,⟨⟨pl,p3,fv,x3,pl3,sp3,?_⟩,e8⟩⟩
    unfold lrn1;rw[if_neg m16,if_neg cl];exact ft3
 .rintro Z H' ⟨y,rfl,⟨b2⟩,hk2⟩
  rw[List.length_map,hi.len,List.take_length] at hk2;walk_at "g";exact q _ b2 hk2
theorem kR.b3 {K:Frag}{C C2:Addr}{H H':Hp}{x dx i b y dy:Addr}{js:List Addr}{is:List Ins}{bs:List Nat}{rk:Nat}{rb:Int}{s:Kn}(l:aX K C H x dx i b js is bs) (p:B3 x i b H H') (ne:y≠x) (h:kR K C2 H y dy rk rb s):kR K C2 H' y dy rk rb s:=by
 obtain⟨⟨pl,sa,fv,h1,h2,h3,h4⟩,h8⟩:=h;have ft:∀t xs,H t=some (.tup xs)->H' t=some (.tup xs):=fun t xs h=>p _ _ (dS h l.at_ (by intro z;cases z)) (dS h l.li (by intro z;cases z)) (dS h l.lb (by intro z;cases z)) h
 exact⟨⟨pl,sa,fv,p _ _ ne (dS h1 l.li (by intro z;cases z)) (dS h1 l.lb (by intro z;cases z)) h1,⟨ft _ _ h2.at_,h2.room,h2.ms⟩,h3.keep (fun _ _ z=>p.tup l z) ft,h4.mono (fun _ _ z=>p.tup l z)⟩,h8⟩
theorem aX.buty {K:Frag}{C C2:Addr}{H H':Hp}{x dx i b y dy:Addr}{js:List Addr}{is:List Ins}{bs:List Nat}{fs:List (Str × V)}(p:But y H H') (hy:H y=some (.ins C2 dy fs)) (ne:x≠y) (l:aX K C H x dx i b js is bs):aX K C H' x dx i b js is bs:=
 ⟨p _ _ ne l.at_,p _ _ (dS l.li hy (by intro z;cases z)) l.li,p _ _ (dS l.lb hy (by intro z;cases z)) l.lb,l.ib,l.ow.mono fun _ _ z=>gp p hy z,l.va⟩
def Jf (K:Frag) (C:Addr):Sp:=fun vs H Q _=>∃(blk rm:Addr) (bk:List Ins) (rk:Nat) (rb:Int),vs=[.ref blk,.ref rm]/\GBk K H blk bk/\(∀ kn∈bk,VI kn/\kn.1≠16)/\bk.length<=30/\SqT K H rm [.int rk,.int rb]/\SpM.Room rk rb/\
 ∀(x dx i b:Addr) (js:List Addr) (H':Hp),az H H'->H x=none->H i=none->H b=none->aX K C H' x dx i b js (thB rk rb bk).1.1 (thB rk rb bk).1.2->Q (.ref x) H'
theorem sF {C C2:Addr}(B:Bi mg) (aZ:dE K mg "LaidBlock" C) (gZ:dE K mg "Known" C2) (D:mJ K mg) (bB:bY P w K mg base 1 C "__init__" eM (Ai K C)) (gJ:bY P w K mg base 3 C2 "__init__" Cq (Ei K C2))
  (dQ:bY P w K mg base 3 C2 "thin_group" cM (Js K C2)) (jb:bY P w K mg base 3 C2 "forget" eM (A8 K C2)) (fq:bY P w K mg base 9 C2 "learn_group" Ch (IZ K C2)) (a8:bY P w K mg base 1 C "is_at_bundle" eM (Hf K C))
  (bp:bY P w K mg base 2 C "has_space" mB (yD K C)) (a_:bY P w K mg base 3 C "fill_bundle" eM (Dl K C)) (bn:bY P w K mg base 3 C "take_group" mB (yN K C)):
  Has P w K mg base 10 "thinned_block" AD (Jf K C):=by
 refine D.has dB (fun vs H Q E h=> ?_) (fun f cdv A outer s H vs Q E hr h=> ?_)
 .obtain⟨blk,rm,bk,rk,rb,rfl,_⟩:=h
  rfl
 obtain⟨blk,rm,bk,rk,rb,rfl,gb,hva,h30,hrm,hR,q⟩:=h;obtain⟨ts,hts,hall⟩:=id gb
 refine⟨_,(aa (psS 2 dB.nd (xU aZ (bB.mono (by omega)) hr (by rfl)))
   (aa (psS 3 dB.nd (vB gZ (gJ.mono (by omega)) hr (by rfl) (pa1 (pv 1))))
   (aa (fB PassesOwn.never (by rfl) (eA (ll (pv 0))) (aN (i:=4) dB.nd (by rfl) (by left;rfl)) (aa (aO (bq (ax (dZ (ce (ck (bp.mono (by omega)) hr (pv 2) (pa1 (ck (dQ.mono (by omega)) hr (pv 3) (pa1 (pv 4))))))) (ae (cu (kM (a_.mono (by omega)) hr (pv 2)))) al)))
   (aa (aO (bq (ax (ce (kM (a8.mono (by omega)) hr (pv 2))) (ae (cu (kM (jb.mono (by omega)) hr (pv 3)))) al)))
   (aa (psS 5 dB.nd (ck (dQ.mono (by omega)) hr (pv 3) (pa1 (pv 4))))
   (aa (cu (ck (bn.mono (by omega)) hr (pv 2) (pa1 (pv 5))))
   (ae (cu (ck (fq.mono (by omega)) hr (pv 3) (pa2 (pv 4) (pv 5))))))))))
   (ae (ah (pv 2)))))),?_⟩
 try dsimp only[aT]
 walk_at "g";intro x dx hx hdx hne;refine⟨H,x,dx,rfl,ad,hx,fJ hx (ag hdx _),?_⟩
 intro H1 i b hi hb s1 l1;refine⟨rfl,?_⟩
 have hrm1:=s1.tup hrm;walk_at "g";intro y dy hy hdy hne2;refine⟨H1,y,dy,rm,rk,rb,rfl,ad,hy,fJ hy (ag hdy _),(fJ hy (ag hdy _)).tup hrm1,hR,?_⟩
 intro H2 s2 k2;refine⟨rfl,?_⟩
 have l2:=l1.same s2;have nxy:x≠y:=aj l1.at_ hy;have hy0:H y=none:=s1.free hy;have S2:=s1.trans s2;have hts2:=S2.tup hts;clear l1 s2 s1 hrm1;walk_at "g"
 refine⟨r_ (xs:=ts.map V.ref) (fun j Z H'=>aG (∃ u v js,Z=[some (.ref blk),some (.ref rm),some (.ref x),some (.ref y),u,v]/\az H H'/\aX K C H' x dx i b js (thB rk rb (bk.take j)).1.1 (thB rk rb (bk.take j)).1.2/\kR K C2 H' y dy rk rb (thB rk rb (bk.take j)).2))
  (aG.mk ⟨none,none,[],rfl,S2,by simpa [thB] using l2,by simpa [thB] using k2⟩) ?_ ?_ ?_⟩
 .rintro j Z H' _ ⟨u,v,js,rfl,s2,_⟩
  exact s2.tup hts
 .clear l2 k2 S2 hts2;clear H2;rintro j u0 Z H2 hj ⟨u,v,js,rfl,S2,l2,k2⟩
  obtain⟨t,et,rfl⟩:=cP hj;obtain⟨kn,ek,ht⟩:=hall.get et;have hlt:j < bk.length:=(List.getElem?_eq_some_iff.mp ek).1;obtain⟨hv2,h16⟩:=hva kn (List.mem_of_getElem? ek);have hlj:=vy rk rb bk j (by lia)
  have hbs:=CS rk rb bk j (by lia)
  have hls:=rW (rk:=rk) (rb:=rb) ek;have hjl:(thB rk rb (bk.take j)).1.1.length<=200:=by
   have:=CW (thB rk rb (bk.take j)).1.1
   split at hlj <;> lia
  clear hlj;generalize thB rk rb (bk.take j)=st at*;have ht2:=S2.tup ht;have hat2:=l2.at_;obtain⟨pl_,sa_,fv_,hy2⟩:∃pl sa fv,H2 y=some (.ins C2 dy (kfs pl sa fv)):=let ⟨p,s,f,z,_⟩:=k2.ex;⟨p,s,f,z⟩
  walk_at "g";refine⟨fun Z' H4=>aG (Z'=[some (.ref blk),some (.ref rm),some (.ref x),some (.ref y),some (.ref t),v]/\az H H4/\(∃ js',aX K C H4 x dx i b js' (cG st.1.1 (thG rk rb st.2 kn)) st.1.2)/\kR K C2 H4 y dy rk rb st.2),?_,?_⟩
  .walk_at "g";intro g us H3 s3 hg3 how3;have hgv:=o4 (rk:=rk) (rb:=rb) (s:=st.2) hv2;have hgf:=Ea rk rb st.2 kn;generalize thG rk rb st.2 kn=gs at*;have l3:=l2.same s3;have hat3:=l3.at_;have h100:gs.length<=100:=by lia
   walk_at "g";intro H4 s4;have l4:=l3.same s4;have hat4:=l4.at_;have k4:=k2.same (s3.trans s4);walk_at "g"
   by_cases c:lnW st.1.1 %8+lnW gs<=8
   .rw[decide_eq_true c];walk_at "g";refine aG.mk ⟨rfl,(S2.trans s3).trans s4,⟨js,?_⟩,k4⟩
    unfold cG;rw[if_pos c];exact l4
   .rw[decide_eq_false c];have h900:st.1.1.length<=900:=by lia
    walk_at "g";intro H5 js' p5 l5;refine aG.mk ⟨rfl,B3.same ((S2.trans s3).trans s4) hx hi hb p5,⟨js',?_⟩,k4.b3 l4 p5 (Ne.symm nxy)⟩
    unfold cG;rw[if_neg c];exact l5
  clear l2 k2 S2 ht2 hy2 hat2;clear H2;rintro Z4 H4 ⟨rfl,S4,⟨js4,l4⟩,k4⟩
  have hbl:=HC st.1.1 (thG rk rb st.2 kn);have ebk:∀is,is=cG st.1.1 (thG rk rb st.2 kn)->thB rk rb (bk.take (j+1))=((is++thG rk rb (knB is st.2) kn,st.1.2++[lnW is]),lrnG rk rb kn (knB is st.2) (thG rk rb (knB is st.2) kn)):=fun is e=>by rw[hls,e];rfl
  generalize hbe:cG st.1.1 (thG rk rb st.2 kn)=is at*;have ebk:=ebk is rfl;clear hls;have hat4:=l4.at_;obtain⟨pl_,sa_,fv_,hy4⟩:∃pl sa fv,H4 y=some (.ins C2 dy (kfs pl sa fv)):=let ⟨p,s,f,z,_⟩:=k4.ex;⟨p,s,f,z⟩
  walk_at "g";refine⟨fun Z' H5=>aG (Z'=[some (.ref blk),some (.ref rm),some (.ref x),some (.ref y),some (.ref t),v]/\az H H5/\aX K C H5 x dx i b js4 is st.1.2/\kR K C2 H5 y dy rk rb (knB is st.2)),?_,?_⟩
  .walk_at "g"
   by_cases c:lnW is %8=0
   .rw[decide_eq_true c];walk_at "g";intro H5 b5 k5;refine aG.mk ⟨rfl,fun a o h=>b5 _ _ (aj h hy0) (S4 _ _ h),l4.buty b5 hy4 nxy,?_⟩
    unfold knB;rw[if_pos c];exact k5
   .rw[decide_eq_false c];walk_at "g";refine aG.mk ⟨rfl,S4,l4,?_⟩
    unfold knB;rw[if_neg c];exact k4
  clear l4 k4 S4 hat4 hy4;clear H4;rintro Z4 H4 ⟨rfl,S4,l4,k4⟩
  have ht4:=S4.tup ht;obtain⟨pl_,sa_,fv_,hy4⟩:∃pl sa fv,H4 y=some (.ins C2 dy (kfs pl sa fv)):=let ⟨p,s,f,z,_⟩:=k4.ex;⟨p,s,f,z⟩
  generalize knB is st.2=ks at*;walk_at "g";intro g us H5 s5 hg5 how5;have hgv:=o4 (rk:=rk) (rb:=rb) (s:=ks) hv2;have hgf:=Ea rk rb ks kn;have hgt:=HQ (rk:=rk) (rb:=rb) (s:=ks) h16;generalize thG rk rb ks kn=gs at*;have l5:=l4.same s5;have hat5:=l5.at_;have k5:=k4.same s5;have S5:=S4.trans s5;have hk1:is.length+gs.length<=1000:=by lia
  have hk2:st.1.2.length < 1000:=by lia
  clear l4 k4 ht4 hy4 S4 s5;walk_at "g";intro H6 p6 l6;have S6:=B3.same S5 hx hi hb p6;have k6:=k5.b3 l5 p6 (Ne.symm nxy);have ht6:=S6.tup ht;have hg6:=p6.tup l5 hg5;have how6:=how5.b3 l5 p6;obtain⟨pl_,sa_,fv_,hy6⟩:∃pl sa fv,H6 y=some (.ins C2 dy (kfs pl sa fv)):=let ⟨p,s,f,z,_⟩:=k6.ex;⟨p,s,f,z⟩
  have h10:gs.length<=10:=by lia
  clear l5 k5 hg5 how5 S5 hat5;walk_at "g";intro H7 b7 k7;refine aG.mk ⟨_,_,js4++us,rfl,fun a o h=>b7 _ _ (aj h hy0) (S6 _ _ h),?_,?_⟩
  .rw[ebk];exact l6.buty b7 hy6 nxy
  .rw[ebk];exact k7
 .rintro Z H' ⟨u,v,js,rfl,s2,l2,_⟩
  rw[List.length_map,hall.len,List.take_length] at l2;walk_at "g";exact q x dx i b js H' s2 hx hi hb l2
noncomputable def thD (rk:Nat) (rb:Int) (bk:List Ins):Bk:=(thB rk rb bk).1
def Gk (K:Frag) (CT:Addr):Sp:=fun vs H Q E=>∃(gst rm:Addr) (bls:List Addr) (gs:List (List Ins)) (rk:Nat) (rb gt:Int) (M:Nat),vs=[.ref gst,.ref rm,.int gt]/\SqT K H gst (bls.map V.ref)/\GSt K H bls gs/\SqT K H rm [.int rk,.int rb]/\
 GuB gs/\(∀ bk∈gs, ∀kn∈bk,kn.1≠16)/\SpM.Room rk rb/\vc M (gs.map (thD rk rb))/\
 ∀m s,um gs.length m->um M s->(7 < m+s->∀H',az H H'->E (.ref CT) none H')/\(m+s<=7->∀r H',az H H'->vf H H' r (gs.map (thD rk rb)) rk rb gt m s->Q (.ref r) H')
theorem IG {C CT:Addr}(B:Bi mg) (D:Gy K mg) (iA:Has P w K mg base 10 "thinned_block" AD (Jf K C)) (cE:pA P w K mg base 8 "code_of_blocks" yB [] (Dw K C CT)):
  pA P w K mg base 11 "thin" pT [] (Gk K CT):=by
 refine D.hasO IF (fun vs H Q E h=> ?_) (fun f cdv A outer s H vs Q E hr h=> ?_)
 .obtain⟨gst,rm,bls,gs,rk,rb,gt,M,rfl,_⟩:=h
  rfl
 obtain⟨gst,rm,bls,gs,rk,rb,gt,M,rfl,hg,hgs,hrm,gu,hnf,hR,hM,q⟩:=h;have n16:=gu.n16;refine⟨_,(ae (ah (sg (cE.mono (by omega)) hr (by rfl) (FU (by rfl)) (pa3 (PE.nox (lS (by rfl) (by rfl) (by rfl) (bk (sc0:=af yT) (N0:=["guest","room","gates"]) ["block","room"] 1 [1]) (ll (pv 0)) (fun _ _ _ _=>(aN (i:=0) (show List.Nodup (["block","room"]:List Str) by decide) (by rfl) (by left;rfl))) (fun _ _ _ _=>(pcH iA hr (pa2 (pv 0) (pv 1)))))) (pv 1) (pv 2))))),?_⟩
 try dsimp only[Kq]
 walk_at "g";intro p hp;refine rR (xs:=bls.map V.ref) (fun j ys H'=>aG (az H H')/\∃xs,H' p=some (.lst ys)/\ys=xs.map V.ref/\Lds K C (del p H') xs ((gs.take j).map (thD rk rb))) ⟨⟨ag hp _⟩,[],ad,rfl,rfl,fun j x d e=>by simp at e⟩ ?_ ?_ ?_
 .rintro j ys H' ⟨⟨s1⟩,_⟩
  exact s1.tup hg
 .rintro j u ys H' F hF hj ⟨⟨s1⟩,xs,hp1,rfl,lds⟩
  obtain⟨b,eb,rfl⟩:=cP hj;have hlt:j < bls.length:=(List.getElem?_eq_some_iff.mp eb).1;obtain⟨bk,es⟩:∃bk,gs[j]? =some bk:=⟨_,List.getElem?_eq_getElem (by have:=hgs.1;lia)⟩
  have gb1:=(hgs.2 j b bk eb es).same s1;obtain⟨hv,h30⟩:=gu.va bk (List.mem_of_getElem? es);have hvn:∀kn∈bk,VI kn/\kn.1≠16:=fun kn hk=>⟨hv kn hk,hnf bk (List.mem_of_getElem? es) kn hk⟩
  have hrm2:=s1.tup hrm;have hlx:xs.length=j:=by
   rw[lds.1,List.length_map,List.length_take];have:=hgs.1
   lia
  have hz:(xs.map V.ref).length < sizeLine:=by
   rw[List.length_map,hlx];exact Nat.lt_of_lt_of_le (show j < 100 by have:=hgs.1;lia) (by decide)
  walk_at "g";intro x dx i b' js H2 s2 hx hi hb l;have hp2:=s2 _ _ hp1;walk_at "g";refine hF _ _ ⟨⟨fJ hp (s1.trans s2)⟩,xs++[x],ad,by rw[List.map_append];rfl,?_⟩
  have sd:az (del p H') (del p (upd H2 p (.lst (xs.map V.ref++[V.ref x])))):=fun a o h=>by
   unfold del at*
   by_cases z:a=p
   .rw[if_pos z] at h;cases h
   .rw[if_neg z] at h ⊢;rw[ai z];exact s2 _ _ h
  have l2:aX K C (del p (upd H2 p (.lst (xs.map V.ref++[V.ref x])))) x dx i b' js (thD rk rb bk).1 (thD rk rb bk).2:=by
   rw[u9];exact l.del hp2 (Ne.symm (aj hp1 hi)) (Ne.symm (aj hp1 hb))
  rw[fE es,List.map_append];exact(lds.same sd).snoc l2
 .rintro ys H1 ⟨⟨s1⟩,xs,hp1,rfl,lds⟩
  rw[List.length_map,hgs.1,List.take_length] at lds;have lds1:=lds.same (m_ (H:=H1) (p:=p));have hq:SqL K H1 p (xs.map V.ref):=SqL.of hp1;have hrm1:=s1.tup hrm;have hdl:(gs.map (thD rk rb)).length=gs.length:=by rw[List.length_map]
  have h0':0 < (gs.map (thD rk rb)).length:=by rw[hdl];exact gu.n0
  have h16':(gs.map (thD rk rb)).length<=16:=by lia
  have hdd:∀d∈gs.map (thD rk rb),lnW d.1<=300/\d.2.length<=30:=fun d hd=>by
   obtain⟨bk,h1,rfl⟩:=List.mem_map.mp hd;have h2:=(gu.va bk h1).2;have h3:=Kg rk rb bk;have h4:=CS rk rb bk bk.length (Nat.le_refl _);rw[List.take_length] at h4;show lnW (thB rk rb bk).1.1<=300/\(thB rk rb bk).1.2.length<=30
   lia
  walk_at "g";intro m sx hm hs;rw[hdl] at hm;obtain⟨q1,q2⟩:=q m sx hm hs;refine⟨fun z H' s2=>q1 z H' (s1.trans s2),fun z r H' s2 ca=>q2 z r H' (s1.trans s2) ?_⟩
  obtain⟨a1,a2,a3,c1,c2,c3,c4,f1,f2,f3,f4⟩:=ca;exact⟨a1,a2,a3,c1,c2,c3,c4,s1.free f1,s1.free f2,s1.free f3,s1.free f4⟩
theorem IC {sp:List SpM.Span}{a i:Int}{s:SpM.Span}(h:sp.length=8) (a0:0<=a) (a1:a < 8) (i0:0<=i) (i1:i < 8):spG (sp.set a.toNat s) i=if i=a then s else spG sp i:=by
 unfold spG;rw[List.getD_eq_getElem?_getD,List.getElem?_set]
 by_cases e:i=a
 .rw[if_pos (by lia),if_pos (by lia),if_pos e]
  rfl
 .rw[if_neg (by lia),if_neg e,List.getD_eq_getElem?_getD]
theorem EW {pk:Nat}{pb:Int}{pm ps pm' ps' k:Nat}{ns:List Int}{sp:List SpM.Span}(h:k≠17):eG pk pb pm ps k ns sp=eG pk pb pm' ps' k ns sp:=by
 unfold eG;rw[if_neg h,if_neg h]
theorem DT {pk:Nat}{pb:Int}{pm ps pm' ps' k:Nat}{ns:List Int}{sp:List SpM.Span}(h:k≠17):cV pk pb pm ps k ns sp=cV pk pb pm' ps' k ns sp:=by
 unfold cV;rw[EW (pm:=pm) (ps:=ps) (pm':=pm') (ps':=ps') h]
theorem Bq {pk:Nat}{pb:Int}{pm ps S:Nat}{m:Ins}{sp:List SpM.Span}:cV pk pb pm ps (plc S m).1 (plc S m).2 sp=cV pk pb pm ps m.1 m.2 sp:=by
 unfold plc
 split
 .rename_i h
  unfold cV;rw[h]
  rfl
 .split
  .rename_i h
   unfold cV;rw[h]
   rfl
  .rfl
theorem BC {x:Pn}{b:List Ins}:∀ {a:List Ins}{at_:Nat}{sp:List SpM.Span},gv x at_ sp (a++b)=gv x (at_+lnW a) (gv x at_ sp a) b
 | [],_,_=>rfl
 | kn::r,at_,sp=>by
  have ih:=BC (x:=x) (b:=b) (a:=r) (at_:=at_+bo kn.1) (sp:=cV x.pk x.pb x.pm x.ps kn.1 kn.2 (aQ at_ sp));rw[a9, <-Nat.add_assoc];exact ih
theorem Ew {x:Pn}{S:Nat}{kn:Ins}:∀ {G:List Ins}{p:Nat}{sp:List SpM.Span}{ft:Option (Int × Int)},(∀ m∈G,m.1≠17)->p %8+lnW G<=8->G≠[]->gv x p sp (G.map (plc S))=(lrnG x.pk x.pb kn ⟨aQ p sp,ft⟩ G).sp
 | [],_,_,_,_,_,h=>absurd rfl h
 | [m],p,sp,ft,hm,hl,_=>by
  show cV x.pk x.pb x.pm x.ps (plc S m).1 (plc S m).2 (aQ p sp)=cV x.pk x.pb 0 0 m.1 m.2 (aQ p sp)
  rw[Bq];exact DT (hm m List.mem_cons_self)
 | m::m2::r,p,sp,ft,hm,hl,_=>by
  rw[a9] at hl;have l1:=iO m.1;have l2:1<=lnW (m2::r):=by rw[a9];have:=iO m2.1;lia
  have ih:=Ew (x:=x) (S:=S) (kn:=kn) (G:=m2::r) (p:=p+bo m.1) (sp:=cV x.pk x.pb x.pm x.ps m.1 m.2 (aQ p sp)) (ft:=(lrn1 x.pk x.pb kn ⟨aQ p sp,ft⟩ m).ft) (fun z hz=>hm z (List.mem_cons_of_mem _ hz)) (by lia) (by intro z;cases z)
  have e1:gv x p sp ((m::m2::r).map (plc S))=gv x (p+bo m.1) (cV x.pk x.pb x.pm x.ps m.1 m.2 (aQ p sp)) ((m2::r).map (plc S)):=by
   show gv x (p+bo (plc S m).1) (cV x.pk x.pb x.pm x.ps (plc S m).1 (plc S m).2 (aQ p sp)) ((m2::r).map (plc S))=_
   rw[Bq,Ci]
  rw[e1,ih,sk (by lia),DT (pm:=x.pm) (ps:=x.ps) (pm':=0) (ps':=0) (hm m List.mem_cons_self)]
  rfl
def p9 (rk:Nat) (rb:Int) (s:Kn):Prop:=s.ft≠none->rb<=(spG s.sp 6).lo/\(spG s.sp 6).hi < rb+2^rk
theorem p9.kn0 {rk:Nat}{rb:Int}:p9 rk rb kn0:=fun z=>absurd rfl z
theorem p9.lrn1 {rk:Nat}{rb:Int}{kn:Ins}{s:Kn}{m:Ins}(h8:Sp8 s.sp) (hv:VI m) (h6:m.1=16->m.2.getD 0 0=6) (h:p9 rk rb s):p9 rk rb (lrn1 rk rb kn s m):=by
 intro hne;unfold My.lrn1 at hne ⊢;dsimp only at hne ⊢
 by_cases k16:m.1=16
 .have e:cV rk rb 0 0 m.1 m.2 s.sp=s.sp.set 6 (SpM.fitS rk rb (spG s.sp (m.2.getD 1 0))):=by
   unfold cV eG;rw[if_neg (by lia),if_pos (by unfold mk8;lia),if_neg (by lia),if_neg (by lia),if_neg (by lia),if_pos k16,h6 k16]
   rfl
  rw[e,yW h8];exact yx
 .rw[if_neg k16] at hne
  by_cases hl:tP m s.ft=true
  .rw[if_pos hl] at hne;exact absurd rfl hne
  .rw[if_neg hl] at hne;have e:spG (cV rk rb 0 0 m.1 m.2 s.sp) 6=spG s.sp 6:=by
    unfold tP at hl;have n18:m.1≠18:=fun z=>hl (by rw[decide_eq_true z];rfl)
    unfold cV;rw[if_neg n18]
    by_cases hm:mk8 m.1
    .rw[if_pos hm];obtain⟨a,r,ens,a0,a1⟩:=kS hv hm;have n6:a≠6:=fun z=>hl (by rw[decide_eq_true hm,ens,z];simp)
     rw[ens];show spG (s.sp.set a.toNat _) 6=_
     rw[IC h8.len a0 a1 (by decide) (by decide),if_neg (Ne.symm n6)]
    .rw[if_neg hm]
   rw[e];exact h hne
theorem p9.lrnG {rk:Nat}{rb:Int}(hR:SpM.Room rk rb) {kn:Ins}:∀ {g:List Ins}{s:Kn},(∀ m∈g,VI m)->(∀ m∈g,m.1=16->m.2.getD 0 0=6)->Sp8 s.sp->p9 rk rb s->p9 rk rb (lrnG rk rb kn s g)
 | [],_,_,_,_,h=>h
 | m::r,s,hv,h6,h8,h=>p9.lrnG hR (g:=r) (s:=My.lrn1 rk rb kn s m) (fun x hx=>hv x (List.mem_cons_of_mem _ hx)) (fun x hx=>h6 x (List.mem_cons_of_mem _ hx)) (sW hR (by decide) (hv m List.mem_cons_self) h8) (h.lrn1 h8 (hv m List.mem_cons_self) (h6 m List.mem_cons_self))
theorem La {kn:Ins}(h:kn.1≠16):∀m∈grp kn,m.1=16->m.2.getD 0 0=6:=by
 intro m hm e;unfold grp at hm
 split at hm
 .simp only[List.mem_cons,List.not_mem_nil,or_false] at hm
  rcases hm with rfl | rfl <;> rfl
 .split at hm
  .rename_i hk
   split at hm
   .simp only[List.mem_cons,List.not_mem_nil,or_false] at hm
    rcases hm with rfl | rfl
    .rfl
    .exact absurd (show kn.1=16 from e) h
   .simp only[List.mem_cons,List.not_mem_nil,or_false] at hm
    rcases hm with rfl | rfl | rfl
    .rfl
    .rfl
    .exact absurd (show kn.1=16 from e) h
  .rw[List.mem_singleton.mp hm] at e;exact absurd e h
theorem KA {kn:Ins}(h:kn.1≠17) (h15:kn.1≠15):∀m∈grp kn,m.1≠17:=by
 intro m hm e;unfold grp at hm;rw[if_neg h15] at hm
 split at hm
 .rename_i hk
  split at hm
  .simp only[List.mem_cons,List.not_mem_nil,or_false] at hm
   rcases hm with rfl | rfl
   .exact absurd (show(16:Nat)=17 from e) (by decide)
   .exact absurd (show kn.1=17 from e) h
  .simp only[List.mem_cons,List.not_mem_nil,or_false] at hm
   rcases hm with rfl | rfl | rfl
   .exact absurd (show(10:Nat)=17 from e) (by decide)
   .exact absurd (show(16:Nat)=17 from e) (by decide)
   .exact absurd (show kn.1=17 from e) h
 .rw[List.mem_singleton.mp hm] at e;exact absurd e h
theorem Lo {rk:Nat}{rb:Int}{s:Kn}{kn:Ins}(h:kn.1≠16):∀m∈thG rk rb s kn,m.1=16->m.2.getD 0 0=6:=by
 intro m hm e;rcases gd rk rb s kn with z | ⟨hk,_,z⟩|⟨hk,_,z⟩
 .rw[z] at hm;exact La h m hm e
 .rw[z,List.mem_singleton] at hm;rw[hm] at e;exact absurd e h
 .rw[z,List.mem_singleton] at hm;rw[hm] at e;exact absurd e h
theorem Kd {rk:Nat}{rb:Int}{s:Kn}{kn:Ins}(h:kn.1≠17) (h15:kn.1≠15):∀m∈thG rk rb s kn,m.1≠17:=by
 intro m hm e;rcases gd rk rb s kn with z | ⟨hk,_,z⟩|⟨hk,_,z⟩
 .rw[z] at hm;exact KA h h15 m hm e
 .rw[z,List.mem_singleton] at hm;rw[hm] at e;exact absurd e h
 .rw[z,List.mem_singleton] at hm;rw[hm] at e;exact absurd e h
theorem JK (rk:Nat) (rb:Int) (s:Kn) (kn:Ins):thG rk rb s kn≠[]:=fun z=>by
 have:=(u6 rk rb s kn).1;rw[z] at this;exact absurd this (by decide)
theorem Kc {x:Pn}{nb p:Nat}{kn:Ins}{sp:List SpM.Span}{ks:Kn}(hR:SpM.Room x.pk x.pb) (hms:x.pm+x.ps<=7) (h:GI nb x.pg kn) (hnb:nb<=2^x.pm) (h8:Sp8 sp) (e:aQ p sp=ks.sp) (hf:p9 x.pk x.pb ks) (hat:p %8+lnW (thG x.pk x.pb ks kn)<=8):
  okC x ((8*2^(x.pm+x.ps):Nat):Int) p sp ((thG x.pk x.pb ks kn).map (plc (8*2^x.ps))):=by
 rcases gd x.pk x.pb ks kn with z | ⟨hk,ho,z⟩|⟨hk,hft,z⟩
 .rw[z] at hat ⊢;exact AF hR hms h hnb hat sp h8
 .rw[z] at hat ⊢;rw[hV] at hat;have ep:plc (8*2^x.ps) kn=kn:=by unfold plc;rw[if_neg (by lia),if_neg (by lia)]
  show okC x _ p sp [plc (8*2^x.ps) kn]
  rw[ep];refine⟨h.v6.w8,hat,?_,True.intro⟩
  rw[e];obtain⟨a,b,n,ens,a0,a1,_⟩:=h.v6.acc hk;refine dG (fun _=>by rw[ens];show a≠7;lia) (fun _=>ho) (fun z=>by lia) (fun z=>by lia) (fun z=>by lia)
 .rw[z] at hat ⊢;have hat:p %8+bo kn.1<=8:=by rw[hV] at hat;exact hat
  have ep:plc (8*2^x.ps) (kn.1,[kn.2.getD 0 0,6,0])=(kn.1,[kn.2.getD 0 0,6,0]):=by unfold plc;rw[if_neg (by show ¬kn.1=13;lia),if_neg (by show ¬kn.1=14;lia)]
  show okC x _ p sp [plc (8*2^x.ps) (kn.1,[kn.2.getD 0 0,6,0])]
  rw[ep];refine⟨xX h.v6.w8 hk,hat,?_,True.intro⟩
  rw[e];obtain⟨a,b,n,ens,a0,a1,_⟩:=h.v6.acc hk;have hr:=hf (by rw[hft];intro z;cases z)
  refine dG (fun _=>by rw[ens];show a≠7;lia) (fun _=> ?_) (fun z=>by have z:kn.1=13\/kn.1=14:=z;lia) (fun z=>by have z:kn.1=15:=z;lia) (fun z=>by have z:kn.1=18:=z;lia)
  unfold nT;show ¬((spG ks.sp 6).lo+0 < x.pb\/x.pb+2^x.pk<=(spG ks.sp 6).hi+0)
  lia
structure ThI (x:Pn) (at_:Nat) (sp:List SpM.Span) (st:Bk × Kn):Prop where
 ok:okC x ((8*2^(x.pm+x.ps):Nat):Int) at_ sp (st.1.1.map (plc (8*2^x.ps)))
 en:lnW st.1.1 %8≠0->gv x at_ sp (st.1.1.map (plc (8*2^x.ps)))=st.2.sp
 ft:p9 x.pk x.pb st.2
 s8:Sp8 st.2.sp
theorem Fl (is g:List Ins):lnW (cG is g) %8=0\/(cG is g=is/\lnW is %8+lnW g<=8):=by
 unfold cG
 split
 .rename_i h;exact .inr ⟨rfl,h⟩
 .refine .inl ?_
  rw[eu,wg]
  lia
theorem He {x:Pn}{nb at_:Nat}{sp:List SpM.Span}{st:Bk × Kn}{kn:Ins}(hR:SpM.Room x.pk x.pb) (hms:x.pm+x.ps<=7) (h:GI nb x.pg kn) (hnb:nb<=2^x.pm) (hat:at_ %8=0) (h8:Sp8 sp) (t:ThI x at_ sp st):
  okC x ((8*2^(x.pm+x.ps):Nat):Int) at_ sp ((thS x.pk x.pb st kn).1.1.map (plc (8*2^x.ps)))/\(kn.1≠15->ThI x at_ sp (thS x.pk x.pb st kn)):=by
 have hb:=Fl st.1.1 (thG x.pk x.pb st.2 kn);have okb:okC x ((8*2^(x.pm+x.ps):Nat):Int) at_ sp ((cG st.1.1 (thG x.pk x.pb st.2 kn)).map (plc (8*2^x.ps))):=by
  unfold cG
  split
  .exact t.ok
  .rw[List.map_append,BU];exact uQ t.ok (BB hR hms _ _ _ (we hR hms t.ok h8))
 have hs:∀is ks,is=cG st.1.1 (thG x.pk x.pb st.2 kn)->ks=knB is st.2->(aQ (at_+lnW is) (gv x at_ sp (is.map (plc (8*2^x.ps))))=ks.sp/\p9 x.pk x.pb ks/\Sp8 ks.sp/\lnW is %8+lnW (thG x.pk x.pb ks kn)<=8):=by
  rintro is ks rfl rfl
  unfold knB
  by_cases c:lnW (cG st.1.1 (thG x.pk x.pb st.2 kn)) %8=0
  .rw[if_pos c];refine⟨?_,p9.kn0,zO,?_⟩
   .unfold aQ;rw[if_pos (by lia)]
    rfl
   .have:=(u6 x.pk x.pb kn0 kn).2
    lia
  .rw[if_neg c];rcases hb with hb | ⟨hb,hf⟩
   .exact absurd hb c
   .rw[hb] at c ⊢;refine⟨?_,t.ft,t.s8,hf⟩
    rw[sk (by lia),t.en c]
 have hth:(thS x.pk x.pb st kn)=((cG st.1.1 (thG x.pk x.pb st.2 kn)++thG x.pk x.pb (knB (cG st.1.1 (thG x.pk x.pb st.2 kn)) st.2) kn,st.1.2++[lnW (cG st.1.1 (thG x.pk x.pb st.2 kn))]),lrnG x.pk x.pb kn (knB (cG st.1.1 (thG x.pk x.pb st.2 kn)) st.2) (thG x.pk x.pb (knB (cG st.1.1 (thG x.pk x.pb st.2 kn)) st.2) kn)):=rfl;rw[hth];obtain⟨h1,h2,h3,h4⟩:=hs _ _ rfl rfl;clear hs hth hb;generalize cG st.1.1 (thG x.pk x.pb st.2 kn)=is at*;generalize knB is st.2=ks at*;have lp:lnW (is.map (plc (8*2^x.ps)))=lnW is:=oY _ _;have h8e:=we hR hms okb h8;have okg:=Kc (p:=at_+lnW is) hR hms h hnb h8e h1 h2 (by lia)
 have okall:okC x ((8*2^(x.pm+x.ps):Nat):Int) at_ sp ((is++thG x.pk x.pb ks kn).map (plc (8*2^x.ps))):=by
  rw[List.map_append];refine uQ okb ?_
  rw[lp];exact okg
 refine⟨okall,fun k15=>⟨okall,fun _=> ?_,p9.lrnG hR (o4 h.v6.w8) (Lo h.nm.1) h3 h2,Jk hR (o4 h.v6.w8) h3⟩⟩
 show gv x at_ sp ((is++thG x.pk x.pb ks kn).map (plc (8*2^x.ps)))=(lrnG x.pk x.pb kn ks (thG x.pk x.pb ks kn)).sp
 rw[List.map_append,BC,lp,Ew (kn:=kn) (ft:=ks.ft) (Kd h.nm.2 k15) (by lia) (JK _ _ _ _),h1]
theorem BM {x:Pn}{nb at_:Nat}{bk:List Ins}(hR:SpM.Room x.pk x.pb) (hms:x.pm+x.ps<=7) (h:∀kn∈bk,GI nb x.pg kn) (hnb:nb<=2^x.pm) (hat:at_ %8=0) {sp:List SpM.Span}(h8:Sp8 sp):∀j,j<=bk.length->(∀ i,i < j->∀kn,bk[i]? =some kn->kn.1≠15)->ThI x at_ sp (thB x.pk x.pb (bk.take j))
 | 0,_,_=>⟨True.intro,fun z=>absurd (show lnW ([]:List Ins) %8=0 from rfl) z,p9.kn0,zO⟩
 | j+1,hj,hn=>by
  have ih:=BM hR hms h hnb hat h8 j (by lia) (fun i hi=>hn i (by lia))
  have e:bk[j]? =some bk[j]:=List.getElem?_eq_getElem (by lia)
  rw[rW e];exact(He hR hms (h _ (List.getElem_mem _)) hnb hat h8 ih).2 (hn j (by lia) _ e)
theorem F3 {rk:Nat}{rb:Int}{bk:List Ins}(h:jn bk):jn (thD rk rb bk).1:=by
 obtain⟨pre,kn,rfl,hk⟩:=h;have e:thD rk rb (pre++[kn])=(thS rk rb (thB rk rb pre) kn).1:=by
  unfold thD thB;rw[List.foldl_append]
  rfl
 rw[e];refine jn.app ?_
 rcases gd rk rb (knB (cG (thB rk rb pre).1.1 (thG rk rb (thB rk rb pre).2 kn)) (thB rk rb pre).2) kn with z | ⟨hk2,_⟩|⟨hk2,_⟩
 .rw[z];exact DR hk
 .unfold tY at hk;lia
 .unfold tY at hk;lia
structure GuT (g:Int) (gs:List (List Ins)):Prop where
 ok:IR g gs
 mid:∀bk∈gs, ∀i,i+1 < bk.length->∀kn,bk[i]? =some kn->¬tY kn.1
theorem CJ {x:Pn}{gs:List (List Ins)}{bk:List Ins}{at_:Nat}(hR:SpM.Room x.pk x.pb) (hms:x.pm+x.ps<=7) (h:GuT x.pg gs) (hm:gs.length<=2^x.pm) (hb:bk∈gs) (hat:at_ %8=0):d4 x ((8*2^(x.pm+x.ps):Nat):Int) at_ ((thD x.pk x.pb bk).1.map (plc (8*2^x.ps))):=by
 intro sp h8;obtain⟨hgi,_,pre,kn,e,hk⟩:=h.ok.blk bk hb;have hl:bk.length=pre.length+1:=by rw[e,List.length_append];rfl
 have t:=BM (x:=x) hR hms hgi hm hat h8 pre.length (by lia) (fun i hi kn' e' z=>h.mid bk hb i (by lia) kn' e' (.inr (.inr z)))
 have et:bk.take pre.length=pre:=by rw[e,List.take_left]
 rw[et] at t;have hkn:GI gs.length x.pg kn:=hgi kn (by rw[e];exact List.mem_append_right _ List.mem_cons_self)
 have z:=(He hR hms hkn hm hat h8 t).1;have ee:thD x.pk x.pb bk=(thS x.pk x.pb (thB x.pk x.pb pre) kn).1:=by
  unfold thD thB;rw[e,List.foldl_append]
  rfl
 rw[ee];exact z
theorem wA {x:Pn}{gs:List (List Ins)}(hR:SpM.Room x.pk x.pb) (hms:x.pm+x.ps<=7) (h:GuT x.pg gs) (hm:gs.length<=2^x.pm) (hs:∀bk∈gs,lnW (thD x.pk x.pb bk).1<=8*2^x.ps):km x (gg (8*2^x.ps) (2^x.pm*(8*2^x.ps)) (gs.map (thD x.pk x.pb))):=by
 have hl:lnW (gg (8*2^x.ps) (2^x.pm*(8*2^x.ps)) (gs.map (thD x.pk x.pb)))=8*2^(x.pm+x.ps):=by
  rw[yl (fun d hd=>by obtain⟨bk,hb,rfl⟩:=List.mem_map.mp hd;exact hs bk hb) (by rw[List.length_map];exact Nat.mul_le_mul_right _ hm),Nat.pow_add]
  ac_rfl
 have hl2:=(bO (gg (8*2^x.ps) (2^x.pm*(8*2^x.ps)) (gs.map (thD x.pk x.pb)))).trans hl;have hok:okC x (ay (gg (8*2^x.ps) (2^x.pm*(8*2^x.ps)) (gs.map (thD x.pk x.pb)))).length 0 w8 (gg (8*2^x.ps) (2^x.pm*(8*2^x.ps)) (gs.map (thD x.pk x.pb))):=by
  rw[hl2];refine wp hR hms (fun d hd=> ?_) w8 zO
  obtain⟨bk,hb,rfl⟩:=List.mem_map.mp hd;exact⟨fun a ha=>d4.app hR hms (CJ hR hms h hm hb ha) (wq hR hms _ _),hs bk hb⟩
 refine⟨hl2,hok,xS (fun z=>by rw[List.map_eq_nil_iff] at z;have:=h.ok.n0;rw[z] at this;exact absurd this (by decide)) (fun d hd=> ?_),C5 hok⟩
 obtain⟨bk,hb,rfl⟩:=List.mem_map.mp hd;exact F3 (h.ok.blk bk hb).2.2
end
section
variable {P : Program} {w : World} {K : Frag} {mg : Str → Option Value} {base : Heap}
structure Rm (H:Hp) (a:Addr) (k:Nat) (b:Int):Prop where
 at_:∃xs,H a=some (.tup (.int k:: .int b::xs))
 room:SpM.Room k b
theorem Pl.rm {H:Hp}{a:Addr}{k:Nat}{b:Int}{m s:Nat}{g:Int}(p:Pl H a k b m s g):Rm H a k b:=⟨⟨_,p.at_⟩,p.room⟩
theorem Rm.mv {H H':Hp}{a:Addr}{k:Nat}{b:Int}(p:Rm H a k b) (e:az H H'):Rm H' a k b:=⟨let ⟨xs,h⟩:=p.at_;⟨xs,e _ _ h⟩,p.room⟩
def GC:Sp:=fun vs H Q _=>∃(a:Addr) (k:Nat) (b:Int) (v:Int),vs=[.ref a,.int v]/\Rm H a k b/\Q (.int (b+v %2^k)) H
def Cg:Sp:=fun vs H Q _=>∃(a:Addr) (k:Nat) (b:Int) (v:Int),vs=[.ref a,.int v]/\Rm H a k b/\Q (.bl (decide (b<=v/\v < b+2^k))) H
theorem zF (B:Bi mg) (D:t_ K mg) (aY:Has P w K mg base 2 "rest" kN iu):Has P w K mg base 3 "fit_value" wM GC:=by
 refine D.has zH (fun vs H Q E h=> ?_) (fun f cdv A outer s H vs Q E hr h=> ?_)
 .obtain⟨a,k,b,v,rfl,_⟩:=h
  rfl
 obtain⟨a,k,b,v,rfl,pl,q⟩:=h;obtain⟨xs,hat⟩:=pl.at_;have hk:=pl.room.k20;have p0:atI (V.int k::V.int b::xs) 0=some (.int k):=aJ (j:=0) rfl;have p1:atI (V.int k::V.int b::xs) 1=some (.int b):=aJ (j:=1) rfl;refine⟨_,(ae (ah (av aU (pX ak (pv 0) ac) (pcH aY hr (pa2 (pv 1) (pX ak (pv 0) ac)))))),?_⟩
 try dsimp only[aT]
 walk_at "g";exact q
theorem C_ (B:Bi mg) (D:yn K mg) (ao:Has P w K mg base 1 "power_of_two" mh iJ):Has P w K mg base 2 "in_room" Cj Cg:=by
 refine D.has Dy (fun vs H Q E h=> ?_) (fun f cdv A outer s H vs Q E hr h=> ?_)
 .obtain⟨a,k,b,v,rfl,_⟩:=h
  rfl
 obtain⟨a,k,b,v,rfl,pl,q⟩:=h;obtain⟨xs,hat⟩:=pl.at_;have hk:=pl.room.k20;have p0:atI (V.int k::V.int b::xs) 0=some (.int k):=aJ (j:=0) rfl;have p1:atI (V.int k::V.int b::xs) 1=some (.int b):=aJ (j:=1) rfl;refine⟨_,(ae (ah (FQ (pcE yf (pX ak (pv 0) ac) (pv 1)) (mW (pcE iI (pv 1) (av aU (pX ak (pv 0) ac) (pcH ao hr (pa1 (pX ak (pv 0) ac))))))))),?_⟩
 try dsimp only[aT]
 walk_at "g";refine bz (fun c=> ?_) (fun c=> ?_)
 .walk_at "g";have e:decide (b<=v/\v < b+2^k)=decide (v < b+2^k):=decide_eq_decide.mpr ⟨fun h=>h.2,fun h=>⟨c,h⟩⟩
  rw[e] at q;exact q
 .rw[decide_eq_false (fun h=>c h.1)] at q
  exact q
def bxG (bx:List Int) (i:Int):Int:=bx.getD i.toNat 0
def jE (pk:Nat) (pb:Int) (pm ps:Nat) (k:Nat) (ns bx:List Int):Int:=
 if k=1 then ns.getD 1 0 else if k=10 then(bxG bx (ns.getD 1 0)+ns.getD 2 0) %4294967296 else if k=16 then pb+bxG bx (ns.getD 1 0) %2^pk else if k=17 then SpM.aimV pm ps (bxG bx (ns.getD 1 0))
 else SpM.jv (Fi k) (bxG bx (ns.getD 1 0)) (bxG bx (ns.getD 2 0))
def makes (k:Nat):Prop:=(1<=k/\k<=10)\/k=16\/k=17
structure BxN (nb:Nat) (bx:List Int):Prop where
 len:bx.length=nb
 rng:∀x∈bx,0<=x/\x < 4294967296
abbrev Bxs (bx:List Int):Prop:=BxN 8 bx
theorem BxN.at {nb:Nat}{bx:List Int}(h:BxN nb bx) {i:Int}(h0:0<=i) (h1:i < nb):atI (bx.map V.int) i=some (.int (bxG bx i))/\0<=bxG bx i/\bxG bx i < 4294967296:=by
 have hk:i.toNat < bx.length:=by rw[h.len];lia
 have ek:i=((i.toNat:Nat):Int):=by lia
 have e:bxG bx i=bx[i.toNat]:=by unfold bxG;rw[List.getD_eq_getElem?_getD,List.getElem?_eq_getElem hk];rfl
 have r:=h.rng _ (List.getElem_mem hk);refine⟨?_,by rw[e];exact r.1,by rw[e];exact r.2⟩
 rw[e];have q:atI (bx.map V.int) ((i.toNat:Nat):Int)=some (.int bx[i.toNat]):=aJ (by rw[List.getElem?_map,List.getElem?_eq_getElem hk] <;> rfl)
 rw[<- ek] at q;exact q
theorem Bxs.at {bx:List Int}(h:Bxs bx) {i:Int}(h0:0<=i) (h1:i < 8):atI (bx.map V.int) i=some (.int (bxG bx i))/\0<=bxG bx i/\bxG bx i < 4294967296:=BxN.at h h0 h1
def K_ (K:Frag):Sp:=fun vs H Q _=>∃(pl a bl:Addr) (nb k:Nat) (ns bx:List Int) (pk:Nat) (pb:Int) (pm ps:Nat),vs=[.ref pl,.ref a,.ref bl]/\Rm H pl pk pb/\(k=17->∃pg,Pl H pl pk pb pm ps pg)/\
 H bl=some (.lst (bx.map V.int))/\BxN nb bx/\aK nb 262144 k ns/\makes k/\SqT K H a (aE k ns)/\Q (.int (jE pk pb pm ps k ns bx)) H
theorem xG (B:Bi mg) (D:se K mg) (aY:Has P w K mg base 2 "rest" kN iu) (du:Has P w K mg base 3 "joined_value" Fa Kr) (oB:Has P w K mg base 3 "fit_value" wM GC)
  (eF:Has P w K mg base 3 "aim_value" wM Dv):Has P w K mg base 4 "made_value" Ar (K_ K):=by
 refine D.has jU (fun vs H Q E h=> ?_) (fun f cdv A outer s H vs Q E hr h=> ?_)
 .obtain⟨pl,a,bl,nb,k,ns,bx,pk,pb,pm,ps,rfl,_⟩:=h
  rfl
 obtain⟨pl,a,bl,nb,k,ns,bx,pk,pb,pm,ps,rfl,hrm,hpl,hb,hbx,hv,hm,ha,q⟩:=h;have i0:atI (aE k ns) 0=some (.str (aV k)):=mT
 refine⟨_,(aa (psS 3 jU.nd (pX ak (pv 1) ac))
   (aa (ax (pcT aD (pv 3) aw) (ae (ah (pX ak (pv 1) ac))) al)
   (aa (psS 4 jU.nd (pX bF (pv 2) (pX ak (pv 1) ac)))
   (aa (ax (pcT aD (pv 3) aw) (ae (ah (pcH aY hr (pa2 (av aU (pv 4) (pX ak (pv 1) ac)) ac)))) al)
   (aa (ax (pcT aD (pv 3) aw) (ae (ah (pcH oB hr (pa2 (pv 0) (pv 4))))) al)
   (aa (ax (pcT aD (pv 3) aw) (ae (ah (pcH eF hr (pa2 (pv 0) (pv 4))))) al)
   (ae (ah (pcH du hr (pa3 (pv 3) (pv 4) (pX bF (pv 2) (pX ak (pv 1) ac)))))))))))),?_⟩
 try dsimp only[aT]
 rcases hv with⟨rfl,rfl⟩|⟨rfl,x,v,rfl,x0,x1,v0,v1⟩|⟨h1,h2,x,y,z,rfl,x0,x1,y0,y1,z0,z1⟩|⟨h1,h2,x,y,z,rfl,x0,x1,y0,y1,z0,z1⟩|⟨hk,z,rfl,z0,z1⟩|⟨rfl,x,z,rfl,x0,x1,z0,z1⟩|⟨rfl,y,rfl,y0,y1⟩|⟨hk,x,y,rfl,x0,x1,y0,y1⟩
 .unfold makes at hm;lia
 .have i2:atI (aE 1 [x,v]) 2=some (.int v):=pi;walk_at "g";walk_at "wd";exact q
 .have hk:k < 19:=by lia
  obtain⟨b1,b2,b3⟩:=hbx.at y0 y1;obtain⟨c1,c2,c3⟩:=hbx.at z0 z1;have i2:atI (aE k [x,y,z]) 2=some (.int y):=pi;have i3:atI (aE k [x,y,z]) 3=some (.int z):=C9;have e:jE pk pb pm ps k [x,y,z] bx=SpM.jv (Fi k) (bxG bx y) (bxG bx z):=by
   unfold jE;rw[if_neg (by lia),if_neg (by lia),if_neg (by lia),if_neg (by lia)]
   rfl
  rw[e] at q;have es:=I_ k h1 h2;walk_at "g";refine cA (sne hk (j:=1) (by decide) (by lia)) ?_
  walk_at "g";refine cA (sne hk (j:=10) (by decide) (by lia)) ?_
  walk_at "g";refine cA (sne hk (j:=16) (by decide) (by lia)) ?_
  walk_at "g";refine cA (sne hk (j:=17) (by decide) (by lia)) ?_
  walk_at "g";rw[es];walk_at "g";exact q
 .have hk:k < 19:=by lia
  have e10:k=10:=by unfold makes at hm;lia
  subst e10;obtain⟨b1,b2,b3⟩:=hbx.at y0 y1;have i2:atI (aE 10 [x,y,z]) 2=some (.int y):=pi;have i3:atI (aE 10 [x,y,z]) 3=some (.int z):=C9;walk_at "g";walk_at "wd";exact q
 .unfold makes at hm;lia
 .unfold makes at hm;lia
 .unfold makes at hm;lia
 .obtain⟨b1,b2,b3⟩:=hbx.at y0 y1;rcases hk with rfl | rfl
  .have i2:atI (aE 16 [x,y]) 2=some (.int y):=pi;walk_at "g";walk_at "wd";exact q
  .have i2:atI (aE 17 [x,y]) 2=some (.int y):=pi;obtain⟨pg,hpl⟩:=hpl rfl;walk_at "g";walk_at "wd";exact q
def pD (k:Nat) (ns bx:List Int) (p:Int):Int:=if k=13 then ns.getD 0 0 else if k=15 then bxG bx (ns.getD 0 0) else if bxG bx (ns.getD 0 0)≠0 then ns.getD 1 0 else p+1
def dq (kvs:List (Key × V)):Prop:=∀kv∈kvs, ∃i v:Int,kv=(.inl i,.int v)/\0<=v/\v < 4294967296
def vP (kvs:List (Key × V)) (r:Int):Int:=match jx kvs (.inl r) with
 | some (.int v)=>v
 | _=>0
theorem y9:∀ {kvs:List (Key × V)}{k:Key}{x:V},jx kvs k=some x->(k,x)∈kvs
 | [],k,x,h=>by cases h
 | p::r,k,x,h=>by
  by_cases e:p.1=k
  .rw[nC e] at h;have e2:=Option.some.inj h;rw[<- e, <-e2];exact List.mem_cons_self ..
  .rw[nj e] at h;exact List.mem_cons_of_mem _ (y9 h)
theorem dq.get {kvs:List (Key × V)}(h:dq kvs) (r:Int):(jx kvs (.inl r)).getD (.int 0)= .int (vP kvs r)/\0<=vP kvs r/\vP kvs r < 4294967296:=by
 unfold vP
 cases e:jx kvs (.inl r) with
 | none=>exact⟨rfl,by decide,by decide⟩
 | some x=>
  obtain⟨i,v,ev,v0,v1⟩:=h _ (y9 e);have ex:x= .int v:=congrArg Prod.snd ev;subst ex;exact⟨rfl,v0,v1⟩
theorem dq.put {kvs:List (Key × V)}(h:dq kvs) {r v:Int}(v0:0<=v) (v1:v < 4294967296):dq (cx kvs (.inl r) (.int v)):=by
 intro kv hkv;unfold cx at hkv
 split at hkv
 .obtain⟨x,hx,e⟩:=List.mem_map.mp hkv
  split at e
  .rename_i ek
   rw[<- e,ek];exact⟨r,v,rfl,v0,v1⟩
  .rw[<- e];exact h x hx
 .rcases List.mem_append.mp hkv with hx | hx
  .exact h kv hx
  .have:kv=(.inl r,.int v):=by simpa using hx
   exact⟨r,v,this,v0,v1⟩
theorem BxN.set {nb:Nat}{bx:List Int}(h:BxN nb bx) {i:Nat}{v:Int}(v0:0<=v) (v1:v < 4294967296):BxN nb (bx.set i v):=
 ⟨by rw[List.length_set];exact h.len,fun x hx=>by
  rcases List.mem_or_eq_of_mem_set hx with hx | hx
  .exact h.rng x hx
  .subst hx;exact⟨v0,v1⟩⟩
theorem Bxs.set {bx:List Int}(h:Bxs bx) {i:Nat}{v:Int}(v0:0<=v) (v1:v < 4294967296):Bxs (bx.set i v):=BxN.set h v0 v1
def bg (ns bx:List Int):Int:=(bxG bx (ns.getD 1 0)+ns.getD 2 0) %4294967296
def InR (pk:Nat) (pb r:Int):Prop:=pb<=r/\r < pb+2^pk
instance {pk:Nat}{pb r:Int}:Decidable (InR pk pb r):=inferInstanceAs (Decidable (_/\_))
theorem K7 {H:Hp}{a b:Addr}{u o:HO}{xs:List V}(hb:H b=some u) (nt:∀ys,u≠ .tup ys/\∀o,u≠ .frz o (.tup ys)) (h:SqT K H a xs):SqT K (upd H b o) a xs:=by
 unfold SqT at h ⊢;rcases h with h | h
 .refine .inl ?_
  rcases h with h | ⟨ob,h⟩
  .exact .inl (by rw[ai (fun z=>by rw[z,hb] at h;exact(nt _).1 (Option.some.inj h))];exact h)
  .exact .inr ⟨ob,by rw[ai (fun z=>by rw[z,hb] at h;exact(nt _).2 _ (Option.some.inj h))];exact h⟩
 .exact .inr h
theorem Eu {n j:Nat}(h:j < n):ixN n (j:Int)=some j:=by
 unfold ixN;rw[if_pos (by lia),if_pos (by lia),Int.toNat_natCast]
abbrev hfs (pl:Addr) (g:Int) (bl ml rl rw:Addr):List (Str × V):=
 [("plan",.ref pl),("gates",.int g),("boxes",.ref bl),("memory",.ref ml),("replies",.ref rl),("rows",.ref rw)]
def Ep (K:Frag) (C:Addr):Sp:=fun vs H Q _=>∃(o a dx pl bl ml rl rw:Addr) (g:Int) (nb k:Nat) (ns bx:List Int) (kvs:List (Key × V)) (pk:Nat) (pb:Int),vs=[.ref o,.ref a]/\H o=some (.ins C dx (hfs pl g bl ml rl rw))/\Rm H pl pk pb/\
 H bl=some (.lst (bx.map V.int))/\BxN nb bx/\aK nb 262144 k ns/\(k=11\/k=12)/\SqT K H a (aE k ns)/\H ml=some (.dK kvs)/\dq kvs/\kvs.length<=10000/\
 (¬ InR pk pb (bg ns bx)->∀q,H q=none->Q (.ref q) (upd H q (.tup [.str "beyond",.int (bg ns bx)])))/\
 (InR pk pb (bg ns bx)->k=11->Q .non (upd H bl (.lst ((bx.set (ns.getD 0 0).toNat (vP kvs (bg ns bx))).map V.int))))/\
 (InR pk pb (bg ns bx)->k=12->Q .non (upd H ml (.dK (cx kvs (.inl (bg ns bx)) (.int (bxG bx (ns.getD 0 0)))))))
theorem sV {C:Addr}(B:Bi mg) (c:dE K mg "Holding" C) (n:eR K C) (D:ix K C) (aY:Has P w K mg base 2 "rest" kN iu) (sX:Has P w K mg base 2 "in_room" Cj Cg):
  bY P w K mg base 3 C "reach" cM (Ep K C):=by
 refine D.has c.cl gT (fun vs H Q E h=> ?_) (fun f cdv A outer s H vs Q E hr h=> ?_)
 .obtain⟨o,a,dx,pl,bl,ml,rl,rw,g,nb,k,ns,bx,kvs,pk,pb,rfl,_⟩:=h
  rfl
 obtain⟨o,a,dx,pl,bl,ml,rl,rw,g,nb,k,ns,bx,kvs,pk,pb,rfl,ho,hpl,hb,hbx,hv,hk,ha,hm,hmo,hml,q1,q2,q3⟩:=h;obtain⟨x,y,z,rfl,x0,x1,y0,y1,z0,z1⟩:∃x y z,ns=[x,y,z]/\0<=x/\x < nb/\0<=y/\y < nb/\ -131072<=z/\z < 131072:=by
  rcases hv with⟨rfl,rfl⟩|⟨rfl,x,v,rfl,x0,x1,v0,v1⟩|⟨h1,h2,x,y,z,rfl,x0,x1,y0,y1,z0,z1⟩|⟨h1,h2,x,y,z,rfl,x0,x1,y0,y1,z0,z1⟩|⟨hk,z,rfl,z0,z1⟩|⟨rfl,x,z,rfl,x0,x1,z0,z1⟩|⟨rfl,y,rfl,y0,y1⟩|⟨hk,x,y,rfl,x0,x1,y0,y1⟩
  all_goals first | lia | exact⟨x,y,z,rfl,x0,x1,y0,y1,z0,z1⟩
 have hc:=c.cl;have n1:=n.boxes;have n2:=n.plan;have n3:=n.memory;have hk19:k < 19:=by lia
 have i0:atI (aE k [x,y,z]) 0=some (.str (aV k)):=mT;have i1:atI (aE k [x,y,z]) 1=some (.int x):=s_;have i2:atI (aE k [x,y,z]) 2=some (.int y):=pi;have i3:atI (aE k [x,y,z]) 3=some (.int z):=C9;obtain⟨b1,b2,b3⟩:=hbx.at y0 y1;obtain⟨a1,a2,a3⟩:=hbx.at x0 x1;have er:bg [x,y,z] bx=(bxG bx y+z) %4294967296:=rfl;rw[er] at q1 q2 q3;have nob:o≠bl:=by rintro rfl;rw[ho] at hb;cases hb
 have nom:o≠ml:=by rintro rfl;rw[ho] at hm;cases hm
 refine⟨_,(aa (psS 2 gT.nd (pX ak (pv 1) ac))
   (aa (psS 3 gT.nd (pcH aY hr (pa2 (av aU (pX bF (aP (pv 0) (by rfl)) (pX ak (pv 1) ac)) (pX ak (pv 1) ac)) ac)))
   (aa (ax (dZ (ce (pcH sX hr (pa2 (aP (pv 0) (by rfl)) (pv 3))))) (ae (ah (aA (pa2 aw (pv 3))))) al)
   (aa (aO (bq (ax (pcT aD (pX ak (pv 1) ac) aw) (ae (mi (GJ (ya hr) (aP (pv 0) (by rfl)) (pv 3) ac ⟨(by rfl),(by rfl),(by rfl),(by rfl)⟩) (wH (aP (pv 0) (by rfl)) (pv 2) oR))) (ae (uP (ya hr) (aP (pv 0) (by rfl)) (pv 3) (pX bF (aP (pv 0) (by rfl)) (pv 2)) (by rfl))))))
   (ae (ah d5)))))),?_⟩
 try dsimp only[aT]
 walk_at "g";have e32:(bxG bx y+z) %2^32=(bxG bx y+z) %4294967296:=rfl;rw[e32];generalize (bxG bx y+z) %4294967296=r at*
 by_cases ci:pb<=r/\r < pb+2^pk
 .rw[decide_eq_true ci];walk_at "g";obtain⟨g1,g2,g3⟩:=hmo.get r;have hD:IsD H ml:= .inl ⟨_,.inl hm⟩;have hg:xH H ml (.int r) (jx kvs (.inl r)):=xH.k (k:= .inl r) hm;have hpt:qX H ml (.int r) (.int (bxG bx x)) (upd H ml (.dK (cx kvs (.inl r) (.int (bxG bx x))))):=qX.k (k:= .inl r) hm (Nat.lt_of_le_of_lt hml (by decide))
  have hix:ixN (bx.map V.int).length x=some x.toNat:=by
   have ek:x=((x.toNat:Nat):Int):=by lia
   rw[ek,List.length_map,hbx.len];exact Eu (by lia)
  walk_at "n";refine⟨fun Z' H'=>aG (Z'=[some (.ref o),some (.ref a),some (.int x),some (.int r)]/\((k=11/\H'=upd H bl (.lst ((bx.set x.toNat (vP kvs r)).map V.int)))\/(k=12/\H'=upd H ml (.dK (cx kvs (.inl r) (.int (bxG bx x))))))),?_,?_⟩
  .rcases hk with rfl | rfl
   .walk_at "g";walk_at "wd";rw[g1, <-List.map_set];exact⟨rfl,.inl ⟨rfl,rfl⟩⟩
   .walk_at "g";walk_at "wd";exact⟨rfl,.inr ⟨rfl,rfl⟩⟩
  rintro Z1 H1 ⟨rfl,hH⟩
  rcases hH with⟨rfl,rfl⟩|⟨rfl,rfl⟩
  .walk_at "g";exact q2 ci rfl
  .walk_at "g";exact q3 ci rfl
 .rw[decide_eq_false ci];walk_at "g";exact q1 ci
structure Rep (K:Frag) (H:Hp) (ml:Addr) (v:V) (bs:List Int) (ws:List (Key × V)):Prop where
 ex:∃a b d:Addr,v= .ref a/\SqT K H a [.ref b,.ref d]/\SqT K H b (bs.map V.int)/\H d=some (.dK ws)/\d≠ml
 len:bs.length=7
 rng:∀x∈bs,0<=x/\x < 4294967296
 mem:dq ws
 few:ws.length<=100
 nod:(ws.map (·.1)).Nodup
def Ix (H H':Hp) (r:Addr) (n:Int) (bx:List Int) (kvs:List (Key × V)):Prop:=∃t d,H t=none/\H d=none/\H' r=some (.tup [.int n,.ref t,.ref d])/\H' t=some (.tup (bx.map V.int))/\H' d=some (.dK kvs)
def Bu (S:List Addr) (H H':Hp):Prop:=∀b u,b ∉ S->H b=some u->H' b=some u
def Jt (K:Frag) (C:Addr):Sp:=fun vs H Q _=>∃(o dx pl bl ml rl rw:Addr) (g n:Int) (nb:Nat) (bx:List Int) (kvs:List (Key × V)) (rs reps:List V),vs=[.ref o,.int n]/\H o=some (.ins C dx (hfs pl g bl ml rl rw))/\
 H bl=some (.lst (bx.map V.int))/\BxN nb bx/\0 < nb/\nb<=8/\H ml=some (.dK kvs)/\dq kvs/\kvs.length<=10000/\H rw=some (.lst rs)/\rs.length<=10000/\SqL K H rl reps/\rl≠rw/\bl≠rw/\
 (g<=n->∀q,H q=none->Q (.ref q) (upd H q (.tup [.str "lost"])))/\
 (n < g->reps.length<=rs.length->∀q r H',Bu [rw] H H'->H q=none->H r=none->H' q=some (.tup [.str "asks",.int n])->H' rw=some (.lst (rs++[.ref r]))->Ix H H' r n bx kvs->Q (.ref q) H')/\
 (n < g->∀v,reps[rs.length]? =some v->∃bs ws,Rep K H ml v bs ws/\∀bl' r H',Bu [o,bl,ml,rw] H H'->H bl'=none->H r=none->H' o=some (.ins C dx (hfs pl g bl' ml rl rw))->H' bl'=some (.lst ((bs.take nb++bx.drop 7).map V.int))->
  H' ml=some (.dK (dN kvs ws))->H' rw=some (.lst (rs++[.ref r]))->Ix H H' r n bx kvs->Q .non H')
theorem vA {C:Addr}(B:Bi mg) (c:dE K mg "Holding" C) (n:eR K C) (D:kB K C):bY P w K mg base 1 C "ask" Ca (Jt K C):=by
 refine D.has c.cl jp (fun vs H Q E h=> ?_) (fun f cdv A outer s H vs Q E hr h=> ?_)
 .obtain⟨o,dx,pl,bl,ml,rl,rw,g,n,nb,bx,kvs,rs,reps,rfl,_⟩:=h
  rfl
 obtain⟨o,dx,pl,bl,ml,rl,rw,pg,m,nb,bx,kvs,rs,reps,rfl,ho,hb,hbx,nb0,nb8,hm,hmo,hml,hrw,hrl,hre,nrl,nbw,q1,q2,q3⟩:=h;have hc:=c.cl;have n1:=n.boxes;have n2:=n.gates;have n3:=n.memory;have n4:=n.rows;have n5:=n.replies
 refine⟨_,(aa (ax (pcT jH (pv 1) (aP (pv 0) (by rfl))) (ae (ah (aA (pa1 aw)))) al)
   (aa (psS 2 jp.nd (aI aM (by rfl) B.len dk (pa1 (aP (pv 0) (by rfl)))))
   (aa (cu (nS PySem.F.plainAttrs_list PySem.F.slot_list_append PySem.F.type_list_append gx (aP (pv 0) (by rfl)) (pa1 (aA (pa3 (pv 1) (bN eL (by rfl) B.tuple il (pa1 (aP (pv 0) (by rfl)))) (bN rK (by rfl) B.dict ED (pa1 (aP (pv 0) (by rfl)))))))))
   (aa (ax (pcT jH (pv 2) (aI aM (by rfl) B.len dk (pa1 (aP (pv 0) (by rfl))))) (ae (ah (aA (pa2 aw (pv 1))))) al)
   (aa (psS 3 jp.nd (pX bF (aP (pv 0) (by rfl)) (pv 2)))
   (aa (bU (pv 0) (av sH (bN ln (by rfl) B.list Ab (pa1 (c_ IT (pX ak (pv 3) ac) eB (eC (aI aM (by rfl) B.len dk (pa1 (aP (pv 0) (by rfl)))))))) (c_ zD (aP (pv 0) (by rfl)) (eC ac) eB)) (by rfl))
   (aa (cu (nS PySem.F.plainAttrs_dict PySem.F.slot_dict_update PySem.F.type_dict_update Fn (aP (pv 0) (by rfl)) (pa1 (pX ak (pv 3) ac))))
   (ae (ah d5))))))))),?_⟩
 try dsimp only[aT]
 walk_at "g";refine bz (fun c1=> ?_) (fun c1=> ?_)
 .walk_at "g";exact q1 c1
 have hlt:m < pg:=by lia
 have hty:tyV K "list" (.ref rw) H:= .inl ⟨rfl,_,SqL.of hrw⟩;walk_at "g";intro tb htb;have ntm:ml≠tb:=aj hm htb;have ntw:rw≠tb:=aj hrw htb;have hm1:=bh (o:= .tup (bx.map V.int)) htb hm;have ho1:=bh (o:= .tup (bx.map V.int)) htb ho;walk_at "g";intro db hdb;walk_at "g";intro rb hrb;have s1:az H (upd (upd (upd H tb (.tup (bx.map V.int))) db (.dK kvs)) rb (.tup [.int m,.ref tb,.ref db])):=bM hrb (bM hdb (ag htb _));have d1:H db=none:=by
  cases e:H db with
  | none=>rfl
  | some u=>rw[bh (o:= .tup (bx.map V.int)) htb e] at hdb;cases hdb
 have r1:H rb=none:=by
  cases e:H rb with
  | none=>rfl
  | some u=>rw[bh (o:= .dK kvs) hdb (bh (o:= .tup (bx.map V.int)) htb e)] at hrb;cases hrb
 have row1:upd (upd (upd H tb (.tup (bx.map V.int))) db (.dK kvs)) rb (.tup [.int m,.ref tb,.ref db]) rb=some (.tup [.int m,.ref tb,.ref db]):=ad;have row3:upd (upd (upd H tb (.tup (bx.map V.int))) db (.dK kvs)) rb (.tup [.int m,.ref tb,.ref db]) tb=some (.tup (bx.map V.int)):=bh hrb (bh hdb ad);have row4:upd (upd (upd H tb (.tup (bx.map V.int))) db (.dK kvs)) rb (.tup [.int m,.ref tb,.ref db]) db=some (.dK kvs):=bh hrb ad;generalize upd (upd (upd H tb (.tup (bx.map V.int))) db (.dK kvs)) rb (.tup [.int m,.ref tb,.ref db])=H1 at*;have hrw1:=s1 _ _ hrw;have hll:rs.length < sizeLine:=Nat.lt_of_le_of_lt hrl (by decide)
 have b2:But rw H1 (upd H1 rw (.lst (rs++[V.ref rb]))):=But.upd;have hw2:upd H1 rw (.lst (rs++[V.ref rb])) rw=some (.lst (rs++[V.ref rb])):=ad;have now:o≠rw:=by rintro rfl;rw[ho] at hrw;cases hrw
 have nmw:ml≠rw:=by rintro rfl;rw[hm] at hrw;cases hrw
 have nrr:rb≠rw:=(aj hrw r1).symm;have ho2:=b2 _ _ now (s1 _ _ ho);have hb2:=b2 _ _ nbw (s1 _ _ hb);have hm2:=b2 _ _ nmw (s1 _ _ hm);have hre2:=But.seq b2 nrl (s1.seq hre);have row5:=b2 _ _ nrr row1;have row6:=b2 _ _ (aj hrw htb).symm row3;have row7:=b2 _ _ (aj hrw d1).symm row4;have bu2:Bu [rw] H (upd H1 rw (.lst (rs++[V.ref rb]))):=fun b u hn e=>b2 _ _ (by simpa using hn) (s1 _ _ e)
 walk_at "g";generalize upd H1 rw (.lst (rs++[V.ref rb]))=H2 at*;refine bz (fun c2=> ?_) (fun c2=> ?_)
 .walk_at "g";intro q hq;have hq0:H q=none:=by
   by_cases z:q=rw
   .rw[z,hw2] at hq;cases hq
   .cases e:H q with
    | none=>rfl
    | some u=>rw[bu2 q u (by simpa using z) e] at hq;cases hq
  refine q2 hlt (by lia) q rb _ (fun b u hn e=>bh hq (bu2 b u hn e)) hq0 r1 ad (bh hq hw2) ⟨tb,db,htb,d1,bh hq row5,bh hq row6,bh hq row7⟩
 .have hlr:rs.length < reps.length:=by lia
  obtain⟨v,hv⟩:∃v,reps[rs.length]? =some v:=⟨_,List.getElem?_eq_getElem hlr⟩;obtain⟨bs,ws,rep,q4⟩:=q3 hlt v hv;obtain⟨ra,rx,rd,rfl,h1,h2,h3,h4⟩:=rep.ex;have hix:atI reps ((rs.length:Nat):Int)=some (.ref ra):=aJ hv;have h1':=But.tup b2 hrw1 (s1.tup h1);have h2':=But.tup b2 hrw1 (s1.tup h2);have nrd:rd≠rw:=by rintro rfl;rw[h3] at hrw;cases hrw
  have h3':=b2 _ _ nrd (s1 _ _ h3);have hbl:(bs.map V.int).length=7:=by rw[List.length_map,rep.len]
  have hxl:(bx.map V.int).length=nb:=by rw[List.length_map,hbx.len]
  walk_at "g";intro t1 H3 s3 ht1;rw[hxl,FM, <-List.map_take] at ht1;have ho3:=s3 _ _ ho2;have hb3:=s3 _ _ hb2;walk_at "g";intro l1 hl1;have hc3:upd H3 l1 (.lst ((bs.take nb).map V.int)) l1=some (.lst ((bs.take nb).map V.int)):=ad;have s4:=bM (o:= .lst ((bs.take nb).map V.int)) hl1 s3;have ho4:=s4 _ _ ho2;have hb4:=s4 _ _ hb2;generalize upd H3 l1 (.lst ((bs.take nb).map V.int))=H4 at*;walk_at "g";intro l2 hl2;have e7:fe (bx.map V.int) (some 7) none=(bx.drop 7).map V.int:=by
   have:=vU (xs:=bx.map V.int) (n:=7);rw[List.map_drop];exact this
  rw[e7];have ho5:=bh (o:= .lst ((bx.drop 7).map V.int)) hl2 ho4;have hc5:=bh (o:= .lst ((bx.drop 7).map V.int)) hl2 hc3;have hd5:upd H4 l2 (.lst ((bx.drop 7).map V.int)) l2=some (.lst ((bx.drop 7).map V.int)):=ad;have s5:=bM (o:= .lst ((bx.drop 7).map V.int)) hl2 s4;generalize upd H4 l2 (.lst ((bx.drop 7).map V.int))=H5 at*;have hz5:((bs.take nb).map V.int).length+((bx.drop 7).map V.int).length<=sizeLine:=by
   rw[List.length_map,List.length_map,List.length_take,List.length_drop,rep.len,hbx.len];exact Nat.le_trans (show _<=100 by lia) (by decide)
  walk_at "g";intro l3 hl3;rw[<- List.map_append];have ho6:=bh (o:= .lst ((bs.take nb++bx.drop 7).map V.int)) hl3 ho5;have hc6:upd H5 l3 (.lst ((bs.take nb++bx.drop 7).map V.int)) l3=some (.lst ((bs.take nb++bx.drop 7).map V.int)):=ad;have s6:=bM (o:= .lst ((bs.take nb++bx.drop 7).map V.int)) hl3 s5;have l30:H2 l3=none:=by
   cases e:H2 l3 with
   | none=>rfl
   | some u=>rw[s5 _ _ e] at hl3;cases hl3
  generalize upd H5 l3 (.lst ((bs.take nb++bx.drop 7).map V.int))=H6 at*;walk_at "g";have e6:upd H6 o (.ins C dx (bG "boxes" (.ref l3) (hfs pl pg bl ml rl rw))) o=some (.ins C dx (hfs pl pg l3 ml rl rw)):=ad;have b6:But o H6 (upd H6 o (.ins C dx (bG "boxes" (.ref l3) (hfs pl pg bl ml rl rw)))):=But.upd;have nom:ml≠o:=by rintro rfl;rw[ho] at hm;cases hm
  have nod:rd≠o:=by rintro rfl;rw[ho] at h3;cases h3
  have hm7:=b6 _ _ nom (s6 _ _ hm2);have h37:=b6 _ _ nod (s6 _ _ h3');have h17:SqT K (upd H6 o (.ins C dx (bG "boxes" (.ref l3) (hfs pl pg bl ml rl rw)))) ra [.ref rx,.ref rd]:=K7 ho6 (fun _=>⟨(fun z=>by cases z),(fun _ z=>by cases z)⟩) (s6.tup h1')
  generalize upd H6 o (.ins C dx (bG "boxes" (.ref l3) (hfs pl pg bl ml rl rw)))=H7 at*;have hty7:tyV K "dict" (.ref ml) H7:= .inr (.inr (.inl ⟨rfl,.inl ⟨_,hm7⟩⟩));have hz7:kvs.length+ws.length<=sizeLine:=Nat.le_trans (Nat.add_le_add hml rep.few) (by decide)
  have hne7:ml≠rd:=Ne.symm h4;walk_at "g";have l3H:H l3=none:=by
   by_cases z:l3=rw
   .rw[z,hw2] at l30;cases l30
   .cases e:H l3 with
    | none=>rfl
    | some u=>rw[bu2 l3 u (by simpa using z) e] at l30;cases l30
  have n3o:l3≠o:=(aj ho l3H).symm;have n3m:l3≠ml:=(aj hm l3H).symm;have nwo:rw≠o:=Ne.symm now;have up:∀b u,b≠o->b≠ml->H2 b=some u->upd H7 ml (.dK (dN kvs ws)) b=some u:=fun b u z1 z2 e=>by
   rw[ai z2];exact b6 _ _ z1 (s6 _ _ e)
  refine q4 l3 rb _ (fun b u hn e=> ?_) l3H r1 ?_ ?_ ad (up _ _ nwo (Ne.symm nmw) hw2) ?_
  .have hn':b≠o/\b≠bl/\b≠ml/\b≠rw:=by
    refine⟨fun z=>hn (by simp [z]),fun z=>hn (by simp [z]),fun z=>hn (by simp [z]),fun z=>hn (by simp [z])⟩
   exact up b u hn'.1 hn'.2.2.1 (bu2 b u (by simpa using hn'.2.2.2) e)
  .rw[ai (Ne.symm nom)];exact e6
  .rw[ai n3m];exact b6 _ _ n3o hc6
  .exact⟨tb,db,htb,d1,up _ _ (aj ho r1).symm (aj hm r1).symm row5,up _ _ (aj ho htb).symm (aj hm htb).symm row6,up _ _ (aj ho d1).symm (aj hm d1).symm row7⟩
structure HSt where
 bx:List Int
 kvs:List (Key × V)
 rows:List (Int × List Int × List (Key × V))
structure Fx where
 pk:Nat
 pb:Int
 pm:Nat
 ps:Nat
 pg:Int
 reps:List (List Int × List (Key × V))
def ij (x:Fx) (k:Nat) (ns:List Int) (st:HSt):Option (Str × List Int) × HSt:=
 if k=18 then
  if x.pg<=ns.getD 0 0 then(some ("lost",[]),st)
  else match x.reps[st.rows.length]? with
   | none=>(some ("asks",[ns.getD 0 0]),{st with rows:=st.rows++[(ns.getD 0 0,st.bx,st.kvs)]})
   | some (bs,ws)=>(none,⟨bs.take st.bx.length++st.bx.drop 7,dN st.kvs ws,st.rows++[(ns.getD 0 0,st.bx,st.kvs)]⟩)
 else if k=11\/k=12 then
  if InR x.pk x.pb (bg ns st.bx) then
   if k=11 then(none,{st with bx:=st.bx.set (ns.getD 0 0).toNat (vP st.kvs (bg ns st.bx))})
   else(none,{st with kvs:=cx st.kvs (.inl (bg ns st.bx)) (.int (bxG st.bx (ns.getD 0 0)))})
  else(some ("beyond",[bg ns st.bx]),st)
 else(none,{st with bx:=st.bx.set (ns.getD 0 0).toNat (jE x.pk x.pb x.pm x.ps k ns st.bx)})
def pB (H:Hp) (ml:Addr):List Addr->List (Int × List Int × List (Key × V))->Prop
 | [],[]=>True
 | r::rs,x::xs=>(∃ t d,H r=some (.tup [.int x.1,.ref t,.ref d])/\H t=some (.tup (x.2.1.map V.int))/\H d=some (.dK x.2.2)/\d≠ml)/\pB H ml rs xs
 | _,_=>False
theorem pB.len {H:Hp}{ml:Addr}:∀ {rs:List Addr}{xs:List (Int × List Int × List (Key × V))},pB H ml rs xs->rs.length=xs.length
 | [],[],_=>rfl
 | _::_,_::_,h=>congrArg (· +1) (pB.len h.2)
 | [],_::_,h=>h.elim
 | _::_,[],h=>h.elim
def fi (H0 H:Hp) (ml:Addr):List (Addr × Addr)->List (Int × List Int × List (Key × V))->Prop
 | [],[]=>True
 | e::es,x::xs=>(H0 e.2=none/\e.2≠ml/\H e.2=some (.dK x.2.2)/\∃t,H e.1=some (.tup [.int x.1,.ref t,.ref e.2])/\H t=some (.tup (x.2.1.map V.int)))/\fi H0 H ml es xs
 | _,_=>False
theorem fi.mono {H0 H0' H H':Hp}{ml ml':Addr}(h1:∀a xs,H a=some (.tup xs)->H' a=some (.tup xs)) (h2:∀a kvs,H0 a=none->a≠ml->H a=some (.dK kvs)->H0' a=none/\H' a=some (.dK kvs)/\a≠ml'):∀ {es:List (Addr × Addr)}{xs:List (Int × List Int × List (Key × V))},fi H0 H ml es xs->fi H0' H' ml' es xs
 | [],[],_=>True.intro
 | _::_,_::_,h=>by
  obtain⟨⟨a,b,c,t,d,e⟩,r⟩:=h;obtain⟨c1,c2,c3⟩:=h2 _ _ a b c;exact⟨⟨c1,c3,c2,t,h1 _ _ d,h1 _ _ e⟩,fi.mono h1 h2 r⟩
 | [],_::_,h=>h.elim
 | _::_,[],h=>h.elim
theorem fi.len {H0 H:Hp}{ml:Addr}:∀ {es:List (Addr × Addr)}{xs:List (Int × List Int × List (Key × V))},fi H0 H ml es xs->es.length=xs.length
 | [],[],_=>rfl
 | _::_,_::_,h=>congrArg (· +1) (fi.len h.2)
 | [],_::_,h=>h.elim
 | _::_,[],h=>h.elim
theorem fi.there {H0 H:Hp}{ml:Addr}:∀ {es:List (Addr × Addr)}{xs:List (Int × List Int × List (Key × V))},fi H0 H ml es xs->∀d∈es.map (·.2), ∃u,H d=some u
 | [],[],_=>fun d h=>by cases h
 | _::_,_::_,h=>fun d hd=>by
  rcases List.mem_cons.mp hd with rfl | hd
  .exact⟨_,h.1.2.2.1⟩
  .exact fi.there h.2 d hd
 | [],_::_,h=>h.elim
 | _::_,[],h=>h.elim
theorem fi.push {H0 H:Hp}{ml:Addr}{e:Addr × Addr}{x:Int × List Int × List (Key × V)}(hx:H0 e.2=none/\e.2≠ml/\H e.2=some (.dK x.2.2)/\∃t,H e.1=some (.tup [.int x.1,.ref t,.ref e.2])/\H t=some (.tup (x.2.1.map V.int))):∀ {es:List (Addr × Addr)}{xs:List (Int × List Int × List (Key × V))},fi H0 H ml es xs->fi H0 H ml (es++[e]) (xs++[x])
 | [],[],_=>⟨hx,True.intro⟩
 | _::_,_::_,h=>⟨h.1,fi.push hx h.2⟩
 | [],_::_,h=>h.elim
 | _::_,[],h=>h.elim
theorem fi.rows {H0 H:Hp}{ml:Addr}:∀ {es:List (Addr × Addr)}{xs:List (Int × List Int × List (Key × V))},fi H0 H ml es xs->pB H ml (es.map (·.1)) xs
 | [],[],_=>True.intro
 | _::_,_::_,h=>by
  obtain⟨⟨a,b,c,t,d,e⟩,r⟩:=h;exact⟨⟨t,_,d,e,c,b⟩,fi.rows r⟩
 | [],_::_,h=>h.elim
 | _::_,[],h=>h.elim
theorem vt {xs:List Addr}{d:Addr}(h:xs.Nodup) (hd:d ∉ xs):(xs++[d]).Nodup:=by
 rw[List.nodup_append]
 exact⟨h,List.nodup_cons.mpr ⟨by simp,List.nodup_nil⟩,fun a ha b hb=>by
  have e:b=d:=by simpa using hb
  rintro rfl
  exact hd (e ▸ ha)⟩
structure HoH (C:Addr) (nb:Nat) (H0 H:Hp) (o dx pl rl:Addr) (g:Int) (st:HSt):Prop where
 ex:∃(bl ml rw:Addr) (es:List (Addr × Addr)),H o=some (.ins C dx (hfs pl g bl ml rl rw))/\H bl=some (.lst (st.bx.map V.int))/\H ml=some (.dK st.kvs)/\H rw=some (.lst ((es.map (·.1)).map V.ref))/\H0 o=none/\H0 bl=none/\H0 ml=none/\H0 rw=none/\bl≠rw/\(es.map (·.2)).Nodup/\fi H0 H ml es st.rows
 same:az H0 H
 bxs:BxN nb st.bx
 mem:dq st.kvs
theorem HoH.grow {C:Addr}{nb:Nat}{H0 H H':Hp}{o dx pl rl:Addr}{g:Int}{st:HSt}(h:HoH C nb H0 H o dx pl rl g st) (e:az H H'):HoH C nb H0 H' o dx pl rl g st:=by
 obtain⟨bl,ml,rw,es,ho,hb,hm,hrw,o0,b0,m0,w0,nbw,nd,rows⟩:=h.ex;exact⟨⟨bl,ml,rw,es,e _ _ ho,e _ _ hb,e _ _ hm,e _ _ hrw,o0,b0,m0,w0,nbw,nd,rows.mono (fun _ _ z=>e _ _ z) (fun _ _ z1 z2 z=>⟨z1,e _ _ z,z2⟩)⟩,h.same.trans e,h.bxs,h.mem⟩
theorem HoH.add {C:Addr}{nb:Nat}{H0 H:Hp}{o dx pl rl:Addr}{g:Int}{st:HSt}(h:HoH C nb H0 H o dx pl rl g st) {b:Addr}(u:HO) (hb0:H b=none):HoH C nb (upd H0 b u) (upd H b u) o dx pl rl g st:=by
 obtain⟨bl,ml,rw,es,ho,hb,hm,hrw,o0,b0,m0,w0,nbw,nd,rows⟩:=h.ex;refine⟨⟨bl,ml,rw,es,bh hb0 ho,bh hb0 hb,bh hb0 hm,bh hb0 hrw,by rw[ai (aj ho hb0)];exact o0,by rw[ai (aj hb hb0)];exact b0,by rw[ai (aj hm hb0)];exact m0,by rw[ai (aj hrw hb0)];exact w0,nbw,nd,rows.mono (fun _ _ z=>bh hb0 z) (fun _ _ z1 z2 z=>⟨by rw[ai (aj z hb0)];exact z1,bh hb0 z,z2⟩)⟩,fun a v e=> ?_,h.bxs,h.mem⟩
 by_cases z:a=b
 .subst z;rw[ad] at e ⊢;exact e
 .rw[ai z] at e ⊢;exact h.same _ _ e
theorem HoH.write {C:Addr}{nb:Nat}{H0 H:Hp}{o dx pl rl:Addr}{g:Int}{st:HSt}(h:HoH C nb H0 H o dx pl rl g st) {b:Addr}{u:HO}(u':HO) (hu:H0 b=some u) (nt:∀ys,u≠ .tup ys):HoH C nb (upd H0 b u') (upd H b u') o dx pl rl g st:=by
 obtain⟨bl,ml,rw,es,ho,hb,hm,hrw,o0,b0,m0,w0,nbw,nd,rows⟩:=h.ex;have ne:∀a,H0 a=none->a≠b:=fun a e=>(aj hu e).symm
 refine⟨⟨bl,ml,rw,es,by rw[ai (ne _ o0)];exact ho,by rw[ai (ne _ b0)];exact hb,by rw[ai (ne _ m0)];exact hm,by rw[ai (ne _ w0)];exact hrw,by rw[ai (ne _ o0)];exact o0,by rw[ai (ne _ b0)];exact b0,by rw[ai (ne _ m0)];exact m0,by rw[ai (ne _ w0)];exact w0,nbw,nd,
  rows.mono (fun a xs z=>by rw[ai (fun z2=>by rw[z2,h.same _ _ hu] at z;exact nt _ (Option.some.inj z))];exact z) (fun a _ z1 z2 z=>⟨by rw[ai (ne _ z1)];exact z1,by rw[ai (ne _ z1)];exact z,z2⟩)⟩,fun a v e=> ?_,h.bxs,h.mem⟩
 by_cases z:a=b
 .subst z;rw[ad] at e ⊢;exact e
 .rw[ai z] at e ⊢;exact h.same _ _ e
theorem HoH.take {C:Addr}{nb:Nat}{H0 H:Hp}{o dx pl rl:Addr}{g:Int}{st:HSt}(h:HoH C nb H0 H o dx pl rl g st) {b:Addr}{u:HO}(hu:H b=some u) (nu:∃ys,u= .tup ys\/∃ob,u= .frz ob (.tup ys)):HoH C nb (upd H0 b u) H o dx pl rl g st/\az H0 (upd H0 b u):=by
 obtain⟨bl,ml,rw,es,ho,hb,hm,hrw,o0,b0,m0,w0,nbw,nd,rows⟩:=h.ex;have n1:∀a xs,H a=some (.lst xs)->a≠b:=fun a xs e=>by
  rintro rfl
  rw[hu] at e;obtain⟨ys,rfl | ⟨ob,rfl⟩⟩:=nu <;> cases e
 have n2:∀a kvs,H a=some (.dK kvs)->a≠b:=fun a xs e=>by
  rintro rfl
  rw[hu] at e;obtain⟨ys,rfl | ⟨ob,rfl⟩⟩:=nu <;> cases e
 have n3:o≠b:=by
  rintro rfl
  rw[hu] at ho;obtain⟨ys,rfl | ⟨ob,rfl⟩⟩:=nu <;> cases ho
 refine⟨⟨⟨bl,ml,rw,es,ho,hb,hm,hrw,by rw[ai n3];exact o0,by rw[ai (n1 _ _ hb)];exact b0,by rw[ai (n2 _ _ hm)];exact m0,by rw[ai (n1 _ _ hrw)];exact w0,nbw,nd,
  rows.mono (fun _ _ z=>z) (fun a _ z1 z2 z=>⟨by rw[ai (n2 _ _ z)];exact z1,z,z2⟩)⟩,fun a v e=> ?_,h.bxs,h.mem⟩,fun a v e=> ?_⟩
 .by_cases z:a=b
  .subst z;rw[ad] at e;rw[hu];exact e
  .rw[ai z] at e;exact h.same _ _ e
 .by_cases z:a=b
  .subst z;rw[ad];have:=h.same _ _ e;rw[hu] at this;exact this
  .rw[ai z];exact e
theorem HoH.takeT {C:Addr}{nb:Nat}{H0 H:Hp}{o dx pl rl:Addr}{g:Int}{st:HSt}(h:HoH C nb H0 H o dx pl rl g st) {b:Addr}{ys:List V}(hu:SqT K H b ys):∃H1,HoH C nb H1 H o dx pl rl g st/\az H0 H1/\SqT K H1 b ys:=by
 unfold SqT at hu ⊢;rcases hu with hu | hu
 .rcases hu with hu | ⟨ob,hu⟩
  .obtain⟨a,b⟩:=h.take hu ⟨ys,.inl rfl⟩;exact⟨_,a,b,.inl (.inl ad)⟩
  .obtain⟨a,b⟩:=h.take hu ⟨ys,.inr ⟨ob,rfl⟩⟩;exact⟨_,a,b,.inl (.inr ⟨ob,ad⟩)⟩
 .exact⟨H0,h,az.refl _,.inr hu⟩
structure EnH (K:Frag) (H0:Hp) (pl rl:Addr) (x:Fx):Prop where
 rm:Rm H0 pl x.pk x.pb
 there:∃u,H0 rl=some u
 reps:∃vs:List V,SqL K H0 rl vs/\vs.length=x.reps.length/\∀(i:Nat) (v:V) (bs:List Int) (ws:List (Key × V)),vs[i]? =some v->x.reps[i]? =some (bs,ws)->(∀ ml,H0 ml=none->Rep K H0 ml v bs ws)
theorem Rep.mv {H H':Hp}{ml:Addr}{v:V}{bs:List Int}{ws:List (Key × V)}(h:Rep K H ml v bs ws) (e:az H H'):Rep K H' ml v bs ws:=by
 obtain⟨ra,rb,rd,e1,e2,e3,e4,e5⟩:=h.ex;exact⟨⟨ra,rb,rd,e1,e.tup e2,e.tup e3,e _ _ e4,e5⟩,h.len,h.rng,h.mem,h.few,h.nod⟩
theorem none_of {H H':Hp}{a:Addr}(e:az H H') (h:H' a=none):H a=none:=by
 cases z:H a with
 | none=>rfl
 | some u=>rw[e _ _ z] at h;cases h
theorem EnH.mv {H H':Hp}{pl rl:Addr}{x:Fx}(h:EnH K H pl rl x) (e:az H H'):EnH K H' pl rl x:=by
 obtain⟨vs,h1,h2,h3⟩:=h.reps;obtain⟨u,hu⟩:=h.there;exact⟨h.rm.mv e,⟨u,e _ _ hu⟩,vs,e.seq h1,h2,fun i v bs ws a b ml hm=>(h3 i v bs ws a b ml (none_of e hm)).mv e⟩
def B_ (H:Hp):Option (Str × List Int)->V->Prop
 | none,v=>v= .non
 | some (x,ns),v=>∃q,v= .ref q/\H q=some (.tup (.str x::ns.map V.int))
def Ee (K:Frag) (C:Addr):Sp:=fun vs H Q _=>∃(nb:Nat) (H0:Hp) (o a dx pl rl:Addr) (st:HSt) (x:Fx) (k:Nat) (ns:List Int),vs=[.ref o,.ref a]/\HoH C nb H0 H o dx pl rl x.pg st/\EnH K H0 pl rl x/\(k=17->∃pg,Pl H0 pl x.pk x.pb x.pm x.ps pg)/\0 < nb/\nb<=8/\aK nb 262144 k ns/\
 k≠0/\k≠13/\k≠14/\k≠15/\SqT K H a (aE k ns)/\st.kvs.length<=9000/\st.rows.length<=9000/\
 ∀v H',HoH C nb H0 H' o dx pl rl x.pg (ij x k ns st).2->B_ H' (ij x k ns st).1 v->Q v H'
theorem aK.box {nb mo:Int}{k:Nat}{ns:List Int}(h:aK nb mo k ns) (hm:makes k):∃x r,ns=x::r/\0<=x/\x < nb:=by
 unfold makes at hm;rcases h with⟨rfl,rfl⟩|⟨rfl,x,v,rfl,x0,x1,v0,v1⟩|⟨h1,h2,x,y,z,rfl,x0,x1,y0,y1,z0,z1⟩|⟨h1,h2,x,y,z,rfl,x0,x1,y0,y1,z0,z1⟩|⟨hk,z,rfl,z0,z1⟩|⟨rfl,x,z,rfl,x0,x1,z0,z1⟩|⟨rfl,y,rfl,y0,y1⟩|⟨hk,x,y,rfl,x0,x1,y0,y1⟩
 all_goals first | lia | exact⟨_,_,rfl,x0,x1⟩
theorem aK.gate {nb mo:Int}{ns:List Int}(h:aK nb mo 18 ns):∃n,ns=[n]:=by
 rcases h with⟨e,rfl⟩|⟨e,x,v,rfl,x0,x1,v0,v1⟩|⟨h1,h2,x,y,z,rfl,x0,x1,y0,y1,z0,z1⟩|⟨h1,h2,x,y,z,rfl,x0,x1,y0,y1,z0,z1⟩|⟨hk,z,rfl,z0,z1⟩|⟨e,x,z,rfl,x0,x1,z0,z1⟩|⟨e,y,rfl,y0,y1⟩|⟨hk,x,y,rfl,x0,x1,y0,y1⟩
 all_goals first | lia | exact⟨_,rfl⟩
theorem Fz {more:List (Key × V)}:∀ {kvs:List (Key × V)},dq kvs->dq more->dq (dN kvs more):=by
 induction more with
 | nil=>intro kvs h _;exact h
 | cons p r ih=>
  intro kvs h hm;obtain⟨i,v,e,v0,v1⟩:=hm p (List.mem_cons_self ..);show dq (dN (cx kvs p.1 p.2) r)
  rw[e];exact ih (h.put v0 v1) (fun kv hk=>hm kv (List.mem_cons_of_mem _ hk))
theorem vN {nb:Nat}{k:Nat}{ns bx:List Int}{pk:Nat}{pb:Int}{pm ps:Nat}(hv:aK nb 262144 k ns) (hm:makes k) (hb:BxN nb bx) (R:SpM.Room pk pb) (hms:k=17->pm+ps<=7):0<=jE pk pb pm ps k ns bx/\jE pk pb pm ps k ns bx < 4294967296:=by
 unfold jE;have r0:=R.b0;have r1:=R.bW;rcases hv with⟨rfl,rfl⟩|⟨rfl,x,v,rfl,x0,x1,v0,v1⟩|⟨h1,h2,x,y,z,rfl,x0,x1,y0,y1,z0,z1⟩|⟨h1,h2,x,y,z,rfl,x0,x1,y0,y1,z0,z1⟩|⟨hk,z,rfl,z0,z1⟩|⟨rfl,x,z,rfl,x0,x1,z0,z1⟩|⟨rfl,y,rfl,y0,y1⟩|⟨hk,x,y,rfl,x0,x1,y0,y1⟩
 .exact absurd hm (by unfold makes;decide)
 .exact⟨v0,v1⟩
 .rw[if_neg (by lia),if_neg (by lia),if_neg (by lia),if_neg (by lia)]
  obtain⟨_,b2,b3⟩:=hb.at y0 y1;obtain⟨_,c2,c3⟩:=hb.at z0 z1;exact SpM.jv_in (Fi k) (v:=bxG bx y) (w:=bxG bx z) ⟨b2,b3⟩ ⟨c2,c3⟩
 .have e10:k=10:=by unfold makes at hm;clear hms r0 r1;lia
  subst e10;rw[if_neg (by decide),if_pos rfl]
  lia
 .rcases hk with rfl | rfl <;> exact absurd hm (by unfold makes;decide)
 .exact absurd hm (by unfold makes;decide)
 .exact absurd hm (by unfold makes;decide)
 .rcases hk with rfl | rfl
  .rw[if_neg (by decide),if_neg (by decide),if_pos rfl]
   obtain⟨f1,f2⟩:=SpM.fit_in (k:=pk) (base:=pb) (bxG bx ([x,y].getD 1 0))
   lia
  .rw[if_neg (by decide),if_neg (by decide),if_neg (by decide),if_pos rfl]
   obtain⟨f1,f2,f3⟩:=SpM.aim_le (hms rfl) (bxG bx ([x,y].getD 1 0))
   lia
theorem Fu {k:Nat}{ns bx:List Int}{pk:Nat}{pb:Int}{pm ps:Nat}(hv:aK 8 262144 k ns) (hm:makes k) (hb:Bxs bx) (R:SpM.Room pk pb) (hms:pm+ps<=7):0<=jE pk pb pm ps k ns bx/\jE pk pb pm ps k ns bx < 4294967296:=vN hv hm hb R (fun _=>hms)
theorem C8 {nb:Nat}{bs bx:List Int}(hb:BxN nb bx) (h8:nb<=8) (hl:bs.length=7) (hr:∀x∈bs,0<=x/\x < 4294967296):BxN nb (bs.take nb++bx.drop 7):=by
 refine⟨by rw[List.length_append,List.length_take,List.length_drop,hl,hb.len];lia,fun x hx=> ?_⟩
 rcases List.mem_append.mp hx with hx | hx
 .exact hr x (List.mem_of_mem_take hx)
 .exact hb.rng x (List.mem_of_mem_drop hx)
theorem oC {C:Addr}(B:Bi mg) (c:dE K mg "Holding" C) (n:eR K C) (D:fr K C) (xw:bY P w K mg base 1 C "ask" Ca (Jt K C)) (uo:bY P w K mg base 3 C "reach" cM (Ep K C))
  (lI:Has P w K mg base 4 "made_value" Ar (K_ K)):bY P w K mg base 5 C "carry_out" cM (Ee K C):=by
 refine D.has c.cl io (fun vs H Q E h=> ?_) (fun f cdv A outer s H vs Q E hr h=> ?_)
 .obtain⟨nb,H0,o,a,dx,pl,rl,st,x,k,ns,rfl,_⟩:=h
  rfl
 obtain⟨nb,H0,o,a,dx,pl,rl,st,x,k,ns,rfl,ma,en,p17,nb0,nb8,hv,k0,k13,k14,k15,ha,hkl,hrl,q⟩:=h;obtain⟨bl,ml,rw,es,ho,hb,hm,hrw,o0,b0,m0,w0,nbw,nd,rows⟩:=ma.ex;have hk:=hv.lt;have hc:=c.cl;have n1:=n.boxes;have n2:=n.plan;have hrm:=en.rm.mv ma.same;have hbx:=ma.bxs;have hmo:=ma.mem;have i0:atI (aE k ns) 0=some (.str (aV k)):=mT;have nob:bl≠o:=by rintro rfl;rw[ho] at hb;cases hb
 have nom:ml≠o:=by rintro rfl;rw[ho] at hm;cases hm
 have now:rw≠o:=by rintro rfl;rw[ho] at hrw;cases hrw
 have nbm:bl≠ml:=by rintro rfl;rw[hb] at hm;cases hm
 have nmw:ml≠rw:=by rintro rfl;rw[hm] at hrw;cases hrw
 refine⟨_,(aa (psS 2 io.nd (pX ak (pv 1) ac))
   (aa (ax (pcT aD (pv 2) aw) (ae (ah (ck (xw.mono (by omega)) hr (pv 0) (pa1 (pX ak (pv 1) ac))))) al)
   (aa (aO (bq (ax (PW.pt (iF (pcT aD (pv 2) aw) (gf (pcT aD (pv 2) aw)))) (ae (ah (ck (uo.mono (by omega)) hr (pv 0) (pa1 (pv 1))))) al)))
   (aa (mi (pcH lI hr (pa3 (aP (pv 0) (by rfl)) (pv 1) (aP (pv 0) (by rfl)))) (wH (aP (pv 0) (by rfl)) (pX ak (pv 1) ac) oR))
   (ae (ah d5)))))),?_⟩
 try dsimp only[aT]
 walk_at "g";refine bz (fun c1=> ?_) (fun c1=> ?_)
 .have e:=seq hk (j:=18) (by decide) c1
  subst e;obtain⟨m,rfl⟩:=hv.gate;obtain⟨vs,hvs,hvl,hrep⟩:=en.reps;have hlen:=rows.len;have hre:=ma.same.seq hvs;have nrl:rl≠rw:=by
   obtain⟨u,hu⟩:=en.there;exact aj hu w0
  have i1:atI (aE 18 [m]) 1=some (.int m):=s_;have hrl2:((es.map (·.1)).map V.ref).length<=10000:=by rw[List.length_map,List.length_map];lia
  have hkl2:st.kvs.length<=10000:=by lia
  have elen:((es.map (·.1)).map V.ref).length=st.rows.length:=by rw[List.length_map,List.length_map];exact hlen
  have g1:x.pg<=m->∀q,H q=none->Q (.ref q) (upd H q (.tup [.str "lost"])):=fun hp qq hq=>by
   have es:ij x 18 [m] st=(some (("lost":Str),([]:List Int)),st):=by
    unfold ij;rw[if_pos rfl];exact if_pos hp
   rw[es] at q;exact q _ _ (ma.grow (ag hq _)) ⟨qq,rfl,ad⟩
  have g2:m < x.pg->vs.length<=((es.map (·.1)).map V.ref).length->∀q r H',Bu [rw] H H'->H q=none->H r=none->H' q=some (.tup [.str "asks",.int m])->H' rw=some (.lst ((es.map (·.1)).map V.ref++[.ref r]))->Ix H H' r m st.bx st.kvs->Q (.ref q) H':=fun hp hl qq r H' bu hq hr0 e1 e2 hrow=>by
   have hn:x.reps[st.rows.length]? =none:=List.getElem?_eq_none (by rw[elen] at hl;lia)
   have es':ij x 18 [m] st=(some (("asks":Str),[m]),{st with rows:=st.rows++[(m,st.bx,st.kvs)]}):=by
    unfold ij;rw[if_pos rfl];refine(if_neg (by show ¬x.pg<=m;lia)).trans ?_
    rw[hn]
    rfl
   rw[es'] at q;obtain⟨tt,dd,t0,d0,f1,f2,f3⟩:=hrow;have bu':∀b u,b≠rw->H b=some u->H' b=some u:=fun b u z e=>bu b u (by simpa using z) e
   refine q _ _ ⟨⟨bl,ml,rw,es++[(r,dd)],bu' _ _ (Ne.symm now) ho,bu' _ _ nbw hb,bu' _ _ nmw hm,by rw[List.map_append,List.map_append];exact e2,o0,b0,m0,w0,nbw,?_,?_⟩,fun b u e=>bu' b u (aj e w0) (ma.same b u e),ma.bxs,ma.mem⟩ ⟨qq,rfl,e1⟩
   .rw[List.map_append];exact vt nd (fun z=>by obtain⟨u,hu⟩:=rows.there _ z;rw[d0] at hu;cases hu)
   .exact fi.push (e:=(r,dd)) (x:=(m,st.bx,st.kvs)) ⟨none_of ma.same d0,(aj hm d0).symm,f3,tt,f1,f2⟩ (rows.mono (fun a' _ e=>bu' _ _ (by rintro rfl;rw[hrw] at e;cases e) e) (fun a' _ z1 z2 e=>⟨z1,bu' _ _ (by rintro rfl;rw[hrw] at e;cases e) e,z2⟩))
  have g3:m < x.pg->∀v,vs[((es.map (·.1)).map V.ref).length]? =some v->∃bs ws,Rep K H ml v bs ws/\∀bl' r H',Bu [o,bl,ml,rw] H H'->H bl'=none->H r=none->H' o=some (.ins C dx (hfs pl x.pg bl' ml rl rw))->H' bl'=some (.lst ((bs.take nb++st.bx.drop 7).map V.int))->
    H' ml=some (.dK (dN st.kvs ws))->H' rw=some (.lst ((es.map (·.1)).map V.ref++[.ref r]))->Ix H H' r m st.bx st.kvs->Q .non H':=fun hp v hvv=>by
   rw[elen] at hvv;have hix:st.rows.length < vs.length:=(List.getElem?_eq_some_iff.mp hvv).1;have hl3:st.rows.length < x.reps.length:=by lia
   obtain⟨⟨bs,ws⟩,hbw⟩:∃y,x.reps[st.rows.length]? =some y:=⟨_,List.getElem?_eq_getElem hl3⟩;have hrr:=hrep st.rows.length v bs ws hvv hbw ml m0;refine⟨bs,ws,hrr.mv ma.same,fun bl' r H' bu hbl hr0 f1 f2 f3 f4 hrow=> ?_⟩
   have es':ij x 18 [m] st=(none,⟨bs.take nb++st.bx.drop 7,dN st.kvs ws,st.rows++[(m,st.bx,st.kvs)]⟩):=by
    unfold ij;rw[if_pos rfl];refine(if_neg (by show ¬x.pg<=m;lia)).trans ?_
    rw[hbw,hbx.len]
    rfl
   rw[es'] at q;obtain⟨tt,dd,t0,d0,i1,i2,i3⟩:=hrow;have bu':∀b u,b≠o->b≠bl->b≠ml->b≠rw->H b=some u->H' b=some u:=fun b u z1 z2 z3 z4 e=>bu b u (by simp [z1,z2,z3,z4]) e
   refine q _ _ ⟨⟨bl',ml,rw,es++[(r,dd)],f1,f2,f3,by rw[List.map_append,List.map_append];exact f4,o0,none_of ma.same hbl,m0,w0,(aj hrw hbl).symm,?_,?_⟩,fun b u e=>bu' b u (aj e o0) (aj e b0) (aj e m0) (aj e w0) (ma.same b u e),C8 hbx nb8 hrr.len hrr.rng,Fz ma.mem hrr.mem⟩ rfl
   .rw[List.map_append];exact vt nd (fun z=>by obtain⟨u,hu⟩:=rows.there _ z;rw[d0] at hu;cases hu)
   .exact fi.push (e:=(r,dd)) (x:=(m,st.bx,st.kvs)) ⟨none_of ma.same d0,(aj hm d0).symm,i3,tt,i1,i2⟩ (rows.mono (fun a' _ e=>bu' _ _ (by rintro rfl;rw[ho] at e;cases e) (by rintro rfl;rw[hb] at e;cases e) (by rintro rfl;rw[hm] at e;cases e) (by rintro rfl;rw[hrw] at e;cases e) e) (fun a' _ z1 z2 e=>⟨z1,bu' _ _ (by rintro rfl;rw[ho] at e;cases e) (by rintro rfl;rw[hb] at e;cases e) z2 (by rintro rfl;rw[hrw] at e;cases e) e,z2⟩))
  walk_at "g";exact g3
 have k18:k≠18:=fun e=>c1 (by rw[e];rfl)
 walk_at "n";refine⟨fun Z' H'=>aG (H=H'/\Z'=[some (.ref o),some (.ref a),some (.str (aV k))]/\k≠11/\k≠12),?_,?_⟩
 .by_cases k11:k=11\/k=12
  .have hkl2:st.kvs.length<=10000:=by lia
   have es':ij x k ns st=if InR x.pk x.pb (bg ns st.bx) then(if k=11 then(none,{st with bx:=st.bx.set (ns.getD 0 0).toNat (vP st.kvs (bg ns st.bx))}) else(none,{st with kvs:=cx st.kvs (.inl (bg ns st.bx)) (.int (bxG st.bx (ns.getD 0 0)))})) else(some (("beyond":Str),[bg ns st.bx]),st):=by
    unfold ij;rw[if_neg k18,if_pos k11]
   obtain⟨y,hy,y0,y1⟩:∃y,ns.getD 0 0=y/\0<=y/\y < nb:=by
    rcases hv with⟨rfl,rfl⟩|⟨rfl,x,v,rfl,x0,x1,v0,v1⟩|⟨h1,h2,x,y,z,rfl,x0,x1,y0,y1,z0,z1⟩|⟨h1,h2,x,y,z,rfl,x0,x1,y0,y1,z0,z1⟩|⟨hk,z,rfl,z0,z1⟩|⟨rfl,x,z,rfl,x0,x1,z0,z1⟩|⟨rfl,y,rfl,y0,y1⟩|⟨hk,x,y,rfl,x0,x1,y0,y1⟩
    all_goals first | lia | exact⟨_,rfl,x0,x1⟩
   have p1:¬InR x.pk x.pb (bg ns st.bx)->∀q,H q=none->Q (.ref q) (upd H q (.tup [.str "beyond",.int (bg ns st.bx)])):=fun hn qq hq=>by
    rw[es',if_neg hn] at q;exact q _ _ (ma.grow (ag hq _)) ⟨qq,rfl,ad⟩
   have p2:InR x.pk x.pb (bg ns st.bx)->k=11->Q .non (upd H bl (.lst ((st.bx.set (ns.getD 0 0).toNat (vP st.kvs (bg ns st.bx))).map V.int))):=fun hi e11=>by
    rw[es',if_pos hi,if_pos e11] at q;obtain⟨_,g2,g3⟩:=ma.mem.get (bg ns st.bx);exact q _ _ ⟨⟨bl,ml,rw,es,by rw[ai (Ne.symm nob)];exact ho,ad,by rw[ai (Ne.symm nbm)];exact hm,by rw[ai (Ne.symm nbw)];exact hrw,o0,b0,m0,w0,nbw,nd,rows.mono (fun a' _ e=>by rw[ai (fun z=>by rw[z,hb] at e;cases e)];exact e) (fun a' _ z1 z2 e=>⟨z1,by rw[ai (fun z=>by rw[z,hb] at e;cases e)];exact e,z2⟩)⟩,cr b0 ma.same,ma.bxs.set g2 g3,ma.mem⟩ rfl
   have p3:InR x.pk x.pb (bg ns st.bx)->k=12->Q .non (upd H ml (.dK (cx st.kvs (.inl (bg ns st.bx)) (.int (bxG st.bx (ns.getD 0 0)))))):=fun hi e12=>by
    rw[es',if_pos hi,if_neg (by lia)] at q
    rw[hy] at q ⊢;obtain⟨_,g2,g3⟩:=ma.bxs.at y0 y1;exact q _ _ ⟨⟨bl,ml,rw,es,by rw[ai (Ne.symm nom)];exact ho,by rw[ai nbm];exact hb,ad,by rw[ai (Ne.symm nmw)];exact hrw,o0,b0,m0,w0,nbw,nd,rows.mono (fun a' _ e=>by rw[ai (fun z=>by rw[z,hm] at e;cases e)];exact e) (fun a' _ z1 z2 e=>⟨z1,by rw[ai z2];exact e,z2⟩)⟩,cr m0 ma.same,ma.bxs,ma.mem.put g2 g3⟩ rfl
   have k11':=k11;rcases k11 with rfl | rfl
   .walk_at "g";walk_at "wd";exact p3
   .walk_at "g";walk_at "wd";exact p3
  .have a11:k≠11:=fun e=>k11 (.inl e)
   have a12:k≠12:=fun e=>k11 (.inr e)
   walk_at "g";refine cA (sne hk (j:=11) (by decide) a11) ?_
   walk_at "g";refine cA (sne hk (j:=12) (by decide) a12) ?_
   exact⟨rfl,rfl,a11,a12⟩
 rintro Z1 H1 ⟨rfl,rfl,k11,k12⟩
 have hm':makes k:=by unfold makes;lia
 obtain⟨bi,r,ens,bi0,bi1⟩:=hv.box hm';have es':ij x k ns st=(none,{st with bx:=st.bx.set (ns.getD 0 0).toNat (jE x.pk x.pb x.pm x.ps k ns st.bx)}):=by
  unfold ij;rw[if_neg k18,if_neg (by lia)]
 rw[es'] at q;have i1:atI (aE k ns) 1=some (.int bi):=by rw[ens];exact s_
 have hix:ixN (st.bx.map V.int).length bi=some bi.toNat:=by
  have ek:bi=((bi.toNat:Nat):Int):=by lia
  rw[ek,List.length_map,hbx.len];exact Eu (by lia)
 have e0:ns.getD 0 0=bi:=by rw[ens];rfl
 have p17':k=17->∃pg,Pl H pl x.pk x.pb x.pm x.ps pg:=fun e=>let ⟨pg,h⟩:=p17 e;⟨pg,h.mv ma.same⟩
 have ms:k=17->x.pm+x.ps<=7:=fun e=>let ⟨pg,h⟩:=p17 e;h.ms
 walk_at "g";rw[<- List.map_set];rw[e0] at q;obtain⟨v0,v1⟩:=vN hv hm' hbx en.rm.room ms;exact q _ _ ⟨⟨bl,ml,rw,es,by rw[ai (Ne.symm nob)];exact ho,ad,by rw[ai (Ne.symm nbm)];exact hm,by rw[ai (Ne.symm nbw)];exact hrw,o0,b0,m0,w0,nbw,nd,rows.mono (fun a' _ e=>by rw[ai (fun z=>by rw[z,hb] at e;cases e)];exact e) (fun a' _ z1 z2 e=>⟨z1,by rw[ai (fun z=>by rw[z,hb] at e;cases e)];exact e,z2⟩)⟩,cr b0 ma.same,ma.bxs.set v0 v1,ma.mem⟩ rfl
def DE (K:Frag) (C:Addr):Sp:=fun vs H Q _=>∃(nb:Nat) (H0:Hp) (o dx pl bt md rl:Addr) (g:Int) (bx:List Int) (kvs:List (Key × V)),vs=[.ref o,.ref pl,.int g,.ref bt,.ref md,.ref rl]/\H o=some (.ins C dx [])/\H0 o=none/\az H0 H/\
 SqT K H0 bt (bx.map V.int)/\H0 md=some (.dK kvs)/\BxN nb bx/\dq kvs/\∀H',HoH C nb H0 H' o dx pl rl g ⟨bx,kvs,[]⟩->Q .non H'
theorem o_ {C:Addr}(B:Bi mg) (c:dE K mg "Holding" C) (n:eR K C) (D:fQ K C):bY P w K mg base 1 C "__init__" Ap (DE K C):=by
 refine D.has c.cl pz (fun vs H Q E h=> ?_) (fun f cdv A outer s H vs Q E hr h=> ?_)
 .obtain⟨nb,H0,o,dx,pl,bt,md,rl,g,bx,kvs,rfl,_⟩:=h
  rfl
 obtain⟨nb,H0,o,dx,pl,bt,md,rl,g,bx,kvs,rfl,ho,o0,sm,hbt,hmd,hbx,hmo,q⟩:=h;have hc:=c.cl;have n1:=n.plan;have n2:=n.gates;have n4:=n.boxes;have n5:=n.memory;have n6:=n.replies;have n7:=n.rows
 refine⟨_,(aa (bU (pv 0) (pv 1) (by rfl))
   (aa (bU (pv 0) (pv 2) (by rfl))
   (aa (bU (pv 0) (bN ln (by rfl) B.list Ab (pa1 (pv 3))) (by rfl))
   (aa (bU (pv 0) (bN rK (by rfl) B.dict ED (pa1 (pv 4))) (by rfl))
   (aa (bU (pv 0) (pv 5) (by rfl))
   (ae (bU (pv 0) (cw gU) (by rfl)))))))),?_⟩
 try dsimp only[aT]
 have s3:az H0 (upd (upd H o (.ins C dx (bG "plan" (.ref pl) []))) o (.ins C dx (bG "gates" (.int g) (bG "plan" (.ref pl) [])))):=cr o0 (cr o0 sm);have ho3:upd (upd H o (.ins C dx (bG "plan" (.ref pl) []))) o (.ins C dx (bG "gates" (.int g) (bG "plan" (.ref pl) []))) o=some (.ins C dx [("plan",.ref pl),("gates",.int g)]):=ad;walk_at "g";intro bl hbl;generalize upd (upd H o (.ins C dx (bG "plan" (.ref pl) []))) o (.ins C dx (bG "gates" (.int g) (bG "plan" (.ref pl) [])))=H3 at*;have ho4:=bh (o:= .lst (bx.map V.int)) hbl ho3;have hb4:upd H3 bl (.lst (bx.map V.int)) bl=some (.lst (bx.map V.int)):=ad;have s4:=bM (o:= .lst (bx.map V.int)) hbl s3;have bl0:H0 bl=none:=none_of s3 hbl;have nob:bl≠o:=(aj ho3 hbl).symm;generalize upd H3 bl (.lst (bx.map V.int))=H4 at*;have s5:az H0 (upd H4 o (.ins C dx (bG "boxes" (.ref bl) [("plan",.ref pl),("gates",.int g)]))):=cr o0 s4;have ho5:upd H4 o (.ins C dx (bG "boxes" (.ref bl) [("plan",.ref pl),("gates",.int g)])) o=some (.ins C dx [("plan",.ref pl),("gates",.int g),("boxes",.ref bl)]):=ad;have hb5:upd H4 o (.ins C dx (bG "boxes" (.ref bl) [("plan",.ref pl),("gates",.int g)])) bl=some (.lst (bx.map V.int)):=by rw[ai nob];exact hb4
 have hmd5:=s5 _ _ hmd;walk_at "g";generalize upd H4 o (.ins C dx (bG "boxes" (.ref bl) [("plan",.ref pl),("gates",.int g)]))=H5 at*;intro ml hml;have ho6:=bh (o:= .dK kvs) hml ho5;have hb6:=bh (o:= .dK kvs) hml hb5;have hm6:upd H5 ml (.dK kvs) ml=some (.dK kvs):=ad;have s6:=bM (o:= .dK kvs) hml s5;have ml0:H0 ml=none:=none_of s5 hml;have nom:ml≠o:=(aj ho5 hml).symm;generalize upd H5 ml (.dK kvs)=H6 at*;walk_at "g";intro rw hrw;have ho8:upd (upd H6 o (.ins C dx (bG "memory" (.ref ml) [("plan",.ref pl),("gates",.int g),("boxes",.ref bl)]))) o (.ins C dx (bG "replies" (.ref rl) (bG "memory" (.ref ml) [("plan",.ref pl),("gates",.int g),("boxes",.ref bl)]))) o=some (.ins C dx [("plan",.ref pl),("gates",.int g),("boxes",.ref bl),("memory",.ref ml),("replies",.ref rl)]):=ad;have s8:az H0 (upd (upd H6 o (.ins C dx (bG "memory" (.ref ml) [("plan",.ref pl),("gates",.int g),("boxes",.ref bl)]))) o (.ins C dx (bG "replies" (.ref rl) (bG "memory" (.ref ml) [("plan",.ref pl),("gates",.int g),("boxes",.ref bl)])))):=cr o0 (cr o0 s6);have hb8:upd (upd H6 o (.ins C dx (bG "memory" (.ref ml) [("plan",.ref pl),("gates",.int g),("boxes",.ref bl)]))) o (.ins C dx (bG "replies" (.ref rl) (bG "memory" (.ref ml) [("plan",.ref pl),("gates",.int g),("boxes",.ref bl)]))) bl=some (.lst (bx.map V.int)):=by rw[ai nob,ai nob];exact hb6
 have hm8:upd (upd H6 o (.ins C dx (bG "memory" (.ref ml) [("plan",.ref pl),("gates",.int g),("boxes",.ref bl)]))) o (.ins C dx (bG "replies" (.ref rl) (bG "memory" (.ref ml) [("plan",.ref pl),("gates",.int g),("boxes",.ref bl)]))) ml=some (.dK kvs):=by rw[ai nom,ai nom];exact hm6
 generalize upd (upd H6 o (.ins C dx (bG "memory" (.ref ml) [("plan",.ref pl),("gates",.int g),("boxes",.ref bl)]))) o (.ins C dx (bG "replies" (.ref rl) (bG "memory" (.ref ml) [("plan",.ref pl),("gates",.int g),("boxes",.ref bl)])))=H8 at*;have ho9:=bh (o:= .lst []) hrw ho8;have hb9:=bh (o:= .lst []) hrw hb8;have hm9:=bh (o:= .lst []) hrw hm8;have hw9:upd H8 rw (.lst []) rw=some (.lst []):=ad;have s9:=bM (o:= .lst []) hrw s8;have rw0:H0 rw=none:=none_of s8 hrw;have now:rw≠o:=(aj ho8 hrw).symm;have nbw:bl≠rw:=aj hb8 hrw;generalize upd H8 rw (.lst [])=H9 at*;walk_at "g";refine q _ ⟨⟨bl,ml,rw,[],ad,?_,?_,?_,o0,bl0,ml0,rw0,nbw,List.nodup_nil,True.intro⟩,cr o0 s9,hbx,hmo⟩
 .rw[ai nob];exact hb9
 .rw[ai nom];exact hm9
 .rw[ai now];exact hw9
structure MSt where
 p:Int
 bx:List Int
 kvs:List (Key × V)
 rows:List (Int × List Int × List (Key × V))
def dU (x:Fx) (k:Nat) (ns:List Int) (st:MSt):Option (Str × List Int) × MSt:=
 if k=0 then(some ("stopped",[]),st)
 else if k=18 then
  if x.pg<=ns.getD 0 0 then(some ("lost",[]),st)
  else match x.reps[st.rows.length]? with
   | none=>(some ("asks",[ns.getD 0 0]),{st with rows:=st.rows++[(ns.getD 0 0,st.bx,st.kvs)]})
   | some (bs,ws)=>(none,⟨st.p+1,bs++[bxG st.bx 7],dN st.kvs ws,st.rows++[(ns.getD 0 0,st.bx,st.kvs)]⟩)
 else if k=11\/k=12 then
  if InR x.pk x.pb (bg ns st.bx) then
   if k=11 then(none,{st with p:=st.p+1,bx:=st.bx.set (ns.getD 0 0).toNat (vP st.kvs (bg ns st.bx))})
   else(none,{st with p:=st.p+1,kvs:=cx st.kvs (.inl (bg ns st.bx)) (.int (bxG st.bx (ns.getD 0 0)))})
  else(some ("beyond",[bg ns st.bx]),st)
 else if k=13\/k=14\/k=15 then(none,{st with p:=pD k ns st.bx st.p})
 else(none,{st with p:=st.p+(if k=1 then 2 else 1),bx:=st.bx.set (ns.getD 0 0).toNat (jE x.pk x.pb x.pm x.ps k ns st.bx)})
structure En (K:Frag) (H0:Hp) (pl rl:Addr) (x:Fx):Prop where
 plan:Pl H0 pl x.pk x.pb x.pm x.ps x.pg
 there:∃u,H0 rl=some u
 reps:∃vs:List V,SqL K H0 rl vs/\vs.length=x.reps.length/\∀(i:Nat) (v:V) (bs:List Int) (ws:List (Key × V)),vs[i]? =some v->x.reps[i]? =some (bs,ws)->(∀ ml,H0 ml=none->Rep K H0 ml v bs ws)
theorem En.h {H0:Hp}{pl rl:Addr}{x:Fx}(h:En K H0 pl rl x):EnH K H0 pl rl x:=⟨h.plan.rm,h.there,h.reps⟩
def MSt.h (st:MSt):HSt:=⟨st.bx,st.kvs,st.rows⟩
theorem HI {x:Fx}{k:Nat}{ns:List Int}{st:MSt}(hb:Bxs st.bx) (hx:∀y∈x.reps,y.1.length=7) (k0:k≠0) (k13:k≠13) (k14:k≠14) (k15:k≠15):
  (dU x k ns st).1=(ij x k ns st.h).1/\(dU x k ns st).2.h=(ij x k ns st.h).2/\(dU x k ns st).2.p=(match (ij x k ns st.h).1 with | none=>st.p+(if k=1 then 2 else 1) | some _=>st.p):=by
 unfold dU ij;rw[if_neg k0]
 by_cases k18:k=18
 .subst k18;rw[if_pos rfl,if_pos rfl]
  by_cases hp:x.pg<=ns.getD 0 0
  .rw[if_pos hp,if_pos hp];exact⟨rfl,rfl,rfl⟩
  .rw[if_neg hp,if_neg hp];show _/\_/\_
   cases e:x.reps[st.rows.length]? with
   | none=>
    have e':x.reps[st.h.rows.length]? =none:=e;rw[e'];exact⟨rfl,rfl,rfl⟩
   | some bw=>
    obtain⟨bs,ws⟩:=bw;have e':x.reps[st.h.rows.length]? =some (bs,ws):=e;rw[e'];refine⟨rfl,?_,rfl⟩
    have hl:bs.length=7:=hx _ (List.mem_of_getElem? e);have e7:bs.take st.h.bx.length++st.h.bx.drop 7=bs++[bxG st.bx 7]:=by
     have h8:st.h.bx.length=8:=hb.len;rw[h8,List.take_of_length_le (by lia)]
     congr 1
     have:st.bx.length=8:=hb.len;show st.bx.drop 7=[st.bx.getD 7 0]
     rw[List.drop_eq_getElem_cons (by lia),List.drop_eq_nil_of_le (by lia),List.getD_eq_getElem?_getD,List.getElem?_eq_getElem (by lia)]
     rfl
    show HSt.mk (bs++[bxG st.bx 7]) _ _=HSt.mk (bs.take st.h.bx.length++st.h.bx.drop 7) _ _
    rw[e7]
    rfl
 .rw[if_neg k18,if_neg k18]
  by_cases k11:k=11\/k=12
  .rw[if_pos k11,if_pos k11];have k1:k≠1:=by lia
   by_cases hi:InR x.pk x.pb (bg ns st.bx)
   .have hi':InR x.pk x.pb (bg ns st.h.bx):=hi;rw[if_pos hi,if_pos hi']
    by_cases e11:k=11
    .rw[if_pos e11,if_pos e11];exact⟨rfl,rfl,by rw[if_neg k1]⟩
    .rw[if_neg e11,if_neg e11];exact⟨rfl,rfl,by rw[if_neg k1]⟩
   .have hi':¬InR x.pk x.pb (bg ns st.h.bx):=hi;rw[if_neg hi,if_neg hi'];exact⟨rfl,rfl,rfl⟩
  .rw[if_neg k11,if_neg k11,if_neg (by lia)]
   exact⟨rfl,rfl,rfl⟩
abbrev mfs (cd:Addr) (p:Int) (o:Addr) (t:Int):List (Str × V):=[("code",.ref cd),("place",.int p),("holding",.ref o),("turns",.int t)]
structure MaH (C C2:Addr) (H0 H:Hp) (m dm cd o dx pl rl:Addr) (g:Int) (st:MSt) (t:Int):Prop where
 ex:∃Hm,az H0 Hm/\H0 m=none/\Hm m=some (.ins C2 dm (mfs cd st.p o t))/\HoH C 8 Hm H o dx pl rl g st.h
theorem MaH.same {C C2:Addr}{H0 H:Hp}{m dm cd o dx pl rl:Addr}{g:Int}{st:MSt}{t:Int}(h:MaH C C2 H0 H m dm cd o dx pl rl g st t):az H0 H:=let ⟨_,a,_,_,d⟩:=h.ex;a.trans d.same
theorem MaH.bxs {C C2:Addr}{H0 H:Hp}{m dm cd o dx pl rl:Addr}{g:Int}{st:MSt}{t:Int}(h:MaH C C2 H0 H m dm cd o dx pl rl g st t):Bxs st.bx:=let ⟨_,_,_,_,d⟩:=h.ex;d.bxs
theorem MaH.mem {C C2:Addr}{H0 H:Hp}{m dm cd o dx pl rl:Addr}{g:Int}{st:MSt}{t:Int}(h:MaH C C2 H0 H m dm cd o dx pl rl g st t):dq st.kvs:=let ⟨_,_,_,_,d⟩:=h.ex;d.mem
theorem MaH.at {C C2:Addr}{H0 H:Hp}{m dm cd o dx pl rl:Addr}{g:Int}{st:MSt}{t:Int}(h:MaH C C2 H0 H m dm cd o dx pl rl g st t):H m=some (.ins C2 dm (mfs cd st.p o t)):=let ⟨_,_,_,c,d⟩:=h.ex;d.same _ _ c
theorem MaH.grow {C C2:Addr}{H0 H H':Hp}{m dm cd o dx pl rl:Addr}{g:Int}{st:MSt}{t:Int}(h:MaH C C2 H0 H m dm cd o dx pl rl g st t) (e:az H H'):MaH C C2 H0 H' m dm cd o dx pl rl g st t:=let ⟨Hm,a,b,c,d⟩:=h.ex;⟨Hm,a,b,c,d.grow e⟩
theorem MaH.put {C C2:Addr}{H0 H:Hp}{m dm cd o dx pl rl:Addr}{g:Int}{st:MSt}{t:Int}(h:MaH C C2 H0 H m dm cd o dx pl rl g st t) (p' t':Int):MaH C C2 H0 (upd H m (.ins C2 dm (mfs cd p' o t'))) m dm cd o dx pl rl g {st with p:=p'} t':=by
 obtain⟨Hm,a,b,c,d⟩:=h.ex;exact⟨_,cr b a,b,ad,d.write _ c (fun _ z=>by cases z)⟩
def Lp (K:Frag) (C C2:Addr):Sp:=fun vs H Q _=>∃(m a dm cd o dx pl bl ml rl rw:Addr) (p t g:Int) (k:Nat) (ns bx:List Int),vs=[.ref m,.ref a]/\H m=some (.ins C2 dm (mfs cd p o t))/\H o=some (.ins C dx (hfs pl g bl ml rl rw))/\
 aK 8 262144 k ns/\(k=13\/k=14\/k=15)/\SqT K H a (aE k ns)/\H bl=some (.lst (bx.map V.int))/\Bxs bx/\Q (.int (pD k ns bx p)) H
theorem mj {C C2:Addr}(B:Bi mg) (cH:dE K mg "Holding" C) (nH:eR K C) (c:dE K mg "Machine" C2) (n:gB K C2) (D:d_ K C2):bY P w K mg base 1 C2 "place_ahead" cM (Lp K C C2):=by
 refine D.has c.cl gj (fun vs H Q E h=> ?_) (fun f cdv A outer s H vs Q E hr h=> ?_)
 .obtain⟨m,a,dm,cd,o,dx,pl,bl,ml,rl,rw,p,t,g,k,ns,bx,rfl,_⟩:=h
  rfl
 obtain⟨m,a,dm,cd,o,dx,pl,bl,ml,rl,rw,p,t,g,k,ns,bx,rfl,hmm,ho,hv,hm,ha,hb,hbx,q⟩:=h;have hc:=c.cl;have hcH:=cH.cl;have n1:=n.holding;have n2:=n.place;have n3:=nH.boxes;have i0:atI (aE k ns) 0=some (.str (aV k)):=mT
 refine⟨_,(aa (ax (pcT aD (pX ak (pv 1) ac) aw) (ae (ah (pX ak (pv 1) ac))) al)
   (aa (psS 2 gj.nd (pX bF (aP (aP (pv 0) (by rfl)) (by rfl)) (pX ak (pv 1) ac)))
   (aa (ax (pcT aD (pX ak (pv 1) ac) aw) (ae (ah (pv 2))) al)
   (ae (ah (vS (pcT ug (pv 2) ac) (pX ak (pv 1) ac) (av aU (aP (pv 0) (by rfl)) ac))))))),?_⟩
 try dsimp only[aT]
 rcases hv with⟨rfl,rfl⟩|⟨rfl,x,v,rfl,x0,x1,v0,v1⟩|⟨h1,h2,x,y,z,rfl,x0,x1,y0,y1,z0,z1⟩|⟨h1,h2,x,y,z,rfl,x0,x1,y0,y1,z0,z1⟩|⟨hk,z,rfl,z0,z1⟩|⟨rfl,x,z,rfl,x0,x1,z0,z1⟩|⟨rfl,y,rfl,y0,y1⟩|⟨hk,x,y,rfl,x0,x1,y0,y1⟩
 .lia
 .lia
 .lia
 .lia
 .have e:k=13:=by lia
  subst e;have i1:atI (aE 13 [z]) 1=some (.int z):=s_;walk_at "g";walk_at "wd";exact q
 .obtain⟨b1,b2,b3⟩:=hbx.at x0 x1;have i1:atI (aE 14 [x,z]) 1=some (.int x):=s_;have i2:atI (aE 14 [x,z]) 2=some (.int z):=pi;walk_at "g";walk_at "wd"
  by_cases cz:bxG bx x=0
  .have e:pD 14 [x,z] bx p=p+1:=by
    unfold pD;rw[if_neg (by decide),if_neg (by decide),if_neg (fun h=>h cz)]
   rw[e] at q;refine DD (by rw[cz]) ?_
   walk_at "g";exact q
  .have e:pD 14 [x,z] bx p=z:=by
    unfold pD;rw[if_neg (by decide),if_neg (by decide)]
    exact if_pos cz
   rw[e] at q;rw[decide_eq_false (fun h=>cz (by injection h))]
   walk_at "g";exact q
 .obtain⟨b1,b2,b3⟩:=hbx.at y0 y1;have i1:atI (aE 15 [y]) 1=some (.int y):=s_;walk_at "g";walk_at "wd";exact q
 .lia
def Lq (K:Frag) (C C2:Addr):Sp:=fun vs H Q _=>∃(H0:Hp) (m a dm cd o dx pl rl:Addr) (st:MSt) (t:Int) (x:Fx) (k:Nat) (ns:List Int),vs=[.ref m,.ref a]/\MaH C C2 H0 H m dm cd o dx pl rl x.pg st t/\En K H0 pl rl x/\aK 8 262144 k ns/\SqT K H a (aE k ns)/\st.kvs.length<=9000/\st.rows.length<=9000/\
 ∀v H',MaH C C2 H0 H' m dm cd o dx pl rl x.pg (dU x k ns st).2 t->B_ H' (dU x k ns st).1 v->Q v H'
theorem xJ {C C2:Addr}(B:Bi mg) (cH:dE K mg "Holding" C) (nH:eR K C) (c:dE K mg "Machine" C2) (n:gB K C2) (D:lM K C2) (bf:Has P w K mg base 1 "length_of" cS (EL K)) (ph:bY P w K mg base 5 C "carry_out" cM (Ee K C))
  (mM:bY P w K mg base 1 C2 "place_ahead" cM (Lp K C C2)):bY P w K mg base 6 C2 "do" cM (Lq K C C2):=by
 refine D.has c.cl kd (fun vs H Q E h=> ?_) (fun f cdv A outer s H vs Q E hr h=> ?_)
 .obtain⟨H0,m,a,dm,cd,o,dx,pl,rl,st,t,x,k,ns,rfl,_⟩:=h
  rfl
 obtain⟨H0,m,a,dm,cd,o,dx,pl,rl,st,t,x,k,ns,rfl,ma,en,hv,ha,hkl,hrl,q⟩:=h;have hk:=hv.lt;have hc:=c.cl;have hcH:=cH.cl;have n1:=n.holding;have n2:=n.place;have hmm:=ma.at;have i0:atI (aE k ns) 0=some (.str (aV k)):=mT
 refine⟨_,(aa (psS 2 kd.nd (pX ak (pv 1) ac))
   (aa (ax (pcT aD (pv 2) aw) (ae (ah (aA (pa1 aw)))) al)
   (aa (aO (bq (ax (PW.pt (iF (pcT aD (pv 2) aw) (iF (pcT aD (pv 2) aw) (gf (pcT aD (pv 2) aw))))) (aa (bU (pv 0) (ck (mM.mono (by omega)) hr (pv 0) (pa1 (pv 1))) (by rfl))
   (ae (ah d5))) al)))
   (aa (psS 3 kd.nd (ck (ph.mono (by omega)) hr (aP (pv 0) (by rfl)) (pa1 (pv 1))))
   (aa (aO (bq (ax (lZ (qD (pv 3))) (ae (bU (pv 0) (av aU (aP (pv 0) (by rfl)) (pcH bf hr (pa1 (pv 1)))) (by rfl))) al)))
   (ae (ah (pv 3)))))))),?_⟩
 try dsimp only[aT]
 walk_at "g";refine bz (fun c0=> ?_) (fun c0=> ?_)
 .have e:=seq hk (j:=0) (by decide) c0
  subst e;have es:dU x 0 ns st=(some (("stopped":Str),([]:List Int)),st):=if_pos rfl;rw[es] at q;walk_at "g";intro qq hq;exact q _ _ (ma.grow (ag hq _)) ⟨qq,rfl,ad⟩
 have k0:k≠0:=fun e=>c0 (by rw[e];rfl)
 walk_at "n";refine⟨fun Z' H'=>aG (H=H'/\Z'=[some (.ref m),some (.ref a),some (.str (aV k)),none]/\k≠13/\k≠14/\k≠15),?_,?_⟩
 .by_cases kj:k=13\/k=14\/k=15
  .obtain⟨Hm,s0,m0,hmm',hh⟩:=ma.ex;obtain⟨bl,ml,rw,es,ho,hb,hm,hrw,o0,b0,m1,w0,nbw,nd,rows⟩:=hh.ex;have hbx:=ma.bxs;have es':dU x k ns st=(none,{st with p:=pD k ns st.bx st.p}):=by
    unfold dU;rw[if_neg k0,if_neg (by lia),if_neg (by lia),if_pos kj]
   rw[es'] at q;have hb':H bl=some (.lst (st.bx.map V.int)):=hb;have fin:Q .non (upd H m (.ins C2 dm (mfs cd (pD k ns st.bx st.p) o t))):=q _ _ (ma.put _ _) rfl;clear hb;rcases kj with rfl | rfl | rfl
   .walk_at "g";walk_at "wd";exact fin
   .walk_at "g";walk_at "wd";exact fin
   .walk_at "g";walk_at "wd";exact fin
  .have a13:k≠13:=fun e=>kj (.inl e)
   have a14:k≠14:=fun e=>kj (.inr (.inl e))
   have a15:k≠15:=fun e=>kj (.inr (.inr e))
   walk_at "g";refine cA (sne hk (j:=13) (by decide) a13) ?_
   walk_at "g";refine cA (sne hk (j:=14) (by decide) a14) ?_
   walk_at "g";refine cA (sne hk (j:=15) (by decide) a15) ?_
   exact⟨rfl,rfl,a13,a14,a15⟩
 rintro Z2 H2 ⟨rfl,rfl,k13,k14,k15⟩
 obtain⟨Hm,s0,m0,hmm',hh0⟩:=ma.ex;obtain⟨H1,hh,s1,ha1⟩:=hh0.takeT ha;clear hh0;have hmm1:=s1 _ _ hmm';have enh:=en.h.mv (s0.trans s1);have p17:k=17->∃pg,Pl H1 pl x.pk x.pb x.pm x.ps pg:=fun _=>⟨_,en.plan.mv (s0.trans s1)⟩
 have h7:∀y∈x.reps,y.1.length=7:=fun y hy=>by
  obtain⟨vs,e1,e2,e3⟩:=en.reps;obtain⟨i,hi,ey⟩:=List.mem_iff_getElem.mp hy;have hi2:i < vs.length:=by lia
  exact(e3 i _ y.1 y.2 (List.getElem?_eq_getElem hi2) (by rw[List.getElem?_eq_getElem hi,ey]) m m0).len
 obtain⟨e1,e2,e3⟩:=HI (ns:=ns) ma.bxs h7 k0 k13 k14 k15;have z08:0 < 8:=by decide
 have z88:8<=8:=by decide
 have hkl':st.h.kvs.length<=9000:=hkl;have hrl':st.h.rows.length<=9000:=hrl;obtain⟨bl,ml,rw,es,ho,hx⟩:=hh.ex;clear hx;walk_at "g";intro v H' hh' ev;have hm3:=hh'.same _ _ hmm1;have ha3:=hh'.same.tup ha1
 cases hst:(ij x k ns st.h).1 with
 | none=>
  rw[hst] at ev e1 e3;have hvn:v= .non:=ev;subst hvn;walk_at "g";refine⟨fun Z' H3=>aG (H3=upd H' m (.ins C2 dm (mfs cd (st.p+(if k=1 then 2 else 1)) o t))/\Z'=[some (.ref m),some (.ref a),some (.str (aV k)),some .non]),?_,?_⟩
  .walk_at "g";exact⟨rfl,rfl⟩
  rintro Z3 H3 ⟨rfl,rfl⟩
  walk_at "g";refine q _ _ ⟨⟨upd H1 m (.ins C2 dm (mfs cd (st.p+(if k=1 then 2 else 1)) o t)),cr m0 (s0.trans s1),m0,ad.trans ?_,?_⟩⟩ (by rw[e1];rfl)
  .rw[e3]
  .rw[e2];exact hh'.write _ hmm1 (fun _ z=>by cases z)
 | some ee=>
  rw[hst] at ev e1 e3;obtain⟨q3,rfl,hq3⟩:=ev;walk_at "g";refine⟨fun Z' H3=>aG (H3=H'/\Z'=[some (.ref m),some (.ref a),some (.str (aV k)),some (.ref q3)]),?_,?_⟩
  .walk_at "g";exact⟨rfl,rfl⟩
  rintro Z3 H3 ⟨rfl,rfl⟩
  walk_at "g";refine q _ _ ⟨⟨H1,s0.trans s1,m0,?_,?_⟩⟩ (by rw[e1];exact⟨q3,rfl,hq3⟩)
  .rw[e3];exact hmm1
  .rw[e2];exact hh'
def dD (x:Fx) (ws:List Int):Nat->MSt->Int->(Str × List Int) × MSt × Int
 | 0,st,t=>match ic ws st.p with
  | none=>(("lost",[]),st,t)
  | some _=>(("spent",[]),st,t)
 | n+1,st,t=>match ic ws st.p with
  | none=>(("lost",[]),st,t)
  | some (k,ns)=>match dU x k ns st with
   | (some e,st')=>(e,st',t+1)
   | (none,st')=>dD x ws n st' (t+1)
structure BdS (x:Fx) (st:MSt) (t:Int):Prop where
 r:st.rows.length<=x.reps.length
 m:(st.kvs.length:Int)<=2000+t+100*(st.rows.length:Int)
structure Hi (x:Fx):Prop where
 few:x.reps.length<=20
 wr:∀y∈x.reps,y.2.length<=100
theorem vx (kvs:List (Key × V)) (k:Key) (v:V):(cx kvs k v).length<=kvs.length+1:=by
 unfold cx
 split
 .rw[List.length_map];lia
 .rw[List.length_append];exact Nat.le_refl _
theorem FC {x:Fx}{k:Nat}{ns:List Int}{st:MSt}{t:Int}(hx:Hi x) (h:BdS x st t) (hn:(dU x k ns st).1=none):BdS x (dU x k ns st).2 (t+1):=by
 have h1:=h.r;have h2:=h.m
 revert hn
 unfold dU
 split
 .intro hn;cases hn
 .split
  .split
   .intro hn;cases hn
   .split
    .intro hn;cases hn
    .rename_i bs ws e
     intro _;have hl:st.rows.length < x.reps.length:=(List.getElem?_eq_some_iff.mp e).1;have hw:=hx.wr _ (List.mem_of_getElem? e);have hg:=gY ws st.kvs;refine⟨?_,?_⟩
     .show(st.rows++[_]).length<=_
      rw[List.length_append];exact hl
     .show((dN st.kvs ws).length:Int)<=2000+(t+1)+100*((st.rows++[_]).length:Int)
      rw[List.length_append];have hw':ws.length<=100:=hw
      simp only[List.length_cons,List.length_nil]
      lia
  .split
   .split
    .split
     .intro _;exact⟨h1,by show(st.kvs.length:Int)<=2000+(t+1)+100*(st.rows.length:Int);lia⟩
     .intro _;have hp:=vx st.kvs (.inl (bg ns st.bx)) (.int (bxG st.bx (ns.getD 0 0)));exact⟨h1,by show((cx st.kvs _ _).length:Int)<=2000+(t+1)+100*(st.rows.length:Int);lia⟩
    .intro hn;cases hn
   .split
    .intro _;exact⟨h1,by show(st.kvs.length:Int)<=2000+(t+1)+100*(st.rows.length:Int);lia⟩
    .intro _;exact⟨h1,by show(st.kvs.length:Int)<=2000+(t+1)+100*(st.rows.length:Int);lia⟩
def Eh (K:Frag) (C C2:Addr):Sp:=fun vs H Q _=>∃(H0:Hp) (m dm cd o dx pl rl:Addr) (st:MSt) (t:Int) (x:Fx) (ws:List Int) (n:Nat),vs=[.ref m,.int (t+n)]/\MaH C C2 H0 H m dm cd o dx pl rl x.pg st t/\En K H0 pl rl x/\Hi x/\BdS x st t/\0<=t/\t+n<=1000/\
 SqL K H0 cd (ws.map V.int)/\(∀ y∈ws,0<=y/\y < 4294967296)/\∀v H',MaH C C2 H0 H' m dm cd o dx pl rl x.pg (dD x ws n st t).2.1 (dD x ws n st t).2.2->B_ H' (some (dD x ws n st t).1) v->Q v H'
theorem qV {C C2:Addr}(B:Bi mg) (c:dE K mg "Machine" C2) (n:gB K C2) (D:gA K C2) (cK:Has P w K mg base 6 "instruction_at" EN (JU K)) (zr:bY P w K mg base 6 C2 "do" cM (Lq K C C2)):
  bY P w K mg base 7 C2 "run_on" Aq (Eh K C C2):=by
 refine D.has c.cl eD (fun vs H Q E h=> ?_) (fun f cdv A outer s H vs Q E hr h=> ?_)
 .obtain⟨H0,m,dm,cd,o,dx,pl,rl,st,t,x,ws,nn,rfl,_⟩:=h
  rfl
 obtain⟨H0,m,dm,cd,o,dx,pl,rl,st,t,x,ws,nn,rfl,ma,en,fx,bd,t0,t1,hws,hwr,q⟩:=h;have hc:=c.cl;have n1:=n.code;have n2:=n.place;have n3:=n.turns;have hwn:∀y∈ws,0<=y:=fun y hy=>(hwr y hy).1
 refine⟨_,(aa (psS 2 eD.nd d5)
   (aa (aO (kE PassesOwn.never (lZ (qD (pv 2))) (aa (psS 3 eD.nd (pcH cK hr (pa2 (aP (pv 0) (by rfl)) (aP (pv 0) (by rfl)))))
   (aa (ax (lZ (qD (pv 3))) (ae (ah (aA (pa1 aw)))) al)
   (aa (ax (pcT jH (aP (pv 0) (by rfl)) (pv 1)) (ae (ah (aA (pa1 aw)))) al)
   (aa (bU (pv 0) (av aU (aP (pv 0) (by rfl)) ac) (by rfl))
   (ae (psS 2 eD.nd (ck (zr.mono (by omega)) hr (pv 0) (pa1 (pv 3)))))))))))
   (ae (ah (pv 2))))),?_⟩
 try dsimp only[aT]
 walk_at "g"
 refine⟨fun mm Z H'=>(∃ (n':Nat) (st':MSt) (t':Int) (i:Option V),mm=n'+1/\t'+n'=t+nn/\0<=t'/\MaH C C2 H0 H' m dm cd o dx pl rl x.pg st' t'/\BdS x st' t'/\dD x ws n' st' t'=dD x ws nn st t/\Z=[some (.ref m),some (.int (t+nn)),some .non,i])\/
  (∃ (v:V) (i:Option V),mm=0/\v≠ .non/\MaH C C2 H0 H' m dm cd o dx pl rl x.pg (dD x ws nn st t).2.1 (dD x ws nn st t).2.2/\B_ H' (some (dD x ws nn st t).1) v/\Z=[some (.ref m),some (.int (t+nn)),some v,i]),⟨nn+1,.inl ⟨nn,st,t,_,rfl,rfl,t0,ma,bd,rfl,rfl⟩⟩,?_⟩
 rintro mm Z H1 (⟨n',st',t',i,rfl,ht,tp,ma1,bd1,er,rfl⟩|⟨v,i,rfl,hvn,ma1,ev,rfl⟩)
 .have ho:=ma1.at;have hcd:=ma1.same.seq hws;refine⟨_,rfl,_,rfl,yg rfl ?_⟩
  walk_at "n"
  refine⟨fun Z' H'=>aG ((∃ (n2:Nat) (st':MSt) (t':Int) (i:Option V),n2+1 < n'+1/\t'+n2=t+nn/\0<=t'/\MaH C C2 H0 H' m dm cd o dx pl rl x.pg st' t'/\BdS x st' t'/\dD x ws n2 st' t'=dD x ws nn st t/\Z'=[some (.ref m),some (.int (t+nn)),some .non,i])\/
   (∃ (v:V) (i:Option V),v≠ .non/\MaH C C2 H0 H' m dm cd o dx pl rl x.pg (dD x ws nn st t).2.1 (dD x ws nn st t).2.2/\B_ H' (some (dD x ws nn st t).1) v/\Z'=[some (.ref m),some (.int (t+nn)),some v,i])),fun Z' H' h=> ?_,?_⟩
  .rcases h.out with⟨n2,st2,t2,i2,a1,a2,a3,a4,a5,a6,a7⟩|⟨v2,i2,a1,a2,a3,a4⟩
   .exact⟨n2+1,a1,.inl ⟨n2,st2,t2,i2,rfl,a2,a3,a4,a5,a6,a7⟩⟩
   .exact⟨0,by lia,.inr ⟨v2,i2,rfl,a1,a2,a3,a4⟩⟩
  walk_at "g";intro v H2 s12 hi;have ma2:=ma1.grow s12;have ho2:=ma2.at
  cases hins:ic ws st'.p with
  | none=>
   rw[hins] at hi;have hv:v= .non:=hi;subst hv;have er2:dD x ws nn st t=((("lost":Str),([]:List Int)),st',t'):=by
    rw[<- er]
    cases n' with
    | zero=>unfold dD;rw[hins]
    | succ n2=>unfold dD;rw[hins]
   rw[er2] at q;walk_at "g";intro qq hq;exact q _ _ (ma2.grow (ag hq _)) ⟨qq,rfl,ad⟩
  | some kn=>
   obtain⟨k,ns⟩:=kn;rw[hins] at hi;obtain⟨ia,rfl,hia⟩:=hi;have hval:=ud hwr hins;walk_at "g"
   cases n' with
   | zero=>
    have er2:dD x ws nn st t=((("spent":Str),([]:List Int)),st',t'):=by
     rw[<- er];unfold dD;rw[hins]
    rw[er2] at q;refine yg (by lia) ?_
    walk_at "g";intro qq hq;exact q _ _ (ma2.grow (ag hq _)) ⟨qq,rfl,ad⟩
   | succ n2=>
    refine cA (by lia) ?_
    have ma3:MaH C C2 H0 (upd H2 m (.ins C2 dm (mfs cd st'.p o (t'+1)))) m dm cd o dx pl rl x.pg st' (t'+1):=ma2.put st'.p (t'+1);have hia3:SqT K (upd H2 m (.ins C2 dm (mfs cd st'.p o (t'+1)))) ia (aE k ns):=K7 ho2 (fun _=>⟨(fun z=>by cases z),(fun _ z=>by cases z)⟩) hia
    have f1:=bd1.r;have f2:=bd1.m;have f3:=fx.few;have hkl:st'.kvs.length<=9000:=by lia
    have hrl:st'.rows.length<=9000:=by lia
    walk_at "g";intro v3 H3 ma4 ev4;have er2:dD x ws nn st t=match dU x k ns st' with | (some e,st2)=>(e,st2,t'+1) | (none,st2)=>dD x ws n2 st2 (t'+1):=by
     rw[<- er]
     conv=>lhs;unfold dD
     rw[hins]
    have bd2:=FC (k:=k) (ns:=ns) fx bd1;walk_at "g"
    cases hst:dU x k ns st' with
    | mk e1 st2=>
     rw[hst] at er2 ma4 ev4 bd2
     cases e1 with
     | none=>
      have hv3:v3= .non:=ev4;subst hv3;exact aG.mk (Or.inl ⟨n2,st2,t'+1,_,by lia,by lia,by lia,ma4,bd2 rfl,er2.symm,rfl⟩)
     | some ee=>
      have er3:dD x ws nn st t=(ee,st2,t'+1):=er2;refine aG.mk (Or.inr ⟨v3,_,?_,by rw[er3];exact ma4,by rw[er3];exact ev4,rfl⟩)
      obtain⟨q3,rfl,_⟩:=ev4;intro z
      cases z
 .walk_at "g";rw[decide_eq_false hvn];walk_at "g";exact q _ _ ma1 ev
def Go (K:Frag) (C C2:Addr):Sp:=fun vs H Q _=>∃(H0 Hm:Hp) (m dm cd o dx pl rl:Addr) (p g:Int) (st:HSt),vs=[.ref m,.ref cd,.int p,.ref o]/\Hm m=some (.ins C2 dm [])/\H0 m=none/\az H0 Hm/\HoH C 8 Hm H o dx pl rl g st/\
 ∀H',MaH C C2 H0 H' m dm cd o dx pl rl g ⟨p,st.bx,st.kvs,st.rows⟩ 0->Q .non H'
theorem o8 {C C2:Addr}(B:Bi mg) (c:dE K mg "Machine" C2) (n:gB K C2) (D:fS K C2):bY P w K mg base 1 C2 "__init__" An (Go K C C2):=by
 refine D.has c.cl o6 (fun vs H Q E h=> ?_) (fun f cdv A outer s H vs Q E hr h=> ?_)
 .obtain⟨H0,Hm,m,dm,cd,o,dx,pl,rl,p,g,st,rfl,_⟩:=h
  rfl
 obtain⟨H0,Hm,m,dm,cd,o,dx,pl,rl,p,g,st,rfl,hm,m0,sm,hh,q⟩:=h;have hc:=c.cl;have n2:=n.code;have n3:=n.place;have n4:=n.holding;have n5:=n.turns;have ho:=hh.same _ _ hm
 refine⟨_,(aa (bU (pv 0) (pv 1) (by rfl))
   (aa (bU (pv 0) (pv 2) (by rfl))
   (aa (bU (pv 0) (pv 3) (by rfl))
   (ae (bU (pv 0) ac (by rfl)))))),?_⟩
 try dsimp only[aT]
 walk_at "g";have h1:=hh.write (.ins C2 dm [("code",.ref cd)]) hm (fun _ z=>by cases z)
 have h2:=h1.write (.ins C2 dm [("code",.ref cd),("place",.int p)]) ad (fun _ z=>by cases z)
 have h3:=h2.write (.ins C2 dm [("code",.ref cd),("place",.int p),("holding",.ref o)]) ad (fun _ z=>by cases z)
 have h4:=h3.write (.ins C2 dm [("code",.ref cd),("place",.int p),("holding",.ref o),("turns",.int 0)]) ad (fun _ z=>by cases z)
 exact q _ ⟨⟨_,cr m0 (cr m0 (cr m0 (cr m0 sm))),m0,ad,h4⟩⟩
structure Jc (H0 H:Hp) (q:Addr) (R:(Str × List Int) × MSt × Int):Prop where
 ex:∃(eq sq tb db rw:Addr) (rs:List Addr),H q=some (.tup [.ref eq,.ref sq,.ref rw,.int R.2.2])/\H eq=some (.tup (.str R.1.1::R.1.2.map V.int))/\H sq=some (.tup [.int R.2.1.p,.ref tb,.ref db])/\H tb=some (.tup (R.2.1.bx.map V.int))/\H db=some (.dK R.2.1.kvs)/\
  H rw=some (.lst (rs.map V.ref))/\H0 rw=none/\H0 db=none/\pB H db rs R.2.1.rows
structure Dq (H0 H:Hp) (q:Addr) (R:(Str × List Int) × MSt × Int):Prop where
 ex:∃(eq sq tb db rw:Addr) (es:List (Addr × Addr)),H q=some (.tup [.ref eq,.ref sq,.ref rw,.int R.2.2])/\H eq=some (.tup (.str R.1.1::R.1.2.map V.int))/\H sq=some (.tup [.int R.2.1.p,.ref tb,.ref db])/\H tb=some (.tup (R.2.1.bx.map V.int))/\H db=some (.dK R.2.1.kvs)/\
  H rw=some (.lst ((es.map (·.1)).map V.ref))/\H0 rw=none/\H0 db=none/\(es.map (·.2)).Nodup/\fi H0 H db es R.2.1.rows
theorem Dq.weak {H0 H:Hp}{q:Addr}{R:(Str × List Int) × MSt × Int}(h:Dq H0 H q R):Jc H0 H q R:=by
 obtain⟨eq,sq,tb,db,rw,es,h1,h2,h3,h4,h5,h6,h7,h8,h9,h10⟩:=h.ex;exact⟨eq,sq,tb,db,rw,_,h1,h2,h3,h4,h5,h6,h7,h8,h10.rows⟩
def Jj (K:Frag):Sp:=fun vs H Q _=>∃(pl cd sa bt md rl:Addr) (p:Int) (bx:List Int) (kvs:List (Key × V)) (x:Fx) (ws:List Int) (n:Nat),vs=[.ref pl,.ref cd,.ref sa,.ref rl,.int n]/\SqT K H sa [.int p,.ref bt,.ref md]/\SqT K H bt (bx.map V.int)/\H md=some (.dK kvs)/\Bxs bx/\dq kvs/\kvs.length<=2000/\
 En K H pl rl x/\Hi x/\n<=1000/\SqL K H cd (ws.map V.int)/\(∀ y∈ws,0<=y/\y < 4294967296)/\∀q H',az H H'->Jc H H' q (dD x ws n ⟨p,bx,kvs,[]⟩ 0)->dq (dD x ws n ⟨p,bx,kvs,[]⟩ 0).2.1.kvs->Bxs (dD x ws n ⟨p,bx,kvs,[]⟩ 0).2.1.bx->Q (.ref q) H'
def Gv (K:Frag):Sp:=fun vs H Q _=>∃(pl cd sa bt md rl:Addr) (p:Int) (bx:List Int) (kvs:List (Key × V)) (x:Fx) (ws:List Int) (n:Nat),vs=[.ref pl,.ref cd,.ref sa,.ref rl,.int n]/\SqT K H sa [.int p,.ref bt,.ref md]/\SqT K H bt (bx.map V.int)/\H md=some (.dK kvs)/\Bxs bx/\dq kvs/\kvs.length<=2000/\
 En K H pl rl x/\Hi x/\n<=1000/\SqL K H cd (ws.map V.int)/\(∀ y∈ws,0<=y/\y < 4294967296)/\∀q H',az H H'->Dq H H' q (dD x ws n ⟨p,bx,kvs,[]⟩ 0)->dq (dD x ws n ⟨p,bx,kvs,[]⟩ 0).2.1.kvs->Bxs (dD x ws n ⟨p,bx,kvs,[]⟩ 0).2.1.bx->Q (.ref q) H'
theorem CQ {vs:List V}{H:Hp}{Q:VK}{E:XK}(h:Jj K vs H Q E):Gv K vs H Q E:=by
 obtain⟨pl,cd,sa,bt,md,rl,p,bx,kvs,x,ws,n,h1,h2,h3,h4,h5,h6,h7,h8,h9,h10,h11,h12,h13⟩:=h;exact⟨pl,cd,sa,bt,md,rl,p,bx,kvs,x,ws,n,h1,h2,h3,h4,h5,h6,h7,h8,h9,h10,h11,h12,fun q H' a b=>h13 q H' a b.weak⟩
theorem KC {o:Addr}{n:Nat}:V.ref o::([V.int (n:Int)]++[])=[V.ref o,V.int ((0:Int)+(n:Int))]:=by rw[Int.zero_add];rfl
theorem HV {C C2:Addr}(B:Bi mg) (cW:dE K mg "Holding" C) (nH:eR K C) (dX:dE K mg "Machine" C2) (n:gB K C2) (D:Jp K mg) (qj:bY P w K mg base 1 C "__init__" Ap (DE K C))
  (qu:bY P w K mg base 1 C2 "__init__" An (Go K C C2)) (sE:bY P w K mg base 7 C2 "run_on" Aq (Eh K C C2)):Has P w K mg base 8 "run" AQ (Gv K):=by
 refine D.has vJ (fun vs H Q E h=> ?_) (fun f cdv A outer s H vs Q E hr h=> ?_)
 .obtain⟨pl,cd,sa,bt,md,rl,p,bx,kvs,x,ws,nn,rfl,_⟩:=h
  rfl
 obtain⟨pl,cd,sa,bt,md,rl,p,bx,kvs,x,ws,nn,rfl,hsa,hbt,hmd,hbx,hmo,hkl,en,fx,hnn,hws,hwr,q⟩:=h;have hc:=dX.cl;have hcH:=cW.cl;have n1:=n.place;have n2:=n.turns;have n3:=nH.boxes;have n4:=nH.memory;have n5:=nH.rows;have hpl:=en.plan.at_;have p4:atI [V.int x.pk,V.int x.pb,V.int x.pm,V.int x.ps,V.int x.pg] 4=some (.int x.pg):=aJ (j:=4) rfl
 refine⟨_,(aa (psS 5 vJ.nd (vB cW (qj.mono (by omega)) hr (by rfl) (pa5 (pv 0) (pX ak (pv 0) ac) (pX ak (pv 2) ac) (pX ak (pv 2) ac) (pv 3))))
   (aa (psS 6 vJ.nd (vB dX (qu.mono (by omega)) hr (by rfl) (pa3 (pv 1) (pX ak (pv 2) ac) (pv 5))))
   (aa (psS 7 vJ.nd (ck (sE.mono (by omega)) hr (pv 6) (pa1 (pv 4))))
   (aa (psS 8 vJ.nd (aA (pa3 (aP (pv 6) (by rfl)) (bN eL (by rfl) B.tuple il (pa1 (aP (pv 5) (by rfl)))) (aP (pv 5) (by rfl)))))
   (ae (ah (aA (pa4 (pv 7) (pv 8) (aP (pv 5) (by rfl)) (aP (pv 6) (by rfl)))))))))),?_⟩
 try dsimp only[aT]
 walk_at "g";intro o dx ho hdx ndo;have hno:upd H dx (.own o) o=none:=by rw[ai (Ne.symm ndo)];exact ho
 refine⟨8,H,o,dx,pl,bt,md,rl,x.pg,bx,kvs,rfl,ad,ho,bM hno (ag hdx _),hbt,hmd,hbx,hmo,fun H1 hh1=>⟨rfl,?_⟩⟩
 have hsa1:=hh1.same.tup hsa;walk_at "g";intro m dm hm0 hdm ndm;have hnm:upd H1 dm (.own m) m=none:=by rw[ai (Ne.symm ndm)];exact hm0
 have hnm0:H m=none:=none_of hh1.same hm0;have hnd0:H dm=none:=none_of hh1.same hdm;refine⟨H,_,m,dm,cd,o,dx,pl,rl,p,x.pg,_,rfl,ad,hnm0,?_,(hh1.add (.own m) hdm).add (.ins C2 dm []) hnm,fun H2 ma2=>⟨rfl,?_⟩⟩
 .exact bM (by rw[ai (Ne.symm ndm)];exact hnm0) (ag hnd0 _)
 have hm2:=ma2.at;walk_at "g";refine⟨KC,ma2,en,fx,⟨Nat.zero_le _,by show(kvs.length:Int)<=2000+0+100*((0:Nat):Int);lia⟩,Int.le_refl 0,by lia,hws,hwr,fun v H3 ma3 ev=> ?_⟩
 obtain⟨eq,rfl,heq⟩:=ev;generalize dD x ws nn ⟨p,bx,kvs,[]⟩ 0=R at*;have hm3:=ma3.at;obtain⟨Hm,s0,m0,hmm,hh⟩:=ma3.ex;obtain⟨bl,ml,rw,es,ho3,hb,hml,hrw,o0,b0,m1,w0,nbw,nd,rows⟩:=hh.ex;have hb':H3 bl=some (.lst (R.2.1.bx.map V.int)):=hb;have hml':H3 ml=some (.dK R.2.1.kvs):=hml;clear hb;walk_at "g";intro tb htb;have hm4:=bh (o:= .tup (R.2.1.bx.map V.int)) htb hm3;have ho4:=bh (o:= .tup (R.2.1.bx.map V.int)) htb ho3;walk_at "g";intro sq hsq;have hm5:=bh (o:= .tup [.int R.2.1.p,.ref tb,.ref ml]) hsq hm4;have ho5:=bh (o:= .tup [.int R.2.1.p,.ref tb,.ref ml]) hsq ho4;walk_at "g";intro qq hq;have sA:az H3 (upd (upd (upd H3 tb (.tup (R.2.1.bx.map V.int))) sq (.tup [.int R.2.1.p,.ref tb,.ref ml])) qq (.tup [.ref eq,.ref sq,.ref rw,.int R.2.2])):=bM hq (bM hsq (ag htb _));refine q qq _ (ma3.same.trans sA) ⟨⟨eq,sq,tb,ml,rw,es,ad,sA _ _ heq,bh hq ad,bh hq (bh hsq ad),sA _ _ hml',sA _ _ hrw,none_of s0 w0,none_of s0 m1,nd,rows.mono (fun _ _ e=>sA _ _ e) (fun _ _ z1 z2 e=>⟨none_of s0 z1,sA _ _ e,z2⟩)⟩⟩ ma3.mem ma3.bxs
theorem A6 {x:Pn}{kn:Ins}{r:List Ins}:∀ {pre:List Ins}{at_:Nat}{sp:List SpM.Span},(jF x at_ sp (pre++kn::r))[lnW pre]? =some (some (aQ (at_+lnW pre) (gv x at_ sp pre)))
 | [],_,_=>rfl
 | j::p,at_,sp=>by
  have ih:=A6 (x:=x) (kn:=kn) (r:=r) (pre:=p) (at_:=at_+bo j.1) (sp:=cV x.pk x.pb x.pm x.ps j.1 j.2 (aQ at_ sp));have ee:gv x at_ sp (j::p)=gv x (at_+bo j.1) (cV x.pk x.pb x.pm x.ps j.1 j.2 (aQ at_ sp)) p:=rfl;rw[a9, <-Nat.add_assoc,ee];show(some (aQ at_ sp)::((if j.1=1 then[none] else[])++jF x _ _ (p++kn::r)))[bo j.1+lnW p]? =_
  by_cases k1:j.1=1
  .have e:bo j.1=2:=by unfold bo;rw[if_pos k1]
   rw[if_pos k1];rw[e] at ih ⊢;rw[show 2+lnW p=lnW p+1+1 by lia,List.getElem?_cons_succ,List.cons_append,List.nil_append,List.getElem?_cons_succ]
   exact ih
  .have e:bo j.1=1:=by unfold bo;rw[if_neg k1]
   rw[if_neg k1];rw[e] at ih ⊢;rw[show 1+lnW p=lnW p+1 by lia,List.getElem?_cons_succ,List.nil_append]
   exact ih
theorem ve {x:Pn}{T:Int}{b:Nat}(hb:b %8=0):∀ {is:List Ins}{at_:Nat}{sp:List SpM.Span},okC x T at_ sp is->at_<=b->b < at_+lnW is->∃pre kn r,is=pre++kn::r/\at_+lnW pre=b
 | [],at_,_,_,h1,h2=>absurd h2 (by show ¬b < at_+0;lia)
 | kn::r,at_,sp,h,h1,h2=>by
  by_cases e:b=at_
  .exact⟨[],kn,r,rfl,by show at_+0=b;lia⟩
  .have hl:=h.2.1;rw[a9] at h2;obtain⟨pre,kn',r',e1,e2⟩:=ve hb (is:=r) (at_:=at_+bo kn.1) h.2.2.2 (by lia) (by lia)
   exact⟨kn::pre,kn',r',by rw[e1];rfl,by rw[a9, <-Nat.add_assoc];exact e2⟩
structure oP (bx:List Int) (sp:List SpM.Span):Prop where
 len:bx.length=8
 sl:sp.length=8
 inn:∀i,0<=i->i < 8->SpM.In (bxG bx i) (spG sp i)
theorem uU {bx:List Int}{i:Int}(h:bx.length=8) (h0:0<=i) (h1:i < 8):bxG bx i∈bx:=by
 unfold bxG;rw[List.getD_eq_getElem?_getD,List.getElem?_eq_getElem (by lia)]
 exact List.getElem_mem _
theorem oP.w8 {bx:List Int}(h:Bxs bx):oP bx w8:=by
 refine⟨h.len,rfl,fun i h0 h1=> ?_⟩
 have hm:=h.rng _ (uU h.len h0 h1);have e:spG My.w8 i=SpM.whole:=by
  unfold spG My.w8;rw[List.getD_eq_getElem?_getD,List.getElem?_replicate]
  split <;> rfl
 rw[e];exact SpM.In_whole hm.1 hm.2
theorem oP.here {bx:List Int}{sp:List SpM.Span}{a:Nat}(h:oP bx sp) (hb:Bxs bx):oP bx (aQ a sp):=by
 unfold aQ
 split
 .exact oP.w8 hb
 .exact h
theorem EC {bx:List Int}{a i v:Int}(h:bx.length=8) (a0:0<=a) (a1:a < 8) (i0:0<=i) (i1:i < 8):bxG (bx.set a.toNat v) i=if i=a then v else bxG bx i:=by
 unfold bxG;rw[List.getD_eq_getElem?_getD,List.getElem?_set]
 by_cases e:i=a
 .rw[if_pos (by lia),if_pos (by lia),if_pos e]
  rfl
 .rw[if_neg (by lia),if_neg e,List.getD_eq_getElem?_getD]
theorem JV {sp:List SpM.Span}{a i:Int}{s:SpM.Span}(h:sp.length=8) (a0:0<=a) (a1:a < 8) (i0:0<=i) (i1:i < 8):spG (sp.set a.toNat s) i=if i=a then s else spG sp i:=by
 unfold spG;rw[List.getD_eq_getElem?_getD,List.getElem?_set]
 by_cases e:i=a
 .rw[if_pos (by lia),if_pos (by lia),if_pos e]
  rfl
 .rw[if_neg (by lia),if_neg e,List.getD_eq_getElem?_getD]
theorem oP.set {bx:List Int}{sp:List SpM.Span}{a v:Int}{s:SpM.Span}(h:oP bx sp) (a0:0<=a) (a1:a < 8) (hi:SpM.In v s):oP (bx.set a.toNat v) (sp.set a.toNat s):=by
 refine⟨by rw[List.length_set];exact h.len,by rw[List.length_set];exact h.sl,fun i i0 i1=> ?_⟩
 rw[EC h.len a0 a1 i0 i1,JV h.sl a0 a1 i0 i1]
 split
 .exact hi
 .exact h.inn i i0 i1
theorem IB {pk:Nat}{pb:Int}{pm ps k:Nat}{ns bx:List Int}{sp:List SpM.Span}(hR:SpM.Room pk pb) (hms:pm+ps<=7) (hv:aK 8 262144 k ns) (hm:mk8 k) (h11:k≠11) (h8:Sp8 sp) (hb:oP bx sp):SpM.In (jE pk pb pm ps k ns bx) (eG pk pb pm ps k ns sp):=by
 unfold mk8 at hm;unfold jE eG;rcases hv with⟨rfl,rfl⟩|⟨rfl,x,v,rfl,x0,x1,v0,v1⟩|⟨h1,h2,x,y,z,rfl,x0,x1,y0,y1,z0,z1⟩|⟨h1,h2,x,y,z,rfl,x0,x1,y0,y1,z0,z1⟩|⟨hk,z,rfl,z0,z1⟩|⟨rfl,x,z,rfl,x0,x1,z0,z1⟩|⟨rfl,y,rfl,y0,y1⟩|⟨hk,x,y,rfl,x0,x1,y0,y1⟩
 .lia
 .exact SpM.In_single v
 .rw[if_neg (by lia),if_neg (by lia),if_neg (by lia),if_neg (by lia),if_neg (by lia),if_neg (by lia),if_neg (by lia),if_neg (by lia),if_neg (by lia)]
  exact SpM.In_j _ (h8.at y0 y1).2 (h8.at z0 z1).2 (hb.inn y y0 y1) (hb.inn z z0 z1)
 .obtain rfl:k=10:=by lia
  exact SpM.In_more (h8.at y0 y1).2 (hb.inn y y0 y1) z
 .lia
 .lia
 .lia
 .rcases hk with rfl | rfl
  .exact SpM.In_fit hR (hb.inn y y0 y1)
  .exact SpM.In_aim hms (hb.inn y y0 y1)
def xq (pk:Nat) (pb:Int) (kv:Key × V):Bool:=match kv.1 with
 | .inl i=> !decide (InR pk pb i)
 | .inr _=>true
abbrev bey (pk:Nat) (pb:Int) (kvs:List (Key × V)):List (Key × V):=kvs.filter (xq pk pb)
theorem Ed {pk:Nat}{pb i:Int}{v:V}(hf:∀u,xq pk pb (.inl i,u)=false):∀r:List (Key × V),List.filter (xq pk pb) (List.map (fun kv=>if kv.1=Sum.inl i then(kv.1,v) else kv) r)=List.filter (xq pk pb) r
 | []=>rfl
 | a::r=>by
  rw[List.map_cons,List.filter_cons,List.filter_cons,Ed hf r]
  by_cases e:a.1=Sum.inl i
  .obtain⟨k,u⟩:=a;have e:k=Sum.inl i:=e;subst e;rw[if_pos rfl,hf,hf,if_neg (by decide),if_neg (by decide)]
  .rw[if_neg e]
theorem Eg {pk:Nat}{pb i:Int}{v:V}(h:InR pk pb i) (kvs:List (Key × V)):bey pk pb (cx kvs (.inl i) v)=bey pk pb kvs:=by
 have hf:∀u,xq pk pb (.inl i,u)=false:=fun u=>by
  show(!decide (InR pk pb i))=false
  rw[decide_eq_true h]
  rfl
 unfold cx bey
 split
 .exact Ed hf kvs
 .rw[List.filter_append,List.filter_cons,hf]
  simp
def pU (pk:Nat) (pb:Int) (ws:List (Key × V)):Prop:=∀kv∈ws, ∃i,kv.1= .inl i/\InR pk pb i
theorem xT {pk:Nat}{pb:Int}:∀ {ws:List (Key × V)}(kvs:List (Key × V)),pU pk pb ws->bey pk pb (dN kvs ws)=bey pk pb kvs
 | [],_,_=>rfl
 | kv::r,kvs,h=>by
  obtain⟨i,e,hi⟩:=h kv List.mem_cons_self;have e2:dN kvs (kv::r)=dN (cx kvs kv.1 kv.2) r:=rfl;rw[e2,xT (ws:=r) _ (fun x hx=>h x (List.mem_cons_of_mem _ hx)),e]
  exact Eg hi kvs
structure HK (pk:Nat) (pb:Int) (r:List Int × List (Key × V)):Prop where
 len:r.1.length=7
 rng:∀y∈r.1,0<=y/\y < 4294967296
 room:pU pk pb r.2
structure mn (x:Pn) (is:List Ins) (p:Int) (bx:List Int):Prop where
 bxs:Bxs bx
 here:∃pre kn r,is=pre++kn::r/\p=(lnW pre:Nat)/\oP bx (aQ (lnW pre) (gv x 0 w8 pre))
theorem mn.bundle {x:Pn}{is:List Ins}{b:Nat}{bx:List Int}(co:km x is) (hb:b %8=0) (hl:b < lnW is) (h:Bxs bx):mn x is (b:Nat) bx:=by
 obtain⟨pre,kn,r,e1,e2⟩:=ve hb co.ok (Nat.zero_le _) (by lia)
 refine⟨h,pre,kn,r,e1,by lia,?_⟩
 have:lnW pre %8=0:=by lia
 unfold aQ;rw[if_pos this];exact oP.w8 h
theorem Cc {pk:Nat}{pb pg T:Int}{k:Nat}{ns:List Int}{sp:List SpM.Span}(h:bR pk pb pg T k ns sp=none):(mk8 k->ns.getD 0 0≠7)/\((k=11\/k=12)->¬nT pk pb ns sp)/\((k=13\/k=14)->tgt k ns %8=0/\tgt k ns < T)/\
  (k=15->(spG sp (ns.getD 0 0)).hi < T/\3<=(spG sp (ns.getD 0 0)).z)/\(k=18->ns.getD 0 0 < pg):=by
 unfold bR at h
 split at h
 .cases h
 .split at h
  .cases h
  .split at h
   .cases h
   .split at h
    .cases h
    .split at h
     .cases h
     .rename_i a b c d e
      refine⟨fun z w=>a ⟨z,w⟩,fun z w=>b ⟨z,w⟩,fun z=> ?_,fun z=> ?_,fun z=> ?_⟩
      .have:¬(tgt k ns %8≠0\/T<=tgt k ns):=fun w=>c ⟨z,w⟩
       lia
      .have:¬(T<=(spG sp (ns.getD 0 0)).hi\/(spG sp (ns.getD 0 0)).z < 3):=fun w=>d ⟨z,w⟩
       lia
      .have:¬pg<=ns.getD 0 0:=fun w=>e ⟨z,w⟩
       lia
structure JI (x:Pn) (is:List Ins) (st st':MSt) (e:Option (Str × List Int)):Prop where
 go:e=none->mn x is st'.p st'.bx
 fin:∀z,e=some z->(z.1="stopped"\/z.1="asks")/\st'.bx=st.bx/\st'.p=st.p
 b7:bxG st'.bx 7=bxG st.bx 7
 out:bey x.pk x.pb st'.kvs=bey x.pk x.pb st.kvs
 rows:st'.rows=st.rows\/∃n,st'.rows=st.rows++[(n,st.bx,st.kvs)]
theorem x_ {x:Pn}{kn:Ins}:∀ {is:List Ins}{at_:Nat}{sp:List SpM.Span},gv x at_ sp (is++[kn])=cV x.pk x.pb x.pm x.ps kn.1 kn.2 (aQ (at_+lnW is) (gv x at_ sp is))
 | [],at_,sp=>rfl
 | j::r,at_,sp=>by
  have ih:=x_ (x:=x) (kn:=kn) (is:=r) (at_:=at_+bo j.1) (sp:=cV x.pk x.pb x.pm x.ps j.1 j.2 (aQ at_ sp));rw[a9, <-Nat.add_assoc];exact ih
theorem mn.next {x:Pn}{is pre r:List Ins}{kn:Ins}{bx:List Int}(co:km x is) (e:is=pre++kn::r) (nl:¬(kn.1=0\/kn.1=13\/kn.1=15)) (hb:Bxs bx) (hi:oP bx (cV x.pk x.pb x.pm x.ps kn.1 kn.2 (aQ (lnW pre) (gv x 0 w8 pre)))):mn x is ((lnW pre:Nat)+(bo kn.1:Nat):Int) bx:=by
 cases r with
 | nil=>
  obtain⟨p2,k2,e2,h2⟩:=co.last;rw[e] at e2;obtain⟨_,e3⟩:=List.append_inj' e2 rfl
  injection e3 with e3
  subst e3;exact absurd h2 nl
 | cons kn' r'=>
  have el:lnW (pre++[kn])=lnW pre+bo kn.1:=by rw[eu,hV]
  refine⟨hb,pre++[kn],kn',r',by rw[e,List.append_assoc];rfl,by rw[el];push_cast;rfl,?_⟩
  rw[x_,Nat.zero_add];exact hi.here hb
theorem BW {x:Pn}{k:Nat}{ns bx:List Int}{sp:List SpM.Span}{v:Int}(hv:aK 8 262144 k ns) (hm:mk8 k) (hb:oP bx sp) (hi:SpM.In v (eG x.pk x.pb x.pm x.ps k ns sp)):oP (bx.set (ns.getD 0 0).toNat v) (cV x.pk x.pb x.pm x.ps k ns sp):=by
 obtain⟨a,r,rfl,a0,a1⟩:=kS hv hm;unfold cV;rw[if_neg (by unfold mk8 at hm;lia),if_pos hm]
 exact hb.set a0 a1 hi
theorem GR {bx:List Int}{a v:Int}(h:bx.length=8) (a0:0<=a) (a1:a < 8) (n7:a≠7):bxG (bx.set a.toNat v) 7=bxG bx 7:=by
 rw[EC h a0 a1 (by decide) (by decide),if_neg (Ne.symm n7)]
theorem Ek {x:Pn}{T:Int}{kn:Ins}{r:List Ins}:∀ {pre:List Ins}{at_:Nat}{sp:List SpM.Span},okC x T at_ sp (pre++kn::r)->okC x T at_ sp pre
 | [],_,_,_=>True.intro
 | _::p,_,_,h=>⟨h.1,h.2.1,h.2.2.1,Ek (pre:=p) h.2.2.2⟩
theorem qp {x:Pn}{reps:List (List Int × List (Key × V))}{is:List Ins}(hR:SpM.Room x.pk x.pb) (hms:x.pm+x.ps<=7) (co:km x is) (hrep:∀r∈reps,HK x.pk x.pb r) {st:MSt}(h:mn x is st.p st.bx) (hm:dq st.kvs):
  ∃kn sp,ic (ay is) st.p=some kn/\0<=st.p/\st.p < lnW is/\(jF x 0 w8 is)[st.p.toNat]? =some (some sp)/\oP st.bx sp/\Sp8 sp/\VI kn/\JI x is st (dU ⟨x.pk,x.pb,x.pm,x.ps,x.pg,reps⟩ kn.1 kn.2 st).2 (dU ⟨x.pk,x.pb,x.pm,x.ps,x.pg,reps⟩ kn.1 kn.2 st).1:=by
 obtain⟨hb,pre,kn,r,e,ep,hi⟩:=h;have ok:=co.ok;rw[e] at ok;obtain⟨hv,hl8,hf⟩:=DS ok;rw[Nat.zero_add] at hf hl8;have eT:(ay (pre++kn::r)).length=8*2^(x.pm+x.ps):=by rw[<- e];exact co.len
 rw[eT] at hf;have eW:lnW is=8*2^(x.pm+x.ps):=by rw[<- bO];exact co.len
 have okp:okC x ((ay (pre++kn::r)).length) 0 w8 pre:=Ek ok;have h8:Sp8 (aQ (lnW pre) (gv x 0 w8 pre)):=h_ (we hR hms okp zO);refine⟨kn,aQ (lnW pre) (gv x 0 w8 pre),?_,by lia,?_,?_,hi,h8,hv,?_⟩
 .rw[ep,e];exact Ik hv
 .rw[ep,e,eu,a9];have:=iO kn.1
  lia
 .rw[ep,e,Int.toNat_natCast,A6,Nat.zero_add]
 obtain⟨f1,f2,f3,f4,f5⟩:=Cc hf
 replace f1:=aG.mk f1;replace f2:=aG.mk f2;replace f3:=aG.mk f3;replace f4:=aG.mk f4;replace f5:=aG.mk f5
 obtain⟨k,ns⟩:=kn;dsimp only at*;have l8:=hb.len;unfold dU
 by_cases k0:k=0
 .rw[if_pos k0];exact⟨fun z=>(by cases z),fun z hz=>by cases hz;exact⟨.inl rfl,rfl,rfl⟩,rfl,rfl,.inl rfl⟩
 rw[if_neg k0]
 by_cases k18:k=18
 .rw[if_pos k18,if_neg (by have:=f5.out k18;show ¬x.pg<=_;lia)]
  dsimp only
  cases er:reps[st.rows.length]? with
  | none=>exact⟨fun z=>(by cases z),fun z hz=>by cases hz;exact⟨.inr rfl,rfl,rfl⟩,rfl,rfl,.inr ⟨_,rfl⟩⟩
  | some rp=>
   obtain⟨bs,ws⟩:=rp;have rok:=hrep _ (List.mem_of_getElem? er);have rl:bs.length=7:=rok.len;have rr:∀y∈bs,0<=y/\y < 4294967296:=rok.rng;have b7r:=hb.rng _ (uU (i:=7) l8 (by decide) (by decide))
   have nb:Bxs (bs++[bxG st.bx 7]):=⟨by rw[List.length_append,rl];rfl,fun y hy=>by
    rcases List.mem_append.mp hy with hy | hy
    .exact rr y hy
    .rw[List.mem_singleton.mp hy];exact b7r⟩
   have e7:bxG (bs++[bxG st.bx 7]) 7=bxG st.bx 7:=by
    show(bs++[bxG st.bx 7]).getD 7 0=_
    rw[List.getD_eq_getElem?_getD,List.getElem?_append_right (by lia),rl]
    rfl
   dsimp only;refine⟨fun _=> ?_,fun z hz=>(by cases hz),e7,xT _ rok.room,.inr ⟨_,rfl⟩⟩
   have hlen:bo k=1:=by unfold bo;rw[if_neg (by lia)]
   have hn:=mn.next (bx:=bs++[bxG st.bx 7]) co e (by show ¬(k=0\/k=13\/k=15);lia) nb (by
    dsimp only;unfold cV;rw[if_pos k18];refine⟨nb.len,rfl,fun i i0 i1=> ?_⟩
    by_cases i7:i=7
    .subst i7;rw[e7];exact hi.inn 7 (by decide) (by decide)
    .have hm:=nb.rng _ (uU nb.len i0 i1);have ew:spG (List.replicate 7 SpM.whole++[spG (aQ (lnW pre) (gv x 0 w8 pre)) 7]) i=SpM.whole:=by
      unfold spG;rw[List.getD_eq_getElem?_getD,List.getElem?_append_left (by rw[List.length_replicate];lia),List.getElem?_replicate,if_pos (by lia)]
      rfl
     rw[ew]
     exact SpM.In_whole hm.1 hm.2)
   dsimp only at hn;rw[hlen] at hn;rw[ep];exact hn
 rw[if_neg k18]
 by_cases kac:k=11\/k=12
 .rw[if_pos kac];obtain⟨a,b,n,rfl,a0,a1,b0,b1,n0,n1⟩:=hv.acc kac;have ho:=f2.out kac;unfold nT at ho;have ho:¬((spG (aQ (lnW pre) (gv x 0 w8 pre)) b).lo+n < x.pb\/x.pb+2^x.pk<=(spG (aQ (lnW pre) (gv x 0 w8 pre)) b).hi+n):=ho;have hbi:=hi.inn b b0 b1;have i1:=hbi.lo;have i2:=hbi.hi;have r0:=hR.b0;have r1:=hR.bW;have er:bg [a,b,n] st.bx=bxG st.bx b+n:=by
   show(bxG st.bx b+n) %4294967296=_
   exact Int.emod_eq_of_lt (by lia) (by lia)
  have hin:InR x.pk x.pb (bg [a,b,n] st.bx):=by rw[er];exact⟨by lia,by lia⟩
  rw[if_pos hin];have hlen:bo k=1:=by unfold bo;rw[if_neg (by lia)]
  by_cases k11:k=11
  .rw[if_pos k11];have hmem:=hm.get (bg [a,b,n] st.bx);have n7:a≠7:=f1.out (by unfold mk8;lia)
   refine⟨fun _=> ?_,fun z hz=>(by cases hz),GR l8 a0 a1 n7,rfl,.inl rfl⟩
   have hn:=mn.next (bx:=st.bx.set a.toNat (vP st.kvs (bg [a,b,n] st.bx))) co e (by show ¬(k=0\/k=13\/k=15);lia) (hb.set hmem.2.1 hmem.2.2) (by
    refine BW (x:=x) (k:=k) (ns:=[a,b,n]) hv (by unfold mk8;lia) hi ?_
    unfold eG;rw[if_neg (by lia),if_pos k11]
    exact SpM.In_whole hmem.2.1 hmem.2.2)
   dsimp only at hn;rw[hlen] at hn;rw[ep];exact hn
  .rw[if_neg k11];refine⟨fun _=> ?_,fun z hz=>(by cases hz),rfl,Eg hin _,.inl rfl⟩
   have hn:=mn.next (bx:=st.bx) co e (by show ¬(k=0\/k=13\/k=15);lia) hb (by
    dsimp only;unfold cV;rw[if_neg k18,if_neg (by unfold mk8;lia)]
    exact hi)
   dsimp only at hn;rw[hlen] at hn;rw[ep];exact hn
 rw[if_neg kac]
 by_cases kj:k=13\/k=14\/k=15
 .rw[if_pos kj];refine⟨fun _=> ?_,fun z hz=>(by cases hz),rfl,rfl,.inl rfl⟩
  show mn x is (pD k ns st.bx st.p) st.bx
  have land:∀p:Int,0<=p->p %8=0->p < ((8*2^(x.pm+x.ps):Nat):Int)->mn x is p st.bx:=fun p p0 p1 p2=>by
   obtain⟨q,rfl⟩:∃q:Nat,p=q:=Int.eq_ofNat_of_zero_le (by first | assumption | lia)
   exact mn.bundle co (by lia) (by lia) hb
  unfold pD
  by_cases k13:k=13
  .rw[if_pos k13];obtain⟨n,rfl,n0,n1⟩:=hv.jmp k13;have h3:=f3.out (.inl k13);unfold tgt at h3;rw[if_pos k13] at h3;exact land _ n0 h3.1 h3.2
  rw[if_neg k13]
  by_cases k15:k=15
  .rw[if_pos k15];obtain⟨b,rfl,b0,b1⟩:=hv.thr k15;have h4:=f4.out k15;have h4:(spG (aQ (lnW pre) (gv x 0 w8 pre)) b).hi < ((8*2^(x.pm+x.ps):Nat):Int)/\3<=(spG (aQ (lnW pre) (gv x 0 w8 pre)) b).z:=h4;have hbi:=hi.inn b b0 b1;have hd:(8:Int)∣bxG st.bx b:=Int.dvd_trans (SpM.pdvd (a:=3) h4.2) hbi.dv;have h9:=hbi.hi;have h0:=(hb.rng _ (uU l8 b0 b1)).1;exact land (bxG st.bx b) h0 (by lia) (by lia)
  rw[if_neg k15];have k14:k=14:=by lia
  obtain⟨a,n,rfl,a0,a1,n0,n1⟩:=hv.jif k14
  split
  .have h3:=f3.out (.inr k14);unfold tgt at h3;rw[if_neg k13] at h3;exact land _ n0 h3.1 h3.2
  .have hlen:bo k=1:=by unfold bo;rw[if_neg (by lia)]
   have hn:=mn.next (bx:=st.bx) co e (by show ¬(k=0\/k=13\/k=15);lia) hb (by
    dsimp only;unfold cV;rw[if_neg k18,if_neg (by unfold mk8;lia)]
    exact hi)
   dsimp only at hn;rw[hlen] at hn;rw[ep];exact hn
 rw[if_neg kj];have k19:=hv.lt19;have hmk:mk8 k:=by unfold mk8;lia
 have hms8:makes k:=by unfold makes;lia
 have vr:=Fu hv hms8 hb hR hms;obtain⟨a,rr,ens,a0,a1⟩:=kS hv hmk;have ens:ns=a::rr:=ens;have n7:a≠7:=by have:=f1.out hmk;rw[ens] at this;exact this
 refine⟨fun _=> ?_,fun z hz=>(by cases hz),?_,rfl,.inl rfl⟩
 .have hn:=mn.next (bx:=st.bx.set (ns.getD 0 0).toNat (jE x.pk x.pb x.pm x.ps k ns st.bx)) co e (by show ¬(k=0\/k=13\/k=15);lia) (hb.set vr.1 vr.2) (BW (x:=x) hv hmk hi (IB hR hms hv hmk (by lia) h8 hi))
  dsimp only at hn;have hl:((bo k:Nat):Int)=if k=1 then 2 else 1:=by unfold bo;split <;> rfl
  rw[hl] at hn;rw[ep];exact hn
 .show bxG (st.bx.set (ns.getD 0 0).toNat _) 7=_
  rw[ens];exact GR l8 a0 a1 n7
theorem qr {kvs:List (Key × V)}{k:Key}{v:V}(hn:(kvs.map (·.1)).Nodup):((cx kvs k v).map (·.1)).Nodup:=by
 by_cases h:(kvs.any fun kv=>decide (kv.1=k))=true
 .unfold cx;rw[if_pos h,List.map_map];have e:kvs.map ((fun x=>x.1) ∘ fun kv=>if kv.1=k then(kv.1,v) else kv)=kvs.map (·.1):=by
   apply List.map_congr_left
   intro p _;show(if p.1=k then(p.1,v) else p).1=p.1
   split <;> rfl
  rw[e];exact hn
 .refine Iz v hn ?_
  cases hv:jx kvs k with
  | none=>rfl
  | some y=>
   exact absurd (List.any_eq_true.mpr ⟨_,y9 hv,decide_eq_true rfl⟩) h
theorem wrB {d c:Addr}{H H':Hp}{o:HO}(hc:H c=none) (b:But d H H'):But d H (upd H' c o):=fun x y nx e=>by
 rw[ai (aj e hc)];exact b _ _ nx e
theorem Pl.wrD {H:Hp}{a c:Addr}{k:Nat}{b:Int}{m s:Nat}{g:Int}{kvs:List (Key × V)}{o:HO}(h:Pl H a k b m s g) (hc:H c=some (.dK kvs)):Pl (upd H c o) a k b m s g:=
 ⟨by rw[ai (fun z=>by have:=h.at_;rw[z,hc] at this;cases this)];exact h.at_,h.room,h.ms⟩
structure RpA (H:Hp) (v:V) (bs:List Int) (ws:List (Key × V)):Prop where
 ex:∃ra rb rd:Addr,v= .ref ra/\H ra=some (.tup [.ref rb,.ref rd])/\H rb=some (.tup (bs.map V.int))/\H rd=some (.dK ws)
 len:bs.length=7
 rng:∀x∈bs,0<=x/\x < 4294967296
 mem:dq ws
 few:ws.length<=6
 nod:(ws.map (·.1)).Nodup
def iL (H:Hp) (ys:List V) (reps:List (List Int × List (Key × V))):Prop:=ys.length=reps.length/\∀(i:Nat) (v:V) (bs:List Int) (ws:List (Key × V)),ys[i]? =some v->reps[i]? =some (bs,ws)->RpA H v bs ws
theorem RpA.mono {H H':Hp}{v:V}{bs:List Int}{ws:List (Key × V)}(h:RpA H v bs ws) (h1:∀a xs,H a=some (.tup xs)->H' a=some (.tup xs)) (h2:∀a kvs,H a=some (.dK kvs)->H' a=some (.dK kvs)):RpA H' v bs ws:=by
 obtain⟨ra,rb,rd,e1,e2,e3,e4⟩:=h.ex;exact⟨⟨ra,rb,rd,e1,h1 _ _ e2,h1 _ _ e3,h2 _ _ e4⟩,h.len,h.rng,h.mem,h.few,h.nod⟩
theorem iL.mono {H H':Hp}{ys:List V}{reps:List (List Int × List (Key × V))}(h:iL H ys reps) (h1:∀a xs,H a=some (.tup xs)->H' a=some (.tup xs)) (h2:∀a kvs,H a=some (.dK kvs)->H' a=some (.dK kvs)):iL H' ys reps:=
 ⟨h.1,fun i v bs ws a b=>(h.2 i v bs ws a b).mono h1 h2⟩
theorem iL.same {H H':Hp}{ys:List V}{reps:List (List Int × List (Key × V))}(h:iL H ys reps) (e:az H H'):iL H' ys reps:=h.mono (fun _ _ h=>e _ _ h) (fun _ _ h=>e _ _ h)
theorem iL.wr {H:Hp}{c:Addr}{zs:List V}{o:HO}{ys:List V}{reps:List (List Int × List (Key × V))}(h:iL H ys reps) (hc:H c=some (.lst zs)):iL (upd H c o) ys reps:=h.mono (fun a xs h=>by rw[ai (fun z=>by rw[z,hc] at h;cases h)];exact h) (fun a xs h=>by rw[ai (fun z=>by rw[z,hc] at h;cases h)];exact h)
theorem iL.snoc {H:Hp}{ys:List V}{reps:List (List Int × List (Key × V))}{v:V}{bs:List Int}{ws:List (Key × V)}(h:iL H ys reps) (hv:RpA H v bs ws):iL H (ys++[v]) (reps++[(bs,ws)]):=by
 refine⟨by rw[List.length_append,List.length_append,h.1];rfl,fun i w bs' ws' a b=> ?_⟩
 by_cases hi:i < ys.length
 .rw[List.getElem?_append_left hi] at a;rw[List.getElem?_append_left (by rw[<- h.1];exact hi)] at b
  exact h.2 i w bs' ws' a b
 .rw[List.getElem?_append_right (by lia)] at a
  rw[List.getElem?_append_right (by rw[<- h.1];lia), <-h.1] at b
  have hz:i - ys.length=0:=by
   have:=(List.getElem?_eq_some_iff.mp a).1
   simp at this
   lia
  rw[hz] at a b;obtain rfl:v=w:=by simpa using a
  obtain⟨rfl,rfl⟩:bs=bs'/\ws=ws':=by simpa using b
  exact hv
theorem iL.drop {H:Hp}{ys:List V}{reps:List (List Int × List (Key × V))}(n:Nat) (h:iL H ys reps):iL H (ys.drop n) (reps.drop n):=by
 refine⟨by rw[List.length_drop,List.length_drop,h.1],fun i v bs ws a b=> ?_⟩
 rw[List.getElem?_drop] at a b;exact h.2 _ v bs ws a b
theorem iL.en {H:Hp}{pl rl:Addr}{k:Nat}{b:Int}{m s:Nat}{g:Int}{ys:List V}{reps:List (List Int × List (Key × V))}(hp:Pl H pl k b m s g) (hl:H rl=some (.lst ys)) (h:iL H ys reps):En K H pl rl ⟨k,b,m,s,g,reps⟩:=
 ⟨hp,⟨_,hl⟩,ys,SqL.of hl,h.1,fun i v bs ws a b' ml hml=>by
  have r:=h.2 i v bs ws a b';obtain⟨ra,rb,rd,e1,e2,e3,e4⟩:=r.ex
  exact⟨⟨ra,rb,rd,e1,SqT.of e2,SqT.of e3,e4,aj e4 hml⟩,r.len,r.rng,r.mem,Nat.le_trans r.few (by decide),r.nod⟩⟩
theorem pU.put {pk:Nat}{pb i:Int}{v:V}{ws:List (Key × V)}(h:pU pk pb ws) (hi:InR pk pb i):pU pk pb (cx ws (.inl i) v):=by
 intro kv hk;unfold cx at hk
 split at hk
 .obtain⟨u,hu,e⟩:=List.mem_map.mp hk
  split at e
  .rename_i e1
   exact⟨i,by rw[<- e];exact e1,hi⟩
  .rw[<- e];exact h u hu
 .rcases List.mem_append.mp hk with hk | hk
  .exact h kv hk
  .rw[List.mem_singleton.mp hk];exact⟨i,rfl,hi⟩
theorem Gz {x:Fx}{k:Nat}{ns:List Int}{st:MSt}(h:∀r∈x.reps,r.2.length<=6):(dU x k ns st).2.kvs.length<=st.kvs.length+6:=by
 unfold dU
 split
 .exact Nat.le_add_right _ _
 .split
  .split
   .exact Nat.le_add_right _ _
   .split
    .exact Nat.le_add_right _ _
    .rename_i bs ws e
     have hw:ws.length<=6:=h _ (List.mem_of_getElem? e);have hg:=gY ws st.kvs;show(dN st.kvs ws).length<=_
     lia
  .split
   .split
    .split
     .exact Nat.le_add_right _ _
     .have:=vx st.kvs (.inl (bg ns st.bx)) (.int (bxG st.bx (ns.getD 0 0)));show(cx _ _ _).length<=_
      lia
    .exact Nat.le_add_right _ _
   .split
    .exact Nat.le_add_right _ _
    .exact Nat.le_add_right _ _
structure Mz (x:Pn) (is:List Ins) (bx:List Int) (kvs:List (Key × V)) (e:Str × List Int) (st:MSt):Prop where
 fin:(e=(("spent":Str),([]:List Int))/\mn x is st.p st.bx)\/e.1="stopped"\/e.1="asks"
 b7:bxG st.bx 7=bxG bx 7
 out:bey x.pk x.pb st.kvs=bey x.pk x.pb kvs
 rows:st.rows=[]\/∃n,st.rows=[(n,bx,kvs)]
 len:st.kvs.length<=kvs.length+6
theorem IE {x:Pn}{reps:List (List Int × List (Key × V))}{is:List Ins}(hR:SpM.Room x.pk x.pb) (hms:x.pm+x.ps<=7) (co:km x is) (hrep:∀r∈reps,HK x.pk x.pb r) (h6:∀r∈reps,r.2.length<=6) {p:Int}{bx:List Int}{kvs:List (Key × V)}(h:mn x is p bx) (hm:dq kvs)
  (hm2:dq (dD ⟨x.pk,x.pb,x.pm,x.ps,x.pg,reps⟩ (ay is) 1 ⟨p,bx,kvs,[]⟩ 0).2.1.kvs):
  ∃e st,dD ⟨x.pk,x.pb,x.pm,x.ps,x.pg,reps⟩ (ay is) 1 ⟨p,bx,kvs,[]⟩ 0=(e,st,1)/\Mz x is bx kvs e st:=by
 obtain⟨kn,sp,hi,_,_,_,_,_,_,so⟩:=qp (reps:=reps) (st:=⟨p,bx,kvs,[]⟩) hR hms co hrep h hm;have hl:=Gz (x:=⟨x.pk,x.pb,x.pm,x.ps,x.pg,reps⟩) (k:=kn.1) (ns:=kn.2) (st:=⟨p,bx,kvs,[]⟩) h6;have hi:ic (ay is) p=some kn:=hi;obtain⟨k,ns⟩:=kn;have er:dD ⟨x.pk,x.pb,x.pm,x.ps,x.pg,reps⟩ (ay is) 1 ⟨p,bx,kvs,[]⟩ 0=match dU ⟨x.pk,x.pb,x.pm,x.ps,x.pg,reps⟩ k ns ⟨p,bx,kvs,[]⟩ with | (some e,st2)=>(e,st2,0+1) | (none,st2)=>dD ⟨x.pk,x.pb,x.pm,x.ps,x.pg,reps⟩ (ay is) 0 st2 (0+1):=by
  conv=>lhs;unfold dD
  dsimp only;rw[hi]
  all_goals rfl
 dsimp only at so hl
 cases hst:dU ⟨x.pk,x.pb,x.pm,x.ps,x.pg,reps⟩ k ns ⟨p,bx,kvs,[]⟩ with
 | mk e1 st2=>
  rw[hst] at er so hl
  cases e1 with
  | some e=>
   obtain⟨f1,_,_⟩:=so.fin e rfl;refine⟨e,st2,er,.inr f1,so.b7,so.out,?_,hl⟩
   rcases so.rows with z | ⟨n,z⟩
   .exact .inl z
   .exact .inr ⟨n,z⟩
  | none=>
   have hg:=so.go rfl;have hm3:dq st2.kvs:=by
    have z:=hm2;rw[er] at z;dsimp only at z;unfold dD at z
    revert z
    cases ic (ay is) st2.p <;> exact fun z=>z
   obtain⟨kn2,_,hi2,_⟩:=qp (reps:=reps) (st:=st2) hR hms co hrep hg hm3;have e2:dD ⟨x.pk,x.pb,x.pm,x.ps,x.pg,reps⟩ (ay is) 0 st2 (0+1)=((("spent":Str),([]:List Int)),st2,1):=by
    unfold dD;rw[hi2]
    rfl
   refine⟨(("spent":Str),([]:List Int)),st2,by rw[er];exact e2,.inl ⟨rfl,hg⟩,so.b7,so.out,?_,hl⟩
   rcases so.rows with z | ⟨n,z⟩
   .exact .inl z
   .exact .inr ⟨n,z⟩
theorem TdA.get {H:Hp}:∀ {vs:List V}{r:List (Option (List SpM.Span))}{j:Nat}{sp:List SpM.Span},TdA K H vs r->r[j]? =some (some sp)->∃a,vs[j]? =some (.ref a)/\SpT K H a sp
 | [],[],j,sp,_,e=>by simp at e
 | v::vs,none::r,0,sp,h,e=>by cases e
 | v::vs,some s::r,0,sp,h,e=>by
  cases e
  obtain⟨a,rfl,h1⟩:=h.1;exact⟨a,rfl,h1⟩
 | v::vs,none::r,j+1,sp,h,e=>TdA.get (vs:=vs) (r:=r) (j:=j) h.2 e
 | v::vs,some s::r,j+1,sp,h,e=>TdA.get (vs:=vs) (r:=r) (j:=j) h.2 e
 | [],none::_,_,_,h,_=>h.elim
 | [],some _::_,_,_,h,_=>h.elim
 | _::_,[],_,_,h,_=>h.elim
def KL (K:Frag) (a:Addr) (xs:List V):Prop:=∃(o:Obj) (its:Array Value) (n:Nat),K.lookup a=some o/\o.cls= .type "list"/\o.dict=none/\o.data= .seq its n/\its.size<=sizeLine/\aW xs its.toList
theorem But.seqK {H H':Hp}{a d:Addr}{xs:List V}(b:But d H H') (n:a≠d\/KL K a xs) (h:SqL K H a xs):SqL K H' a xs:=by
 rcases n with n | n
 .exact But.seq b n h
 .exact .inr n
def bT (K:Frag) (sc:Addr) (ns:List Int) (H:Hp) (a:Addr):Prop:=∃(k n:Int),H a=some (.lst [.ref sc,.int k,.int n])/\SqL K H sc (ns.map V.int)/\(sc≠a\/KL K sc (ns.map V.int))/\0<=k/\ns.length<=63
def lA (K:Frag) (sc:Addr) (ns:List Int):Sp:=fun vs H Q _=>∃(d:Addr) (m:Int),vs=[.ref d,.int m]/\bT K sc ns H d/\0 < m/\m<=2^100/\∀(r:Int) (H':Hp),0<=r->r < m->bT K sc ns H' d->But d H H'->Q (.int r) H'
theorem MC {x y z:V}:fe [x,y,z] none (some 2)=[x,y]:=by
 unfold fe;have e1:HT.sIx [x,y,z].length 0 none=0:=rfl;have e2:HT.sIx [x,y,z].length [x,y,z].length (some 2)=2:=by
  show HT.sIx 3 3 (some ((2:Nat):Int))=2
  rw[HT.sIx_nat]
  rfl
 rw[e1,e2]
 rfl
theorem zf {sc:Addr}{ns:List Int}(B:Bi mg) (D:uc K mg):Has P w K mg base 1 "_law_draw" iq (lA K sc ns):=by
 refine D.has df (fun vs H Q E h=> ?_) (fun f cdv A outer s H vs Q E hr h=> ?_)
 .obtain⟨d,m,rfl,_⟩:=h
  rfl
 obtain⟨d,m,rfl,⟨k,nn,hd,hsc,nsd,k0,hl63⟩,hm0,hm1,q⟩:=h;have hl:(ns.map V.int).length=ns.length:=List.length_map _;have item:∀i:Int,0<=i->i < ns.length->∃v:Int,atI (ns.map V.int) i=some (.int v):=fun i i0 i1=>by
  have hk:i.toNat < ns.length:=by lia
  have ek:i=((i.toNat:Nat):Int):=by lia
  have q:atI (ns.map V.int) ((i.toNat:Nat):Int)=some (.int ns[i.toNat]):=aJ (by rw[List.getElem?_map,List.getElem?_eq_getElem hk] <;> rfl)
  rw[<- ek] at q;exact⟨_,q⟩
 refine⟨_,(aa (mi (c_ zD (pv 0) eB (eC ac)) (FY (n:=2) (by rfl) (bE (aN (i:=2) df.nd (by rfl) (by left;rfl)) (bE (aN (i:=3) df.nd (by rfl) (by left;rfl)) jM))))
   (aa (mi (av aU (pv 3) ac) (wH (pv 0) ac oR))
   (aa (aO (bq (ax (PW.pt (kY (pcT iI (av cZ (pv 3) ac) (aI aM (by rfl) B.len dk (pa1 (pv 2)))) (iP (pcT jH (aI vZ (by rfl) B.abs Dd (pa1 (pX bF (pv 2) (av cZ (pv 3) ac)))) (b_ (v:=1000000000000000000) (by rfl)))))) (aa (aO (bq (ax (pcT aD (av dJ (pv 3) ac) ac) (ae (mi (aI vZ (by rfl) B.abs Dd (pa1 (pX bF (pv 2) (av cZ (pv 3) ac)))) (wH (pv 0) ac oR))) al)))
   (ae (ax (pcT xO (pX bF (pv 0) ac) ac) (aa (psS 4 df.nd (av dJ (pX bF (pv 0) ac) (pv 1)))
   (aa (mi (av cZ (pX bF (pv 0) ac) (pv 1)) (wH (pv 0) ac oR))
   (ae (ah (pv 4))))) al))) al)))
   (aa (psS 5 df.nd (av aU (av cf (pv 3) ac) ac))
   (aa (aO (bq (ax (pcT xO (aI aM (by rfl) B.len dk (pa1 (pv 2))) ac) (ae (psS 5 df.nd (av aU (pv 5) (av cf (av dJ (pX bF (pv 2) (av dJ (av cf (pv 3) ac) (aI aM (by rfl) B.len dk (pa1 (pv 2))))) ac) (av aU ac (pv 3)))))) al)))
   (aa (psS 5 df.nd (av dJ (av cf (av dJ (pv 5) ac) (av aU (pv 3) ac)) ac))
   (aa (psS 5 df.nd (av dJ (av cf (pv 5) (pv 5)) ac))
   (ae (ah (av dJ (av cf (av dJ (av cf (pv 5) (pv 5)) ac) ac) (pv 1))))))))))),?_⟩
 try dsimp only[aT]
 walk_at "g";intro p hp;rw[MC];have hp1:upd H p (.lst [.ref sc,.int k]) p=some (.lst [.ref sc,.int k]):=ad;have hd1:=bh (o:= .lst [.ref sc,.int k]) hp hd;have hs1:=Ky (o:= .lst [.ref sc,.int k]) hp hsc;have s1:=ag hp (.lst [.ref sc,.int k]);generalize upd H p (.lst [.ref sc,.int k])=H1 at*;walk_at "g";have hd2:upd H1 d (.lst (List.set [.ref sc,.int k,.int nn] (Int.toNat 1) (.int (k+1)))) d=some (.lst [.ref sc,.int (k+1),.int nn]):=ad;have b2:But d H1 (upd H1 d (.lst (List.set [.ref sc,.int k,.int nn] (Int.toNat 1) (.int (k+1))))):=But.upd;have hs2:=But.seqK b2 nsd hs1;have B2:But d H (upd H1 d (.lst (List.set [.ref sc,.int k,.int nn] (Int.toNat 1) (.int (k+1))))):=s1.but.trans b2;dsimp only;generalize upd H1 d (.lst (List.set [.ref sc,.int k,.int nn] (Int.toNat 1) (.int (k+1))))=H2 at*;have fin:∀(r:Int) (H':Hp) (n':Int),0<=r->r < m->H' d=some (.lst [.ref sc,.int (k+1),.int n'])->But d H2 H'->Q (.int r) H':=fun r H' n' r0 r1 e b=>q r H' r0 r1 ⟨k+1,n',e,But.seqK b nsd hs2,nsd,by lia,hl63⟩ (B2.trans b)
 walk_at "n";refine⟨fun Z' H'=>aG ((∃ n',H' d=some (.lst [.ref sc,.int (k+1),.int n']))/\But d H2 H'/\Z'=[some (.ref d),some (.int m),some (.ref sc),some (.int k),none,none]),?_,?_⟩
 .walk_at "g";refine bz (fun c1=> ?_) (fun c1=> ?_)
  .have c1':k / 30 < ((ns.map V.int).length:Nat):=c1;obtain⟨v1,e1⟩:=item (k / 30) (by lia) (by rw[hl] at c1';exact c1')
   walk_at "g";refine bz (fun c2=> ?_) (fun c2=> ?_)
   .walk_at "n";refine⟨fun Z' H'=>aG ((∃ n',H' d=some (.lst [.ref sc,.int (k+1),.int n']))/\But d H2 H'/\Z'=[some (.ref d),some (.int m),some (.ref sc),some (.int k),none,none]),?_,?_⟩
    .walk_at "g";refine bz (fun c3=> ?_) (fun c3=> ?_)
     .walk_at "g";exact⟨⟨_,ad⟩,But.upd,rfl⟩
     .exact⟨⟨nn,hd2⟩,But.refl _ _,rfl⟩
    rintro Z1 H3 ⟨⟨n3,hd3⟩,b3,rfl⟩
    walk_at "g";refine bz (fun c4=> ?_) (fun c4=> ?_)
    .have hcd:Bc n3 m:=⟨hm0,hm1⟩;walk_at "g";exact fin _ _ _ (Int.emod_nonneg _ (by lia)) (Int.emod_lt_of_pos _ hm0) ad (b3.trans But.upd)
    .exact⟨⟨n3,hd3⟩,b3,rfl⟩
   .exact⟨⟨nn,hd2⟩,But.refl _ _,rfl⟩
  .exact CG ⟨⟨nn,hd2⟩,But.refl _ _,rfl⟩
 rintro Z2 H3 ⟨⟨n3,hd3⟩,b3,rfl⟩
 have hs3:=But.seqK b3 nsd hs2;walk_at "g";refine⟨fun Z' H'=>aG (H3=H'/\∃x:Int,Z'=[some (.ref d),some (.int m),some (.ref sc),some (.int k),none,some (.int x)]),?_,?_⟩
 .walk_at "g";refine bz (fun c1=> ?_) (fun c1=> ?_)
  .have c1':(0:Int) < ((ns.map V.int).length:Nat):=c1;have hp0:0 < ns.length:=by rw[hl] at c1';lia
   obtain⟨v1,e1⟩:=item (k*7 %(((ns.map V.int).length:Nat):Int)) (Int.emod_nonneg _ (by rw[hl];lia)) (by rw[hl];exact Int.emod_lt_of_pos _ (by lia))
   walk_at "g";exact⟨rfl,_,rfl⟩
  .exact⟨rfl,_,rfl⟩
 rintro Z3 H4 ⟨rfl,x4,rfl⟩
 walk_at "g";exact fin _ _ _ (Int.emod_nonneg _ (by lia)) (Int.emod_lt_of_pos _ hm0) hd3 b3
theorem bT.same {sc:Addr}{ns:List Int}{H H':Hp}{a:Addr}(h:bT K sc ns H a) (e:az H H'):bT K sc ns H' a:=by
 obtain⟨k,n,h1,h2,h3,h4,h5⟩:=h;exact⟨k,n,e _ _ h1,e.seq h2,h3,h4,h5⟩
theorem bT.up {sc:Addr}{ns:List Int}{H:Hp}{d p:Addr}{o:HO}(h:bT K sc ns H d) (hp:H p=none):bT K sc ns (upd H p o) d:=h.same (ag hp _)
theorem bT.ne {sc:Addr}{ns:List Int}{H:Hp}{d p:Addr}(h:bT K sc ns H d) (hp:H p=none):p≠d:=by
 obtain⟨k,n,h1,_⟩:=h;exact(aj h1 hp).symm
theorem bT.keep {sc:Addr}{ns:List Int}{H H':Hp}{d a:Addr}{u:HO}(h:bT K sc ns H d) (e:But d H H') (ha:H a=some u) (hn:∀xs,u≠ .lst xs):H' a=some u:=by
 obtain⟨k,n,h1,_⟩:=h;exact e _ _ (by rintro rfl;rw[h1] at ha;exact hn _ (Option.some.inj ha).symm) ha
theorem Pl.st {sc:Addr}{ns:List Int}{H H':Hp}{a d:Addr}{k:Nat}{b:Int}{m s:Nat}{g:Int}(p:Pl H a k b m s g) (e:But d H H') (hd:bT K sc ns H d):Pl H' a k b m s g:=⟨hd.keep e p.at_ (fun _ z=>by cases z),p.room,p.ms⟩
def D_:Sp:=fun vs H Q _=>vs=[]/\∀p H',az H H'->H p=none->H' p=some (.lst (qb.map V.str))->Q (.ref p) H'
theorem w_ (B:Bi mg) (D:rT K mg):Has P w K mg base 1 "_law_sorts" [] D_:=by
 refine D.has pL (fun vs H Q E h=> ?_) (fun f cdv A outer s H vs Q E hr h=> ?_)
 .obtain⟨rfl,_⟩:=h
  rfl
 obtain⟨rfl,q⟩:=h
 refine⟨_,((aa (psS 0 pL.nd (cw (cj (by rfl))))
   (ae (ah (av sH (pv 0) (cw (cj (by rfl))))))):PSs (fP CX0 P w K mg base ["_law_some"] "_law_sorts" (af iK) f cdv A outer s H E).nox (_::_) _),?_⟩
 try dsimp only[aT]
 walk_at "g";intro p hp;walk_at "g";intro p2 hp2;walk_at "g";intro p3 hp3;refine q p3 _ (bM hp3 (bM hp2 (ag hp _))) ?_ ad
 cases e:H p3 with
 | none=>rfl
 | some u=>rw[bh hp2 (bh hp e)] at hp3;cases hp3
theorem IA {k:Nat}{b:Int}(hk:k<=20) (b0:0<=b) (b1:b < 2^(32 - k)):SpM.Room k (b*2^k):=by
 have e:(2:Int)^(32 - k)*2^k=4294967296:=by rw[<- Int.pow_add,Nat.sub_add_cancel (by lia)];exact SpM.p32
 have h1:(b+1)*2^k<=2^(32 - k)*2^k:=Int.mul_le_mul_of_nonneg_right (by lia) (Int.le_of_lt (SpM.pp k))
 rw[Int.add_mul] at h1;exact⟨hk,Int.mul_nonneg b0 (Int.le_of_lt (SpM.pp k)),⟨b,Int.mul_comm _ _⟩,by lia⟩
def DK (K:Frag) (sc:Addr) (ns:List Int):Sp:=fun vs H Q _=>∃(d a:Addr) (k:Nat) (b:Int) (m s:Nat) (g:Int),vs=[.ref d,.ref a]/\bT K sc ns H d/\Pl H a k b m s g/\∀(v:Int) H',0<=v->v < 4294967296->bT K sc ns H' d->But d H H'->Q (.int v) H'
theorem wS {sc:Addr}{ns:List Int}(B:Bi mg) (D:rD K mg) (au:Has P w K mg base 1 "_law_draw" iq (lA K sc ns)):Has P w K mg base 2 "_law_value" nW (DK K sc ns):=by
 refine D.has pR (fun vs H Q E h=> ?_) (fun f cdv A outer s H vs Q E hr h=> ?_)
 .obtain⟨d,a,k,b,m,s,g,rfl,_⟩:=h
  rfl
 obtain⟨d,a,k,b,m,sx,g,rfl,hD,pl,q⟩:=h;have hk:=pl.room.k20;have r0:=pl.room.b0;have r1:=pl.room.bW;have ek2:(1:Int)*2^((k:Int)).toNat=2^k:=by rw[Int.one_mul,Int.toNat_natCast]
 have hp2:(2:Int)^k<=2^20:=SpM.ple (by lia)
 have hp3:=SpM.pp k;rw[<- ek2] at hp2 hp3 r1
 refine⟨_,((aa (psS 2 pR.nd (pcH au hr (pa2 (pv 0) ac)))
   (aa (ax (pcT aD (pv 2) ac) (ae (ah (pcH au hr (pa2 (pv 0) ac)))) al)
   (aa (ax (pcT aD (pv 2) ac) (ae (ah (av dJ (av bL (av aU (av aU (pX ak (pv 1) ac) (av nO ac (pX ak (pv 1) ac))) (pcH au hr (pa2 (pv 0) ac))) ac) (b_ (v:=4294967296) (by rfl))))) al)
   (aa (ax (pcT aD (pv 2) ac) (ae (ah (av aU (pX ak (pv 1) ac) (pcH au hr (pa2 (pv 0) (av nO ac (pX ak (pv 1) ac))))))) al)
   (aa (ax (pcT aD (pv 2) ac) (ae (ah (av bL (av bL (b_ (v:=4294967296) (by rfl)) ac) (pcH au hr (pa2 (pv 0) ac))))) al)
   (aa (ax (pcT aD (pv 2) ac) (ae (ah (av dJ (av bL (av aU (pX ak (pv 1) ac) (pcH au hr (pa2 (pv 0) ac))) ac) (b_ (v:=4294967296) (by rfl))))) al)
   (ae (ah (pcH au hr (pa2 (pv 0) (b_ (v:=4294967296) (by rfl)))))))))))):PSs (fP CX0 P w K mg base ["_law_state","_law_plan_here","_law_kind"] "_law_value" (af iQ) f cdv A outer s H E).nox (_::_) _),?_⟩
 try dsimp only[aT]
 walk_at "g";intro z H1 z0 z1 hD1 g1;have pl1:=pl.st g1 hD;have hat1:=pl1.at_;walk_at "g";refine bz (fun c=> ?_) (fun c=> ?_)
 .walk_at "g";intro r H2 r0 r1 hD2 g2;exact q r H2 r0 (by lia) hD2 (g1.trans g2)
 walk_at "g";refine bz (fun c=> ?_) (fun c=> ?_)
 .walk_at "g";intro r H2 r0 r1 hD2 g2;walk_at "g";exact q _ H2 (by lia) (by lia) hD2 (g1.trans g2)
 walk_at "g";refine bz (fun c=> ?_) (fun c=> ?_)
 .walk_at "g";intro r H2 r0 r1 hD2 g2;walk_at "g";exact q _ H2 (by lia) (by lia) hD2 (g1.trans g2)
 walk_at "g";refine bz (fun c=> ?_) (fun c=> ?_)
 .walk_at "g";intro r H2 r0 r1 hD2 g2;walk_at "g";exact q _ H2 (by lia) (by lia) hD2 (g1.trans g2)
 walk_at "g";refine bz (fun c=> ?_) (fun c=> ?_)
 .walk_at "g";intro r H2 r0 r1 hD2 g2;walk_at "g";exact q _ H2 (by lia) (by lia) hD2 (g1.trans g2)
 walk_at "g";intro r H2 r0 r1 hD2 g2;exact q r H2 r0 r1 hD2 (g1.trans g2)
def Hq (K:Frag) (sc:Addr) (ns:List Int):Sp:=fun vs H Q _=>∃d:Addr,vs=[.ref d]/\bT K sc ns H d/\∀(p:Addr) (k:Nat) (b:Int) (m s:Nat) (g:Int) H',Pl H' p k b m s g->0<=g->g<=16->bT K sc ns H' d->But d H H'->Q (.ref p) H'
theorem xv {sc:Addr}{ns:List Int}(B:Bi mg) (D:tK K mg) (au:Has P w K mg base 1 "_law_draw" iq (lA K sc ns)):Has P w K mg base 2 "_law_plan" r6 (Hq K sc ns):=by
 refine D.has iT (fun vs H Q E h=> ?_) (fun f cdv A outer s H vs Q E hr h=> ?_)
 .obtain⟨d,rfl,_⟩:=h
  rfl
 obtain⟨d,rfl,hD,q⟩:=h
 refine⟨_,((aa (psS 1 iT.nd (pX bF (cw (pa2 (pcH au hr (pa2 (pv 0) ac)) (pcH au hr (pa2 (pv 0) ac)))) (pcH au hr (pa2 (pv 0) ac))))
   (aa (psS 2 iT.nd (av cf (pX bF (cw (pa3 ac (av bL (av nO ac (av bL ac (pv 1))) ac) (pcH au hr (pa2 (pv 0) (av nO ac (av bL ac (pv 1))))))) (pcH au hr (pa2 (pv 0) ac))) (av nO ac (pv 1))))
   (aa (psS 3 iT.nd (pcH au hr (pa2 (pv 0) ac)))
   (ae (ah (aA (pa5 (pv 1) (pv 2) (pv 3) (pcH au hr (pa2 (pv 0) (av bL ac (pv 3)))) (pcH au hr (pa2 (pv 0) ac))))))))):PSs (fP CX0 P w K mg base ["_law_state","_law_k","_law_base","_law_m"] "_law_plan" (af jL) f cdv A outer s H E).nox (_::_) _),?_⟩
 try dsimp only[aT]
 walk_at "g";intro z1 H1 z10 z11 hD1 g1;walk_at "g";intro z2 H2 z20 z21 hD2 g2;walk_at "g";intro p hp;have hD2':=hD2.up (o:= .lst [.int z1,.int z2]) hp;have hl:upd H2 p (.lst [.int z1,.int z2]) p=some (.lst [.int z1,.int z2]):=ad;have g2':But d H (upd H2 p (.lst [.int z1,.int z2])):=cU hp (g1.trans g2);have hpd:=hD2.ne hp;generalize upd H2 p (.lst [.int z1,.int z2])=H3 at*;walk_at "g";intro r H4 r0 r1 hD4 g4;have hl4:=g4 _ _ hpd hl;obtain⟨k,hk,ek⟩:=Br [z1,z2] r0 r1
 change atI [V.int z1,V.int z2] r=some (V.int k) at ek
 have hk0:0<=k/\k<=20:=by
  simp only[List.mem_cons,List.not_mem_nil,or_false] at hk
  lia
 obtain⟨k,rfl⟩:∃n:Nat,k=n:=Int.eq_ofNat_of_zero_le (by first | assumption | lia)
 have em:(1:Int)*2^(32 - (k:Int)).toNat=2^(32 - k):=by
  rw[Int.one_mul]
  congr 1
  lia
 have hm1:=SpM.pp (32 - k);have hm2:(2:Int)^(32 - k)<=2^32:=SpM.ple (by lia)
 rw[SpM.p32] at hm2;have hR:=fun b b0 b1=> @IA k b (by lia) b0 b1
 rw[<- em] at hm1 hm2 hR;have ek2:(1:Int)*2^((k:Int)).toNat=2^k:=by rw[Int.one_mul,Int.toNat_natCast]
 have hp2:(2:Int)^k<=2^20:=SpM.ple (by lia)
 have hp3:=SpM.pp k;have G4:=g2'.trans g4;walk_at "g";intro b1 H5 b10 b11 hD5 g5;walk_at "g";dsimp only;generalize (1:Int)*2^(32 - (k:Int)).toNat=mm at*;intro p6 hp6;have hD6:=hD5.up (o:= .lst [.int 0,.int (mm - 1),.int b1]) hp6;have hl6:upd H5 p6 (.lst [.int 0,.int (mm - 1),.int b1]) p6=some (.lst [.int 0,.int (mm - 1),.int b1]):=ad;have g6:But d H (upd H5 p6 (.lst [.int 0,.int (mm - 1),.int b1])):=cU hp6 (G4.trans g5);have hpd6:=hD5.ne hp6;generalize upd H5 p6 (.lst [.int 0,.int (mm - 1),.int b1])=H6 at*;walk_at "g";intro j H7 j0 j1 hD7 g7;have hl7:=g7 _ _ hpd6 hl6;obtain⟨b,hb,eb⟩:=Br [0,mm - 1,b1] j0 j1
 change atI [V.int 0,V.int (mm - 1),V.int b1] j=some (V.int b) at eb
 have hb0:0<=b/\b < mm:=by
  simp only[List.mem_cons,List.not_mem_nil,or_false] at hb
  lia
 have hcm:zB b (1*2^((k:Int)).toNat):=by rw[ek2];exact .inr ⟨by lia,by lia⟩
 walk_at "g";intro m H8 m0 m1 hD8 g8;walk_at "g";intro s2 H9 s20 s21 hD9 g9;walk_at "g";intro gt H10 gt0 gt1 hD10 g10;obtain⟨m,rfl⟩:∃n:Nat,m=n:=Int.eq_ofNat_of_zero_le (by first | assumption | lia)
 obtain⟨s2,rfl⟩:∃n:Nat,s2=n:=Int.eq_ofNat_of_zero_le (by first | assumption | lia)
 walk_at "g";intro p11 hp11;have hr:=hR b hb0.1 hb0.2;rw[<- ek2] at hr;exact q p11 k _ m s2 gt _ ⟨ad,hr,by lia⟩ gt0 (by lia) (hD10.up hp11) (cU hp11 ((((g6.trans g7).trans g8).trans g9).trans g10))
def IJ (K:Frag) (sc:Addr) (ns:List Int):Sp:=fun vs H Q _=>∃(d a:Addr) (k:Nat) (b:Int) (m s:Nat) (g:Int) (n:Nat),vs=[.ref d,.ref a,.int n]/\bT K sc ns H d/\Pl H a k b m s g/\n<=100/\∀(p:Addr) (xs:List Int) H',xs.length=n->(∀ x∈xs,0<=x/\x < 4294967296)->H' p=some (.tup (xs.map V.int))->bT K sc ns H' d->But d H H'->Q (.ref p) H'
theorem w6 {sc:Addr}{ns:List Int}(B:Bi mg) (D:qU K mg) (bQ:Has P w K mg base 2 "_law_value" nW (DK K sc ns)):Has P w K mg base 3 "_law_boxes" DM (IJ K sc ns):=by
 refine D.has xl (fun vs H Q E h=> ?_) (fun f cdv A outer s H vs Q E hr h=> ?_)
 .obtain⟨d,a,k,b,m,s,g,n,rfl,_⟩:=h
  rfl
 obtain⟨d,a,k,b,m,sx,g,n,rfl,hD,pl,hn,q⟩:=h;refine⟨_,((ae (ah (bN eL (by rfl) B.tuple il (pa1 (lS (by rfl) (by rfl) (by rfl) (bk (sc0:=af gh) (N0:=["_law_state","_law_plan_here","_law_many_here"]) ["_law_k","_law_state","_law_plan_here"] 1 [0,1]) (f_ (by rfl) B.range (pa1 (pv 2))) (fun _ _ _ _=>(aN (i:=0) (show List.Nodup (["_law_k","_law_state","_law_plan_here"]:List Str) by decide) (by rfl) (by left;rfl))) (fun _ _ _ _=>(pcH bQ hr (pa2 (pv 1) (pv 2))))))))):PSs (fP CX0 P w K mg base ["_law_state","_law_plan_here","_law_many_here"] "_law_boxes" (af gh) f cdv A outer s H E).nox (_::_) _),?_⟩
 try dsimp only[aT]
 walk_at "g";intro c hc;refine mq (fun i ys H'=>aG (i<=n/\∃ws:List Int,ys=ws.map V.int/\ws.length=i/\(∀ x∈ws,0<=x/\x < 4294967296)/\H' c=some (.lst ys)/\bT K sc ns H' d/\Pl H' a k b m sx g/\But d H H')) ⟨Nat.zero_le _,[],rfl,rfl,(fun x hx=>absurd hx (by simp)),ad,hD.up hc,pl.mv (ag hc _),(ag hc _).but⟩ ?_ ?_
 .rintro i ys H1 Fk hF hi ⟨hi63,ws,rfl,hl,hws,hc1,hD1,pl1,b1⟩
  have hi':i < n:=by simpa using hi
  refine⟨Wk.none Wk.refl,?_⟩
  have ncd:c≠d:=hD.ne hc;walk_at "g";intro v H2 v0 v1 hD2 g2;have hc2:=g2 _ _ ncd hc1;have bu:∀u,But d H (upd H2 c u):=fun u x y nx e=>by
   rw[ai (aj e hc)];exact g2 _ _ nx (b1 _ _ nx e)
  have hup:∀u,bT K sc ns (upd H2 c u) d:=fun u=>by
   obtain⟨kk,nn,e1,e2,e3,e4,e5⟩:=hD;obtain⟨kk',nn',f1,f2,f3,f4,f5⟩:=hD2;exact⟨kk',nn',by rw[ai (Ne.symm ncd)];exact f1,But.seqK (bu u) e3 e2,f3,f4,f5⟩
  refine⟨hc2,?_,hF _ _ ⟨by lia,ws++[v],by simp,by simp [hl],?_,ad,hup _,?_,?_⟩⟩
  .rw[List.length_map,hl];exact Nat.lt_of_le_of_lt (show i<=100 by lia) (by decide)
  .intro y hy;rcases List.mem_append.mp hy with hy | hy
   .exact hws y hy
   .have:y=v:=by simpa using hy
    rw[this];exact⟨v0,v1⟩
  .have pl2:=pl1.st g2 hD1;exact⟨by rw[ai (fun z=>by have:=pl2.at_;rw[z,hc2] at this;cases this)];exact pl2.at_,pl2.room,pl2.ms⟩
  .intro x u nx e;rw[ai (aj e hc)];exact g2 _ _ nx (b1 _ _ nx e)
 .rintro ys H1 ⟨_,ws,rfl,hl,hws,hc1,hD1,pl1,b1⟩
  walk_at "g";intro p hp;exact q p ws _ (by simpa using hl) hws ad (hD1.up hp) (cU hp b1)
def Jy (K:Frag) (sc:Addr) (ns:List Int):Sp:=fun vs H Q _=>∃d:Addr,vs=[.ref d]/\bT K sc ns H d/\∀(v:Int) H', -131072<=v->v < 131072->bT K sc ns H' d->But d H H'->Q (.int v) H'
theorem vK {sc:Addr}{ns:List Int}(B:Bi mg) (D:pS K mg) (au:Has P w K mg base 1 "_law_draw" iq (lA K sc ns)):Has P w K mg base 2 "_law_number" r6 (Jy K sc ns):=by
 refine D.has oO (fun vs H Q E h=> ?_) (fun f cdv A outer s H vs Q E hr h=> ?_)
 .obtain⟨d,rfl,_⟩:=h
  rfl
 obtain⟨d,rfl,hD,q⟩:=h
 refine⟨_,((aa (psS 1 oO.nd (cw (pa4 (av bL (pcH au hr (pa2 (pv 0) ac)) ac) (av bL (pcH au hr (pa2 (pv 0) (b_ (v:=262144) (by rfl)))) (b_ (v:=131072) (by rfl))) (av bL (b_ (v:=131072) (by rfl)) ac) (av bL ac (b_ (v:=131072) (by rfl))))))
   (ae (ah (pX bF (pv 1) (pX bF (cw (cj (by rfl))) (pcH au hr (pa2 (pv 0) ac))))))):PSs (fP CX0 P w K mg base ["_law_state","_law_some"] "_law_number" (af g_) f cdv A outer s H E).nox (_::_) _),?_⟩
 try dsimp only[aT]
 walk_at "g";intro z1 H1 z10 z11 hD1 g1;walk_at "g";intro z2 H2 z20 z21 hD2 g2;walk_at "g";intro p hp;have hD2':=hD2.up (o:= .lst [.int (z1 - 8),.int (z2 - 131072),.int (131072 - 1),.int (0 - 131072)]) hp;have hl:upd H2 p (.lst [.int (z1 - 8),.int (z2 - 131072),.int (131072 - 1),.int (0 - 131072)]) p=some (.lst [.int (z1 - 8),.int (z2 - 131072),.int (131072 - 1),.int (0 - 131072)]):=ad;have g2':But d H (upd H2 p (.lst [.int (z1 - 8),.int (z2 - 131072),.int (131072 - 1),.int (0 - 131072)])):=cU hp (g1.trans g2);have hpd:=hD2.ne hp;generalize upd H2 p (.lst [.int (z1 - 8),.int (z2 - 131072),.int (131072 - 1),.int (0 - 131072)])=H3 at*;walk_at "g";intro p4 hp4;have hD4:=hD2'.up (o:= .lst [.int 0,.int 0,.int 0,.int 0,.int 1,.int 1,.int 2,.int 3]) hp4;have hl4:upd H3 p4 (.lst [.int 0,.int 0,.int 0,.int 0,.int 1,.int 1,.int 2,.int 3]) p4=some (.lst [.int 0,.int 0,.int 0,.int 0,.int 1,.int 1,.int 2,.int 3]):=ad;have g4:But d H (upd H3 p4 (.lst [.int 0,.int 0,.int 0,.int 0,.int 1,.int 1,.int 2,.int 3])):=cU hp4 g2';have hl4':=bh (o:= .lst [.int 0,.int 0,.int 0,.int 0,.int 1,.int 1,.int 2,.int 3]) hp4 hl;have hpd4:=hD2'.ne hp4;generalize upd H3 p4 (.lst [.int 0,.int 0,.int 0,.int 0,.int 1,.int 1,.int 2,.int 3])=H4 at*;walk_at "g";intro r H5 r0 r1 hD5 g5;have hl5:=g5 _ _ hpd4 hl4;have hl5':=g5 _ _ hpd hl4';obtain⟨j,hj,ej⟩:=Br [0,0,0,0,1,1,2,3] r0 r1
 change atI [V.int 0,V.int 0,V.int 0,V.int 0,V.int 1,V.int 1,V.int 2,V.int 3] r=some (V.int j) at ej
 have hj0:0<=j/\j < 4:=by
  simp only[List.mem_cons,List.not_mem_nil,or_false] at hj
  lia
 obtain⟨v,hv,ev⟩:=Br [z1 - 8,z2 - 131072,131072 - 1,0 - 131072] hj0.1 hj0.2
 change atI [V.int (z1 - 8),V.int (z2 - 131072),V.int (131072 - 1),V.int (0 - 131072)] j=some (V.int v) at ev
 have hv0: -131072<=v/\v < 131072:=by
  simp only[List.mem_cons,List.not_mem_nil,or_false] at hv
  lia
 walk_at "g";exact q v H5 hv0.1 hv0.2 hD5 (g4.trans g5)
theorem vi {a b:Int}(h:V.int a=V.int b):a=b:=by injection h
theorem nvi {a b:Int}(h:¬V.int a=V.int b):a≠b:=fun e=>h (by rw[e])
theorem bT.tup {sc:Addr}{ns:List Int}{H H':Hp}{d a:Addr}{xs:List V}(h:bT K sc ns H d) (b:But d H H') (e:H a=some (.tup xs)):H' a=some (.tup xs):=by
 obtain⟨k,n,h1,_⟩:=h;exact b _ _ (by rintro rfl;rw[h1] at e;cases e) e
def InI (mm g:Int) (kn:Nat × List Int):Prop:=aK 6 262144 kn.1 kn.2/\kn.1≠0/\kn.1≠13/\kn.1≠15/\kn.1≠16/\kn.1≠17/\(kn.1=14->kn.2.getD 1 0 < mm)/\(kn.1=18->kn.2.getD 0 0 < g)
theorem inI {mm g:Int}{k:Nat}{is:List Int}(h:aK 6 262144 k is) (h1:k≠0/\k≠13/\k≠15/\k≠16/\k≠17) (h2:k=14->is.getD 1 0 < mm) (h3:k=18->is.getD 0 0 < g):InI mm g (k,is):=⟨h,h1.1,h1.2.1,h1.2.2.1,h1.2.2.2.1,h1.2.2.2.2,h2,h3⟩
def LaI (mm:Int) (kn:Nat × List Int):Prop:=aK 6 262144 kn.1 kn.2/\(kn.1=0\/kn.1=13\/kn.1=15)/\(kn.1=13->kn.2.getD 0 0 < mm)
def DI (K:Frag) (sc:Addr) (ns:List Int):Sp:=fun vs H Q _=>∃(d a:Addr) (k:Nat) (b:Int) (m s:Nat) (g:Int) (t mm:Int),vs=[.ref d,.ref a,.int t,.int mm]/\bT K sc ns H d/\Pl H a k b m s g/\g<=16/\1<=t/\t<=14/\0 < mm/\mm<=100/\
 ∀p kn H',InI mm g kn->H' p=some (.tup (aE kn.1 kn.2))->bT K sc ns H' d->But d H H'->Q (.ref p) H'
theorem wW {sc:Addr}{ns:List Int}(B:Bi mg) (D:rN K mg) (au:Has P w K mg base 1 "_law_draw" iq (lA K sc ns)) (me:Has P w K mg base 1 "_law_sorts" [] D_) (bQ:Has P w K mg base 2 "_law_value" nW (DK K sc ns))
  (ko:Has P w K mg base 2 "_law_number" r6 (Jy K sc ns)):Has P w K mg base 3 "_law_inner" Bp (DI K sc ns):=by
 refine D.has fC (fun vs H Q E h=> ?_) (fun f cdv A outer s H vs Q E hr h=> ?_)
 .obtain⟨d,a,k,b,m,s,g,t,mm,rfl,_⟩:=h
  rfl
 obtain⟨d,a,k,b,m,sx,g,t,mm,rfl,hD,pl,hg,ht0,ht,mm0,mm1,q⟩:=h;obtain⟨t,rfl⟩:∃n:Nat,t=n:=Int.eq_ofNat_of_zero_le (by first | assumption | lia)
 refine⟨_,((aa (mi (lS (by rfl) (by rfl) (by rfl) (bk (sc0:=af gm) (N0:=["_law_state","_law_plan_here","_law_sort","_law_many_here","_law_a","_law_b","_law_c","_law_name"]) ["_law_k","_law_state"] 1 [0]) (f_ (by rfl) B.range (pa1 ac)) (fun _ _ _ _=>(aN (i:=0) (show List.Nodup (["_law_k","_law_state"]:List Str) by decide) (by rfl) (by left;rfl))) (fun _ _ _ _=>(pcH au hr (pa2 (pv 1) ac)))) (FY (n:=3) (by rfl) (bE (aN (i:=4) fC.nd (by rfl) (by left;rfl)) (bE (aN (i:=5) fC.nd (by rfl) (by left;rfl)) (bE (aN (i:=6) fC.nd (by rfl) (by left;rfl)) jM)))))
   (aa (psS 7 fC.nd (pX bF (eU (me.mono (by omega)) hr (by rfl)) (pv 2)))
   (aa (ax (pcT aD (pv 2) ac) (ae (ah (aA (pa3 (pv 7) (pv 4) (pcH bQ hr (pa2 (pv 0) (pv 1))))))) al)
   (aa (ax (pcT iI (pv 2) ac) (ae (ah (aA (pa4 (pv 7) (pv 4) (pv 5) (pv 6))))) al)
   (aa (ax (pcT iI (pv 2) ac) (ae (ah (aA (pa4 (pv 7) (pv 4) (pv 5) (pcH ko hr (pa1 (pv 0))))))) al)
   (aa (aO (bq (ax (PW.pt (kY (pcT aD (pv 2) ac) (iP (pcT xO (pX ak (pv 1) ac) ac)))) (ae (ah (aA (pa2 aw (pcH au hr (pa2 (pv 0) (pX ak (pv 1) ac))))))) al)))
   (ae (ah (aA (pa3 aw (pv 4) (pcH au hr (pa2 (pv 0) (pv 3))))))))))))):PSs (fP CX0 P w K mg base ["_law_state","_law_plan_here","_law_sort","_law_many_here","_law_a","_law_b","_law_c","_law_name"] "_law_inner" (af gm) f cdv A outer s H E).nox (_::_) _),?_⟩
 try dsimp only[aT]
 walk_at "g";intro c hc;have ncd:c≠d:=hD.ne hc;refine mq (fun i ys H'=>aG (i<=3/\∃ws:List Int,ys=ws.map V.int/\ws.length=i/\(∀ x∈ws,0<=x/\x < 6)/\H' c=some (.lst ys)/\bT K sc ns H' d/\Pl H' a k b m sx g/\But d H H')) ⟨Nat.zero_le _,[],rfl,rfl,(fun x hx=>absurd hx (by simp)),ad,hD.up hc,pl.mv (ag hc _),(ag hc _).but⟩ ?_ ?_
 .rintro i ys H1 Fk hF hi ⟨hi63,ws,rfl,hl,hws,hc1,hD1,pl1,b1⟩
  have hi':i < 3:=by simpa using hi
  refine⟨Wk.none Wk.refl,?_⟩
  walk_at "g";intro v H2 v0 v1 hD2 g2;have hc2:=g2 _ _ ncd hc1;have bu:∀u,But d H (upd H2 c u):=fun u x y nx e=>by
   rw[ai (aj e hc)];exact g2 _ _ nx (b1 _ _ nx e)
  have hup:∀u,bT K sc ns (upd H2 c u) d:=fun u=>by
   obtain⟨kk,nn,e1,e2,e3,e4,e5⟩:=hD;obtain⟨kk',nn',f1,f2,f3,f4,f5⟩:=hD2;exact⟨kk',nn',by rw[ai (Ne.symm ncd)];exact f1,But.seqK (bu u) e3 e2,f3,f4,f5⟩
  refine⟨hc2,?_,hF _ _ ⟨by lia,ws++[v],by simp,by simp [hl],?_,ad,hup _,?_,?_⟩⟩
  .rw[List.length_map,hl];exact Nat.lt_of_le_of_lt (show i<=100 by lia) (by decide)
  .intro y hy;rcases List.mem_append.mp hy with hy | hy
   .exact hws y hy
   .have:y=v:=by simpa using hy
    rw[this];exact⟨v0,v1⟩
  .have pl2:=pl1.st g2 hD1;exact⟨by rw[ai (fun z=>by have:=pl2.at_;rw[z,hc2] at this;cases this)];exact pl2.at_,pl2.room,pl2.ms⟩
  .intro x u nx e;rw[ai (aj e hc)];exact g2 _ _ nx (b1 _ _ nx e)
 rintro ys H1 ⟨_,ws,rfl,hl,hws,hc1,hD1,pl1,b1⟩
 obtain⟨x,y,z,rfl⟩:∃x y z:Int,ws=[x,y,z]:=by
  match ws,hl with
  | [x,y,z],_=>exact⟨x,y,z,rfl⟩
 have hx:=hws x (by simp)
 have hy:=hws y (by simp)
 have hz:=hws z (by simp)
 refine⟨c,_,rfl,SqL.of hc1,rfl,?_⟩
 walk_at "g";intro ps H2 s2 hps hs2;have hD2:=hD1.same s2;have b2:=b1.trans s2.but;have pl2:=pl1.mv s2;have hat:=DC (k:=t) (by lia)
 clear hc1 hD1 pl1 b1;walk_at "g";refine bz (fun c1=> ?_) (fun c1=> ?_)
 .obtain rfl:t=1:=by have:=vi c1;lia
  walk_at "g";intro v H3 v0 v1 hD3 b3;walk_at "g";intro p hp;exact q p (1,[x,v]) _ (inI (.inr (.inl ⟨rfl,x,v,rfl,hx.1,hx.2,v0,v1⟩)) (by lia) (fun z=>absurd z (by decide)) (fun z=>absurd z (by decide))) ad (hD3.up hp) (cU hp (b2.trans b3))
 have c1':=nvi c1;walk_at "g";refine bz (fun c2=> ?_) (fun c2=> ?_)
 .walk_at "g";intro p hp;exact q p (t,[x,y,z]) _ (inI (.inr (.inr (.inl ⟨by lia,by lia,x,y,z,rfl,hx.1,hx.2,hy.1,hy.2,hz.1,hz.2⟩))) (by lia) (fun z=>absurd z (by lia)) (fun z=>absurd z (by lia))) ad (hD2.up hp) (cU hp b2)
 walk_at "g";refine bz (fun c3=> ?_) (fun c3=> ?_)
 .walk_at "g";intro v H3 v0 v1 hD3 b3;walk_at "g";intro p hp;exact q p (t,[x,y,v]) _ (inI (.inr (.inr (.inr (.inl ⟨by lia,by lia,x,y,v,rfl,hx.1,hx.2,hy.1,hy.2,v0,v1⟩)))) (by lia) (fun z=>absurd z (by lia)) (fun z=>absurd z (by lia))) ad (hD3.up hp) (cU hp (b2.trans b3))
 have hat5:=pl2.at_;have p4:atI [V.int k,V.int b,V.int m,V.int sx,V.int g] 4=some (.int g):=aJ (j:=4) rfl;have ji:∀(v:Int) (p:Addr) (H4:Hp),0<=v->v < mm->H4 p=some (.tup [.str "jumpif",.int x,.int v])->bT K sc ns H4 d->But d H H4->Q (.ref p) H4:=fun v p H4 v0 v1 e1 e2 e3=>
  q p (14,[x,v]) _ (inI (.inr (.inr (.inr (.inr (.inr (.inl ⟨rfl,x,v,rfl,hx.1,hx.2,v0,by lia⟩)))))) (by lia) (fun _=>v1) (fun z=>absurd z (by decide))) e1 e2 e3
 have hmm:mm<=2^100:=Int.le_trans mm1 (by decide)
 walk_at "n";refine⟨fun Z' H'=>aG (H'=H2/\∃y5 y6 y7,Z'=[some (.ref d),some (.ref a),some (.int t),some (.int mm),some (.int x),y5,y6,y7]),?_,?_⟩
 .walk_at "g";refine bz (fun c4=> ?_) (fun c4=> ?_)
  .walk_at "g";refine bz (fun c5=> ?_) (fun c5=> ?_)
   .walk_at "g";intro v H3 v0 v1 hD3 b3;walk_at "g";intro p hp;exact q p (18,[v]) _ (inI (.inr (.inr (.inr (.inr (.inl ⟨.inr rfl,v,rfl,v0,by lia⟩))))) (by lia) (fun z=>absurd z (by decide)) (fun _=>v1)) ad (hD3.up hp) (cU hp (b2.trans b3))
   .exact⟨rfl,_,_,_,rfl⟩
  .exact⟨rfl,_,_,_,rfl⟩
 rintro Z1 H3 ⟨rfl,y5,y6,y7,rfl⟩
 walk_at "g";intro v H3 v0 v1 hD3 b3;walk_at "g";intro p hp;exact ji v p _ v0 v1 ad (hD3.up hp) (cU hp (b2.trans b3))
def FI (K:Frag) (sc:Addr) (ns:List Int):Sp:=fun vs H Q _=>∃(d:Addr) (mm:Int),vs=[.ref d,.int mm]/\bT K sc ns H d/\0 < mm/\mm<=100/\
 ∀p kn H',LaI mm kn->H' p=some (.tup (aE kn.1 kn.2))->bT K sc ns H' d->But d H H'->Q (.ref p) H'
theorem zQ {sc:Addr}{ns:List Int}(B:Bi mg) (D:uh K mg) (au:Has P w K mg base 1 "_law_draw" iq (lA K sc ns)):Has P w K mg base 2 "_law_last" iq (FI K sc ns):=by
 refine D.has zL (fun vs H Q E h=> ?_) (fun f cdv A outer s H vs Q E hr h=> ?_)
 .obtain⟨d,mm,rfl,_⟩:=h
  rfl
 obtain⟨d,mm,rfl,hD,mm0,mm1,q⟩:=h;have hmm:mm<=2^100:=Int.le_trans mm1 (by decide)
 refine⟨_,((ae (ah (pX bF (cw (pa3 (aA (pa1 aw)) (aA (pa2 aw (pcH au hr (pa2 (pv 0) (pv 1))))) (aA (pa2 aw (pcH au hr (pa2 (pv 0) ac)))))) (pcH au hr (pa2 (pv 0) ac))))):PSs (fP CX0 P w K mg base ["_law_state","_law_many_here"] "_law_last" (af jA) f cdv A outer s H E).nox (_::_) _),?_⟩
 try dsimp only[aT]
 walk_at "g";intro p1 hp1;have hD1:=hD.up (o:= .tup [.str "stop"]) hp1;have e1:upd H p1 (.tup [.str "stop"]) p1=some (.tup [.str "stop"]):=ad;have b1:But d H (upd H p1 (.tup [.str "stop"])):=(ag hp1 _).but;generalize upd H p1 (.tup [.str "stop"])=H1 at*;walk_at "g";intro z1 H2 z10 z11 hD2 g2;have e2:=hD1.tup g2 e1;have b2:=b1.trans g2;walk_at "g";intro p2 hp2;have hD3:=hD2.up (o:= .tup [.str "jump",.int z1]) hp2;have e3:=bh (o:= .tup [.str "jump",.int z1]) hp2 e2;have f3:upd H2 p2 (.tup [.str "jump",.int z1]) p2=some (.tup [.str "jump",.int z1]):=ad;have b3:=cU (o:= .tup [.str "jump",.int z1]) hp2 b2;generalize upd H2 p2 (.tup [.str "jump",.int z1])=H3 at*;walk_at "g";intro z2 H4 z20 z21 hD4 g4;have e4:=hD3.tup g4 e3;have f4:=hD3.tup g4 f3;have b4:=b3.trans g4;walk_at "g";intro p3 hp3;have hD5:=hD4.up (o:= .tup [.str "through",.int z2]) hp3;have e5:=bh (o:= .tup [.str "through",.int z2]) hp3 e4;have f5:=bh (o:= .tup [.str "through",.int z2]) hp3 f4;have k5:upd H4 p3 (.tup [.str "through",.int z2]) p3=some (.tup [.str "through",.int z2]):=ad;have b5:=cU (o:= .tup [.str "through",.int z2]) hp3 b4;generalize upd H4 p3 (.tup [.str "through",.int z2])=H5 at*;walk_at "g";intro lp hlp;have hD6:=hD5.up (o:= .lst [.ref p1,.ref p2,.ref p3]) hlp;have e6:=bh (o:= .lst [.ref p1,.ref p2,.ref p3]) hlp e5;have f6:=bh (o:= .lst [.ref p1,.ref p2,.ref p3]) hlp f5;have k6:=bh (o:= .lst [.ref p1,.ref p2,.ref p3]) hlp k5;have l6:upd H5 lp (.lst [.ref p1,.ref p2,.ref p3]) lp=some (.lst [.ref p1,.ref p2,.ref p3]):=ad;have b6:=cU (o:= .lst [.ref p1,.ref p2,.ref p3]) hlp b5;have hpd:=hD5.ne hlp;generalize upd H5 lp (.lst [.ref p1,.ref p2,.ref p3])=H6 at*;walk_at "g";intro r H7 r0 r1 hD7 g7;have l7:=g7 _ _ hpd l6;have e7:=hD6.tup g7 e6;have f7:=hD6.tup g7 f6;have k7:=hD6.tup g7 k6;have b7:=b6.trans g7;obtain rfl | rfl | rfl:r=0\/r=1\/r=2:=by lia
 .have x0:atI [V.ref p1,V.ref p2,V.ref p3] 0=some (.ref p1):=aJ (j:=0) rfl;walk_at "g";exact q p1 (0,[]) _ ⟨.inl ⟨rfl,rfl⟩,.inl rfl,(fun z=>absurd z (by decide))⟩ e7 hD7 b7
 .have x0:atI [V.ref p1,V.ref p2,V.ref p3] 1=some (.ref p2):=aJ (j:=1) rfl;walk_at "g";exact q p2 (13,[z1]) _ ⟨.inr (.inr (.inr (.inr (.inl ⟨.inl rfl,z1,rfl,z10,by lia⟩)))),.inr (.inl rfl),(fun _=>z11)⟩ f7 hD7 b7
 .have x0:atI [V.ref p1,V.ref p2,V.ref p3] 2=some (.ref p3):=aJ (j:=2) rfl;walk_at "g";exact q p3 (15,[z2]) _ ⟨.inr (.inr (.inr (.inr (.inr (.inr (.inl ⟨rfl,z2,rfl,z20,z21⟩)))))),.inr (.inr rfl),(fun z=>absurd z (show ¬(15:Nat)=13 by decide))⟩ k7 hD7 b7
def GV (K:Frag) (sc:Addr) (ns:List Int):Sp:=fun vs H Q _=>∃(d:Addr) (f m:Int),vs=[.ref d,.int f,.int m]/\bT K sc ns H d/\0 < f/\f<=m/\m<=100/\∀(v:Nat) H',v < m->bT K sc ns H' d->But d H H'->Q (.int v) H'
theorem zE {sc:Addr}{ns:List Int}(B:Bi mg) (D:tO K mg) (au:Has P w K mg base 1 "_law_draw" iq (lA K sc ns)):Has P w K mg base 2 "_law_many" Al (GV K sc ns):=by
 refine D.has zC (fun vs H Q E h=> ?_) (fun f cdv A outer s H vs Q E hr h=> ?_)
 .obtain⟨d,ff,m,rfl,_⟩:=h
  rfl
 obtain⟨d,ff,m,rfl,hD,f0,fm,m1,q⟩:=h;have hm0:0 < m:=by lia
 have hff:ff<=2^100:=Int.le_trans (Int.le_trans fm m1) (by decide)
 have hmm:m<=2^100:=Int.le_trans m1 (by decide)
 refine⟨_,((ae (ah (pX bF (cw (pa2 (pcH au hr (pa2 (pv 0) (pv 1))) (pcH au hr (pa2 (pv 0) (pv 2))))) (bN tX (by rfl) B.int Gr (pa1 (pcE aD (pcH au hr (pa2 (pv 0) ac)) ac)))))):PSs (fP CX0 P w K mg base ["_law_state","_law_few","_law_most"] "_law_many" (af jC) f cdv A outer s H E).nox (_::_) _),?_⟩
 try dsimp only[aT]
 walk_at "g";intro z1 H1 z10 z11 hD1 g1;walk_at "g";intro z2 H2 z20 z21 hD2 g2;walk_at "g";intro p hp;have hD2':=hD2.up (o:= .lst [.int z1,.int z2]) hp;have hl:upd H2 p (.lst [.int z1,.int z2]) p=some (.lst [.int z1,.int z2]):=ad;have g2':But d H (upd H2 p (.lst [.int z1,.int z2])):=cU hp (g1.trans g2);have hpd:=hD2.ne hp;generalize upd H2 p (.lst [.int z1,.int z2])=H3 at*;walk_at "g";intro r H5 r0 r1 hD5 g5;have hl5:=g5 _ _ hpd hl;obtain⟨v,hv,ev⟩:=Br [z1,z2] (r:=if decide (V.int r=V.int 1)=true then 1 else 0) (by split <;> decide) (by show _ < (2:Int);split <;> decide)
 change atI [V.int z1,V.int z2] _=some (V.int v) at ev
 have hv0:0<=v/\v < m:=by
  simp only[List.mem_cons,List.not_mem_nil,or_false] at hv
  lia
 obtain⟨v,rfl⟩:∃n:Nat,v=n:=Int.eq_ofNat_of_zero_le (by first | assumption | lia)
 walk_at "g";exact q v H5 hv0.2 hD5 (g2'.trans g5)
def kh (H:Hp):List Addr->List (Nat × List Int)->Prop
 | [],[]=>True
 | a::as,kn::r=>H a=some (.tup (aE kn.1 kn.2))/\kh H as r
 | _,_=>False
theorem kh.mono {H H':Hp}(h1:∀a xs,H a=some (.tup xs)->H' a=some (.tup xs)):∀ {ts:List Addr}{ps:List (Nat × List Int)},kh H ts ps->kh H' ts ps
 | [],[],_=>True.intro
 | _::_,_::_,h=>⟨h1 _ _ h.1,kh.mono h1 h.2⟩
 | [],_::_,h=>h.elim
 | _::_,[],h=>h.elim
theorem kh.len {H:Hp}:∀ {ts:List Addr}{ps:List (Nat × List Int)},kh H ts ps->ts.length=ps.length
 | [],[],_=>rfl
 | _::_,_::_,h=>congrArg (· +1) (kh.len h.2)
 | [],_::_,h=>h.elim
 | _::_,[],h=>h.elim
theorem kh.push {H:Hp}{t:Addr}{p:Nat × List Int}(hx:H t=some (.tup (aE p.1 p.2))):∀ {ts:List Addr}{ps:List (Nat × List Int)},kh H ts ps->kh H (ts++[t]) (ps++[p])
 | [],[],_=>⟨hx,True.intro⟩
 | _::_,_::_,h=>⟨h.1,kh.push hx h.2⟩
 | [],_::_,h=>h.elim
 | _::_,[],h=>h.elim
def BlD (H:Hp):List Addr->List (List (Nat × List Int))->Prop
 | [],[]=>True
 | a::as,blk::r=>(∃ ias,H a=some (.tup (ias.map V.ref))/\kh H ias blk)/\BlD H as r
 | _,_=>False
theorem BlD.mono {H H':Hp}(h1:∀a xs,H a=some (.tup xs)->H' a=some (.tup xs)):∀ {ts:List Addr}{ps:List (List (Nat × List Int))},BlD H ts ps->BlD H' ts ps
 | [],[],_=>True.intro
 | _::_,_::_,h=>by
  obtain⟨⟨ias,e1,e2⟩,r⟩:=h;exact⟨⟨ias,h1 _ _ e1,e2.mono h1⟩,BlD.mono h1 r⟩
 | [],_::_,h=>h.elim
 | _::_,[],h=>h.elim
theorem BlD.len {H:Hp}:∀ {ts:List Addr}{ps:List (List (Nat × List Int))},BlD H ts ps->ts.length=ps.length
 | [],[],_=>rfl
 | _::_,_::_,h=>congrArg (· +1) (BlD.len h.2)
 | [],_::_,h=>h.elim
 | _::_,[],h=>h.elim
theorem BlD.push {H:Hp}{t:Addr}{p:List (Nat × List Int)}(hx:∃ias,H t=some (.tup (ias.map V.ref))/\kh H ias p):∀ {ts:List Addr}{ps:List (List (Nat × List Int))},BlD H ts ps->BlD H (ts++[t]) (ps++[p])
 | [],[],_=>⟨hx,True.intro⟩
 | _::_,_::_,h=>⟨h.1,BlD.push hx h.2⟩
 | [],_::_,h=>h.elim
 | _::_,[],h=>h.elim
theorem BlD.get {H:Hp}:∀ {ts:List Addr}{ps:List (List (Nat × List Int))},BlD H ts ps->∀(j:Nat) blk,ps[j]? =some blk->∃ba ias,ts[j]? =some ba/\H ba=some (.tup (ias.map V.ref))/\kh H ias blk
 | [],[],_=>fun j kn e=>by cases j <;> cases e
 | t::_,p::_,h=>fun j kn e=>by
  cases j with
  | zero=>
   have e':p=kn:=Option.some.inj e;subst e';obtain⟨ias,e1,e2⟩:=h.1;exact⟨t,ias,rfl,e1,e2⟩
  | succ j=>exact BlD.get h.2 j kn e
 | [],_::_,h=>h.elim
 | _::_,[],h=>h.elim
def LF (mm g:Int) (blk:List (Nat × List Int)):Prop:=∃ini la,blk=ini++[la]/\(∀ kn∈ini,InI mm g kn)/\LaI mm la/\ini.length<=23
structure GuD (g:Int) (gs:List (List (Nat × List Int))):Prop where
 pos:0 < gs.length
 few:gs.length<=16
 blk:∀blk∈gs,LF gs.length g blk
theorem InI.gi {nb:Nat}{g:Int}{kn:Ins}(h:InI nb g kn):GI nb g kn:=⟨h.1,⟨h.2.2.2.2.1,h.2.2.2.2.2.1⟩,fun z=>absurd z h.2.2.1,h.2.2.2.2.2.2.1,h.2.2.2.2.2.2.2⟩
theorem LaI.gi {nb:Nat}{g:Int}{kn:Ins}(h:LaI nb kn):GI nb g kn:=⟨h.1,⟨by have:=h.2.1;lia,by have:=h.2.1;lia⟩,h.2.2,fun z=>by have:=h.2.1;lia,fun z=>by have:=h.2.1;lia⟩
theorem GuD.t {g:Int}{gs:List (List Ins)}(h:GuD g gs):GuT g gs:=by
 refine⟨⟨h.pos,h.few,fun bk hb=> ?_⟩,fun bk hb i hi kn e z=> ?_⟩
 .obtain⟨ini,la,rfl,h1,h2,h3⟩:=h.blk bk hb;refine⟨fun kn hk=> ?_,by rw[List.length_append];show ini.length+1<=30;lia,ini,la,rfl,h2.2.1⟩
  rcases List.mem_append.mp hk with hk | hk
  .exact(h1 kn hk).gi
  .rw[List.mem_singleton.mp hk];exact h2.gi
 .obtain⟨ini,la,rfl,h1,h2,h3⟩:=h.blk bk hb;rw[List.length_append] at hi;have hi:i+1 < ini.length+1:=hi;rw[List.getElem?_append_left (by lia)] at e
  have:=h1 kn (List.mem_of_getElem? e);unfold tY at z;have t1:=this.2.1;have t2:=this.2.2.1;have t3:=this.2.2.2.1
  lia
theorem kh.ia {K:Frag}{H:Hp}:∀ {ts:List Addr}{ps:List Ins},kh H ts ps->fk K H ts ps
 | [],[],_=>True.intro
 | _::_,_::_,h=>⟨SqT.of h.1,kh.ia h.2⟩
 | [],_::_,h=>h.elim
 | _::_,[],h=>h.elim
theorem BlD.gst {K:Frag}{H:Hp}{bas:List Addr}{gs:List (List Ins)}(h:BlD H bas gs):GSt K H bas gs:=by
 refine⟨h.len,fun j b bk e1 e2=> ?_⟩
 obtain⟨ba,ias,f1,f2,f3⟩:=h.get j bk e2;obtain rfl:ba=b:=Option.some.inj (f1.symm.trans e1);exact⟨ias,SqT.of f2,f3.ia⟩
def IX (K:Frag) (sc:Addr) (ns:List Int):Sp:=fun vs H Q _=>∃(d a:Addr) (k:Nat) (b:Int) (m s:Nat) (g:Int),vs=[.ref d,.ref a]/\bT K sc ns H d/\Pl H a k b m s g/\g<=16/\
 ∀p bas gs H',GuD g gs->H' p=some (.tup (bas.map V.ref))->BlD H' bas gs->bT K sc ns H' d->But d H H'->Q (.ref p) H'
theorem xc {sc:Addr}{ns:List Int}(B:Bi mg) (D:rE K mg) (au:Has P w K mg base 1 "_law_draw" iq (lA K sc ns)) (jK:Has P w K mg base 2 "_law_many" Al (GV K sc ns))
  (lJ:Has P w K mg base 3 "_law_inner" Bp (DI K sc ns)) (oQ:Has P w K mg base 2 "_law_last" iq (FI K sc ns)):Has P w K mg base 4 "_law_guest" nW (IX K sc ns):=by
 refine D.has fF (fun vs H Q E h=> ?_) (fun f cdv A outer s H vs Q E hr h=> ?_)
 .obtain⟨d,a,k,b,m,s,g,rfl,_⟩:=h
  rfl
 obtain⟨d,a,k,b,m,sx,g,rfl,hD,pl,hg,q⟩:=h
 refine⟨_,(aa (psS 2 fF.nd (av aU ac (pcH jK hr (pa3 (pv 0) ac ac))))
   (aa (psS 3 fF.nd (cw gU))
   (aa (fB PassesOwn.never (by rfl) (eA (f_ (by rfl) B.range (pa1 (pv 2)))) (aN (i:=4) fF.nd (by rfl) (by left;rfl)) (aa (zP (i:=5) (by rfl) (by rfl) (by rfl) (bk (sc0:=af iM) (N0:=["_law_state","_law_plan_here","_law_many_here","_law_guest_here","_law_k","_law_block"]) ["_law_j","_law_state","_law_plan_here","_law_many_here"] 1 [0,1,2]) fF.nd (by rfl) (by left;rfl) (f_ (by rfl) B.range (pa1 (pcH jK hr (pa3 (pv 0) ac ac)))) (fun _ _ _ _=>(aN (i:=0) (show List.Nodup (["_law_j","_law_state","_law_plan_here","_law_many_here"]:List Str) by decide) (by rfl) (by left;rfl))) (fun _ _ _ _=>(pcH lJ hr (pa4 (pv 1) (pv 2) (av aU ac (pcH au hr (pa2 (pv 1) ac))) (pv 3)))))
   (ae (cu (nS PySem.F.plainAttrs_list PySem.F.slot_list_append PySem.F.type_list_append gx (pv 3) (pa1 (bN eL (by rfl) B.tuple il (pa1 (av sH (pv 5) (cw (pa1 (pcH oQ hr (pa2 (pv 0) (pv 2))))))))))))))
   (ae (ah (bN eL (by rfl) B.tuple il (pa1 (pv 3)))))))),?_⟩
 try dsimp only[aT]
 walk_at "g";intro m1 H1 m11 hD1 b1;have pl1:=pl.st b1 hD;obtain⟨mm,emm⟩:∃mm:Nat,mm=1+m1:=⟨_,rfl⟩;have emi:(1:Int)+(m1:Int)=(mm:Int):=by lia
 have mm0:0 < mm:=by lia
 have mm16:mm<=16:=by lia
 walk_at "g";dsimp only;rw[emi];intro gl hgl;have ngd:gl≠d:=hD1.ne hgl;have hD2:=hD1.up (o:= .lst []) hgl;have hg2:upd H1 gl (.lst []) gl=some (.lst []):=ad;have b2:=cU (o:= .lst []) hgl b1;have pl2:=pl1.mv (ag hgl (.lst []));have gl0:H gl=none:=by
  cases e:H gl with
  | none=>rfl
  | some u=>rw[b1 _ _ ngd e] at hgl;cases hgl
 generalize upd H1 gl (.lst [])=H2 at*;clear m11 emi;have hgH:aG (g<=16):=aG.mk hg;clear hg;walk_at "g";refine⟨oU (fun i Z H'=>aG (i<=mm/\∃(gs:List (List (Nat × List Int))) (bas:List Addr) (x y:Option V),gs.length=i/\(∀ blk∈gs,LF mm g blk)/\BlD H' bas gs/\H' gl=some (.lst (bas.map V.ref))/\bT K sc ns H' d/\Pl H' a k b m sx g/\But d H H'/\Z=[some (.ref d),some (.ref a),some (.int mm),some (.ref gl),x,y])) ⟨Nat.zero_le _,[],[],_,_,rfl,(fun x hx=>absurd hx (by simp)),True.intro,hg2,hD2,pl2,b2,rfl⟩ ?_ ?_⟩
 .intro i Z H3 hi hh_;refine bI fun G_ hG_=> ?_
  obtain⟨hi6,gs,bas,x,y,hl,hgs,hba,hg3,hD3,pl3,b3,rfl⟩:=hh_;refine hG_ ?_
  have hi':i < mm:=by simp at hi;lia
  clear hg2 hD2 pl2 b2;walk_at "g";intro n H4 n24 hD4 b4;have hba4:=hba.mono (fun a' xs e=>hD3.tup b4 e)
  have hg4:=b4 _ _ ngd hg3;have pl4:=pl3.st b4 hD3;have B4:=b3.trans b4;have n23:n < 24:=by lia
  clear n24;walk_at "g";intro c hc;have ncd:c≠d:=hD4.ne hc;have ngc:gl≠c:=aj hg4 hc;refine mq (fun i ys H'=>aG (i<=n/\∃(ini:List (Nat × List Int)) (ias:List Addr),ys=ias.map V.ref/\ini.length=i/\(∀ kn∈ini,InI mm g kn)/\kh H' ias ini/\H' c=some (.lst ys)/\bT K sc ns H' d/\Pl H' a k b m sx g/\But d H4 H')) ⟨Nat.zero_le _,[],[],rfl,rfl,(fun x hx=>absurd hx (by simp)),True.intro,ad,hD4.up hc,pl4.mv (ag hc _),(ag hc _).but⟩ ?_ ?_
  .intro i2 ys H5 Fk hF hi2 hh_;refine bI fun G_ hG_=> ?_
   obtain⟨hi63,ini,ias,rfl,hl5,hin5,hia5,hc5,hD5,pl5,b5⟩:=hh_;refine hG_ ?_
   have hi2':i2 < n:=by simpa using hi2
   refine⟨Wk.none Wk.refl,?_⟩
   walk_at "g";intro t H6 t0 t1 hD6 b6;have pl6:=pl5.st b6 hD5;have hc6:=b6 _ _ ncd hc5;have hia6:=hia5.mono (fun a' xs e=>hD5.tup b6 e)
   have tt0:1<=1+t:=by lia
   have tt1:1+t<=14:=by lia
   have zm0:(0:Int) < (mm:Int):=by lia
   have zm1:(mm:Int)<=100:=by lia
   have hg:g<=16:=hgH.out;walk_at "g";intro p kn H7 hin e7 hD7 b7;have hc7:=b7 _ _ ncd hc6;have hia7:=hia6.mono (fun a' xs e=>hD6.tup b7 e)
   have pl7:=pl6.st b7 hD6;have bu:∀u,But d H4 (upd H7 c u):=fun u x y nx e=>by
    rw[ai (aj e hc)];exact b7 _ _ nx (b6 _ _ nx (b5 _ _ nx e))
   have hup:∀u,bT K sc ns (upd H7 c u) d:=fun u=>by
    refine bI fun G_ hG_=> ?_
    obtain⟨kk,nn,e1,e2,e3,e4,e5⟩:=hD4;refine hG_ ?_
    refine bI fun G_ hG_=> ?_
    obtain⟨kk',nn',f1,f2,f3,f4,f5⟩:=hD7;refine hG_ ?_
    exact⟨kk',nn',by rw[ai (Ne.symm ncd)];exact f1,But.seqK (bu u) e3 e2,f3,f4,f5⟩
   have nt:∀a' xs,H7 a'=some (.tup xs)->∀u,upd H7 c u a'=some (.tup xs):=fun a' xs e u=>by rw[ai (fun z=>by rw[z,hc7] at e;cases e)];exact e
   refine⟨hc7,?_,hF _ _ ⟨by lia,ini++[kn],ias++[p],by simp,by simp [hl5],?_,?_,ad,hup _,?_,bu _⟩⟩
   .rw[List.length_map,hia5.len,hl5];exact Nat.lt_of_le_of_lt (show i2<=100 by lia) (by decide)
   .intro y hy;rcases List.mem_append.mp hy with hy | hy
    .exact hin5 y hy
    .have:y=kn:=by simpa using hy
     rw[this];exact hin
   .exact kh.push (nt _ _ e7 _) (hia7.mono (fun a' xs e=>nt _ _ e _))
   .exact⟨nt _ _ pl7.at_ _,pl7.room,pl7.ms⟩
  .intro ys H5 hh_;refine bI fun G_ hG_=> ?_
   obtain⟨_,ini,ias,rfl,hl5,hin5,hia5,hc5,hD5,pl5,b5⟩:=hh_;refine hG_ ?_
   have hba5:=hba4.mono (fun a' xs e=>hD4.tup b5 e)
   have hg5:=b5 _ _ ngd hg4;have B5:=B4.trans b5;have zm0:(0:Int) < (mm:Int):=by lia
   have zm1:(mm:Int)<=100:=by lia
   have hty5:tyV K "list" (.ref gl) H5:= .inl ⟨rfl,_,SqL.of hg5⟩;walk_at "g";intro p kn H6 hla e6 hD6 b6;have hc6:=b6 _ _ ncd hc5;have hg6:=b6 _ _ ngd hg5;have hia6:=hia5.mono (fun a' xs e=>hD5.tup b6 e)
   have hba6:=hba5.mono (fun a' xs e=>hD5.tup b6 e)
   have pl6:=pl5.st b6 hD5;have B6:=B5.trans b6;walk_at "g";intro l1 hl1;have hc7:=bh (o:= .lst [.ref p]) hl1 hc6;have hg7:=bh (o:= .lst [.ref p]) hl1 hg6;have e7:=bh (o:= .lst [.ref p]) hl1 e6;have hia7:=hia6.mono (fun a' xs e=>bh (o:= .lst [.ref p]) hl1 e)
   have hba7:=hba6.mono (fun a' xs e=>bh (o:= .lst [.ref p]) hl1 e)
   have pl7:=pl6.mv (ag hl1 (.lst [.ref p]));have hD7:=hD6.up (o:= .lst [.ref p]) hl1;have B7:=cU (o:= .lst [.ref p]) hl1 B6;have hl7:upd H6 l1 (.lst [.ref p]) l1=some (.lst [.ref p]):=ad;generalize upd H6 l1 (.lst [.ref p])=H7 at*;have hz7:(ias.map V.ref).length+[V.ref p].length<=sizeLine:=by
    rw[List.length_map,hia5.len,hl5];exact Nat.le_trans (show n+1<=100 by lia) (by decide)
   walk_at "g";intro l2 hl2;have ea:ias.map V.ref++[V.ref p]=(ias++[p]).map V.ref:=by simp
   rw[ea];have hg8:=bh (o:= .lst ((ias++[p]).map V.ref)) hl2 hg7;have hia8:=kh.push (bh (o:= .lst ((ias++[p]).map V.ref)) hl2 e7) (hia7.mono (fun a' xs e=>bh (o:= .lst ((ias++[p]).map V.ref)) hl2 e))
   have hba8:=hba7.mono (fun a' xs e=>bh (o:= .lst ((ias++[p]).map V.ref)) hl2 e)
   have pl8:=pl7.mv (ag hl2 (.lst ((ias++[p]).map V.ref)));have hD8:=hD7.up (o:= .lst ((ias++[p]).map V.ref)) hl2;have B8:=cU (o:= .lst ((ias++[p]).map V.ref)) hl2 B7;have hl8:upd H7 l2 (.lst ((ias++[p]).map V.ref)) l2=some (.lst ((ias++[p]).map V.ref)):=ad;generalize upd H7 l2 (.lst ((ias++[p]).map V.ref))=H8 at*;walk_at "g";intro tb htb;have hg9:=bh (o:= .tup ((ias++[p]).map V.ref)) htb hg8;have hia9:=hia8.mono (fun a' xs e=>bh (o:= .tup ((ias++[p]).map V.ref)) htb e)
   have hba9:=hba8.mono (fun a' xs e=>bh (o:= .tup ((ias++[p]).map V.ref)) htb e)
   have pl9:=pl8.mv (ag htb (.tup ((ias++[p]).map V.ref)));have hD9:=hD8.up (o:= .tup ((ias++[p]).map V.ref)) htb;have B9:=cU (o:= .tup ((ias++[p]).map V.ref)) htb B8;have ht9:upd H8 tb (.tup ((ias++[p]).map V.ref)) tb=some (.tup ((ias++[p]).map V.ref)):=ad;generalize upd H8 tb (.tup ((ias++[p]).map V.ref))=H9 at*;have hll:(bas.map V.ref).length < sizeLine:=Nat.lt_of_le_of_lt (show _<=100 by rw[List.length_map,hba.len,hl];lia) (by decide)
   walk_at "g";have bu:∀u,But d H (upd H9 gl u):=fun u x y nx e=>by
    rw[ai (aj e gl0)];exact B9 _ _ nx e
   have nt:∀a' xs,H9 a'=some (.tup xs)->∀u,upd H9 gl u a'=some (.tup xs):=fun a' xs e u=>by rw[ai (fun z=>by rw[z,hg9] at e;cases e)];exact e
   refine⟨by lia,gs++[ini++[kn]],bas++[tb],_,_,by simp [hl],?_,?_,?_,?_,?_,bu _,rfl⟩
   .intro y hy;rcases List.mem_append.mp hy with hy | hy
    .exact hgs y hy
    .have:y=ini++[kn]:=by simpa using hy
     rw[this];exact⟨ini,kn,rfl,hin5,hla,by lia⟩
   .exact BlD.push ⟨_,nt _ _ ht9 _,hia9.mono (fun a' xs e=>nt _ _ e _)⟩ (hba9.mono (fun a' xs e=>nt _ _ e _))
   .rw[List.map_append];exact ad
   .refine bI fun G_ hG_=> ?_
    obtain⟨kk,nn,e1,e2,e3,e4,e5⟩:=hD;refine hG_ ?_
    refine bI fun G_ hG_=> ?_
    obtain⟨kk',nn',f1,f2,f3,f4,f5⟩:=hD9;refine hG_ ?_
    exact⟨kk',nn',by rw[ai (Ne.symm ngd)];exact f1,But.seqK (bu _) e3 e2,f3,f4,f5⟩
   .exact⟨nt _ _ pl9.at_ _,pl9.room,pl9.ms⟩
 .intro Z H3 hh_;refine bI fun G_ hG_=> ?_
  obtain⟨_,gs,bas,x,y,hl,hgs,hba,hg3,hD3,pl3,b3,rfl⟩:=hh_;refine hG_ ?_
  walk_at "g";intro p hp;have hlm:gs.length=mm:=by simpa using hl
  exact q p bas gs _ ⟨by lia,by lia,fun blk hb=>by rw[hlm];exact hgs blk hb⟩ ad (hba.mono (fun a' xs e=>bh hp e)) (hD3.up hp) (cU hp b3)
theorem bT.wrN {sc:Addr}{ns:List Int}{H0 H:Hp}{d c:Addr}{o:HO}(h0:bT K sc ns H0 d) (hc:H0 c=none) (h:bT K sc ns H d) (n:c≠d) (b:But d H0 H):bT K sc ns (upd H c o) d:=by
 obtain⟨kk,nn,e1,e2,e3,e4,e5⟩:=h0;obtain⟨kk',nn',f1,f2,f3,f4,f5⟩:=h;exact⟨kk',nn',by rw[ai (Ne.symm n)];exact f1,But.seqK (wrB hc b) e3 e2,f3,f4,f5⟩
def HL (K:Frag) (sc:Addr) (ns:List Int):Sp:=fun vs H Q _=>∃(d a:Addr) (k:Nat) (b:Int) (m s:Nat) (g:Int) (wi:Bool),vs=[.ref d,.ref a,.bl wi]/\bT K sc ns H d/\Pl H a k b m s g/\∀(c:Addr) (kvs:List (Key × V)) H',H c=none->H' c=some (.dK kvs)->dq kvs->(kvs.map (·.1)).Nodup->kvs.length<=6->(wi=true->pU k b kvs)->bT K sc ns H' d->But d H H'->Q (.ref c) H'
theorem LU (k:Nat):(1:Int)*2^((k:Int)).toNat=2^k:=by rw[Int.one_mul,Int.toNat_natCast]
theorem vg {sc:Addr}{ns:List Int}(B:Bi mg) (D:pC K mg) (au:Has P w K mg base 1 "_law_draw" iq (lA K sc ns)) (bQ:Has P w K mg base 2 "_law_value" nW (DK K sc ns)):Has P w K mg base 3 "_law_memory" D6 (HL K sc ns):=by
 refine D.has eK (fun vs H Q E h=> ?_) (fun f cdv A outer s H vs Q E hr h=> ?_)
 .obtain⟨d,a,k,b,m,s,g,wi,rfl,_⟩:=h
  rfl
 obtain⟨d,a,k,b,m,sx,g,wi,rfl,hD,pl,q⟩:=h;have hk:=pl.room.k20;have ek2:=LU k;have hcp:Gx 1 (k:Int):=⟨by lia,by lia,by decide⟩
 have hp2:(2:Int)^k<=2^20:=SpM.ple (by lia)
 have hp3:=SpM.pp k;have hq1:(0:Int) < 1*2^((k:Int)).toNat:=by rw[ek2];exact hp3
 have hq2:(1:Int)*2^((k:Int)).toNat<=2^100:=by rw[ek2];exact Int.le_trans hp2 (by decide)
 have p0:atI [V.int k,V.int b,V.int m,V.int sx,V.int g] 0=some (.int k):=aJ (j:=0) rfl;have p1:atI [V.int k,V.int b,V.int m,V.int sx,V.int g] 1=some (.int b):=aJ (j:=1) rfl;clear hp2
 refine⟨_,(aa (psS 3 eK.nd Am)
   (aa (fB PassesOwn.never (by rfl) (eA (f_ (by rfl) B.range (pa1 (pcH au hr (pa2 (pv 0) ac))))) (aN (i:=4) eK.nd (by rfl) (by left;rfl)) (aa (psS 5 eK.nd (av aU (pX ak (pv 1) ac) (pcH au hr (pa2 (pv 0) (av nO ac (pX ak (pv 1) ac))))))
   (aa (aO (bq (ax (PW.pt (kY (dZ (Hc (pv 2) (by intro _;rfl))) (iP (pcT aD (pcH au hr (pa2 (pv 0) ac)) ac)))) (ae (psS 5 eK.nd (pcH bQ hr (pa2 (pv 0) (pv 1))))) al)))
   (ae (uP (ya hr) (pv 3) (pv 5) (pX bF (cw (pa2 ac (pcH bQ hr (pa2 (pv 0) (pv 1))))) (bN tX (by rfl) B.int Gr (pa1 (pcE xO (pcH au hr (pa2 (pv 0) ac)) ac)))) (by rfl))))))
   (ae (ah (pv 3))))),?_⟩
 try dsimp only[aT]
 walk_at "g";intro c hc;have ncd:c≠d:=hD.ne hc;have hD0:=hD.up (o:= .dK []) hc;have hc0:upd H c (.dK []) c=some (.dK []):=ad;have b0:But d H (upd H c (.dK [])):=(ag hc _).but;have pl0:=pl.mv (ag hc (.dK []));generalize upd H c (.dK [])=H0 at*;walk_at "g";intro n H1 n0 n1 hD1 b1;have hc1:=b1 _ _ ncd hc0;have B1:=b0.trans b1;have pl1:=pl0.st b1 hD0;clear hc0 hD0 pl0 b0 b1;walk_at "g";refine⟨oU (fun i Z H'=>aG (∃ (kvs:List (Key × V)) (x4 x5:Option V),kvs.length<=i/\dq kvs/\(kvs.map (·.1)).Nodup/\(wi=true->pU k b kvs)/\H' c=some (.dK kvs)/\bT K sc ns H' d/\Pl H' a k b m sx g/\But d H H'/\Z=[some (.ref d),some (.ref a),some (.bl wi),some (.ref c),x4,x5])) ⟨[],_,_,Nat.zero_le _,(fun x hx=>absurd hx (by simp)),List.nodup_nil,(fun _ x hx=>absurd hx (by simp)),hc1,hD1,pl1,B1,rfl⟩ ?_ ?_⟩
 .clear hc1 hD1 pl1 B1;intro i Z H2 hi hh_;refine bI fun G_ hG_=> ?_
  obtain⟨kvs,x4,x5,hl,hmo,hno,hro,hc2,hD2,pl2,b2,rfl⟩:=hh_;refine hG_ ?_
  have hi':i < 6:=by simp at hi;lia
  have hat2:=pl2.at_;walk_at "g";intro r H3 r0 r1 hD3 b3;rw[ek2] at r1;have pl3:=pl2.st b3 hD2;have hc3:=b3 _ _ ncd hc2;have B3:=b2.trans b3;have hrm:InR k b (b+r):=⟨by lia,by lia⟩
  clear hc2 hD2 pl2 b2 b3 hat2;walk_at "g";refine⟨fun Z' H'=>aG (∃ pc:Int,(wi=true->InR k b pc)/\H' c=some (.dK kvs)/\bT K sc ns H' d/\Pl H' a k b m sx g/\But d H H'/\Z'=[some (.ref d),some (.ref a),some (.bl wi),some (.ref c),some (.int (0+(i:Int))),some (.int pc)]),?_,?_⟩
  .walk_at "g"
   cases wi with
   | true=>
    walk_at "g";exact aG.mk ⟨_,fun _=>hrm,hc3,hD3,pl3,B3,rfl⟩
   | false=>
    walk_at "g";intro z H4 z0 z1 hD4 b4;have pl4:=pl3.st b4 hD3;have hc4:=b4 _ _ ncd hc3;have B4:=B3.trans b4;walk_at "g";refine bz (fun cz=> ?_) (fun cz=> ?_)
    .walk_at "g";intro v H5 v0 v1 hD5 b5;walk_at "g";exact aG.mk ⟨_,(fun z=>by cases z),b5 _ _ ncd hc4,hD5,pl4.st b5 hD4,B4.trans b5,rfl⟩
    .walk_at "g";exact aG.mk ⟨_,(fun z=>by cases z),hc4,hD4,pl4,B4,rfl⟩
  clear hc3 hD3 pl3 B3 hrm r0 r1;clear H3;intro Z3 H3 hh_;refine bI fun G_ hG_=> ?_
  obtain⟨pc,hpc,hc3,hD3,pl3,B3,rfl⟩:=hh_;refine hG_ ?_
  walk_at "g";intro v H4 v0 v1 hD4 b4;have pl4:=pl3.st b4 hD3;have hc4:=b4 _ _ ncd hc3;have B4:=B3.trans b4;clear hc3 hD3 pl3 B3 b4;walk_at "g";intro lp hlp;have nlp:lp≠d:=hD4.ne hlp;have s5:=ag hlp (.lst [.int 0,.int v]);have l5:upd H4 lp (.lst [.int 0,.int v]) lp=some (.lst (([0,v]:List Int).map V.int)):=ad;have hD5:=hD4.up (o:= .lst [.int 0,.int v]) hlp;have pl5:=pl4.mv s5;have hc5:=s5 _ _ hc4;have B5:=cU (o:= .lst [.int 0,.int v]) hlp B4;generalize upd H4 lp (.lst [.int 0,.int v])=H5 at*;clear hc4 hD4 pl4 B4 s5;walk_at "g";intro z H6 z0 z1 hD6 b6;have pl6:=pl5.st b6 hD5;have hc6:=b6 _ _ ncd hc5;have B6:=B5.trans b6;have l6:SqL K H6 lp (([0,v]:List Int).map V.int):=SqL.of (b6 _ _ nlp l5);obtain⟨vv,hvv,ev⟩:∃vv:Int,(0<=vv/\vv < 4294967296)/\atI (([0,v]:List Int).map V.int) (if decide (0 < z)=true then 1 else 0)=some (.int vv):=by
   by_cases cz:0 < z
   .rw[decide_eq_true cz];exact⟨v,⟨v0,v1⟩,aJ (j:=1) rfl⟩
   .rw[decide_eq_false cz];exact⟨0,⟨by decide,by decide⟩,aJ (j:=0) rfl⟩
  have hpt:qX H6 c (.int pc) (.int vv) (upd H6 c (.dK (cx kvs (.inl pc) (.int vv)))):=qX.k (k:= .inl pc) hc6 (Nat.lt_of_le_of_lt (show kvs.length<=100 by lia) (by decide))
  walk_at "g";have hpl:=vx kvs (.inl pc) (.int vv);exact aG.mk ⟨cx kvs (.inl pc) (.int vv),_,_,by lia,hmo.put hvv.1 hvv.2,qr hno,(fun z=>(hro z).put (hpc z)),ad,bT.wrN hD hc hD6 ncd B6,pl6.wrD hc6,wrB hc B6,rfl⟩
 .intro Z H2 hh_;refine bI fun G_ hG_=> ?_
  obtain⟨kvs,x4,x5,hl,hmo,hno,hro,hc2,hD2,pl2,b2,rfl⟩:=hh_;refine hG_ ?_
  walk_at "g";exact q c kvs H2 hc hc2 hmo hno (by lia) hro hD2 b2
def Ju:Sp:=fun vs H Q _=>∃(pl md:Addr) (k:Nat) (b:Int) (m s:Nat) (g:Int) (kvs:List (Key × V)),vs=[.ref pl,.ref md]/\Pl H pl k b m s g/\H md=some (.dK kvs)/\dq kvs/\(kvs.map (·.1)).Nodup/\kvs.length<=5000/\∀(c:Addr) H',az H H'->H c=none->H' c=some (.dK (bey k b kvs))->Q (.ref c) H'
theorem FK {k:Nat}{b:Int}{kvs:List (Key × V)}{i:Nat}{kv:Key × V}(h:kvs[i]? =some kv):bey k b (kvs.take (i+1))=bey k b (kvs.take i)++(if xq k b kv=true then[kv] else[]):=by
 have hi:=(List.getElem?_eq_some_iff.mp h).1;have e:kvs[i]=kv:=(List.getElem?_eq_some_iff.mp h).2;unfold bey;rw[List.take_succ_eq_append_getElem hi,List.filter_append,e]
 congr 1
 rw[List.filter_cons]
 rfl
theorem F7 {kvs:List (Key × V)}{k:Key}{v:V}(h:∀kv∈kvs,kv.1≠k):cx kvs k v=kvs++[(k,v)]:=by
 unfold cx;rw[if_neg];intro z;obtain⟨kv,h1,h2⟩:=List.any_eq_true.mp z;exact h kv h1 (of_decide_eq_true h2)
theorem CL {kvs:List (Key × V)}(hn:(kvs.map (·.1)).Nodup) {i:Nat}{kv:Key × V}(h:kvs[i]? =some kv):∀u∈kvs.take i,u.1≠kv.1:=by
 intro u hu e;obtain⟨j,hj,ej⟩:=List.getElem_of_mem hu;rw[List.length_take] at hj;have hi:=(List.getElem?_eq_some_iff.mp h).1;have e2:kvs[i]=kv:=(List.getElem?_eq_some_iff.mp h).2;rw[List.getElem_take] at ej;have z:=(List.pairwise_iff_getElem.mp hn) j i (by rw[List.length_map];lia) (by rw[List.length_map];exact hi) (by lia)
 apply z
 rw[List.getElem_map,List.getElem_map,ej,e2];exact e
theorem vh (B:Bi mg) (D:pG K mg):Has P w K mg base 1 "_law_beyond" A3 Ju:=by
 refine D.has i6 (fun vs H Q E h=> ?_) (fun f cdv A outer s H vs Q E hr h=> ?_)
 .obtain⟨pl,md,k,b,m,s,g,kvs,rfl,_⟩:=h
  rfl
 obtain⟨pl,md,k,b,m,sx,g,kvs,rfl,hpl,hmd,hmo,hn,hz,q⟩:=h;have hk:=hpl.room.k20;have ek2:(1:Int)*2^((k:Int)).toNat=2^k:=by rw[Int.one_mul,Int.toNat_natCast]
 have hcp:Gx 1 (k:Int):=⟨by lia,by lia,by decide⟩
 have p0:atI [V.int k,V.int b,V.int m,V.int sx,V.int g] 0=some (.int k):=aJ (j:=0) rfl;have p1:atI [V.int k,V.int b,V.int m,V.int sx,V.int g] 1=some (.int b):=aJ (j:=1) rfl
 refine⟨_,(aa (psS 2 i6.nd Am)
   (aa (Hw (fB PassesOwn.never (by rfl) (eA (IQ (pv 1))) (aN (i:=3) i6.nd (by rfl) (by left;rfl)) (ae (ax (dZ (BT yf iI (pX ak (pv 0) ac) (pv 3) (av aU (pX ak (pv 0) ac) (av nO ac (pX ak (pv 0) ac))))) (ae (uP (ya hr) (pv 2) (pv 3) (Il (ya hr) (pv 1) (pv 3) (by intro _ _;rfl)) (by rfl))) al))))
   (ae (ah (pv 2))))),?_⟩
 try dsimp only[aT]
 walk_at "g";intro c hc;have ncm:md≠c:=aj hmd hc;have ncp:pl≠c:=aj hpl.at_ hc;have npm:pl≠md:=fun z=>by have:=hpl.at_;rw[z,hmd] at this;cases this
 have s1:=ag hc (.dK []);have c1:upd H c (.dK []) c=some (.dK []):=ad;have hmd1:=s1 _ _ hmd;have hpl1:=s1 _ _ hpl.at_;generalize upd H c (.dK [])=H1 at*;walk_at "g";intro o;refine⟨GF (a:=md) (o:=o) (kvs:=kvs) (fun i Z H'=>aG (∃ x3:Option V,i<=kvs.length/\H' c=some (.dK (bey k b (kvs.take i)))/\H' md=some (.frz o (.dK kvs))/\H' pl=some (.tup [.int k,.int b,.int m,.int sx,.int g])/\(∀ x u,x≠md->H x=some u->H' x=some u)/\Z=[some (.ref pl),some (.ref md),some (.ref c),x3])) ?_ ?_ ?_ ?_⟩
 .refine⟨none,Nat.zero_le _,?_,ad,?_,fun x u nx e=> ?_,rfl⟩
  .rw[ai ncm.symm];exact c1
  .rw[ai npm];exact hpl1
  .rw[ai nx];exact s1 _ _ e
 .rintro i Z H' hi ⟨x3,_,_,h,_⟩
  exact h
 .rintro i k0 x0 Z H8 hkv ⟨x3,hi7,k1,k2,k3,k4,rfl⟩
  obtain⟨pc,v,ekv,v0,v1⟩:=hmo _ (List.mem_of_getElem? hkv);obtain⟨rfl,rfl⟩:k0= .inl pc/\x0= .int v:=⟨congrArg Prod.fst ekv,congrArg Prod.snd ekv⟩;have hi8:i < kvs.length:=(List.getElem?_eq_some_iff.mp hkv).1;have bt:=FK (k:=k) (b:=b) hkv;have hnf:¬InR k b pc->cx (bey k b (kvs.take i)) (.inl pc) (.int v)=bey k b (kvs.take (i+1)):=fun z=>by
   have hb:xq k b (.inl pc,.int v)=true:=by
    show(!decide (InR k b pc))=true
    rw[decide_eq_false z]
    rfl
   rw[bt,if_pos hb];exact F7 (fun kv hk=>CL hn hkv kv (List.mem_filter.mp hk).1)
  have hin:InR k b pc->bey k b (kvs.take i)=bey k b (kvs.take (i+1)):=fun z=>by
   have hb:¬xq k b (.inl pc,.int v)=true:=by
    show ¬(!decide (InR k b pc))=true
    rw[decide_eq_true z]
    decide
   rw[bt,if_neg hb,List.append_nil]
  have hlz:(bey k b (kvs.take i)).length < sizeLine:=by
   have h1:=List.length_filter_le (xq k b) (kvs.take i);rw[List.length_take] at h1;show(List.filter (xq k b) (kvs.take i)).length < sizeLine
   exact Nat.lt_of_le_of_lt (show _<=5000 by lia) (by decide)
  have hgt:xH H8 md (.int pc) (some (.int v)):= .inl ⟨kvs,.inl pc,.inr ⟨o,k2⟩,rfl,(vY hn (List.mem_of_getElem? hkv)).symm⟩;have hpt:qX H8 c (.int pc) (.int v) (upd H8 c (.dK (cx (bey k b (kvs.take i)) (.inl pc) (.int v)))):=qX.k (k:= .inl pc) k1 hlz;clear hlz bt;walk_at "g";refine bz (fun c1=> ?_) (fun c1=> ?_)
  .walk_at "g";rw[ek2]
   by_cases c2:pc < b+2^k
   .rw[decide_eq_true c2];walk_at "g";refine aG.mk ⟨_,hi8,?_,k2,k3,k4,rfl⟩
    rw[<- hin ⟨c1,c2⟩];exact k1
   .rw[decide_eq_false c2];walk_at "g";refine aG.mk ⟨_,hi8,?_,?_,?_,(fun x u nx e=> ?_),rfl⟩
    .rw[ad,hnf (fun z=>c2 z.2)]
    .rw[ai ncm];exact k2
    .rw[ai ncp];exact k3
    .rw[ai (aj e hc)];exact k4 x u nx e
  .walk_at "g";refine aG.mk ⟨_,hi8,?_,?_,?_,(fun x u nx e=> ?_),rfl⟩
   .rw[ad,hnf (fun z=>c1 z.1)]
   .rw[ai ncm];exact k2
   .rw[ai ncp];exact k3
   .rw[ai (aj e hc)];exact k4 x u nx e
 .rintro Z H7 ⟨x3,hi7,h1,h2,h3,h4,rfl⟩
  rw[List.take_length] at h1;have h0:∀(o:Obj) (v:HO),H md≠some (.frz o v):=fun o v z=>by rw[hmd] at z;cases z
  refine⟨md,o,kvs,h2,h0,?_⟩
  walk_at "g";refine q c _ (fun x u e=> ?_) hc (by rw[ai ncm.symm];exact h1)
  by_cases z:x=md
  .subst z;rw[ad, <-hmd,e]
  .rw[ai z];exact h4 x u z e
def Gb (K:Frag):Sp:=fun vs H Q _=>∃(ta bt:Addr) (bx:List Int) (sp:List SpM.Span),vs=[.ref ta,.ref bt]/\SqT K H bt (bx.map V.int)/\SpT K H ta sp/\oP bx sp/\Sp8 sp/\∀H',az H H'->Q (.bl true) H'
theorem zI (B:Bi mg) (D:tJ K mg):Has P w K mg base 1 "_law_hold" AA (Gb K):=by
 refine D.has lf (fun vs H Q E h=> ?_) (fun f cdv A outer s H vs Q E hr h=> ?_)
 .obtain⟨ta,bt,bx,sp,rfl,_⟩:=h
  rfl
 obtain⟨ta,bt,bx,sp,rfl,hbt,⟨as,hta,hsp⟩,hin,h8,q⟩:=h;have hl1:(bx.map V.int).length=8:=by rw[List.length_map];exact hin.len
 have hl2:(as.map V.ref).length=8:=by rw[List.length_map,hsp.len];exact hin.sl
 have hz1:Sq K H false bt (bx.map V.int):=hbt;have hz2:Sq K H false ta (as.map V.ref):=hta
 refine⟨_,(aa (fB PassesOwn.never (by rfl) (eA (GY (by rfl) B.zip (pa2 (pv 0) (pv 1)))) (sO (n:=2) (by rfl) (bE (aN (i:=2) lf.nd (by rfl) (by left;rfl)) (bE (aN (i:=3) lf.nd (by rfl) (by left;rfl)) jM))) (ae (ax (PW.pt (iF (dZ (BT yf yf (pX ak (pv 2) ac) (pv 3) (pX ak (pv 2) ac))) (gf (pcT ug (av dJ (pv 3) (av nO ac (pX ak (pv 2) ac))) ac)))) (ae (ah nG)) al)))
   (ae (ah (pcE aD (aI aM (by rfl) B.len dk (pa1 (pv 0))) ac)))),?_⟩
 try dsimp only[aT]
 walk_at "g";refine⟨Et (xs:=as.map V.ref) (ys:=bx.map V.int) (fun i Z H'=>aG (az H H'/\∃x y,Z=[some (.ref ta),some (.ref bt),x,y])) ⟨az.refl _,_,_,rfl⟩ ?_ ?_ ?_⟩
 .rintro i Z H' ⟨hs,x,y,rfl⟩
  exact⟨hs.tup hta,hs.tup hbt⟩
 .rintro i x y r Z H' hx hy ⟨hs,u,v,rfl⟩ hr'
  have hi8:i < 8:=by rw[<- hl1];exact(List.getElem?_eq_some_iff.mp hy).1
  obtain⟨bv,ebv,rfl⟩:=cP hy;obtain⟨sa',esa,rfl⟩:=cP hx;obtain⟨h8a,h8b⟩:=h8.at (i:=(i:Int)) (by lia) (by lia)
  rw[Int.toNat_natCast] at h8a;obtain⟨sa2,esa2,htr⟩:=hsp.get i _ h8a;obtain rfl:sa2=sa':=Option.some.inj (esa2.symm.trans esa);have hin2:=hin.inn (i:Int) (by lia) (by lia)
  have ebx:bxG bx (i:Int)=bv:=by
   unfold bxG;rw[List.getD_eq_getElem?_getD,Int.toNat_natCast,ebv]
   rfl
  rw[ebx] at hin2;have hz32:=h8b.zz;generalize spG sp (i:Int)=S at*;have s7:=hs.trans (ag hr' (.tup [.ref sa2,.int bv]));have q7:upd H' r (.tup [.ref sa2,.int bv]) r=some (.tup [.ref sa2,.int bv]):=ad;have htr7:Tr (upd H' r (.tup [.ref sa2,.int bv])) sa2 S:=s7 _ _ htr;generalize upd H' r (.tup [.ref sa2,.int bv])=H8 at*;have hcp:Gx 1 (S.z:Int):=⟨by lia,by lia,by decide⟩
  have j0:atI [V.int S.lo,V.int S.hi,V.int S.z] 0=some (.int S.lo):=aJ (j:=0) rfl;have j1:atI [V.int S.lo,V.int S.hi,V.int S.z] 1=some (.int S.hi):=aJ (j:=1) rfl;have j2:atI [V.int S.lo,V.int S.hi,V.int S.z] 2=some (.int S.z):=aJ (j:=2) rfl;have ez:(1:Int)*2^((S.z:Int)).toNat=2^S.z:=by rw[Int.one_mul,Int.toNat_natCast]
  have hzp:(0:Int) < 1*2^((S.z:Int)).toNat:=by rw[ez];exact SpM.pp _
  have hzn:(1:Int)*2^((S.z:Int)).toNat≠0:=Ne.symm (Int.ne_of_lt hzp);have hmod:bv %(1*2^((S.z:Int)).toNat)=0:=by rw[ez];exact Int.emod_eq_zero_of_dvd hin2.dv
  walk_at "g";refine yg hin2.lo ?_
  walk_at "g";rw[decide_eq_true hin2.hi];walk_at "g";refine xK (show(!decide (V.int (bv %(1*2^((S.z:Int)).toNat))=V.int 0))=false by rw[hmod];rfl) ?_
  walk_at "g";exact aG.mk ⟨s7,_,_,rfl⟩
 .rintro Z H' ⟨hs,x,y,rfl⟩
  have hta':=hs.tup hta;walk_at "g";rw[hl2,decide_eq_true (show V.int ((8:Nat):Int)=V.int 8 from rfl)];exact q _ hs
structure HN (K:Frag) (mg:Str->Option Value) (aF aL:Addr):Prop where
 mL:mg "TooLong"=some (.ref aL)
 xL:Fq K aL
 cL:XC K aL aF none xqs
theorem CD:∀ {ds:List Bk},ds≠[]->∃M,vc M ds
 | [],h=>absurd rfl h
 | [d],_=>⟨bun d,⟨d,List.mem_cons_self,rfl⟩,fun e he=>by rw[List.mem_singleton.mp he];exact Nat.le_refl _⟩
 | d::e::r,_=>by
  obtain⟨M,h1,h2⟩:=CD (ds:=e::r) (by intro z;cases z)
  by_cases c:M<=bun d
  .exact⟨bun d,⟨d,List.mem_cons_self,rfl⟩,fun f hf=>by
    rcases List.mem_cons.mp hf with rfl | hf
    .exact Nat.le_refl _
    .exact Nat.le_trans (h2 f hf) c⟩
  .obtain⟨f,hf,e1⟩:=h1
   exact⟨M,⟨f,List.mem_cons_of_mem _ hf,e1⟩,fun f hf=>by
    rcases List.mem_cons.mp hf with rfl | hf
    .lia
    .exact h2 f hf⟩
theorem DF {ds:List Bk}{M s:Nat}(hM:vc M ds) (hs:um M s):∀d∈ds,lnW d.1<=8*2^s:=fun d hd=>by
 have h1:=hM.le d hd;have h2:=hs.1;unfold bun at h1
 lia
structure EM (H H':Hp) (r:Addr) (x:Pn) (is:List Ins):Prop where
 co:km x is
 ex:∃a1 a2 a3 ps,H' r=some (.tup [.ref a1,.ref a2,.ref a3])/\Pl H' a1 x.pk x.pb x.pm x.ps x.pg/\H' a2=some (.lst ((ay is).map V.int))/\H' a3=some (.dT ps)/\H r=none/\H a1=none/\H a2=none/\H a3=none
theorem HG {H H':Hp}{r:Addr}{gs:List (List Ins)}{k:Nat}{b g:Int}{M m s:Nat}(hR:SpM.Room k b) (gu:GuD g gs) (hM:vc M (gs.map cR)) (lm:um gs.length m) (ls:um M s) (h7:m+s<=7) (ca:vf H H' r (gs.map cR) k b g m s):EM H H' r ⟨k,b,m,s,g⟩ (gg (8*2^s) (2^m*(8*2^s)) (gs.map cR)):=by
 obtain⟨a1,a2,a3,c1,c2,c3,c4,f1,f2,f3,f4⟩:=ca;exact⟨A7 (x:=⟨k,b,m,s,g⟩) hR h7 gu.t.ok lm.1 (fun bk hb=>DF hM ls _ (List.mem_map_of_mem hb)),a1,a2,a3,_,c1,⟨c2,hR,h7⟩,c3,c4,f1,f2,f3,f4⟩
theorem Ir {H H':Hp}{r:Addr}{gs:List (List Ins)}{k:Nat}{b g:Int}{M m s:Nat}(hR:SpM.Room k b) (gu:GuD g gs) (hM:vc M (gs.map (thD k b))) (lm:um gs.length m) (ls:um M s) (h7:m+s<=7) (ca:vf H H' r (gs.map (thD k b)) k b g m s):EM H H' r ⟨k,b,m,s,g⟩ (gg (8*2^s) (2^m*(8*2^s)) (gs.map (thD k b))):=by
 obtain⟨a1,a2,a3,c1,c2,c3,c4,f1,f2,f3,f4⟩:=ca;exact⟨wA (x:=⟨k,b,m,s,g⟩) hR h7 gu.t lm.1 (fun bk hb=>DF hM ls _ (List.mem_map_of_mem hb)),a1,a2,a3,_,c1,⟨c2,hR,h7⟩,c3,c4,f1,f2,f3,f4⟩
theorem Jg {g:Int}{gs:List (List Ins)}(gu:GuD g gs) (f:List Ins->Bk):gs.map f≠[]:=fun z=>by
 rw[List.map_eq_nil_iff] at z;have:=gu.pos;rw[z] at this;exact absurd this (by decide)
theorem Lk {g:Int}{gs:List (List Ins)}(gu:GuD g gs):∀bk∈gs, ∀kn∈bk,kn.1≠16:=fun bk hb kn hk=>((gu.t.ok.blk bk hb).1 kn hk).nm.1
def J2 (K:Frag):Sp:=fun vs H Q _=>∃(gst pa:Addr) (bls:List Addr) (gs:List (List Ins)) (k:Nat) (b:Int) (m s:Nat) (g:Int) (th:Bool),vs=[.ref gst,.ref pa,.bl th]/\SqT K H gst (bls.map V.ref)/\GSt K H bls gs/\Pl H pa k b m s g/\GuD g gs/\
 (∀ H',az H H'->Q .non H')/\(∀ r x is H',az H H'->x.pk=k->x.pb=b->x.pg=g->EM H H' r x is->Q (.ref r) H')
theorem Df {k b m s g:V}:fe [k,b,m,s,g] none (some 2)=[k,b]:=by
 show(HT.sIx 5 5 (some ((2:Nat):Int)) - 0 |> fun n=>([k,b,m,s,g].drop 0).take n)=_
 rfl
theorem EM.back {H H1 H':Hp}{r:Addr}{x:Pn}{is:List Ins}(s:az H H1) (h:EM H1 H' r x is):EM H H' r x is:=by
 obtain⟨co,a1,a2,a3,ps,c1,c2,c3,c4,f1,f2,f3,f4⟩:=h;exact⟨co,a1,a2,a3,ps,c1,c2,c3,c4,s.free f1,s.free f2,s.free f3,s.free f4⟩
theorem yE {aF aL:Addr}(B:Bi mg) (Ex:HN K mg aF aL) (D:tD K mg) (Dk:pA P w K mg base 9 "make" pT [] (FJ K aL)) (CC:pA P w K mg base 11 "thin" pT [] (Gk K aL)):Has P w K mg base 12 "_law_made" DH (J2 K):=by
 obtain⟨sT,xL,cL⟩:=Ex;refine D.has gn (fun vs H Q E h=> ?_) (fun f cdv A outer s H vs Q E hr h=> ?_)
 .obtain⟨gst,pa,bls,gs,k,b,m,s,g,th,rfl,_⟩:=h
  rfl
 obtain⟨gst,pa,bls,gs,k,b,m,sx,g,th,rfl,hg,hgs,pl,gu,q0,q1⟩:=h;have ft:GK K (.ref aL) aL:=⟨_,_,none,rfl,cL,.inl rfl⟩;have hat:=pl.at_;have p4:atI [V.int k,V.int b,V.int m,V.int sx,V.int g] 4=some (.int g):=aJ (j:=4) rfl
 refine⟨_,(aa (psS 3 gn.nd d5)
   (aa (IP (by rfl) sT (fun Eb pins Ef hc=>(ae (ax (ce (pv 2)) (ae (psS 3 gn.nd (sg (CC.mono (by omega)) hr (by rfl) hc (pa3 (pv 0) (c_ (Eo (K:=K) (by rfl)) (pv 1) eB (eC ac)) (pX (uY (K:=K) (by rfl)) (pv 1) ac))))) (ae (psS 3 gn.nd (sg (Dk.mono (by omega)) hr (by rfl) hc (pa3 (pv 0) (c_ (Eo (K:=K) (by rfl)) (pv 1) eB (eC ac)) (pX (uY (K:=K) (by rfl)) (pv 1) ac)))))))) (fun e=>(ae (psS 3 gn.nd d5))))
   (ae (ah (pv 3))))),?_⟩
 try dsimp only[aT]
 have hcut:fe [V.int k,V.int b,V.int m,V.int sx,V.int g] none (some 2)=[V.int k,V.int b]:=Df;have hsq:SqT K H pa [V.int k,V.int b,V.int m,V.int sx,V.int g]:=SqT.of hat;walk_at "g"
 cases th with
 | true=>
  walk_at "g";refine⟨fun z=>absurd (show HT.sIx 5 5 (some 2)=5 from z.2) (by decide),fun p hp=> ?_⟩
  rw[hcut];have s1:=ag hp (.tup [V.int k,V.int b]);have rm1:SqT K (upd H p (.tup [V.int k,V.int b])) p [V.int k,V.int b]:=SqT.of ad;have sq1:=s1.tup hsq;have hg1:=s1.tup hg;have hgs1:=hgs.same s1;generalize upd H p (.tup [V.int k,V.int b])=H1 at*;have gub:=gu.t.ok.gub;obtain⟨M,hM⟩:=CD (Jg gu (thD k b));have nf:=Lk gu;have hR:=pl.room;walk_at "g";intro m' s' lm ls;refine⟨fun h7 H2 s2=>⟨ft,?_⟩,fun h7 r H2 s2 ca=> ?_⟩
  .walk_at "g";exact q0 _ (s1.trans s2)
  .walk_at "g";exact q1 r _ _ _ (s1.trans s2) rfl rfl rfl ((Ir pl.room gu hM lm ls h7 ca).back s1)
 | false=>
  walk_at "g";refine⟨fun z=>absurd (show HT.sIx 5 5 (some 2)=5 from z.2) (by decide),fun p hp=> ?_⟩
  rw[hcut];have s1:=ag hp (.tup [V.int k,V.int b]);have rm1:SqT K (upd H p (.tup [V.int k,V.int b])) p [V.int k,V.int b]:=SqT.of ad;have sq1:=s1.tup hsq;have hg1:=s1.tup hg;have hgs1:=hgs.same s1;generalize upd H p (.tup [V.int k,V.int b])=H1 at*;have gub:=gu.t.ok.gub;obtain⟨M,hM⟩:=CD (Jg gu (cR));walk_at "g";intro m' s' lm ls;refine⟨fun h7 H2 s2=>⟨ft,?_⟩,fun h7 r H2 s2 ca=> ?_⟩
  .walk_at "g";exact q0 _ (s1.trans s2)
  .walk_at "g";exact q1 r _ _ _ (s1.trans s2) rfl rfl rfl ((HG pl.room gu hM lm ls h7 ca).back s1)
theorem pB.get {H:Hp}{ml:Addr}:∀ {rs:List Addr}{xs:List (Int × List Int × List (Key × V))},pB H ml rs xs->∀(j:Nat) y,xs[j]? =some y->∃r t d,rs[j]? =some r/\H r=some (.tup [.int y.1,.ref t,.ref d])/\H t=some (.tup (y.2.1.map V.int))/\H d=some (.dK y.2.2)/\d≠ml
 | [],[],_,j,y,e=>by simp at e
 | r::_,x::_,h,j,y,e=>by
  cases j with
  | zero=>
   obtain rfl:x=y:=by simpa using e
   obtain⟨t,d,h1⟩:=h.1;exact⟨r,t,d,rfl,h1⟩
  | succ j=>exact pB.get h.2 j y (by simpa using e)
 | [],_::_,h,_,_,_=>h.elim
 | _::_,[],h,_,_,_=>h.elim
theorem yo {i j:Int}(h:i=j):(!decide (V.int i=V.int j))=false:=by rw[h,decide_eq_true rfl];rfl
theorem BL {more:List (Key × V)}:∀ {kvs:List (Key × V)},(kvs.map (·.1)).Nodup->((dN kvs more).map (·.1)).Nodup:=by
 induction more with
 | nil=>intro kvs h;exact h
 | cons p r ih=>
  intro kvs h;show((dN (cx kvs p.1 p.2) r).map (·.1)).Nodup
  exact ih (qr h)
theorem FH {x:Fx}{k:Nat}{ns:List Int}{st:MSt}(h:(st.kvs.map (·.1)).Nodup):((dU x k ns st).2.kvs.map (·.1)).Nodup:=by
 unfold dU
 split
 .exact h
 .split
  .split
   .exact h
   .split
    .exact h
    .exact BL h
  .split
   .split
    .split
     .exact h
     .exact qr h
    .exact h
   .split
    .exact h
    .exact h
theorem AO {x:Fx}{ws:List Int}:∀(n:Nat) (st:MSt) (t:Int),(st.kvs.map (·.1)).Nodup->((dD x ws n st t).2.1.kvs.map (·.1)).Nodup
 | 0,st,t,h=>by
  unfold dD
  cases ic ws st.p <;> exact h
 | n+1,st,t,h=>by
  unfold dD
  cases ic ws st.p with
  | none=>exact h
  | some kn=>
   obtain⟨k,ns⟩:=kn;have hs:=FH (x:=x) (k:=k) (ns:=ns) h;dsimp only
   cases e:dU x k ns st with
   | mk e1 st2=>
    rw[e] at hs
    cases e1 with
    | some e=>exact hs
    | none=>exact AO n st2 _ hs
structure L97 (x:Pn) (is:List Ins) (b7:Int) (kv0:List (Key × V)) (n:Nat) (H:Hp) (sa rl:Addr) (p:Int) (bx:List Int) (kvs:List (Key × V)) (ys:List V) (reps:List (List Int × List (Key × V))) (bt md:Addr):Prop where
 as:H sa=some (.tup [.int p,.ref bt,.ref md])
 ab:H bt=some (.tup (bx.map V.int))
 am:H md=some (.dK kvs)
 ar:H rl=some (.lst ys)
 rps:iL H ys reps
 rok:∀r∈reps,HK x.pk x.pb r
 few:reps.length<=6
 st:mn x is p bx
 bxs:Bxs bx
 h7:bxG bx 7=b7
 bey:bey x.pk x.pb kvs=bey x.pk x.pb kv0
 mem:dq kvs
 nod:(kvs.map (·.1)).Nodup
 len:kvs.length<=100+6*n
theorem L97.same {x:Pn}{is:List Ins}{b7:Int}{kv0:List (Key × V)}{n:Nat}{H H':Hp}{sa rl:Addr}{p:Int}{bx:List Int}{kvs:List (Key × V)}{ys:List V}{reps:List (List Int × List (Key × V))}{bt md:Addr}(h:L97 x is b7 kv0 n H sa rl p bx kvs ys reps bt md) (s:az H H'):L97 x is b7 kv0 n H' sa rl p bx kvs ys reps bt md:=
 ⟨s _ _ h.as,s _ _ h.ab,s _ _ h.am,s _ _ h.ar,h.rps.same s,h.rok,h.few,h.st,h.bxs,h.h7,h.bey,h.mem,h.nod,h.len⟩
def JR (K:Frag):Sp:=fun vs H Q _=>∃(pl cd sa rl bt md:Addr) (mo:Nat) (x:Pn) (is:List Ins) (p:Int) (bx:List Int) (kvs:List (Key × V)) (ys:List V) (reps:List (List Int × List (Key × V))),vs=[.ref pl,.ref cd,.ref sa,.ref rl,.int (mo:Int)]/\Pl H pl x.pk x.pb x.pm x.ps x.pg/\SqL K H cd ((ay is).map V.int)/\km x is/\mo<=40/\L97 x is (bxG bx 7) kvs 0 H sa rl p bx kvs ys reps bt md/\∀H',az H H'->Q (.bl true) H'
theorem vH (B:Bi mg) (D:pI K mg) (dW:Has P w K mg base 9 "spans_ahead" pF (JS K)) (hX:Has P w K mg base 1 "_law_beyond" A3 Ju) (n9:Has P w K mg base 1 "_law_hold" AA (Gb K)) (h_run:Has P w K mg base 8 "run" AQ (Jj K)):
  Has P w K mg base 13 "_law_within" Ej (JR K):=by
 refine D.has bc (fun vs H Q E h=> ?_) (fun f cdv A outer s H vs Q E hr h=> ?_)
 .obtain⟨pl,cd,sa,rl,bt,md,mo,x,is,p,bx,kvs,ys,reps,rfl,_⟩:=h
  rfl
 obtain⟨pl,cd,sa0,rl0,bt,md,mo,x,is,p,bx0,kv0,ys0,reps0,rfl,hpl,hcd,co,hmo,L,q⟩:=h
 refine⟨_,(aa (psS 5 bc.nd (pcH dW hr (pa2 (pv 0) (pv 1))))
   (aa (psS 6 bc.nd (pX ak (pX ak (pv 2) ac) ac))
   (aa (psS 7 bc.nd (pcH hX hr (pa2 (pv 0) (pX ak (pv 2) ac))))
   (aa (psS 8 bc.nd (bN ln (by rfl) B.list Ab (pa1 (pv 3))))
   (aa (fB PassesOwn.never (by rfl) (eA (f_ (by rfl) B.range (pa1 (pv 4)))) (aN (i:=9) bc.nd (by rfl) (by left;rfl)) (aa (aO (bq (ax (PW.pt (iF (lZ (qD (pX bF (pv 5) (pX ak (pv 2) ac)))) (gf (dZ (ce (pcH n9 hr (pa2 (pX bF (pv 5) (pX ak (pv 2) ac)) (pX ak (pv 2) ac)))))))) (ae (ah nG)) al)))
   (aa (mi (pcH h_run hr (pa5 (pv 0) (pv 1) (pv 2) (pv 8) ac)) (sO (n:=4) (by rfl) (bE (aN (i:=10) bc.nd (by rfl) (by left;rfl)) (bE (aN (i:=2) bc.nd (by rfl) (by left;rfl)) (bE (aN (i:=11) bc.nd (by rfl) (by left;rfl)) (bE (aN (i:=12) bc.nd (by rfl) (by left;rfl)) jM))))))
   (aa (aO (bq (ax (PW.pt (iF (pcT ug (pX ak (pX ak (pv 2) ac) ac) (pv 6)) (gf (dZ (ce (aI (GS (by rfl)) (by rfl) B.all JN (pa1 (lS (by rfl) (by rfl) (by rfl) (bk (sc0:=af hG) (N0:=["_law_plan_here","_law_code","_law_stand","_law_replies","_law_most","_law_spans","_law_host","_law_far","_law_left","_law_turn","_law_end","_law_rows","_law_turns"]) ["_law_row","_law_host"] 1 [6]) (uV (pv 11)) (fun _ _ _ _=>(aN (i:=0) (show List.Nodup (["_law_row","_law_host"]:List Str) by decide) (by rfl) (by left;rfl))) (fun _ _ _ _=>(pcE aD (pX (uY (K:=K) (by rfl)) (pX (uY (K:=K) (by rfl)) (pv 0) ac) ac) (pv 1))))))))))) (ae (ah nG)) al)))
   (aa (ax (pcT (Du (Iv hr)) (pcH hX hr (pa2 (pv 0) (pX ak (pv 2) ac))) (pv 7)) (ae (ah nG)) al)
   (aa (psS 8 bc.nd (c_ zD (pv 8) (eC (aI aM (by rfl) B.len dk (pa1 (pv 11)))) eB))
   (ae (ax (pcT (GW (Iv hr)) (pv 10) (aA (pa1 aw))) (ae (ah (Ev xV (pX ak (pv 10) ac) (aA (cj (by rfl))) (by rfl)))) al))))))))
   (ae (ah nG))))))),?_⟩
 try dsimp only[aT]
 walk_at "g";intro tp vs7 H1 s1 htp l1 ht1;have L1:=L.same s1;have pl1:=hpl.mv s1;have cd1:=s1.seq hcd;clear hpl hcd;have a1:=L1.as;have a2:=L1.ab;have a3:=L1.am;have hm1:=L1.mem;have hn1:=L1.nod;have hz1:kv0.length<=5000:=by have:=L1.len;lia
 have k7:atI (bx0.map V.int) 7=some (.int (bxG bx0 7)):=(Bxs.at L1.bxs (by decide) (by decide)).1
 walk_at "g";intro fa H2 s2 hfa lfa;have L2':=L1.same s2;have S2:=s1.trans s2;have pl2:=pl1.mv s2;have cd2:=s2.seq cd1;have l2:=s2 _ _ l1;have ht2:=ht1.same s2;have ar2:=SqL.of (K:=K) L2'.ar;clear a1 a2 a3 hm1 hn1 hz1 k7 L1 pl1 cd1 l1 ht1 s1 s2;walk_at "g";intro rl hrl;have s3:=ag hrl (.lst ys0);have lr3:upd H2 rl (.lst ys0) rl=some (.lst ys0):=ad;have L3:=L2'.same s3;have L4:L97 x is (bxG bx0 7) kv0 0 (upd H2 rl (.lst ys0)) sa0 rl p bx0 kv0 ys0 reps0 bt md:=⟨L3.as,L3.ab,L3.am,lr3,L3.rps,L3.rok,L3.few,L3.st,L3.bxs,L3.h7,L3.bey,L3.mem,L3.nod,L3.len⟩;have pl3:=pl2.mv s3;have cd3:=s3.seq cd2;have l3:=s3 _ _ l2;have ht3:=ht2.same s3;have fa3:=s3 _ _ lfa;have S3:=S2.trans s3;clear L3 L2' pl2 cd2 l2 ht2 ar2 lr3 s3 L lfa;generalize upd H2 rl (.lst ys0)=H3 at*;have hm0:=L4.mem;walk_at "g"
 refine⟨oU (fun i Z H'=>aG (∃ (sa rl:Addr) (p:Int) (bx:List Int) (kv:List (Key × V)) (ys:List V) (reps:List (List Int × List (Key × V))) (bt md:Addr) (x9 x10 x11 x12:Option V),i<=mo/\az H3 H'/\L97 x is (bxG bx0 7) kv0 i H' sa rl p bx kv ys reps bt md/\
  Z=[some (.ref pl),some (.ref cd),some (.ref sa),some (.ref rl0),some (.int (mo:Int)),some (.ref tp),some (.int (bxG bx0 7)),some (.ref fa),some (.ref rl),x9,x10,x11,x12])) ⟨sa0,rl,p,bx0,kv0,ys0,reps0,bt,md,_,_,_,_,Nat.zero_le _,az.refl _,L4,rfl⟩ ?_ ?_⟩
 .clear L4 hrl;intro i Z H4 hi hh_;refine bI fun G_ hG_=> ?_
  obtain⟨sa,rl,p,bx,kv,ys,reps,bt,md,x9,x10,x11,x12,_,s4,L4,rfl⟩:=hh_;refine hG_ ?_
  have hi':i < mo:=by simpa using hi
  have pl4:=pl3.mv s4;have cd4:=s4.seq cd3;have l4:=s4 _ _ l3;have ht4:=ht3.same s4;have hmk:=L4.mem;refine bI fun G_ hG_=> ?_
  obtain⟨kn,sp,hins,hp0,hp1,htold,hbin,hsp8,_,_⟩:=qp (reps:=reps) (st:=⟨p,bx,kv,[]⟩) pl4.room pl4.ms co L4.rok L4.st hmk;refine hG_ ?_
  have hp0:0<=p:=hp0;refine bI fun G_ hG_=> ?_
  obtain⟨ta,eta,hta⟩:=ht4.get htold;refine hG_ ?_
  have hat:atI vs7 p=some (.ref ta):=by
   have z:=aJ eta;rw[show(((⟨p,bx,kv,[]⟩:MSt).p.toNat:Nat):Int)=p from by show((p.toNat:Nat):Int)=p;lia] at z
   exact z
  have a2:=SqT.of (K:=K) L4.as;have a3:=SqT.of (K:=K) L4.ab;have lv4:=SqL.of (K:=K) l4;walk_at "g";refine⟨fun Z' H'=>aG (az H4 H'/\Z'=[some (.ref pl),some (.ref cd),some (.ref sa),some (.ref rl0),some (.int (mo:Int)),some (.ref tp),some (.int (bxG bx0 7)),some (.ref fa),some (.ref rl),some (.int (0+(i:Int))),x10,x11,x12]),?_,?_⟩
  .walk_at "g";intro H5 s5;walk_at "g";exact aG.mk ⟨s5,rfl⟩
  clear hat eta hta lv4 a2 a3 htold hbin hsp8 hins ht4 l4;intro Z5 H5 hh_;refine bI fun G_ hG_=> ?_
  obtain⟨s5,rfl⟩:=hh_;refine hG_ ?_
  have L5:=L4.same s5;have pl5:=pl4.mv s5;have cd5:=s5.seq cd4;have S5:=s4.trans s5;clear pl4 cd4 L4 s4 s5;have a2:=SqT.of (K:=K) L5.as;have a3:=SqT.of (K:=K) L5.ab;have a4:=L5.am;have a5:=L5.ar;have hbx2:=L5.bxs;have en5:=iL.en (K:=K) pl5 a5 L5.rps
  have hfx:Hi ⟨x.pk,x.pb,x.pm,x.ps,x.pg,reps⟩:=⟨Nat.le_trans L5.few (by decide),fun y hy=>by
   refine bI fun G_ hG_=> ?_
   obtain⟨j,hj⟩:=List.getElem?_of_mem hy;refine hG_ ?_
   have hjl:j < ys.length:=by rw[L5.rps.1];exact(List.getElem?_eq_some_iff.mp hj).1
   have z:=L5.rps.2 j _ y.1 y.2 (List.getElem?_eq_getElem hjl) hj
   exact Nat.le_trans z.few (by decide)⟩
  have hkl:kv.length<=2000:=by have:=L5.len;lia
  have h6:∀r∈reps,r.2.length<=6:=fun y hy=>by
   refine bI fun G_ hG_=> ?_
   obtain⟨j,hj⟩:=List.getElem?_of_mem hy;refine hG_ ?_
   have hjl:j < ys.length:=by rw[L5.rps.1];exact(List.getElem?_eq_some_iff.mp hj).1
   exact(L5.rps.2 j _ y.1 y.2 (List.getElem?_eq_getElem hjl) hj).few
  have hrg:=co.rng;walk_at "g";intro rq H6 s6 run6 mem6 bxs6;have nod6:=AO (x:=⟨x.pk,x.pb,x.pm,x.ps,x.pg,reps⟩) (ws:=ay is) 1 ⟨p,bx,kv,[]⟩ 0 L5.nod;refine bI fun G_ hG_=> ?_
  obtain⟨e2,st2,er,R1⟩:=IE pl5.room pl5.ms co L5.rok h6 L5.st hmk mem6;refine hG_ ?_
  rw[er] at run6 mem6 bxs6 nod6;have S6:=S5.trans s6;have rp6:=L5.rps.same s6;have rl6:=s6 _ _ a5;refine bI fun G_ hG_=> ?_
  obtain⟨eq,sq,tb2,db,rw_,rs,c1,c2,c3,c4,c5,c6,_,_,c9⟩:=run6.ex;refine hG_ ?_
  have pl6:=pl5.mv s6;have t1:=SqT.of (K:=K) c1;clear run6 en5 a2 a3 a4 a5 cd5 pl5 s6 S5 hfx hkl h6 hrg c1;have j7:atI (st2.bx.map V.int) 7=some (.int (bxG st2.bx 7)):=(Bxs.at bxs6 (by decide) (by decide)).1
  have e7:bxG st2.bx 7=bxG bx0 7:=R1.b7.trans L5.h7;have t3:=SqT.of (K:=K) c3;have t4:=SqT.of (K:=K) c4;walk_at "g";refine⟨fun Z' H'=>aG (az H6 H'/\Z'=[some (.ref pl),some (.ref cd),some (.ref sq),some (.ref rl0),some (.int (mo:Int)),some (.ref tp),some (.int (bxG bx0 7)),some (.ref fa),some (.ref rl),some (.int (0+(i:Int))),some (.ref eq),some (.ref rw_),some (.int 1)]),?_,?_⟩
  .walk_at "g";refine xK (yo e7) ?_
   walk_at "g";intro pc2 hpc2;refine yz (a:=rw_) (xs:=rs.map V.ref) (fun i zs H'=>aG (zs=List.replicate i (V.bl true)/\H' pc2=some (.lst zs)/\az H6 H')) ⟨rfl,ad,ag hpc2 _⟩ (fun i zs H' h=>SqL.of (h.out.2.2 _ _ c6)) ?_ ?_
   .intro i2 x2 zs H7 F hF hi2 hh_;refine bI fun G_ hG_=> ?_
    obtain⟨rfl,l7,s7⟩:=hh_;refine hG_ ?_
    refine bI fun G_ hG_=> ?_
    obtain⟨r3,er3,rfl⟩:=cP hi2;refine hG_ ?_
    have hlt:i2 < rs.length:=(List.getElem?_eq_some_iff.mp er3).1;have hrl1:st2.rows.length<=1:=by
     rcases R1.rows with z | ⟨n,z⟩
     .rw[z];exact Nat.zero_le _
     .rw[z];exact Nat.le_refl _
    have hre:rs.length=st2.rows.length:=c9.len;obtain⟨y,ey⟩:∃y,st2.rows[i2]? =some y:=⟨_,List.getElem?_eq_getElem (by lia)⟩
    refine bI fun G_ hG_=> ?_
    obtain⟨r',t',d',g1,g2,g3,g4,g5⟩:=pB.get (H:=H6) (ml:=db) c9 i2 y ey;refine hG_ ?_
    obtain rfl:r'=r3:=Option.some.inj (g1.symm.trans er3);have hy:y.2.1=bx:=by
     have hm:=List.mem_of_getElem? ey;rcases R1.rows with z | ⟨n,z⟩
     .rw[z] at hm;cases hm
     .rw[z] at hm;rw[List.mem_singleton.mp hm]
    rw[hy] at g3;have h2:=SqT.of (K:=K) (s7 _ _ g2);have h3:=SqT.of (K:=K) (s7 _ _ g3);have m7:atI (bx.map V.int) 7=some (.int (bxG bx 7)):=(Bxs.at hbx2 (by decide) (by decide)).1
    have hzl:(List.replicate i2 (V.bl true)).length < sizeLine:=by
     rw[List.length_replicate];exact Nat.lt_of_le_of_lt (show i2<=100 by lia) (by decide)
    refine⟨Wk.none Wk.refl,?_⟩
    walk_at "g";rw[L5.h7,decide_eq_true rfl];exact hF _ _ (aG.mk ⟨by rw[List.replicate_succ'],ad,cr hpc2 s7⟩)
   intro zs H7 hh_;refine bI fun G_ hG_=> ?_
   obtain⟨rfl,l7,s7⟩:=hh_;refine hG_ ?_
   have lb:SqL K H7 pc2 ((List.replicate (rs.map V.ref).length true).map V.bl):=by
    rw[List.map_replicate];exact SqL.of l7
   have hal:(List.replicate (rs.map V.ref).length true).all id=true:=by
    rw[List.all_eq_true];intro z hz;rw[List.eq_of_mem_replicate hz]
    rfl
   walk_at "g";rw[hal];walk_at "g";exact aG.mk ⟨s7,rfl⟩
  clear t1 t4 j7 e7;intro Z7 H7 hh_;refine bI fun G_ hG_=> ?_
  obtain⟨s7,rfl⟩:=hh_;refine hG_ ?_
  have S7:=S6.trans s7;have pl7:=pl6.mv s7;have t3':=SqT.of (K:=K) (s7 _ _ c3);have d7:=s7 _ _ c5;have hz7:st2.kvs.length<=5000:=by
   have h1:=R1.len;have h2:=L5.len
   lia
  clear t3;walk_at "g";intro v2 H8 s8 hv2 v8;have S8:=S7.trans s8;have s78:=s7.trans s8;rw[R1.out,L5.bey] at v8;have rd1:Rd H8 v2 (.dK (bey x.pk x.pb kv0)):= .inl v8;have rd2:Rd H8 fa (.dK (bey x.pk x.pb kv0)):= .inl (S8 _ _ fa3);have ind:FP (bey x.pk x.pb kv0):=fun kv hk=>by
   refine bI fun G_ hG_=> ?_
   obtain⟨i,v,rfl,_⟩:=hm0 kv (List.mem_filter.mp hk).1;refine hG_ ?_
   exact⟨v,rfl⟩
  have rl8:=SqL.of (K:=K) (s78 _ _ rl6);have rw8:=SqL.of (K:=K) (s78 _ _ c6);clear t3' d7 hz7 pl7 S7 s7 s8 v8;walk_at "g";intro r2 hr2;have s9:=s78.trans (ag hr2 (.lst (fe ys (some (((rs.map V.ref).length:Nat):Int)) none)));have S9:=S8.trans (ag hr2 (.lst (fe ys (some (((rs.map V.ref).length:Nat):Int)) none)));have r9:upd H8 r2 (.lst (fe ys (some (((rs.map V.ref).length:Nat):Int)) none)) r2=some (.lst (fe ys (some (((rs.map V.ref).length:Nat):Int)) none)):=ad;generalize upd H8 r2 (.lst (fe ys (some (((rs.map V.ref).length:Nat):Int)) none))=H9 at*;have elr:(rs.map V.ref).length=rs.length:=List.length_map ..;rw[elr,vU] at r9;clear rl8 rw8 rd1 rd2 ind S8 s78;have oke:PyData.strOk e2.1=true:=by
   rcases R1.fin with⟨rfl,_⟩ | h | h
   .decide +kernel
   .rw[h];decide +kernel
   .rw[h];decide +kernel
  have oks:PyData.strOk ("spent":Str)=true:=by decide +kernel
  walk_at "g";intro pq hpq;have s10:=s9.trans (ag hpq (.tup [.str "spent"]));have S10:=S9.trans (ag hpq (.tup [.str "spent"]));have r10:=ag hpq (.tup [.str "spent"]) _ _ r9;have q10:SqT K (upd H9 pq (.tup [.str "spent"])) pq [.str "spent"]:=SqT.of ad;generalize upd H9 pq (.tup [.str "spent"])=H10 at*;have e10:SqT K H10 eq (.str e2.1::e2.2.map V.int):=SqT.of (s10 _ _ c2);clear s9 S9 r9;walk_at "g";rcases R1.fin with⟨rfl,st⟩ | hne
  .refine xK rfl ?_
   walk_at "g";exact aG.mk ⟨sq,r2,st2.p,st2.bx,st2.kvs,ys.drop rs.length,reps.drop rs.length,tb2,db,_,_,_,_,by lia,S10,⟨s10 _ _ c3,s10 _ _ c4,s10 _ _ c5,r10,(rp6.drop _).same s10,(fun r hr=>L5.rok r (List.mem_of_mem_drop hr)),(by rw[List.length_drop];have:=L5.few;lia),st,bxs6,R1.b7.trans L5.h7,R1.out.trans L5.bey,mem6,nod6,(by have z:=R1.len;have z2:=L5.len;lia)⟩,rfl⟩
  .have hz:decide (e2.1=("spent":Str))=false:=decide_eq_false (fun z=>by
    rcases hne with h | h
    .rw[h] at z;exact absurd z (by decide +kernel)
    .rw[h] at z;exact absurd z (by decide +kernel))
   refine Jm (by rw[hz,Bool.false_and];rfl) ?_
   have hin:inV (.str e2.1) [.str "stopped",.str "asks"]=true:=by
    rcases hne with h | h
    .rw[h];decide +kernel
    .rw[h];decide +kernel
   walk_at "g";intro pu hpu;have t11:SqT K (upd H10 pu (.tup [.str "stopped",.str "asks"])) pu [.str "stopped",.str "asks"]:=SqT.of ad;have S11:=S10.trans (ag hpu (.tup [.str "stopped",.str "asks"]));generalize upd H10 pu (.tup [.str "stopped",.str "asks"])=H11 at*;walk_at "g";rw[if_neg (by decide),hin]
   exact q _ (S3.trans S11)
 .clear L4 hrl;intro Z H4 hh_;refine bI fun G_ hG_=> ?_
  obtain⟨sa,rl,p,bx,kv,ys,reps,bt,md,x9,x10,x11,x12,_,s4,L4,rfl⟩:=hh_;refine hG_ ?_
  walk_at "g";exact q _ (S3.trans s4)
theorem LH {K:Frag}{h:Heap}{mg:Str->Option Value}{prm:Params}{as a:Addr}{n:Nat}{t0 t1 t2 t3 t4 t5 t6 t7 t8 t9 t10 t11 t12 t13 t14 t15 t16 t17 t18:Tok}{b0 b1 b2 b3 b4 b5 b6 b7 b8 b9 b10 b11 b12 b13 b14 b15 b16 b17 b18:Addr}(X:K.In h) (G:h.Ns mainGlobals mg) (hs:W.nsIn K mainGlobals "SORTS"=some (some (.ref as))) (ks:fT K as (qb.map V.str))
  (ha:W.nsIn K mainGlobals "FIELDS"=some (some (.ref a))) (hl:K.lookup a=some {cls:= .type "dict",data:= .dict (AW prm [("stop",t0,.ref b0),("put",t1,.ref b1),("add",t2,.ref b2),("sub",t3,.ref b3),("and",t4,.ref b4),("or",t5,.ref b5),("xor",t6,.ref b6),("less",t7,.ref b7),("left",t8,.ref b8),("right",t9,.ref b9),("more",t10,.ref b10),("load",t11,.ref b11),("store",t12,.ref b12),("jump",t13,.ref b13),("jumpif",t14,.ref b14),("through",t15,.ref b15),("fit",t16,.ref b16),("aim",t17,.ref b17),("gate",t18,.ref b18)]) n})
  (k0:fT K b0 ((aR 0).map V.str)) (k1:fT K b1 ((aR 1).map V.str)) (k2:fT K b2 ((aR 2).map V.str)) (k3:fT K b3 ((aR 3).map V.str)) (k4:fT K b4 ((aR 4).map V.str)) (k5:fT K b5 ((aR 5).map V.str)) (k6:fT K b6 ((aR 6).map V.str)) (k7:fT K b7 ((aR 7).map V.str)) (k8:fT K b8 ((aR 8).map V.str)) (k9:fT K b9 ((aR 9).map V.str)) (k10:fT K b10 ((aR 10).map V.str)) (k11:fT K b11 ((aR 11).map V.str)) (k12:fT K b12 ((aR 12).map V.str)) (k13:fT K b13 ((aR 13).map V.str)) (k14:fT K b14 ((aR 14).map V.str)) (k15:fT K b15 ((aR 15).map V.str)) (k16:fT K b16 ((aR 16).map V.str)) (k17:fT K b17 ((aR 17).map V.str)) (k18:fT K b18 ((aR 18).map V.str)):Tb K mg prm:=by
 refine⟨⟨as,W.mg_of X G hs,ks⟩,a,[("stop",.ref b0),("put",.ref b1),("add",.ref b2),("sub",.ref b3),("and",.ref b4),("or",.ref b5),("xor",.ref b6),("less",.ref b7),("left",.ref b8),("right",.ref b9),("more",.ref b10),("load",.ref b11),("store",.ref b12),("jump",.ref b13),("jumpif",.ref b14),("through",.ref b15),("fit",.ref b16),("aim",.ref b17),("gate",.ref b18)],W.mg_of X G ha,⟨_,n,hl,?_⟩,fun k hk=> ?_⟩
 .repeat' (first | exact Paired.nil | refine Paired.cons ⟨rfl,rfl⟩ ?_)
 .match k,hk with
  | 0,_=>exact⟨b0,rfl,k0⟩
  | 1,_=>exact⟨b1,rfl,k1⟩
  | 2,_=>exact⟨b2,rfl,k2⟩
  | 3,_=>exact⟨b3,rfl,k3⟩
  | 4,_=>exact⟨b4,rfl,k4⟩
  | 5,_=>exact⟨b5,rfl,k5⟩
  | 6,_=>exact⟨b6,rfl,k6⟩
  | 7,_=>exact⟨b7,rfl,k7⟩
  | 8,_=>exact⟨b8,rfl,k8⟩
  | 9,_=>exact⟨b9,rfl,k9⟩
  | 10,_=>exact⟨b10,rfl,k10⟩
  | 11,_=>exact⟨b11,rfl,k11⟩
  | 12,_=>exact⟨b12,rfl,k12⟩
  | 13,_=>exact⟨b13,rfl,k13⟩
  | 14,_=>exact⟨b14,rfl,k14⟩
  | 15,_=>exact⟨b15,rfl,k15⟩
  | 16,_=>exact⟨b16,rfl,k16⟩
  | 17,_=>exact⟨b17,rfl,k17⟩
  | 18,_=>exact⟨b18,rfl,k18⟩
  | m+19,hk=>exact absurd hk (by lia)
theorem Iu {K:Frag}{h:Heap}{mg:Str->Option Value}{aF aL:Addr}(X:K.In h) (G:h.Ns mainGlobals mg)
  (mL:W.nsIn K mainGlobals "TooLong"=some (some (.ref aL))) (xL:W.excIn K aL vbm "ValueError.__new__"=true) (c:XC K aL aF none xqs):∃aF aL,HN K mg aF aL:=⟨aF,aL,W.mg_of X G mL,⟨xL⟩,c⟩
theorem JF {H:Hp}{a d:Addr}{xs:List V}(h:SqL K H a xs) (hd:H d=none):a≠d\/KL K a xs:=by
 rcases h with(h | ⟨o,h⟩) | h
 .exact .inl (aj h hd)
 .exact .inl (aj h hd)
 .exact .inr h
structure I97 (H:Hp) (d pp gt bt md:Addr) (k:Nat) (b:Int) (m s:Nat) (g:Int) (bas:List Addr) (gs:List (List Ins)) (bx:List Int) (kvs:List (Key × V)):Prop where
 pl:Pl H pp k b m s g
 lg:H gt=some (.tup (bas.map V.ref))
 bl:BlD H bas gs
 lb:H bt=some (.tup (bx.map V.int))
 lm:H md=some (.dK kvs)
theorem I97.mv {a:Addr}{ns:List Int}{H H':Hp}{d pp gt bt md:Addr}{k:Nat}{b:Int}{m s:Nat}{g:Int}{bas:List Addr}{gs:List (List Ins)}{bx:List Int}{kvs:List (Key × V)}(h:I97 H d pp gt bt md k b m s g bas gs bx kvs) (hD:bT K a ns H d) (e:But d H H'):I97 H' d pp gt bt md k b m s g bas gs bx kvs:=
 ⟨h.pl.st e hD,hD.tup e h.lg,h.bl.mono (fun _ _ z=>hD.tup e z),hD.tup e h.lb,hD.keep e h.lm (fun _ z=>by cases z)⟩
theorem I97.sm {H H':Hp}{d pp gt bt md:Addr}{k:Nat}{b:Int}{m s:Nat}{g:Int}{bas:List Addr}{gs:List (List Ins)}{bx:List Int}{kvs:List (Key × V)}(h:I97 H d pp gt bt md k b m s g bas gs bx kvs) (e:az H H'):I97 H' d pp gt bt md k b m s g bas gs bx kvs:=
 ⟨h.pl.mv e,e _ _ h.lg,h.bl.mono (fun _ _ z=>e _ _ z),e _ _ h.lb,e _ _ h.lm⟩
theorem I97.wr {H:Hp}{d pp gt bt md c:Addr}{k:Nat}{b:Int}{m s:Nat}{g:Int}{bas:List Addr}{gs:List (List Ins)}{bx:List Int}{kvs:List (Key × V)}{zs:List V}{o:HO}(h:I97 H d pp gt bt md k b m s g bas gs bx kvs) (hc:H c=some (.lst zs)):I97 (upd H c o) d pp gt bt md k b m s g bas gs bx kvs:=by
 have kp:∀(x:Addr) (u:HO),(∀ xs,u≠ .lst xs)->H x=some u->upd H c o x=some u:=fun x u hu hx=>by
  rw[ai (fun z=>by rw[z,hc] at hx;cases hx;exact hu _ rfl)]
  exact hx
 exact⟨⟨kp _ _ (fun _ z=>by cases z) h.pl.at_,h.pl.room,h.pl.ms⟩,kp _ _ (fun _ z=>by cases z) h.lg,h.bl.mono (fun _ _ z=>kp _ _ (fun _ y=>by cases y) z),kp _ _ (fun _ z=>by cases z) h.lb,kp _ _ (fun _ z=>by cases z) h.lm⟩
theorem iL.st {a:Addr}{ns:List Int}{H H':Hp}{d:Addr}{ys:List V}{reps:List (List Int × List (Key × V))}(h:iL H ys reps) (hD:bT K a ns H d) (e:But d H H'):iL H' ys reps:=h.mono (fun _ _ z=>hD.tup e z) (fun _ _ z=>hD.keep e z (fun _ y=>by cases y))
theorem KB (B:Bi mg) (T:Tb K mg w.params) (T2:Tb2 K mg) (Tx:∃aF aL,HN K mg aF aL) {cY:Addr}(aZ:dE K mg "LaidBlock" cY) (bS:bV K cY) {jJ:Addr}(gZ:dE K mg "Known" jJ) (l_:lW K jJ) {gc:Addr}(cW:dE K mg "Holding" gc) (e9:eR K gc) {gI:Addr}(dX:dE K mg "Machine" gI) (gC:gB K gI) (iY:nh K mg) (CP:Gs K mg) (zx:D4 K mg) (wD:BN K mg) (lv:rX K mg) (jq:nA K mg) (lD:rQ K mg) (qI:vQ K mg) (mZ:tG K mg) (dI:gk K mg) (gF:kP K mg) (qo:wk K mg) (jk:oA K mg) (oj:t_ K mg) (oF:tU K mg) (lu:se K mg) (mw:rj K mg) (gW:kI K mg) (wI:As K mg) (nL:tV K mg) (jo:oH K mg) (oi:tE K mg) (qC:vD K mg) (qG:wJ K mg) (qw:wt K mg) (sU:ym K mg) (nz:tT K mg) (nk:tS K mg) (lj:q_ K mg) (jV:pM K mg) (oz:ua K mg) (qe:wb K mg) (qh:wK K mg) (jY:pE K mg) (ou:tF K mg) (iU:oJ K mg) (iB:mI K mg) (jl:n_ K mg) (nK:tI K mg) (lH:rC K mg) (qd:vb K mg) (eP:ik K mg) (jR:pO K mg) (zM:EB K mg) (eE:eJ K cY) (dj:di K cY) (d3:d9 K cY) (gK:gX K cY) (dL:dP K cY) (dC:dA K cY) (kW:rB K mg) (lw:r8 K mg) (wF:A9 K mg) (zZ:El K mg) (jP:pJ K mg) (nB:uf K mg) (gN:kO K mg) (nI:tZ K mg) (gy:kF K mg) (iV:nM K mg) (jc:oG K mg) (Dg:Hn K mg) (gR:gD K jJ) (jg:jd K jJ) (fX:fO K jJ) (fw:fu K jJ) (fU:fN K jJ) (iz:mJ K mg) (Dn:Gy K mg) (sK:yn K mg) (fR:fQ K gc) (fA:fr K gc) (iE:ix K gc) (kq:kB K gc) (f8:fS K gI) (gQ:gA K gI) (lX:lM K gI) (eo:d_ K gI) (d_run:Jp K mg) (mY:uc K mg) (lT:rT K mg) (ol:tK K mg) (lL:rD K mg) (k_:qU K mg) (jZ:pC K mg) (j8:pS K mg) (lR:rN K mg) (mV:uh K mg) (oI:tO K mg) (lO:rE K mg) (oM:tD K mg) (kx:pG K mg) (nQ:tJ K mg) (j6:pI K mg) {f:Addr}{fd:FuncData}(F:Fun K "law" "law" DQ f fd):iC P w K mg base CX0 14 f fd ["_law_script"] (BY K):=by
 obtain⟨IL,KP,Ex⟩:=Tx;have ao:=uK (P:=P) (w:=w) (base:=base) B iY;have aY:=HM B CP ao;have wB:=Fs B wD ao;have iR:=Gj (P:=P) (w:=w) (base:=base) B zx;have lK:=xB B lv aY;have i9:=uF B jq aY wB;have dO:=wR B T lD lK;have gE:=B0 B qI dO;have bf:=yP (P:=P) (w:=w) (base:=base) B mZ;have dR:=kQ B T dI dO i9;have cK:=qZ B gF dR;have bA:=wX (P:=P) (w:=w) (base:=base) B mw;have gH:=rS B gW ao;have cq:=EI B wI iR;have bC:=zp (P:=P) (w:=w) (base:=base) B nL;have aH:=uw B jo cq;have bK:=yZ B oi gH aH;have qF:=AB B qC bK;have qK:=Cn B qG bK;have du:=uG B jk ao aY;have qA:=A1 B qw aY aH;have oS:=CF B sU ao aH;have nJ:=yV B nz cq;have nN:=zc B nk bC bA aY ao bK;have lQ:=xA B lj bC aY ao aH;have ki:=wE B jV cq bC du qF qK qA oS nJ nN lQ;have nV:=zo B oz iR bK;have eF:=zd B oF ao aY;have pY:=Ce B qe ao aY iR aH;have qy:=Bg B qh ao cq bC eF aH;have dH:=Cm (P:=P) (w:=w) (base:=base) B T2 qo;have bJ:=wj B jY bA;have nX:=yY B ou cq bA nV pY qy ki;have dz:=uk B iU bA dH nX;have cX:=sI B iB ao;have jr:=ul (P:=P) (w:=w) (base:=base) B jl;have m9:=Ak (P:=P) (w:=w) (base:=base) B nK;have lE:=xr B lH bf;have p8:=Bz B qd dH cX jr m9;have eO:=mS B eP cK lE p8;have dW:=vI B T2 jR ao bJ eO dz bf;have Ip:=FO B zM dW;have bB:=mR (P:=P) (w:=w) (base:=base) B aZ bS eE;have a8:=jy (P:=P) (w:=w) (base:=base) B aZ bS dj;have cJ:=rc B aZ bS gK bf;have bn:=kK B aZ bS dL cJ;have a_:=j_ B aZ bS dC cJ a8;have bp:=lN B aZ bS d3 bf;have de:=y8 (P:=P) (w:=w) (base:=base) B nI;have aS:=rY (P:=P) (w:=w) (base:=base) B gy;have cN:=uB B iV de aS;have jj:=uL B aZ jc bB cN bp a_ bn;have iN:=xj B kW ao;have lr:=wQ (P:=P) (w:=w) (base:=base) B aZ bS lw;have wC:=EV (P:=P) (w:=w) (base:=base) B wF;have oW:=GM B zZ gE;have jT:=vV B aZ bS jP gE wC oW;have nD:=zW (P:=P) (w:=w) (base:=base) B aZ bS nB;have cE:=qO B Ex.xL Ex.mL gN ao iN lr jT oW nD;have Dk:=Iw B Dg jj cE;have gJ:=rh B gZ l_ gR bJ;have jb:=uj B gZ l_ jg bJ;have dQ:=pd B gZ l_ fX de aS cN cX;have f9:=o7 B gZ l_ fU dH;have fq:=oo B gZ l_ fw dz f9;have iA:=sF B aZ gZ iz bB gJ dQ jb fq a8 bp a_ bn;have CC:=IG B Dn iA cE;have oB:=zF B oj aY;have sX:=C_ B sK ao;have lI:=xG B lu aY du oB eF;have m1:=sV B cW e9 iE aY sX;have m2:=vA (P:=P) (w:=w) (base:=base) B cW e9 kq;have m3:=oC B cW e9 fA m2 m1 lI;have m4:=o_ (P:=P) (w:=w) (base:=base) B cW e9 fR;have m5:=mj (P:=P) (w:=w) (base:=base) B cW e9 dX gC eo;have m6:=xJ B cW e9 dX gC lX bf m3 m5;have m7:=qV B dX gC gQ cK m6;have m8:=o8 (C:=gc) (P:=P) (w:=w) (base:=base) B dX gC f8;have JT:=HV B cW e9 dX gC d_run m4 m8 m7;have h_run:=JT.imp (fun _ _ _ _ h=>CQ h)
 have AE:=yE B Ex oM Dk CC;have hX:=vh (P:=P) (w:=w) (base:=base) B kx;have n9:=zI (P:=P) (w:=w) (base:=base) B nQ;have xD:=vH B j6 dW hX n9 h_run;have me:=w_ (P:=P) (w:=w) (base:=base) B lT;refine F.ok gq (fun vs H Q E h=> ?_) (fun cdv A outer s H vs Q E hr h=> ?_)
 .obtain⟨a,ns,rfl,_⟩:=h
  rfl
 obtain⟨a,ns,rfl,hS,h63,hO,q⟩:=h;have au:=zf (P:=P) (w:=w) (base:=base) (sc:=a) (ns:=ns) B mY;have Bj:=xv B ol au;have bQ:=wS B lL au;have pP:=vg B jZ au bQ;have ko:=vK B j8 au;have lJ:=wW B lR au me bQ ko;have oQ:=zQ B mV au;have jK:=zE B oI au;have zy:=xc B lO au jK lJ oQ;have sr:=w6 B k_ bQ
 refine⟨_,(aa (psS 1 gq.nd (cw (pa3 (pv 0) ac ac)))
   (aa (psS 2 gq.nd (pcH Bj hr (pa1 (pv 1))))
   (aa (psS 3 gq.nd (pcH zy hr (pa2 (pv 1) (pv 2))))
   (aa (psS 4 gq.nd (pcH sr hr (pa3 (pv 1) (pv 2) ac)))
   (aa (psS 5 gq.nd (pcH pP hr (pa3 (pv 1) (pv 2) nG)))
   (aa (zP (i:=6) (by rfl) (by rfl) (by rfl) (bk (sc0:=af DQ) (N0:=["_law_script","_law_state","_law_plan_here","_law_guest_here","_law_boxes_here","_law_memory_here","_law_replies","_law_thinned","_law_found","_law_own","_law_code","_law_places","_law_at","_law_most"]) ["_law_k","_law_state","_law_plan_here"] 1 [1,2]) gq.nd (by rfl) (by left;rfl) (f_ (by rfl) B.range (pa1 (pcH au hr (pa2 (pv 1) ac)))) (fun _ _ _ _=>(aN (i:=0) (show List.Nodup (["_law_k","_law_state","_law_plan_here"]:List Str) by decide) (by rfl) (by left;rfl))) (fun _ _ _ _=>(aA (pa2 (pcH sr hr (pa3 (pv 1) (pv 2) ac)) (pcH pP hr (pa3 (pv 1) (pv 2) nG))))))
   (aa (fB PassesOwn.never (by rfl) (eA (ll (aA (cj (by rfl))))) (aN (i:=7) gq.nd (by rfl) (by left;rfl)) (aa (psS 8 gq.nd (pcH AE hr (pa3 (pv 3) (pv 2) (pv 7))))
   (ae (aO (bq (ax (lZ (uR (pv 8))) (aa (mi (pv 8) (sO (n:=3) (by rfl) (bE (aN (i:=9) gq.nd (by rfl) (by left;rfl)) (bE (aN (i:=10) gq.nd (by rfl) (by left;rfl)) (bE (aN (i:=11) gq.nd (by rfl) (by left;rfl)) jM)))))
   (aa (psS 12 gq.nd (av cf ac (pcH au hr (pa2 (pv 1) (av cZ (aI aM (by rfl) B.len dk (pa1 (pv 10))) ac)))))
   (aa (psS 13 gq.nd (pcH au hr (pa2 (pv 1) ac)))
   (aa (aO (bq (ax (PW.pt (iF (lZ (uR (pcH Ip hr (pa2 (pv 9) (pv 10))))) (iF (pcT (BG (Iv hr)) (c_ kc (pv 9) eB (eC ac)) (c_ kc (pv 2) eB (eC ac))) (gf (pcT ug (pX ak (pv 9) ac) (pX ak (pv 2) ac)))))) (ae (ah nG)) al)))
   (ae (ax (dZ (ce (pcH xD hr (pa5 (pv 9) (pv 10) (aA (pa3 (pv 12) (pv 4) (pv 5))) (pv 6) (pv 13))))) (ae (ah nG)) al)))))) al))))))
   (ae (ah nG))))))))),?_⟩
 try dsimp only[aT]
 walk_at "g";intro d hd;have hD0:bT K a ns (upd H d (.lst [.ref a,.int 0,.int 0])) d:=⟨0,0,ad,Ky hd hS,JF hS hd,Int.le_refl 0,h63⟩;generalize upd H d (.lst [.ref a,.int 0,.int 0])=H0 at*;walk_at "g";intro pp k b m sx g H1 pl1 g0 g16 hD1 b1;walk_at "g";intro gt bas gs H2 gu lg2 bl2 hD2 b2;have pl2:=pl1.st b2 hD1;walk_at "g";intro bt bx H3 hbl hbr lb3 hD3 b3;have pl3:=pl2.st b3 hD2;have lg3:=hD2.tup b3 lg2;have bl3:=bl2.mono (fun _ _ z=>hD2.tup b3 z)
 walk_at "g";intro md kvs H4 hmd lm4 mo4 nd4 ml4 _ hD4 b4;have I4:I97 H4 d pp gt bt md k b m sx g bas gs bx kvs:=⟨pl3.st b4 hD3,hD3.tup b4 lg3,bl3.mono (fun _ _ z=>hD3.tup b4 z),hD3.tup b4 lb3,lm4⟩
 clear pl1 pl2 pl3 lg2 lg3 bl2 bl3 lb3 lm4 b1 b2 b3 b4 hD0 hD1 hD2 hD3 hmd;walk_at "g";intro r H5 r0 r1 hD5 b5;obtain⟨n,rfl⟩:∃n:Nat,r=n:=Int.eq_ofNat_of_zero_le r0;have hn7:n < 7:=by lia
 have I5:=I4.mv hD4 b5;clear I4 hD4 b5 r0 r1 g0 g16;walk_at "g";intro pc hpc;have npc:pc≠d:=hD5.ne hpc;refine mq (fun i ys H'=>aG (∃ reps:List (List Int × List (Key × V)),reps.length=i/\iL H' ys reps/\(∀ r∈reps,HK k b r)/\H' pc=some (.lst ys)/\bT K a ns H' d/\But d H5 H'/\I97 H' d pp gt bt md k b m sx g bas gs bx kvs)) ⟨[],rfl,⟨rfl,fun i v bs ws z _=>by cases z⟩,(fun r hr=>by cases hr),ad,hD5.up hpc,cU hpc (fun _ _ _ z=>z),I5.sm (ag hpc _)⟩ ?_ ?_
 .intro i ys H6 F hF hi hh_;refine bI fun G_ hG_=> ?_
  obtain⟨reps,hrl,rp6,ro6,l6,hD6,b6,I6⟩:=hh_;refine hG_ ?_
  have hi':i < 7:=by
   have:i < n:=by simpa using hi
   lia
  have pl6:=I6.pl;refine⟨Wk.none Wk.refl,?_⟩
  walk_at "g";intro tb xs H7 hxl hxr lt7 hD7 b7;have l7:=b7 _ _ npc l6;have I7:=I6.mv hD6 b7;have rp7:=rp6.st hD6 b7;have pl7:=I7.pl;clear pl6 I6 rp6;walk_at "g";intro dm kw H8 hdm lm8 mo8 nd8 ml8 ir8 hD8 b8;have l8:=b8 _ _ npc l7;have I8:=I7.mv hD7 b8;have rp8:=rp7.st hD7 b8;have lt8:=hD7.tup b8 lt7;have B8:=(b6.trans b7).trans b8;clear pl7 I7 rp7 lt7 b6 b7 b8 l7 l6 hD7 hD6;walk_at "g";intro tq htq;have s9:=ag htq (.tup [.ref tb,.ref dm]);have q9:upd H8 tq (.tup [.ref tb,.ref dm]) tq=some (.tup [.ref tb,.ref dm]):=ad;have l9:=s9 _ _ l8;have I9:=I8.sm s9;have rp9:=rp8.same s9;have lt9:=s9 _ _ lt8;have lm9:=s9 _ _ lm8;have hD9:=hD8.same s9;have B9:=B8.trans s9.but;generalize upd H8 tq (.tup [.ref tb,.ref dm])=H9 at*;have hzl:ys.length < sizeLine:=Nat.lt_of_le_of_lt (show ys.length<=100 by rw[rp9.1];lia) (by decide)
  have rv:RpA H9 (.ref tq) xs kw:=⟨⟨tq,tb,dm,rfl,q9,lt9,lm9⟩,hxl,hxr,mo8,ml8,nd8⟩;refine⟨l9,hzl,hF _ _ (aG.mk ⟨reps++[(xs,kw)],by rw[List.length_append,hrl];rfl,(rp9.snoc rv).wr l9,?_,ad,hD9.wrN (h0:=hD5) (hc:=hpc) npc B9,(fun x u nx e=>by rw[ai (aj e hpc)];exact B9 x u nx e),I9.wr l9⟩)⟩
  intro r hr;rcases List.mem_append.mp hr with hr | hr
  .exact ro6 r hr
  .rw[List.mem_singleton.mp hr];exact⟨hxl,hxr,ir8 rfl⟩
 intro ys H6 hh_;refine bI fun G_ hG_=> ?_
 obtain⟨reps,hrl,rp6,ro6,l6,hD6,_,I6⟩:=hh_;refine hG_ ?_
 have hrl:reps.length=n:=hrl;clear I5 hD5 hpc;walk_at "g";intro pt hpt;have s7:=ag hpt (.tup [.bl false,.bl true]);have t7:SqT K (upd H6 pt (.tup [.bl false,.bl true])) pt [.bl false,.bl true]:=SqT.of ad;have I7:=I6.sm s7;have rp7:=rp6.same s7;have l7:=s7 _ _ l6;have hD7:=hD6.same s7;clear I6 rp6 l6 hD6;generalize upd H6 pt (.tup [.bl false,.bl true])=H7 at*;walk_at "g"
 refine⟨r_ (K:=K) (a:=pt) (xs:=[.bl false,.bl true]) (fun i Z H'=>aG (∃ (x7 x8 x9 x10 x11 x12 x13:Option V),bT K a ns H' d/\SqT K H' pt [.bl false,.bl true]/\H' pc=some (.lst ys)/\iL H' ys reps/\I97 H' d pp gt bt md k b m sx g bas gs bx kvs/\
  Z=[some (.ref a),some (.ref d),some (.ref pp),some (.ref gt),some (.ref bt),some (.ref md),some (.ref pc),x7,x8,x9,x10,x11,x12,x13])) ⟨_,_,_,_,_,_,_,hD7,t7,l7,rp7,I7,rfl⟩ (fun i Z H' _ h=>by obtain⟨_,_,_,_,_,_,_,_,z,_⟩:=h.out;exact z) ?_ ?_⟩
 .clear I7 hD7 t7 l7 rp7;intro i v Z H8 hv hh_;refine bI fun G_ hG_=> ?_
  obtain⟨x7,x8,x9,x10,x11,x12,x13,hD8,t8,l8,rp8,I8,rfl⟩:=hh_;refine hG_ ?_
  obtain⟨th,rfl⟩:∃th:Bool,v= .bl th:=by
   match i,hv with
   | 0,hv=>cases hv;exact⟨false,rfl⟩
   | 1,hv=>cases hv;exact⟨true,rfl⟩
  have sg8:=SqT.of (K:=K) I8.lg;have gst8:=I8.bl.gst (K:=K);have pl8:=I8.pl;clear hv;walk_at "g";refine⟨fun H9 s9=> ?_,fun r x is H9 s9 ek eb eg md9=> ?_⟩
  .walk_at "g";refine⟨_,?_,fun Z' H' h=>h⟩
   walk_at "g";exact aG.mk ⟨_,_,_,_,_,_,_,hD8.same s9,s9.tup t8,s9 _ _ l8,rp8.same s9,I8.sm s9,rfl⟩
  .refine bI fun G_ hG_=> ?_
   obtain⟨co,a1,a2,a3,ps,c1,c2,c3,c4,f1,f2,f3,f4⟩:=md9;refine hG_ ?_
   have hD9:=hD8.same s9;have t9:=s9.tup t8;have l9:=s9 _ _ l8;have rp9:=rp8.same s9;have I9:=I8.sm s9;have nd2:a2≠d:=hD8.ne f3;have n1:=SqT.of (K:=K) c1;have sc9:=SqL.of (K:=K) c3;clear hD8 t8 l8 rp8 I8 sg8 gst8 pl8;have elen:(ay is).length=8*2^(x.pm+x.ps):=co.len;have h7:x.pm+x.ps<=7:=c2.ms;have hpow:1<=2^(x.pm+x.ps)/\2^(x.pm+x.ps)<=2^7:=⟨Nat.one_le_two_pow,Nat.pow_le_pow_right (by decide) h7⟩
   have hcdw:Bc ((((ay is).map V.int).length:Nat):Int) 8:=⟨by lia,by decide⟩
   have hq1:(0:Int) < ((((ay is).map V.int).length:Nat):Int) / 8:=by rw[List.length_map];lia
   have hq2:((((ay is).map V.int).length:Nat):Int) / 8<=2^100:=by rw[List.length_map];lia
   have hDH:=aG.mk hD9;clear hD9;walk_at "g";refine⟨_,?_,fun Z' H' h=>h⟩
   walk_at "g";refine⟨hDH.out,hq1,hq2,?_⟩
   clear hq1 hq2 hcdw;intro u H10 u0 u1 hD10 b10;have hu:0<=8*u/\8*u < (ay is).length/\(8*u) %8=0:=by
    rw[List.length_map] at u1
    lia
   clear u1;have hD9:=hDH.out;have I10:=I9.mv hD9 b10;have rp10:=rp9.st hD9 b10;have l10:=b10 _ _ npc l9;have t10:SqT K H10 pt [.bl false,.bl true]:=by
    refine bI fun G_ hG_=> ?_
    obtain⟨_,_,z,_⟩:=hD9;refine hG_ ?_
    exact b10.tup z t9
   have p10:Pl H10 a1 x.pk x.pb x.pm x.ps x.pg:=c2.st b10 hD9;have k10:=b10 _ _ nd2 c3;clear I9 rp9 l9 t9 hDH hD9 b10 c1 c3 c4 n1 sc9;have hcm:zB 8 u:= .inl ⟨by decide,by decide⟩
   replace hu:=aG.mk hu
   walk_at "g";intro mo H11 m0 m1 hD11 b11;obtain⟨mo,rfl⟩:∃n:Nat,mo=n:=Int.eq_ofNat_of_zero_le m0;have hmo:mo<=40:=by lia
   have I11:=I10.mv hD10 b11;have rp11:=rp10.st hD10 b11;have l11:=b11 _ _ npc l10;have t11:SqT K H11 pt [.bl false,.bl true]:=by
    refine bI fun G_ hG_=> ?_
    obtain⟨_,_,z,_⟩:=hD10;refine hG_ ?_
    exact b11.tup z t10
   have p11:=p10.st b11 hD10;have k11:=SqL.of (K:=K) (b11 _ _ nd2 k10);clear I10 rp10 l10 t10 p10 k10 hD10 b11 m0 m1;have i11:=I11.pl;walk_at "g";refine⟨fun Z' H'=>aG (az H11 H'/\Z'=[some (.ref a),some (.ref d),some (.ref pp),some (.ref gt),some (.ref bt),some (.ref md),some (.ref pc),some (.bl th),some (.ref r),some (.ref a1),some (.ref a2),some (.ref a3),some (.int (8*u)),some (.int ((mo:Nat):Int))]),?_,?_⟩
   .have hc1:fe [V.int x.pk,V.int x.pb,V.int x.pm,V.int x.ps,V.int x.pg] none (some 2)=[V.int x.pk,V.int x.pb]:=Df;have hc2:fe [V.int k,V.int b,V.int m,V.int sx,V.int g] none (some 2)=[V.int k,V.int b]:=Df;walk_at "g";intro H12 s12;have o12:=SqT.of (K:=K) (p11.mv s12).at_;have n12:=SqT.of (K:=K) (i11.mv s12).at_;walk_at "g";refine⟨fun z=>absurd (show HT.sIx 5 5 (some 2)=5 from z.2) (by decide),fun p hp=> ?_⟩
    rw[hc1];have s13:=ag hp (.tup [V.int x.pk,V.int x.pb]);have q13:SqT K (upd H12 p (.tup [V.int x.pk,V.int x.pb])) p (([(x.pk:Int),x.pb]:List Int).map V.int):=SqT.of ad;have o13:=s13.tup o12;have n13:=s13.tup n12;generalize upd H12 p (.tup [V.int x.pk,V.int x.pb])=H13 at*;walk_at "g";refine⟨fun z=>absurd (show HT.sIx 5 5 (some 2)=5 from z.2) (by decide),fun p2 hp2=> ?_⟩
    rw[hc2];have s14:=ag hp2 (.tup [V.int k,V.int b]);have r14:SqT K (upd H13 p2 (.tup [V.int k,V.int b])) p2 (([(k:Int),b]:List Int).map V.int):=SqT.of ad;have q14:=s14.tup q13;have o14:=s14.tup o13;have n14:=s14.tup n13;generalize upd H13 p2 (.tup [V.int k,V.int b])=H14 at*;have j4:atI [V.int x.pk,V.int x.pb,V.int x.pm,V.int x.ps,V.int x.pg] 4=some (.int x.pg):=aJ (j:=4) rfl;have k4:atI [V.int k,V.int b,V.int m,V.int sx,V.int g] 4=some (.int g):=aJ (j:=4) rfl;walk_at "g";rw[if_pos rfl,decide_eq_true (show[(x.pk:Int),x.pb]=[(k:Int),b] by rw[ek,eb])]
    walk_at "g";refine xK (yo eg) ?_
    walk_at "g";exact aG.mk ⟨(s12.trans s13).trans s14,rfl⟩
   intro Z12 H12 hh_;refine bI fun G_ hG_=> ?_
   obtain⟨s12,rfl⟩:=hh_;refine hG_ ?_
   have I12:=I11.sm s12;have rp12:=rp11.same s12;have l12:=s12 _ _ l11;have t12:=s12.tup t11;have p12:=p11.mv s12;have k12:=s12.seq k11;have hD12:=hD11.same s12;clear I11 rp11 l11 t11 p11 k11 hD11 i11 s12;walk_at "g";intro sa hsa;have s13:=ag hsa (.tup [.int (8*u),.ref bt,.ref md]);have sa13:upd H12 sa (.tup [.int (8*u),.ref bt,.ref md]) sa=some (.tup [.int (8*u),.ref bt,.ref md]):=ad;have I13:=I12.sm s13;have rp13:=rp12.same s13;have l13:=s13 _ _ l12;have t13:=s13.tup t12;have p13:=p12.mv s13;have k13:=s13.seq k12;have hD13:=hD12.same s13;clear I12 rp12 l12 t12 p12 k12 hD12 s13;generalize upd H12 sa (.tup [.int (8*u),.ref bt,.ref md])=H13 at*;have hbx:Bxs bx:=⟨hbl,hbr⟩;have hst:mn x is (8*u) bx:=by
    obtain⟨v,ev⟩:∃v:Nat,8*u=v:=Int.eq_ofNat_of_zero_le hu.out.1;rw[ev];have h2:=hu.out.2;refine mn.bundle co (by lia) ?_ hbx
    rw[<- bO]
    lia
   have L13:L97 x is (bxG bx 7) kvs 0 H13 sa pc (8*u) bx kvs ys reps bt md:=⟨sa13,I13.lb,I13.lm,l13,rp13,(fun r hr=>by rw[ek,eb];exact ro6 r hr),(by lia),hst,hbx,rfl,rfl,mo4,nd4,by lia⟩
   walk_at "g";intro H14 s14;walk_at "g";exact aG.mk ⟨_,_,_,_,_,_,_,hD13.same s14,s14.tup t13,s14 _ _ l13,rp13.same s14,I13.sm s14,rfl⟩
 .intro Z8 H8 hh_;refine bI fun G_ hG_=> ?_
  obtain⟨_,_,_,_,_,_,_,_,_,_,_,_,rfl⟩:=hh_;refine hG_ ?_
  walk_at "g";exact q _
end
end My
set_option Elab.async true
namespace PySem.Challenge.cw_fencemask_k97_whole_guests_from_any_bund_holds
def tw17844754578495220767:=0
def tw5142873348772081437:=0
def tw42226827519896296:=0
def tw6869387322378822888:=0
def tw6790179457964338602:=0
def tw11206267608863658153:=0
def tw976682013425989948:=0
def tw13088644761202968157:=0
def tw690900647844944086:=0
def tw16274773825422528823:=0
def tw5337548781288698332:=0
def tw16354806342314063603:=0
def tw4723451213582990517:=0
def tw9881225797548605814:=0
def tw10704420966955687146:=0
def tw16169209137612467357:=0
def tw15809109692238835653:=0
def tw5529669004787113606:=0
def tw125566725941994336:=0
def tw5029400143754656956:=0
def tw15156431091695575166:=0
def tw2037757174018175487:=0
def tw16960680036101280254:=0
def tw5745285285526392125:=0
def tw7409212442743029781:=0
def tw15541020535607388461:=0
def tw16526477705151854886:=0
def tw18266977375068086109:=0
def tw670359227595499968:=0
def tw4237867448878923889:=0
def tw1976608407849265823:=0
def tw2284480138000795493:=0
def tw8658227200790376875:=0
def tw13799946502599489769:=0
def tw6057169298626997989:=0
def tw11830719959080842547:=0
def tw13062738978495470381:=0
def tw9396734459356553868:=0
def tw18020933896146764190:=0
def tw4625113733405065554:=0
def tw18039171814452860666:=0
def tw8271788418237703665:=0
def tw15499293635216460891:=0
def tw4450644794644888232:=0
def tw6361171276278317138:=0
def tw9274810263452409496:=0
def tw16038060473480277438:=0
def tw2355125908853227155:=0
def tw14280745670742238589:=0
def tw5062808402780461382:=0
def tw14797661481806158575:=0
def tw14518964959682418837:=0
def tw6097066161360385827:=0
def tw6513959521237633433:=0
def tw16580885747615593270:=0
def tw5140069597327274178:=0
def tw2867463605714466094:=0
def tw10471941092799507081:=0
def tw2261458657409646160:=0
def tw8031683898755668891:=0
def tw155586344186797920:=0
def tw6204456493460757579:=0
def tw5885612539892105679:=0
def tw9068972528194898476:=0
def tw3304386575134457159:=0
def tw13601688188021153387:=0
def tw14116766764536483115:=0
def tw2075899613892166331:=0
def tw7485541286883081288:=0
def tw2583741115838286943:=0
def tw12765959790708088515:=0
def tw12224475922368306868:=0
def tw2629254817797214065:=0
def tw6614052231098031249:=0
def tw660601615506253066:=0
def tw5799507104115472546:=0
def tw10945500895598649753:=0
def tw10928196924558527684:=0
def tw14372342153823452282:=0
def tw3383948848582926756:=0
def tw10322279344563957384:=0
def tw1502737810801513450:=0
def tw444292234617657737:=0
def tw2209591671445083496:=0
def tw5413569298394013793:=0
def tw2759008705657819254:=0
def tw8104980670359989141:=0
def tw10694870624878611216:=0
def tw9094177919080973862:=0
def tw9163398611430987605:=0
def tw18377935014721708257:=0
def tw4259434653301619043:=0
def tw2109130472689875209:=0
def tw18223797582982573171:=0
def tw4188950410271310199:=0
def tw3572620575402524694:=0
def tw16590447803231047367:=0
def tw517575838894835042:=0
def tw13710038591496392913:=0
def tw18070454307841511614:=0
def tw873455900445734389:=0
def tw8041191604542527395:=0
def tw4720272894790456292:=0
def tw4925919067595326389:=0
def tw13850744674107662032:=0
def tw6170409246689260230:=0
def tw3358445857690016735:=0
def tw13323990079830203446:=0
def tw14632491728896614380:=0
def tw1697918997737586453:=0
def tw12614201778368662097:=0
def tw922745854834380398:=0
def tw10280399218835962795:=0
def tw3923351004006378115:=0
def tw18166096598868400607:=0
def tw15254189475581470370:=0
def tw7034629402207523155:=0
def tw4639568587136978148:=0
def tw2434893855939248704:=0
def tw6926643668703634745:=0
def tw12235789336790365865:=0
def tw309210434393818459:=0
def tw13140856619032604192:=0
def tw9829525927878456591:=0
def tw3796442975977570222:=0
def tw3243367542401301430:=0
def tw931211687751862038:=0
def tw5834791262833712387:=0
def tw7782842078920926384:=0
def tw11800910096087752825:=0
def tw12192610957407366573:=0
def tw4538995192284004715:=0
def tw8863447783962032924:=0
def tw11081758299588637471:=0
def tw10274097988878393767:=0
def tw12815569206311500934:=0
def tw352956453253542737:=0
def tw1532796935207117848:=0
def tw7831042343913440491:=0
def tw2807616754859495790:=0
def tw11945448131218254549:=0
def tw10633788108336715571:=0
def tw5089957988436211913:=0
def tw10772793588254923813:=0
def tw15563449816736403315:=0
def tw8140582613464940760:=0
def tw10633930454278112049:=0
def tw359487676745019348:=0
def tw6144750169223186735:=0
def tw3136866374882118639:=0
def tw17706970245406994736:=0
def tw9347225172608647286:=0
def tw5189541610778951879:=0
def tw13850145776246740300:=0
def tw9807329611080697410:=0
def tw4946875159927166363:=0
def tw18155542836671838417:=0
def tw7730139844677535323:=0
def tw14560747956571878204:=0
def tw11794217268462741164:=0
def tw2407541439313978634:=0
def tw16549495438927889962:=0
def tw6297342702546562580:=0
def tw11758430954615478454:=0
def tw187805572519439636:=0
def tw9172031406732091655:=0
def tw9286450965524321954:=0
def tw1407896509461999923:=0
def tw10049363952462101924:=0
def tw2350124100240928579:=0
def tw4331693404835821214:=0
def tw16189480757884392773:=0
def tw16277796639741779724:=0
def tw16494315661175942644:=0
def tw2980463182929599429:=0
def tw4433327407782182308:=0
def tw7417297180312642611:=0
def tw9612257436028596138:=0
def tw17893742419662137814:=0
def tw8658810123213821364:=0
def tw13466408573063174433:=0
def tw15038774598046259777:=0
def tw9782986726982541792:=0
def tw418856434472943922:=0
def tw9503629201022705554:=0
def tw7775741768138254455:=0
def tw6622727349695140626:=0
def tw4252566587045826474:=0
def tw14763271567892258673:=0
def tw1310693020142916291:=0
def tw9604612200546864556:=0
def tw1679646898144456073:=0
def tw8845785707142800817:=0
def tw12947398792957472968:=0
def tw16927480022046886098:=0
def tw16614864940509382911:=0
def tw1588381203134754944:=0
def tw9032342516836105821:=0
def tw10804475279310267021:=0
def tw7478085858662472967:=0
def tw6328693101507317486:=0
def tw5176394341197427179:=0
def tw3823252474950630569:=0
def tw16210250822981153752:=0
def tw4514486412996955590:=0
def tw729835296820406964:=0
def tw16398497112267770601:=0
def tw14762720770003160174:=0
def tw9875606014686300077:=0
def tw14691937275259030052:=0
def tw17421709305866400328:=0
def tw7551023052798990545:=0
def tw10236766662112303919:=0
def tw6600055771184811908:=0
def tw6115139732569317031:=0
def tw14590094941370280504:=0
def tw2622957946917065213:=0
def tw7883740306855185680:=0
def tw17893496199611138042:=0
def tw13510667534785041493:=0
def tw4614866370478199297:=0
def tw7211373071573480258:=0
def tw12157046477215678908:=0
def tw1839391258131616091:=0
def tw16717371001858907754:=0
def tw12138260665836911726:=0
def tw7465542826183724560:=0
def tw7575896330952965760:=0
def tw17479952759917263716:=0
def tw9547133732740158572:=0
def tw18117916201353445624:=0
def tw17300813903871274508:=0
def tw17625396886988477516:=0
def tw1721558278341897580:=0
def tw3253795792337167479:=0
def tw1589037062463888499:=0
def tw16311813590603447729:=0
def tw7873141773268951581:=0
def tw14277436859827464279:=0
def tw1717825915780595248:=0
def tw15094462018835666210:=0
def tw2035941137366665888:=0
def tw3771665382404032064:=0
def tw15647540594889257046:=0
def tw13133920376056747242:=0
def tw10498415170908395507:=0
def tw14061190503127164184:=0
def tw581416246948776113:=0
def tw18007914315556859028:=0
def tw13319463383259533799:=0
def tw9150946356515236674:=0
def tw13841638284437689655:=0
def tw15486387097628875893:=0
def tw2879619131092622874:=0
def tw4496262977306585125:=0
def tw12161925105515240165:=0
def tw7542526155733387852:=0
def tw6232231994495284681:=0
def tw962968309670553850:=0
def tw7180000599617675196:=0
def tw6305539182355311529:=0
def tw235543812490042822:=0
def tw4087460327377476570:=0
def tw9220050425682294799:=0
def tw15461196632689210782:=0
def tw11761024038340291964:=0
def tw3256972624135862098:=0
def tw4724023406620291778:=0
def tw1125091611691325536:=0
def tw5049944187545339798:=0
def tw6430364764157267116:=0
def tw1803497777545192121:=0
def tw8787507502066656858:=0
def tw3442815414584382663:=0
def tw6572228076681872855:=0
def tw17405568916584395203:=0
def tw7009844574178253028:=0
def tw14996851497031013136:=0
def tw3271656956108537577:=0
def tw9128027605925426318:=0
def tw18134619605391481958:=0
def tw12451046262255949885:=0
def tw7599225990583455199:=0
def tw7675926881367679511:=0
def tw12095998844461478040:=0
def tw13436911428798882560:=0
def tw9515888241447622389:=0
def tw1799476323774834263:=0
def tw16761165235207543955:=0
def tw8225392443835859724:=0
def tw3130009232924501410:=0
def tw10093888760901751096:=0
def tw6989516341782179942:=0
def tw11401389538833215692:=0
def tw18353746768470406148:=0
def tw11518554347912449117:=0
def tw5366767420783934132:=0
def tw9480199088995413486:=0
def tw15592398666597071493:=0
def tw5174258181230223577:=0
def tw16529922441263862017:=0
def tw9595745932367314754:=0
def tw3574668052975490604:=0
def tw1705317710151549172:=0
def tw3816998596317017657:=0
def tw2074228694231656052:=0
def tw2133044331950869945:=0
def tw13041728032558037641:=0
def tw1057100068208554089:=0
def tw9939756526578135051:=0
def tw9836446350514633432:=0
def tw10059799706636994671:=0
def tw15329714532726754556:=0
def tw11524468535405095563:=0
def tw16408846300183249701:=0
def tw8327818983647245662:=0
def tw3208821357314697806:=0
def tw15446438341165401766:=0
def tw12365073383913964005:=0
def tw12297219067037004867:=0
def tw4569203558765863275:=0
def tw6543773020091407214:=0
def tw15121431158829805969:=0
def tw12288821851468913783:=0
def tw15003029495987297319:=0
def tw15943520868785714072:=0
def tw8422270656375310069:=0
def tw9351334906990546247:=0
def tw13040547930901705053:=0
def tw13201677533064955080:=0
def tw17116203116722654568:=0
def tw17396341091012394586:=0
def tw5814919591485521186:=0
def tw6208882557100409067:=0
def tw3288007440283258490:=0
def tw3294053829204219180:=0
def tw9854984246272433784:=0
def tw10796454135266538294:=0
def tw15302349848628055783:=0
def tw4006765019984591851:=0
def tw5246899385465998255:=0
def tw492655804639147067:=0
def tw6762479242349251698:=0
def tw4476974063149474961:=0
def tw12741700225224868344:=0
def tw9258223800436821661:=0
def tw11236616117762725535:=0
def tw6873053234628894132:=0
def tw5004012312598260808:=0
def tw4413460375412562130:=0
def tw6777813822193562563:=0
def tw1265407664509850893:=0
def tw5274276188599821574:=0
def tw10958954427903821407:=0
def tw6130300175405110016:=0
def tw16388186118217999848:=0
def tw11403684575180701484:=0
def tw12301973381012050425:=0
def tw9164849070856371049:=0
def tw14519456005629922791:=0
def tw8566499988539286003:=0
def tw13468155480580879670:=0
def tw12616733511415852077:=0
def tw15462279999332509721:=0
def tw518723558902579989:=0
def tw15362367645661535956:=0
def tw1064488619261771238:=0
def tw3906145088067621499:=0
def tw5405337910495803835:=0
def tw6007786211770142081:=0
def tw2760109419787754641:=0
def tw5198096040406393203:=0
def tw7662453485195450840:=0
def tw4704734294350331267:=0
def tw6498933400448033093:=0
def tw16317967087024860089:=0
def tw773424950184681802:=0
def tw8825957818375677446:=0
def tw12841022147550028669:=0
def tw637803030319765566:=0
def tw12678908550364261753:=0
def tw17655325038298013475:=0
def tw6140495214681771152:=0
def tw9241658322742988472:=0
def tw17362566765231118918:=0
def tw11444322650758404802:=0
def tw14910640850413187238:=0
def tw9742569738367467190:=0
def tw12345465561161559903:=0
def tw11937349477118827777:=0
def tw13760817384557076516:=0
def tw14750416923458934187:=0
def tw8436939606248637396:=0
def tw5900837037013627112:=0
def tw5935372280045234881:=0
def tw13102165094616003645:=0
def tw18406772649280515680:=0
def tw15979100172587457671:=0
def tw7249459830552837608:=0
def tw6100691095422425767:=0
def tw12998246482168586270:=0
def tw16009135445419643118:=0
def tw11412786305818711520:=0
def tw11964487140432978642:=0
def tw1272107298400039843:=0
def tw7803898806196376905:=0
def tw5984292651557827085:=0
def tw14781948639655360010:=0
def tw9409193656120620796:=0
def tw914401239530033835:=0
def tw18098561389056529702:=0
end PySem.Challenge.cw_fencemask_k97_whole_guests_from_any_bund_holds
open PySem PySem.W PyProof.Rows
set_option maxRecDepth 100000 in
set_option maxHeartbeats 0 in
theorem PySem.Challenge.cw_fencemask_k97_whole_guests_from_any_bund_holds : PySem.Challenge.rw_fencemask_k97_whole_guests_from_any_bund.Holds := by
 w_on;o_law;k_head;(case hw=>w_witness2)
 k_fill
 refine L2.Hl (l:=PySem.Challenge.rw_fencemask_k97_whole_guests_from_any_bund) (k:=14) (d:=_) (x:="_law_script") rfl rfl ⟨rfl,by decide,by decide⟩ (fun w h Y=>PySem.W.kIn_of Y) ?F
 case F=>
  intro w mg fa h KX G hmg;have B:L2.Bi mg:=by
   refine' L2.LM KX G ?z0 ?z1 ?z2 ?z3 ?z4 ?z5 ?z6 ?z7 ?z8 ?z9 ?z10 ?z11 ?z12 ?z13 ?z14 ?z15
   (case z0=>k_is)
   (case z1=>k_is)
   (case z2=>k_is)
   (case z3=>k_is)
   (case z4=>k_is)
   (case z5=>k_is)
   (case z6=>k_is)
   (case z7=>k_is)
   (case z8=>k_is)
   (case z9=>k_is)
   (case z10=>k_is)
   (case z11=>k_is)
   (case z12=>k_is)
   (case z13=>k_is)
   (case z14=>k_is)
   (case z15=>k_is)
  have T:My.Tb (L2.KOf KX) mg w.params:=by
   dsimp only[L2.KOf];refine' My.LH KX G ?s (L2.fh ?sl ?sz ?sv) ?a ?l (L2.fh ?l0 ?z0 ?v0) (L2.fh ?l1 ?z1 ?v1) (L2.fh ?l2 ?z2 ?v2) (L2.fh ?l3 ?z3 ?v3) (L2.fh ?l4 ?z4 ?v4) (L2.fh ?l5 ?z5 ?v5) (L2.fh ?l6 ?z6 ?v6) (L2.fh ?l7 ?z7 ?v7) (L2.fh ?l8 ?z8 ?v8) (L2.fh ?l9 ?z9 ?v9) (L2.fh ?l10 ?z10 ?v10) (L2.fh ?l11 ?z11 ?v11) (L2.fh ?l12 ?z12 ?v12) (L2.fh ?l13 ?z13 ?v13) (L2.fh ?l14 ?z14 ?v14) (L2.fh ?l15 ?z15 ?v15) (L2.fh ?l16 ?z16 ?v16) (L2.fh ?l17 ?z17 ?v17) (L2.fh ?l18 ?z18 ?v18)
   case s | sl | a | l | l0 | l1 | l2 | l3 | l4 | l5 | l6 | l7 | l8 | l9 | l10 | l11 | l12 | l13 | l14 | l15 | l16 | l17 | l18=>k_is
   case sz | z0 | z1 | z2 | z3 | z4 | z5 | z6 | z7 | z8 | z9 | z10 | z11 | z12 | z13 | z14 | z15 | z16 | z17 | z18=>exact Nat.le_of_ble_eq_true rfl
   case sv | v0 | v1 | v2 | v3 | v4 | v5 | v6 | v7 | v8 | v9 | v10 | v11 | v12 | v13 | v14 | v15 | v16 | v17 | v18=>repeat' (first | exact PySem.Paired.nil | refine PySem.Paired.cons ⟨_,rfl⟩ ?_)
  have T2:My.Tb2 (L2.KOf KX) mg:=by
   dsimp only[L2.KOf];refine' ⟨⟨_,PySem.W.mg_of KX G ?a1,L2.fh ?l1 ?z1 ?v1⟩,⟨_,PySem.W.mg_of KX G ?a2,L2.fh ?l2 ?z2 ?v2⟩⟩
   case a1 | a2 | l1 | l2=>k_is
   case z1 | z2=>exact Nat.le_of_ble_eq_true rfl
   case v1 | v2=>repeat' (first | exact PySem.Paired.nil | refine PySem.Paired.cons ⟨_,rfl⟩ ?_)
  have Tx:∃aF aL,My.HN (L2.KOf KX) mg aF aL:=by
   dsimp only[L2.KOf];refine' My.Iu KX G ?mL ?xL (L2.K3 ?ul1 ?uo1 ?ul2 ?uo2 ?ui1 ?ui2 ?ua0 ?ua1 ?ua2 ?ua3 ?ua4 ?ua5 ?ua6 ?ua7 ?ub0 ?ub1 ?ub2 ?ub3 ?ub4 ?ub5 ?ub6 ?ub7)
   case mL | ul1 | ul2 | ui1 | ui2 | ua0 | ua1 | ua2 | ua3 | ua4 | ua5 | ua6 | ua7 | ub0 | ub1 | ub2 | ub3 | ub4 | ub5 | ub6 | ub7=>k_is
   case xL=>k_exc
   case uo1 | uo2=>kernel_rfl
  have⟨cY,aZ,bS,eE,dj,d3,gK,dL,dC⟩:∃C:Addr,L2.dE (L2.KOf KX) mg "LaidBlock" C/\My.bV (L2.KOf KX) C/\My.eJ (L2.KOf KX) C/\My.di (L2.KOf KX) C/\My.d9 (L2.KOf KX) C/\My.gX (L2.KOf KX) C/\My.dP (L2.KOf KX) C/\My.dA (L2.KOf KX) C:=by
   dsimp only[L2.KOf];refine' ⟨_,L2.u8 KX G ?a ?pg ?hd ?po ?sa ?mk ?kp,⟨?n0,?n1,?n2⟩,L2.cv My.mO ?a0 ?l0 ?c0 ?f0 ?k0,L2.cv My.ju ?a1 ?l1 ?c1 ?f1 ?k1,L2.cv My.kU ?a2 ?l2 ?c2 ?f2 ?k2,L2.cv My.sf ?a3 ?l3 ?c3 ?f3 ?k3,L2.cv My.kL ?a4 ?l4 ?c4 ?f4 ?k4,L2.cv My.kr ?a5 ?l5 ?c5 ?f5 ?k5⟩
   (case a=>k_is);(case pg=>k_is);(case hd=>k_is);(case po=>k_is);(case sa=>k_is);(case mk=>k_is);(case kp=>k_is)
   (case n0=>k_is);(case n1=>k_is);(case n2=>k_is)
   (case a0=>k_is);(case l0=>k_is);(case c0=>k_is);(case f0=>k_is);(case k0=>k_is)
   (case a1=>k_is);(case l1=>k_is);(case c1=>k_is);(case f1=>k_is);(case k1=>k_is)
   (case a2=>k_is);(case l2=>k_is);(case c2=>k_is);(case f2=>k_is);(case k2=>k_is)
   (case a3=>k_is);(case l3=>k_is);(case c3=>k_is);(case f3=>k_is);(case k3=>k_is)
   (case a4=>k_is);(case l4=>k_is);(case c4=>k_is);(case f4=>k_is);(case k4=>k_is)
   (case a5=>k_is);(case l5=>k_is);(case c5=>k_is);(case f5=>k_is);(case k5=>k_is)
  have⟨jJ,gZ,l_,gR,jg,fX,fw,fU⟩:∃C:Addr,L2.dE (L2.KOf KX) mg "Known" C/\My.lW (L2.KOf KX) C/\My.gD (L2.KOf KX) C/\My.jd (L2.KOf KX) C/\My.fO (L2.KOf KX) C/\My.fu (L2.KOf KX) C/\My.fN (L2.KOf KX) C:=by
   dsimp only[L2.KOf];refine' ⟨_,L2.u8 KX G ?a ?pg ?hd ?po ?sa ?mk ?kp,⟨?n0,?n1,?n2⟩,L2.cv My.rO ?a0 ?l0 ?c0 ?f0 ?k0,L2.cv My.uv ?a1 ?l1 ?c1 ?f1 ?k1,L2.cv My.pj ?a2 ?l2 ?c2 ?f2 ?k2,L2.cv My.oh ?a3 ?l3 ?c3 ?f3 ?k3,L2.cv My.o9 ?a4 ?l4 ?c4 ?f4 ?k4⟩
   (case a=>k_is);(case pg=>k_is);(case hd=>k_is);(case po=>k_is);(case sa=>k_is);(case mk=>k_is);(case kp=>k_is)
   (case n0=>k_is);(case n1=>k_is);(case n2=>k_is)
   (case a0=>k_is);(case l0=>k_is);(case c0=>k_is);(case f0=>k_is);(case k0=>k_is)
   (case a1=>k_is);(case l1=>k_is);(case c1=>k_is);(case f1=>k_is);(case k1=>k_is)
   (case a2=>k_is);(case l2=>k_is);(case c2=>k_is);(case f2=>k_is);(case k2=>k_is)
   (case a3=>k_is);(case l3=>k_is);(case c3=>k_is);(case f3=>k_is);(case k3=>k_is)
   (case a4=>k_is);(case l4=>k_is);(case c4=>k_is);(case f4=>k_is);(case k4=>k_is)
  have⟨gc,cW,e9,fR,fA,iE,kq⟩:∃C:Addr,L2.dE (L2.KOf KX) mg "Holding" C/\My.eR (L2.KOf KX) C/\My.fQ (L2.KOf KX) C/\My.fr (L2.KOf KX) C/\My.ix (L2.KOf KX) C/\My.kB (L2.KOf KX) C:=by
   dsimp only[L2.KOf];refine' ⟨_,L2.u8 KX G ?a ?pg ?hd ?po ?sa ?mk ?kp,⟨?n0,?n1,?n2,?n3,?n4,?n5⟩,L2.cv My.pf ?a0 ?l0 ?c0 ?f0 ?k0,L2.cv My.mU ?a1 ?l1 ?c1 ?f1 ?k1,L2.cv My.sP ?a2 ?l2 ?c2 ?f2 ?k2,L2.cv My.wv ?a3 ?l3 ?c3 ?f3 ?k3⟩
   (case a=>k_is);(case pg=>k_is);(case hd=>k_is);(case po=>k_is);(case sa=>k_is);(case mk=>k_is);(case kp=>k_is)
   (case n0=>k_is);(case n1=>k_is);(case n2=>k_is);(case n3=>k_is);(case n4=>k_is);(case n5=>k_is)
   (case a0=>k_is);(case l0=>k_is);(case c0=>k_is);(case f0=>k_is);(case k0=>k_is)
   (case a1=>k_is);(case l1=>k_is);(case c1=>k_is);(case f1=>k_is);(case k1=>k_is)
   (case a2=>k_is);(case l2=>k_is);(case c2=>k_is);(case f2=>k_is);(case k2=>k_is)
   (case a3=>k_is);(case l3=>k_is);(case c3=>k_is);(case f3=>k_is);(case k3=>k_is)
  have⟨gI,dX,gC,f8,gQ,lX,eo⟩:∃C:Addr,L2.dE (L2.KOf KX) mg "Machine" C/\My.gB (L2.KOf KX) C/\My.fS (L2.KOf KX) C/\My.gA (L2.KOf KX) C/\My.lM (L2.KOf KX) C/\My.d_ (L2.KOf KX) C:=by
   dsimp only[L2.KOf];refine' ⟨_,L2.u8 KX G ?a ?pg ?hd ?po ?sa ?mk ?kp,⟨?n0,?n1,?n2,?n3⟩,L2.cv My.pw ?a0 ?l0 ?c0 ?f0 ?k0,L2.cv My.qM ?a1 ?l1 ?c1 ?f1 ?k1,L2.cv My.wY ?a2 ?l2 ?c2 ?f2 ?k2,L2.cv My.lz ?a3 ?l3 ?c3 ?f3 ?k3⟩
   (case a=>k_is);(case pg=>k_is);(case hd=>k_is);(case po=>k_is);(case sa=>k_is);(case mk=>k_is);(case kp=>k_is)
   (case n0=>k_is);(case n1=>k_is);(case n2=>k_is);(case n3=>k_is)
   (case a0=>k_is);(case l0=>k_is);(case c0=>k_is);(case f0=>k_is);(case k0=>k_is)
   (case a1=>k_is);(case l1=>k_is);(case c1=>k_is);(case f1=>k_is);(case k1=>k_is)
   (case a2=>k_is);(case l2=>k_is);(case c2=>k_is);(case f2=>k_is);(case k2=>k_is)
   (case a3=>k_is);(case l3=>k_is);(case c3=>k_is);(case f3=>k_is);(case k3=>k_is)
  have iY:=L2.aB My.uM KX G (by k_is) (by k_is) (by k_is) (by k_is)
  have CP:=L2.aB My.ID KX G (by k_is) (by k_is) (by k_is) (by k_is)
  have zx:=L2.aB My.Ha KX G (by k_is) (by k_is) (by k_is) (by k_is)
  have wD:=L2.aB My.Fv KX G (by k_is) (by k_is) (by k_is) (by k_is)
  have lv:=L2.aB My.xg KX G (by k_is) (by k_is) (by k_is) (by k_is)
  have jq:=L2.aB My.uu KX G (by k_is) (by k_is) (by k_is) (by k_is)
  have lD:=L2.aB My.xE KX G (by k_is) (by k_is) (by k_is) (by k_is)
  have qI:=L2.aB My.At KX G (by k_is) (by k_is) (by k_is) (by k_is)
  have mZ:=L2.aB My.Ah KX G (by k_is) (by k_is) (by k_is) (by k_is)
  have dI:=L2.aB My.kC KX G (by k_is) (by k_is) (by k_is) (by k_is)
  have gF:=L2.aB My.qW KX G (by k_is) (by k_is) (by k_is) (by k_is)
  have qo:=L2.aB My.BV KX G (by k_is) (by k_is) (by k_is) (by k_is)
  have jk:=L2.aB My.uE KX G (by k_is) (by k_is) (by k_is) (by k_is)
  have oj:=L2.aB My.Ac KX G (by k_is) (by k_is) (by k_is) (by k_is)
  have oF:=L2.aB My.yK KX G (by k_is) (by k_is) (by k_is) (by k_is)
  have lu:=L2.aB My.wV KX G (by k_is) (by k_is) (by k_is) (by k_is)
  have mw:=L2.aB My.xh KX G (by k_is) (by k_is) (by k_is) (by k_is)
  have gW:=L2.aB My.rM KX G (by k_is) (by k_is) (by k_is) (by k_is)
  have wI:=L2.aB My.E1 KX G (by k_is) (by k_is) (by k_is) (by k_is)
  have nL:=L2.aB My.zj KX G (by k_is) (by k_is) (by k_is) (by k_is)
  have jo:=L2.aB My.uC KX G (by k_is) (by k_is) (by k_is) (by k_is)
  have oi:=L2.aB My.yU KX G (by k_is) (by k_is) (by k_is) (by k_is)
  have qC:=L2.aB My.AV KX G (by k_is) (by k_is) (by k_is) (by k_is)
  have qG:=L2.aB My.BE KX G (by k_is) (by k_is) (by k_is) (by k_is)
  have qw:=L2.aB My.AX KX G (by k_is) (by k_is) (by k_is) (by k_is)
  have sU:=L2.aB My.CB KX G (by k_is) (by k_is) (by k_is) (by k_is)
  have nz:=L2.aB My.yF KX G (by k_is) (by k_is) (by k_is) (by k_is)
  have nk:=L2.aB My.zm KX G (by k_is) (by k_is) (by k_is) (by k_is)
  have lj:=L2.aB My.xu KX G (by k_is) (by k_is) (by k_is) (by k_is)
  have jV:=L2.aB My.vw KX G (by k_is) (by k_is) (by k_is) (by k_is)
  have oz:=L2.aB My.yX KX G (by k_is) (by k_is) (by k_is) (by k_is)
  have qe:=L2.aB My.BS KX G (by k_is) (by k_is) (by k_is) (by k_is)
  have qh:=L2.aB My.BK KX G (by k_is) (by k_is) (by k_is) (by k_is)
  have jY:=L2.aB My.vF KX G (by k_is) (by k_is) (by k_is) (by k_is)
  have ou:=L2.aB My.yR KX G (by k_is) (by k_is) (by k_is) (by k_is)
  have iU:=L2.aB My.uD KX G (by k_is) (by k_is) (by k_is) (by k_is)
  have iB:=L2.aB My.tj KX G (by k_is) (by k_is) (by k_is) (by k_is)
  have jl:=L2.aB My.uI KX G (by k_is) (by k_is) (by k_is) (by k_is)
  have nK:=L2.aB My.Ad KX G (by k_is) (by k_is) (by k_is) (by k_is)
  have lH:=L2.aB My.xt KX G (by k_is) (by k_is) (by k_is) (by k_is)
  have qd:=L2.aB My.AY KX G (by k_is) (by k_is) (by k_is) (by k_is)
  have eP:=L2.aB My.mK KX G (by k_is) (by k_is) (by k_is) (by k_is)
  have jR:=L2.aB My.wc KX G (by k_is) (by k_is) (by k_is) (by k_is)
  have zM:=L2.aB My.Gw KX G (by k_is) (by k_is) (by k_is) (by k_is)
  have kW:=L2.aB My.wP KX G (by k_is) (by k_is) (by k_is) (by k_is)
  have lw:=L2.aB My.wO KX G (by k_is) (by k_is) (by k_is) (by k_is)
  have wF:=L2.aB My.EE KX G (by k_is) (by k_is) (by k_is) (by k_is)
  have zZ:=L2.aB My.G5 KX G (by k_is) (by k_is) (by k_is) (by k_is)
  have jP:=L2.aB My.vm KX G (by k_is) (by k_is) (by k_is) (by k_is)
  have nB:=L2.aB My.zg KX G (by k_is) (by k_is) (by k_is) (by k_is)
  have gN:=L2.aB My.rg KX G (by k_is) (by k_is) (by k_is) (by k_is)
  have nI:=L2.aB My.zq KX G (by k_is) (by k_is) (by k_is) (by k_is)
  have gy:=L2.aB My.rF KX G (by k_is) (by k_is) (by k_is) (by k_is)
  have iV:=L2.aB My.uO KX G (by k_is) (by k_is) (by k_is) (by k_is)
  have jc:=L2.aB My.uN KX G (by k_is) (by k_is) (by k_is) (by k_is)
  have Dg:=L2.aB My.IN KX G (by k_is) (by k_is) (by k_is) (by k_is)
  have iz:=L2.aB My.sJ KX G (by k_is) (by k_is) (by k_is) (by k_is)
  have Dn:=L2.aB My.Ig KX G (by k_is) (by k_is) (by k_is) (by k_is)
  have sK:=L2.aB My.Dz KX G (by k_is) (by k_is) (by k_is) (by k_is)
  have d_run:=L2.aB My.Kj KX G (by k_is) (by k_is) (by k_is) (by k_is)
  have mY:=L2.aB My.Aj KX G (by k_is) (by k_is) (by k_is) (by k_is)
  have lT:=L2.aB My.wT KX G (by k_is) (by k_is) (by k_is) (by k_is)
  have ol:=L2.aB My.yC KX G (by k_is) (by k_is) (by k_is) (by k_is)
  have lL:=L2.aB My.xC KX G (by k_is) (by k_is) (by k_is) (by k_is)
  have k_:=L2.aB My.wU KX G (by k_is) (by k_is) (by k_is) (by k_is)
  have jZ:=L2.aB My.vX KX G (by k_is) (by k_is) (by k_is) (by k_is)
  have j8:=L2.aB My.wm KX G (by k_is) (by k_is) (by k_is) (by k_is)
  have lR:=L2.aB My.xk KX G (by k_is) (by k_is) (by k_is) (by k_is)
  have mV:=L2.aB My.zv KX G (by k_is) (by k_is) (by k_is) (by k_is)
  have oI:=L2.aB My.zT KX G (by k_is) (by k_is) (by k_is) (by k_is)
  have lO:=L2.aB My.xI KX G (by k_is) (by k_is) (by k_is) (by k_is)
  have oM:=L2.aB My.zR KX G (by k_is) (by k_is) (by k_is) (by k_is)
  have kx:=L2.aB My.wL KX G (by k_is) (by k_is) (by k_is) (by k_is)
  have nQ:=L2.aB My.yH KX G (by k_is) (by k_is) (by k_is) (by k_is)
  have j6:=L2.aB My.vR KX G (by k_is) (by k_is) (by k_is) (by k_is)
  refine' L2.Ka My.Kl KX G hmg ?a ?l ?c ?k (fun f fd D base=>My.KB B T T2 Tx aZ bS gZ l_ cW e9 dX gC iY CP zx wD lv jq lD qI mZ dI gF qo jk oj oF lu mw gW wI nL jo oi qC qG qw sU nz nk lj jV oz qe qh jY ou iU iB jl nK lH qd eP jR zM eE dj d3 gK dL dC kW lw wF zZ jP nB gN nI gy iV jc Dg gR jg fX fw fU iz Dn sK fR fA iE kq f8 gQ lX eo d_run mY lT ol lL k_ jZ j8 lR mV oI lO oM kx nQ j6 D)
  case a | l | c | k=>k_is
