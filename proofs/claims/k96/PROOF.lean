import PyProof.Rows.All
import Wide.All
import OpenK.AllK
import Wide.FinOn
import Lean
import PyProof.EqAt
import PyProof.EqKinds
import PyProof.TupleCall
import PySem.Challenge.RW_fencemask_k96_whole_bundles_put_together
open PySem.W (Frag)
set_option Elab.async false
set_option linter.all false
set_option maxRecDepth 100000
def be:=@List.length_map
def fI:=@if_neg
def gV:=@PySem.wpAny_bind
def mC:=@List.getElem?_eq_getElem
def mF:=@List.getElem?_eq_some_iff
def NT:=@List.length_append
def NU:=@PySem.Heap.get?_push_of_some
def NV:=@if_pos
def NW:=@Nat.le_refl
def NX:=@decide_eq_false
def NY:=@decide_eq_true
def NZ:=@List.map_append
def N1:=@List.size_toArray
def N2:=@List.mem_cons_of_mem
def N3:=@List.mem_cons_self
def N4:=@List.mem_of_getElem?
def N5:=@PySem.Heap.lt_size
def N6:=@List.length_cons
def N7:=@Nat.le_of_ble_eq_true
def N8:=@Nat.lt_of_lt_of_le
def N9:=@List.getD_eq_getElem?_getD
def N_:=@Option.some.inj
def Oa:=@Bool.false_ne_true
def Ob:=@PySem.wpAny_pure
def Oc:=@Nat.le_trans
def Od:=@List.mem_cons
def Oe:=@List.getElem?_append_right
def Of:=@Nat.lt_of_le_of_lt
def Og:=@List.mem_singleton
def Oh:=@List.length_take
def Oi:=@List.take_length
def Oj:=@PySem.PassesOwn.never
def Ol:=@PySem.Heap.get?_push_size
def Om:=@Nat.ne_of_lt
def On:=@List.append_assoc
def Oo:=@List.getElem?_append_left
def Oq:=@PySem.F.plainAttrs_list
def Os:=@Int.toNat_natCast
def Ot:=@List.mem_append
def Ou:=@Nat.zero_le
def Ov:=@PySem.F.slot_list_append
def Ow:=@PySem.F.type_list_append
def Ox:=@Ne.symm
def Oy:=@List.not_mem_nil
def Oz:=@List.append_nil
def OA:=@List.length_replicate
def OB:=@List.getElem?_map
def OC:=@List.mem_append_right
def OD:=@List.map_cons
def OE:=@Int.eq_ofNat_of_zero_le
def OF:=@PyProof.Rows.slot_tuple_getitem
def OG:=@List.replicate_succ
def OH:=@Int.mul_le_mul_of_nonneg_right
def OI:=@Nat.pow_le_pow_right
def OJ:=@List.mem_map
def OK:=@PySem.W.mg_none_of
def OL:=@beq_eq_false_iff_ne
def OM:=@List.length_nil
def ON:=@Bool.and_eq_true
def OO:=@beq_self_eq_true
def OP:=@PySem.wpAny_field
def OQ:=@PySem.wpAny_callSpecial?_slot
def OR:=@List.getElem?_cons_succ
def OS:=@PySem.wpAny_mono
def OT:=@PySem.wpAny_truthy_bool
def OU:=@Nat.zero_add
def OV:=@PySem.mem_of_lookup
def OW:=@List.flatMap_append
def OX:=@Int.le_refl
def OY:=@PySem.wpAny_Call_Name_kw
def OZ:=@List.length_drop
def O0:=@List.getElem_mem
def O1:=@decide_eq_decide
def O2:=@Nat.add_assoc
def O3:=@PySem.wpAny_newObj_type
def O4:=@List.foldl_append
def O5:=@List.nodup_cons
def O6:=@Int.emod_nonneg
def O7:=@or_false
def O8:=@PyProof.Rows.callWith_type1
def O9:=@Nat.lt_irrefl
def O_:=@PySem.F.slot_tuple_iterator_next
def Pa:=@PySem.wpAny_seqItems
def Pb:=@PySem.wpAny_setField_rec
def Pc:=@List.length_singleton
def Pd:=@List.drop_eq_getElem_cons
def Pe:=@PySem.wpAny_passesOwn
def Pf:=@List.find?_cons
def Pg:=@Int.dvd_sub
def Ph:=@Int.le_of_lt
def Pj:=@Int.dvd_add
def Pk:=@of_decide_eq_true
def Pm:=@Nat.sub_self
def Po:=@Int.dvd_trans
def Pp:=@List.map_eq_nil_iff
def Pq:=@List.getElem?_replicate
def Pr:=@PySem.wpAny_call_entry
def Pu:=@List.lookup_cons
def Pw:=@Nat.ne_of_gt
def Px:=@List.mem_filterMap
def Py:=@Int.emod_lt_of_pos
def Pz:=@List.drop_eq_nil_of_le
def PB:=@List.mem_filter
def PD:=@List.getElem?_eq_none
def PF:=@List.flatten_cons
def PH:=@Int.emod_eq_of_lt
def PJ:=@PySem.Heap.size_push
def PK:=@Int.pow_add
def PL:=@Nat.mul_le_mul_right
def PM:=@Int.one_mul
def PN:=@List.take_succ
def PP:=@List.replicate_succ'
def PQ:=@Nat.lt_or_ge
def PR:=@List.filter_cons
def PU:=@PySem.F.args_tuple_add_2
def PV:=@Int.mul_assoc
def PX:=@Bool.true_and
def PY:=@PySem.F.slot_list_extend
def PZ:=@PySem.F.type_list_extend
def P0:=@List.length_set
def P3:=@Nat.min_eq_left
def P4:=@beq_iff_eq
def P5:=@PySem.F.entry_tuple_add
def P6:=@Nat.exists_eq_add_of_le
def P7:=@List.getElem?_set_self
def P8:=@PySem.codeAny_mono
def P9:=@PySem.F.slot_tuple_add
def P_:=@PyProof.Rows.subscriptTail_builtinR
def Qa:=@Int.dvd_mul_right
def Qb:=@List.flatMap_cons
def Qc:=@PySem.F.slot_dict_get
def Qd:=@List.getElem?_toArray
def Qe:=@Nat.lt_succ_self
def Qf:=@List.any_eq_true
def Qg:=@Int.ediv_le_ediv
def Qh:=@PySem.wpAny_holding
def Qi:=@List.any_cons
def Qj:=@not_not_intro
def Qk:=@PySem.wpAny_updateSeq_pair
def Ql:=@List.mem_of_mem_take
def Qm:=@PySem.wpAny_execs_nil
def Qn:=@Bool.eq_iff_iff
def Qo:=@PySem.F.args_tuple_iterator_next_1
def Qp:=@PySem.F.slot_zip_next
def Qq:=@Nat.min_le_left
def Qr:=@List.filterMap_cons
def Qs:=@Array.length_toList
def Qt:=@Nat.le_of_lt
def Qu:=@if_true
def Qv:=@PySem.F.entry_tuple_iterator_next
def Qw:=@Int.mul_comm
def Qx:=@PySem.SeqAt.EqAt.of_refs
def Qy:=@PySem.SeqAt.EqAt.same
def Qz:=@PySem.Calls.Name_function_global
def QA:=@PySem.Calls.spliced_cons
def QB:=@PySem.tupleKind_room_in1
def QC:=@List.nodup_nil
def QD:=@Bool.false_eq_true
def QE:=@List.mem_replicate
def QF:=@List.filter_append
def QG:=@Nat.one_le_two_pow
def QH:=@List.mem_or_eq_of_mem_set
def QI:=@Exists.elim
def QJ:=@List.getElem?_set
def QK:=@PySem.Paired.length
def QL:=@PySem.W.hideAll_get
def QM:=@PySem.wpAny_comprehension_free
def QN:=@PySem.wpAny_onRaise
def QO:=@Int.mul_ediv_cancel_left
def QP:=@PySem.F.slot_dict_update
def QQ:=@List.eq_of_mem_replicate
def QR:=@List.map_take
def QS:=@List.map_drop
def QT:=@PySem.noFill_tuple_add
def QU:=@Nat.min_le_right
def QV:=@if_false
def QW:=@PySem.F.args_dict_get_3
def QX:=@PySem.F.plainAttrs_dict
def QY:=@PySem.W.callWith_K
def QZ:=@PySem.Heap.get?_update_other
def Q0:=@PySem.Calls.callWith_builtin
def Q1:=@PySem.call_meets
def Q2:=@PySem.F.entry_dict_get
def Q3:=@Nat.sub_zero
def Q4:=@Int.pow_succ
def Q5:=@Int.pow_zero
def Q6:=@List.take_of_length_le
def Q7:=@List.of_mem_zip
def Q8:=@List.nil_append
def Q9:=@List.forIn_cons
def Q_:=@Option.map_some
def Ra:=@PySem.wpAny_isTrue_Compare1
def Rb:=@PySem.Heap.get?_update_self
def Rc:=@Int.mul_ediv_add_emod
def Re:=@List.length_filter_le
def Rh:=@Bool.false_and
def Rn:=@Nat.pow_add
def Ro:=@Int.mul_nonneg
def Rq:=@List.drop_zero
def Rr:=@List.take_left
def Rx:=@PyProof.Rows.Constant_none
def Ry:=@PySem.wpAny_standAt
def Rz:=@PySem.W.plainGet_of
def RA:=@PySem.W.callWith_K0
def RB:=@PySem.seq_tuple_add
def RC:=@Bool.false_or
def RD:=@PySem.W.mg_of
def RL:=@PySem.wpAny_rule
def RQ:=@PySem.W.of_hideAll
def RV:=@PySem.concat_meets
def RX:=@PySem.wpAny_typeOf
def RY:=@List.map_nil
def RZ:=@PySem.seqIndex_neg
def R3:=@PySem.call_meetsIn
def R6:=@Int.dvd_refl
def R7:=@Nat.le_total
def R_:=@List.map_map
def Sb:=@List.map_set
def SJ:=@PySem.W.mg_of
namespace L2
open PySem PySem.Spec PyProof.Rows
abbrev Key:=Sum Int Str
noncomputable def kE:Key->Value->Bool
 | .inl k,v=>Value.isInt k v
 | .inr x,v=>Value.isStrOf x v
noncomputable def Nj(w:World):Key->Int
 | .inl k=>hashInt k
 | .inr x=>hashStr w x
theorem bZ:∀{k:Key}{v:Value},kE k v=true->(∃i t,k=Sum.inl i/\v=Value.int i t)\/(∃x t,k=Sum.inr x/\v=Value.str x t)
 | .inl i,v,h=>by
  obtain⟨t,e⟩:=Value.isInt_shape (k:=i) (v:=v) h;exact .inl ⟨i,t,rfl,e⟩
 | .inr x,v,h=>by
  obtain⟨t,e⟩:=Value.isStrOf_shape (x:=x) (v:=v) h;exact .inr ⟨x,t,rfl,e⟩
theorem GP(i:Int)(t:Tok):kE (.inl i) (.int i t)=true:=by simp [kE,Value.isInt]
theorem zJ(x:Str)(t:Tok):kE (.inr x) (.str x t)=true:=by simp [kE,Value.isStrOf]
theorem LO(a b:Int):decide ((Sum.inl a:Key)=Sum.inl b)=(a==b):=by
 by_cases e:a=b
 .subst e;simp
 .have h:¬(Sum.inl a:Key)=Sum.inl b:=fun q=>e (Sum.inl.inj q)
  rw[NX h];exact(OL.mpr e).symm
theorem Ls(a b:Str):decide ((Sum.inr a:Key)=Sum.inr b)=decide (a=b):=by
 by_cases e:a=b
 .subst e;simp
 .have h:¬(Sum.inr a:Key)=Sum.inr b:=fun q=>e (Sum.inr.inj q)
  rw[NX h,NX e]
theorem LD(a:Int)(b:Str):decide ((Sum.inl a:Key)=Sum.inr b)=false:=NX (fun q=>nomatch q)
theorem L3(a:Str)(b:Int):decide ((Sum.inr a:Key)=Sum.inl b)=false:=NX (fun q=>nomatch q)
noncomputable def bK(prog:Program)(w:World):PySem.KeyKind prog w Key where
 is:=kE
 hash:=Nj w
 inj:=fun v a b J C=>by
  rcases bZ J with⟨i,t,rfl,rfl⟩|⟨x,t,rfl,rfl⟩
  .rcases bZ C with⟨j,u,rfl,e⟩|⟨y,u,rfl,e⟩
   .injection e with e1 _;rw[e1]
   .exact nomatch e
  .rcases bZ C with⟨j,u,rfl,e⟩|⟨y,u,rfl,e⟩
   .exact nomatch e
   .injection e with e1 _;rw[e1]
 byValue:=fun k v h=>by
  rcases bZ h with⟨i,t,rfl,rfl⟩|⟨x,t,rfl,rfl⟩ <;> rfl
 pyHash:=fun o h=>by
  rcases bZ o with⟨i,t,rfl,rfl⟩|⟨x,t,rfl,rfl⟩
  .exact wpAny_pyHash_int h
  .exact wpAny_pyHash_str h
 eqBool:=fun I o h=>by
  rcases bZ I with⟨i,t,rfl,rfl⟩|⟨x,t,rfl,rfl⟩
  .rcases bZ o with⟨j,u,rfl,rfl⟩|⟨y,u,rfl,rfl⟩
   .rw[LO] at h;exact wpAny_eqBool_int h
   .rw[LD] at h;exact SeqAt.EqAt.int_str i t y u _ _ _ _ h
  .rcases bZ o with⟨j,u,rfl,rfl⟩|⟨y,u,rfl,rfl⟩
   .rw[L3] at h;exact SeqAt.EqAt.str_int x t j u _ _ _ _ h
   .rw[Ls] at h;exact wpAny_eqBool_str h
 «strs»:=fun k x t v h=>by
  rcases bZ h with⟨i,u,rfl,e⟩|⟨y,u,rfl,e⟩
  .exact nomatch e
  .injection e with e1 _
   subst e1
   cases v <;> rfl
theorem CB(prog:Program)(w:World)(i:Int)(t:Tok):(bK prog w).is (.inl i) (.int i t)=true:=GP i t
theorem vh(prog:Program)(w:World)(x:Str)(t:Tok):(bK prog w).is (.inr x) (.str x t)=true:=zJ x t
inductive V where
 | non | bl (b:Bool) | int (i:Int) | str (x:Str) | byt (b:Array UInt8) | flt (b:UInt64) | ref (a:Addr) | ty (n:String)
 deriving DecidableEq
def bz:V->Value->Prop
 | .non,u=>u=Value.none
 | .bl b,u=>u=Value.bool b
 | .int i,u=>∃t,u=Value.int i t
 | .str x,u=>∃t,u=Value.str x t
 | .byt b,u=>∃t,u=Value.bytes b t
 | .flt b,u=>∃t,u=Value.float b t
 | .ref a,u=>u=Value.ref a
 | .ty n,u=>u=Value.type n
abbrev bj:List V->List Value->Prop:=Paired bz
theorem bj.length{xs:List V}{us:List Value}(r:bj xs us):xs.length=us.length:=QK r
theorem bj.get:∀{xs:List V}{us:List Value}{i:Nat}{x:V},bj xs us->xs[i]? =some x->∃u,us[i]? =some u/\bz x u
 | _,_,_,_,.nil,e=>by simp at e
 | _,_,0,_,.cons r _,e=>by simp at e;subst e;exact⟨_,rfl,r⟩
 | _,_,i+1,x,.cons _ t,e=>by
  obtain⟨u,o,C⟩:=bj.get (i:=i) (x:=x) t (by simpa using e)
  exact⟨u,by simpa using o,C⟩
theorem bj.set{x:V}{u:Value}(r:bz x u):∀{xs:List V}{us:List Value}(i:Nat),bj xs us->bj (xs.set i x) (us.set i u)
 | _,_,_,.nil=> .nil
 | _,_,0,.cons _ t=> .cons r t
 | _,_,i+1,.cons q t=> .cons q (bj.set r i t)
theorem bj.append:∀{xs ys:List V}{us ws:List Value},bj xs us->bj ys ws->bj (xs++ys) (us++ws)
 | _,_,_,_,.nil,s=>s
 | _,_,_,_,.cons r t,s=> .cons r (bj.append t s)
theorem bj.take:∀{xs:List V}{us:List Value}(n:Nat),bj xs us->bj (xs.take n) (us.take n)
 | _,_,0,_=> .nil
 | _,_,_+1,.nil=> .nil
 | _,_,n+1,.cons r t=> .cons r (bj.take n t)
theorem bj.drop:∀{xs:List V}{us:List Value}(n:Nat),bj xs us->bj (xs.drop n) (us.drop n)
 | _,_,0,r=>r
 | _,_,_+1,.nil=> .nil
 | _,_,n+1,.cons _ t=>bj.drop n t
def oa:Option V->Option Value->Prop
 | some v,some u=>bz v u
 | none,none=>True
 | _,_=>False
def KV{o:Type}:List (o × V)->List (o × Value)->Prop:=Paired fun(p:o × V) (q:o × Value)=>p.1=q.1/\bz p.2 q.2
noncomputable def kV:Key->V
 | .inl i=> .int i
 | .inr x=> .str x
inductive HO where
 | lst (xs:List V)
 | tup (xs:List V)
 | dK (kvs:List (Key × V)) | dT (kvs:List (List Key × V))
 | set (S:Int->Bool) (n:Nat)
 | ins (C dx:Addr) (fs:List (Str × V))
 | own (x:Addr)
 | xd (fs:List (Str × V))
 | met (f x:Addr)
 | rng (lo hi:Int)
 | frz (o:Obj) (u:HO)
 | tbl (ps:Array Value)
 | ext (φ:Heap->Prop)
abbrev Hp:=Addr->Option HO
noncomputable def upd(H:Hp)(a:Addr)(o:HO):Hp:=fun b=>if b=a then some o else H b
theorem ae{H:Hp}{a:Addr}{o:HO}:upd H a o a=some o:=by unfold upd;rw[NV rfl]
theorem aq{H:Hp}{a b:Addr}{o:HO}(h:b≠a):upd H a o b=H b:=by unfold upd;rw[fI h]
theorem eD{H:Hp}{a b:Addr}{o u:HO}(h:H a=some o)(h':H b=some u)(d:o≠u):a≠b:=by
 intro e;subst e;rw[h] at h';exact d (N_ h')
theorem ak{H:Hp}{a b:Addr}{o:HO}(h:H a=some o)(h':H b=none):a≠b:=by
 intro e;subst e;rw[h] at h';cases h'
section
variable (P : Program) (w : World)
def cU(H:Hp)(h:Heap)(a:Addr):HO->Prop
 | .lst J=>J.length<=sizeLine/\∃(I:List Value) (n:Nat),bj J I/\h.get? a=some {cls:= .type "list",data:= .seq I.toArray n}
 | .tup J=>J.length<=sizeLine/\∃I:List Value,bj J I/\IsTup h a I.toArray
 | .dK kvs=>kvs.length<=sizeLine/\(a==sysModules)=false/\∃b,KV kvs b/\h.DictOf (bK P w) a b
 | .dT kvs=>kvs.length<=sizeLine/\(a==sysModules)=false/\∃J:List (List Key × Addr × Value),
   Paired (fun(p:List Key × V) (q:List Key × Addr × Value)=>p.1=q.1/\H q.2.1=some (.tup (p.1.map kV))/\bz p.2 q.2.2) kvs J/\
   ∃o e g,h.get? a=some o/\o.ExactDict/\o.data= .dict e g/\e.toList=J.map (entryOfKey (tupleKind (bK P w)))/\(J.map (·.1)).Nodup
 | .set S n=>h.SetOf (intKind P w) a S n
 | .ins C dx fs=>H dx=some (.own a)/\fs.length<=1000/\dx≠a/\h.get? a=some (W.instObj C dx)/\
   ∃U,h.Ns1 dx U/\(∀f,oa (fs.lookup f) (U f))/\PySem.Within U (fs.map (·.1))
 | .own _=>∃o,h.get? a=some o
 | .xd fs=>∃U,h.Ns1 a U/\∀f,oa (fs.lookup f) (U f)
 | .rng lo hi=>∃t u v,h.get? a=some {cls:= .type "range",data:= .fields #[.int lo t,.int hi u,.int 1 v]}
 | .frz o u=>h.get? a=some o/\cU H h a u
 | .tbl ps=>h.get? a=some {cls:= .none,data:= .fields ps}
 | .met f x=>h.get? a=some (W.methodObj (.ref f) (.ref x))
 | .ext φ=>φ h/\(∃o,h.get? a=some o)/\∀c d:Heap,φ c->(∀o,c.get? a=some o->d.get? a=some o)->φ d
def HOk(H:Hp)(h:Heap):Prop:=∀a o,H a=some o->cU P w H h a o
end
section
variable {P : Program} {w : World} {H H' : Hp} {h h' : Heap} {a : Addr} {o : HO}
theorem cU.lt(x:cU P w H h a o):a<h.objs.size:=by
 cases o with
 | lst xs=>obtain⟨_,_,_,_,e⟩:=x;exact N5 e
 | tup xs=>obtain⟨_,_,_,p⟩:=x;exact p.lt
 | dK kvs=>obtain⟨_,_,_,_,o,_,_,e,_⟩:=x;exact N5 e
 | dT kvs=>obtain⟨_,_,_,_,o,_,_,e,_⟩:=x;exact N5 e
 | set S n=>obtain⟨o,_,_,_,e,_⟩:=x;exact N5 e
 | ins C dx fs=>obtain⟨_,_,_,e,_⟩:=x;exact N5 e
 | own y=>obtain⟨_,e⟩:=x;exact N5 e
 | xd fs=>obtain⟨_,⟨_,_,_,e,_⟩,_⟩:=x;exact N5 e
 | rng lo hi=>obtain⟨_,_,_,e⟩:=x;exact N5 e
 | frz ob u=>obtain⟨e,_⟩:=x;exact N5 e
 | tbl ps=>exact N5 (show h.get? a=some _ from x)
 | met f y=>exact N5 (show h.get? a=some _ from x)
 | ext φ=>obtain⟨_,⟨_,e⟩,_⟩:=x;exact N5 e
theorem Paired.mapP{U J:Type}{F G:U->J->Prop}:∀{I:List U}{C:List J},Paired F I C->(∀a b,F a b->G a b)->Paired G I C
 | _,_,.nil,_=> .nil
 | _,_,.cons r t,f=> .cons (f _ _ r) (Paired.mapP t f)
theorem cU.stay(x:cU P w H h a o)(k:∀b u,(b=a\/H b=some (.own a))->h.get? b=some u->h'.get? b=some u)
  (ho:∀b,H b=some (.own a)->H' b=some (.own a)) (s:∀b xs,H b=some (.tup xs)->H' b=some (.tup xs)):cU P w H' h' a o:=by
 induction o with
 | lst xs=>obtain⟨z,g,n,r,e⟩:=x;exact⟨z,g,n,r,k _ _ (.inl rfl) e⟩
 | tup xs=>obtain⟨z,g,r,I,e,c⟩:=x;exact⟨z,g,r,I,k _ _ (.inl rfl) e,c⟩
 | dK kvs=>obtain⟨z,y,l,r,I,U,J,e,c⟩:=x;exact⟨z,y,l,r,I,U,J,k _ _ (.inl rfl) e,c⟩
 | dT kvs=>
  obtain⟨z,y,xs,r,I,U,J,e,c⟩:=x;exact⟨z,y,xs,Paired.mapP r fun p q z=>⟨z.1,s _ _ z.2.1,z.2.2⟩,I,U,J,k _ _ (.inl rfl) e,c⟩
 | set S n=>obtain⟨I,U,J,t,e,c⟩:=x;exact⟨I,U,J,t,k _ _ (.inl rfl) e,c⟩
 | ins C dx fs=>
  obtain⟨d,z,ne,e,i,⟨j,U,J,m,c⟩,r⟩:=x;exact⟨ho _ d,z,ne,k _ _ (.inl rfl) e,i,⟨j,U,J,k _ _ (.inr d) m,c⟩,r⟩
 | own y=>obtain⟨I,e⟩:=x;exact⟨I,k _ _ (.inl rfl) e⟩
 | xd fs=>obtain⟨i,⟨j,U,J,e,c⟩,r⟩:=x;exact⟨i,⟨j,U,J,k _ _ (.inl rfl) e,c⟩,r⟩
 | rng lo hi=>obtain⟨t,u,v,e⟩:=x;exact⟨t,u,v,k _ _ (.inl rfl) e⟩
 | frz I u ih=>obtain⟨e,q⟩:=x;exact⟨k _ _ (.inl rfl) e,ih q⟩
 | tbl ps=>
  have e:h.get? a=some {cls:= .none,data:= .fields ps}:=x;show h'.get? a=some {cls:= .none,data:= .fields ps}
  exact k a _ (.inl rfl) e
 | met f y=>
  have e:h.get? a=some (W.methodObj (.ref f) (.ref y)):=x;show h'.get? a=some (W.methodObj (.ref f) (.ref y))
  exact k a _ (.inl rfl) e
 | ext φ=>obtain⟨p,⟨o,e⟩,st⟩:=x;exact⟨st _ _ p fun o q=>k _ _ (.inl rfl) q,⟨o,k _ _ (.inl rfl) e⟩,st⟩
theorem HOk.lt(x:HOk P w H h)(e:H a=some o):a<h.objs.size:=(x a o e).lt
theorem HOk.fresh(x:HOk P w H h)(e:h.objs.size<=a):H a=none:=by
 cases q:H a with
 | none=>rfl
 | some u=>exact absurd (N8 (x.lt q) e) (O9 _)
theorem HOk.kept(x:HOk P w H h)(k:∀b u,h.get? b=some u->h'.get? b=some u):HOk P w H h':=fun a o e=>
 (x a o e).stay (fun b u _ q=>k b u q) (fun _ q=>q) fun _ _ q=>q
theorem HOk.laid(x:HOk P w H h)(k:∀b u,h.get? b=some u->h'.get? b=some u)(J:h.objs.size<=a)(new:cU P w (upd H a o) h' a o):HOk P w (upd H a o) h':=fun b u e=>by
 have I:=x.fresh J
 by_cases C:b=a
 .subst C;rw[ae] at e;cases e;exact new
 .rw[aq C] at e;exact(x b u e).stay (fun c v _ q=>k c v q) (fun c q=>by rw[aq (ak q I)];exact q) fun c U q=>by rw[aq (ak q I)];exact q
end
def Rd(H:Hp)(a:Addr)(u:HO):Prop:=H a=some u\/∃o,H a=some (.frz o u)
theorem Rd.ok{P:Program}{w:World}{H:Hp}{h:Heap}{a:Addr}{u:HO}(r:Rd H a u)(x:HOk P w H h):cU P w H h a u:=by
 rcases r with r | ⟨o,r⟩
 .exact x a u r
 .obtain⟨_,q⟩:=x a _ r;exact q
def Mut:Option HO->Prop
 | some (.lst _)=>True
 | some (.dK _)=>True
 | some (.dT _)=>True
 | some (.set _ _)=>True
 | some (.ins _ _ _)=>True
 | some (.ext _)=>True
 | _=>False
section
variable {P : Program} {w : World} {H : Hp} {h h' : Heap} {x e : Addr} {o' : HO}
theorem HOk.write(ok:HOk P w H h)(U:Mut (H x))(g:e=x\/H e=some (.own x))(k:∀b u,b≠e->h.get? b=some u->h'.get? b=some u)(f:∃u,h'.get? e=some u)
  (new:cU P w (upd H x o') h' x o'):HOk P w (upd H x o') h':=fun b u q=>by
 have C:∀c y,H c=some (.own y)->c≠x:=fun c y r z=>by subst z;rw[r] at U;exact U
 have I:∀c J,H c=some (.tup J)->c≠x:=fun c J r z=>by subst z;rw[r] at U;exact U
 by_cases d:b=x
 .subst d;rw[ae] at q;cases q;exact new
 .rw[aq d] at q
  by_cases o:b=e
  .have q':H b=some (.own x):=by
    rcases g with z | z
    .exact absurd (o.trans z) d
    .rw[o];exact z
   rw[q] at q';cases q';obtain⟨v,i⟩:=f;exact⟨v,by rw[o];exact i⟩
  .refine(ok b u q).stay (fun c v a r=>k c v ?_ r) (fun c r=>by rw[aq (C c b r)];exact r) fun c J r=>by rw[aq (I c J r)];exact r
   rcases a with rfl | a
   .exact o
   .rintro rfl
    rcases g with z | z
    .exact C c b a z
    .rw[a] at z;cases z;exact d rfl
end
structure Un (fs ex:List Addr) (H H':Hp) (h h':Heap):Prop where
 keep:∀b o,h.get? b=some o->H b=none->b ∉ fs->b ∉ ex->h'.get? b=some o
 slot:∀b o,h.get? b=some o->H b=none->b∈fs->b ∉ ex->∃sl,h'.get? b=some {o with slots:=sl}
 free:∀b o,h.get? b=some o->H b=none->b ∉ ex->H' b=none
 there:∀b o,h.get? b=some o->b ∉ ex->∃o',h'.get? b=some o'
 tups:∀b xs,H b=some (.tup xs)->H' b=some (.tup xs)
 frzs:∀b o u,H b=some (.frz o u)->H' b=some (.frz o u)
 tbls:∀b ps,H b=some (.tbl ps)->∃more,H' b=some (.tbl (ps++more))
section
variable {fs fs' ex ex' : List Addr} {H H1 H2 : Hp} {h h1 h2 h' : Heap} {a x e : Addr} {o : HO}
theorem Un.any(u:Un fs ex H H1 h h1){b:Addr}{C:Obj}(q:h.get? b=some C)(n:H b=none)(J:b ∉ ex):∃sl,h1.get? b=some {C with slots:=sl}:=by
 by_cases I:b∈fs
 .exact u.slot b C q n I J
 .exact⟨C.slots,u.keep b C q n I J⟩
theorem Un.kept(k:∀b u,h.get? b=some u->h'.get? b=some u):Un fs ex H H h h':=
 ⟨fun b C q _ _ _=>k b C q,fun b C q _ _ _=>⟨C.slots,k b C q⟩,fun _ _ _ n _=>n,fun b C q _=>⟨C,k b C q⟩,fun _ _ q=>q,fun _ _ _ q=>q,fun _ I q=>⟨#[],by rw[q];simp⟩⟩
theorem Un.refl:Un fs ex H H h h:=Un.kept fun _ _ q=>q
theorem Un.laid(k:∀b u,h.get? b=some u->h'.get? b=some u)(I:h.objs.size<=a)(C:H a=none):Un fs ex H (upd H a o) h h' where
 keep:=fun b u q _ _ _=>k b u q
 slot:=fun b u q _ _ _=>⟨u.slots,k b u q⟩
 free:=fun b u q n _=>by rw[aq (Om (N8 (N5 q) I))];exact n
 there:=fun b u q _=>⟨u,k b u q⟩
 tups:=fun b J q=>by rw[aq (ak q C)];exact q
 frzs:=fun b u J q=>by rw[aq (ak q C)];exact q
 tbls:=fun b U q=>⟨#[],by rw[aq (ak q C),q];simp⟩
theorem Un.write(I:Mut (H x))(g:e=x\/H e=some (.own x))(k:∀b u,b≠e->h.get? b=some u->h'.get? b=some u)(J:∃u,h'.get? e=some u):Un fs ex H (upd H x o) h h':=by
 have c:∀b,H b=none->b≠x:=fun b n z=>by subst z;rw[n] at I;exact I
 have U:∀b,H b=none->b≠e:=fun b n z=>by
  subst z;rcases g with r | r
  .exact c b n r
  .rw[n] at r;cases r
 have hm:∀b u,H b=some u->¬Mut (some u)->b≠x:=fun b u q d z=>by subst z;rw[q] at I;exact d I
 refine⟨fun b u q n _ _=>k b u (U b n) q,fun b u q n _ _=>⟨u.slots,k b u (U b n) q⟩,fun b u q n _=>by rw[aq (c b n)];exact n,fun b u q _=> ?_,
  fun b f q=>by rw[aq (hm b _ q fun z=>z)];exact q,fun b u f q=>by rw[aq (hm b _ q fun z=>z)];exact q,fun b i q=>⟨#[],by rw[aq (hm b _ q fun z=>z),q];simp⟩⟩
 by_cases C:b=e
 .subst C;exact J
 .exact⟨u,k b u C q⟩
end
noncomputable def trk(h:Heap)(H:Hp):List Addr:=(List.range h.objs.size).filter fun a=>(H a).isSome
noncomputable def BE(h:Heap)(H:Hp):Heap:=W.hideAll h (trk h H)
theorem GD(h:Heap)(H:Hp):(BE h H).objs.size=h.objs.size:=W.hideAll_size _ _
theorem Hu{h:Heap}{H:Hp}{b:Addr}{o:Obj}(e:h.get? b=some o)(n:H b=none):(BE h H).get? b=some o:=
 QL _ e fun hm=>by
  have q:(H b).isSome=true:=(PB.mp hm).2;rw[n] at q;simp at q
theorem Jh{h:Heap}{H:Hp}{b:Addr}{o:Obj}(e:(BE h H).get? b=some o):h.get? b=some o/\H b=none:=by
 have C:h.get? b=some o:=RQ (trk h H) e;refine⟨C,?_⟩
 cases q:H b with
 | none=>rfl
 | some x=>
  have hm:b∈trk h H:=PB.mpr ⟨List.mem_range.mpr (N5 C),by simp [q]⟩
  have z:(BE h H).get? b=none:=W.hideAll_none (trk h H) hm;rw[z] at e;cases e
noncomputable def Jz(g h:Heap)(L:Addr):List (Addr × Obj):=(List.range h.objs.size).filterMap fun a=>if a=L\/(g.get? a).isSome=true then none else(h.get? a).map fun o=>(a,o)
noncomputable def r8(g h:Heap)(L d:Addr):List (Addr × Obj):=(Jz g h L).filter fun p=>decide (p.1≠d)
structure Mod (K:Frag) (mg:Str->Option Value) (base:Heap):Prop where
 kin:K.In base
 glob:base.Ns mainGlobals mg
 blt:∃mb,base.Ns builtinsNs mb/\∀x:Str,x≠"__name__"->mb x=bootBuiltins x
 nolimit:base.NoLimit
structure Cx where
 prog:Program
 w:World
 K:Frag
 mg:Str->Option Value
 base:Heap
 A:Around
 N:List Str
 s₀:Shared
 H₀:Hp
 env:Env
 outer:List Env
 stack:List Env
 ex:List Addr
 fn:Str->Bool
 calm:Bool
 pn:List (Addr × Obj)
 xe:Value->Shared->Prop
noncomputable def frs(l:List Env):List Addr:=l.filterMap (·.frame)
noncomputable abbrev Cx.fs(X:Cx):List Addr:=frs X.outer
def Vis(o:Scope)(x:Str):Prop:=o.names.lookup x=some .local\/o.names.lookup x=some .cell\/o.names.lookup x=some .free
def Loc(o:Scope)(x:Str):Prop:=o.names.lookup x=some .local\/o.names.lookup x=some .cell
def M8(env:Env)(h:Heap)(m:Str->Option Value)(x:Str)(u:Value):Prop:=
 (env.kindOf x=some .local/\m x=some u)\/((env.kindOf x=some .cell\/env.kindOf x=some .free)/\∃c,env.cells.lookup x=some c/\h.IsCell c (some u))
structure Cx.Ok (X:Cx):Prop where
 mod:Mod X.K X.mg X.base
 kind:X.env.scope.kind= .function
 glob:X.env.globals=mainGlobals
 blt:X.env.builtins=builtinsNs
 above:X.s₀.heap.objs.size<=X.env.locals
 inj:∀x y c,X.env.cells.lookup x=some c->X.env.cells.lookup y=some c->x=y
 has:∀x,(X.env.kindOf x=some .cell\/X.env.kindOf x=some .free)->∃c,X.env.cells.lookup x=some c
 cab:∀x c,X.fn x=true->X.env.cells.lookup x=some c->X.s₀.heap.objs.size<=c
 hd:X.calm=true->X.A.handled=none
 frames:X.A.frames=some X.stack
 stk:X.stack=X.outer\/(X.stack=X.env::X.outer/\X.env.frame=some X.env.locals)
 exf:∀b∈X.ex,b≠X.env.locals/\∀x c,X.env.cells.lookup x=some c->c≠b
 bs:∀b o,X.base.get? b=some o->X.s₀.heap.get? b=some o/\X.H₀ b=none
 bsz:X.base.objs.size<=X.s₀.heap.objs.size
 noex:∀b o,X.base.get? b=some o->b ∉ X.ex
 exfs:∀b∈X.ex,b ∉ X.fs
 funs:X.s₀.heap.FunFrames X.base X.outer
 frf:∀b∈X.fs,X.H₀ b=none
structure Inv (X:Cx) (pins:List (Addr × Obj)) (Z:List (Option V)) (H:Hp) (s:Shared):Prop where
 ok:X.Ok
 os:s.os=X.s₀.os
 bare:AllBare s.gens
 base:Un X.fs X.ex X.H₀ H X.s₀.heap s.heap
 loc:∃m,s.heap.Ns X.env.locals m/\∀(i:Nat) (x:Str) (v:V),X.N[i]? =some x->Z[i]? =some (some v)->Vis X.env.scope x->∃u,bz v u/\M8 X.env s.heap m x u
 cell:∀x c,X.env.cells.lookup x=some c->∃v,s.heap.IsCell c v
 free:H X.env.locals=none
 freeC:∀x c,X.env.cells.lookup x=some c->H c=none
 pin:∀p∈X.pn++pins,s.heap.get? p.1=some p.2/\H p.1=none/\p.1≠X.env.locals/\p.1 ∉ X.fs/\∀v,p.2.data≠ .cell v
 hok:HOk X.prog X.w H s.heap
 len:Z.length=X.N.length
section
variable {X : Cx} {pins : List (Addr × Obj)} {σ : List (Option V)} {H H' : Hp} {s : Shared} {h' : Heap}
theorem Cx.Ok.nofr(ok:X.Ok){b:Addr}{o:Obj}(e:X.base.get? b=some o):b ∉ X.fs:=fun C=>by
 have:=(ok.funs.mem C).1;rw[e] at this;cases this
theorem Inv.bs(I:Inv X pins Z H s):∀b o,X.base.get? b=some o->s.heap.get? b=some o/\H b=none:=fun b o e=>
 ⟨I.base.keep b o (I.ok.bs b o e).1 (I.ok.bs b o e).2 (I.ok.nofr e) (I.ok.noex b o e),I.base.free b o (I.ok.bs b o e).1 (I.ok.bs b o e).2 (I.ok.noex b o e)⟩
theorem Inv.bk(I:Inv X pins Z H s):∀b o,X.base.get? b=some o->s.heap.get? b=some o:=fun b o e=>(I.bs b o e).1
theorem Inv.mod(I:Inv X pins Z H s):Mod X.K X.mg X.base:=I.ok.mod
theorem Inv.kIn(I:Inv X pins Z H s):X.K.In s.heap:=I.ok.mod.kin.keeps I.bk
theorem Inv.lt(I:Inv X pins Z H s):X.env.locals<s.heap.objs.size:=let ⟨_,hn,_⟩:=I.loc;hn.lt
theorem Inv.sz(I:Inv X pins Z H s):X.s₀.heap.objs.size<=s.heap.objs.size:=Oc I.ok.above (Qt I.lt)
theorem Inv.nofs(I:Inv X pins Z H s){a:Addr}(h:s.heap.objs.size<=a):a ∉ X.fs:=fun C=>by
 obtain⟨_,o,ho,_⟩:=I.ok.funs.mem C;exact absurd (N8 (N5 ho) (Oc I.sz h)) (O9 _)
theorem Inv.cne(I:Inv X pins Z H s):∀x c,X.env.cells.lookup x=some c->c≠X.env.locals:=fun x c e z=>by
 obtain⟨v,o,ho,hd⟩:=I.cell x c e;obtain⟨m,⟨a,U,b,C,J,_⟩,_⟩:=I.loc;rw[z,C] at ho;cases ho;rw[J] at hd;cases hd
theorem Inv.funs(I:Inv X pins Z H s):s.heap.FunFrames X.base X.outer:=by
 have all:∀(l:List Env),(∀b∈frs l,b∈X.fs)->X.s₀.heap.FunFrames X.base l->s.heap.FunFrames X.base l:=by
  intro l
  induction l with
  | nil=>intro _ _;trivial
  | cons env r ih=>
   intro hs a;obtain⟨d,⟨L,o,C,c,ho,hd⟩,f⟩:=a;have J:L∈X.fs:=hs L (by unfold frs;rw[Qr,C];exact N3)
   obtain⟨sl,e⟩:=I.base.slot L o ho (I.ok.frf L J) J fun z=>I.ok.exfs L z J
   exact⟨d,⟨L,_,C,c,e,hd⟩,ih (fun b U=>hs b (by unfold frs;rw[Qr,C];exact N2 _ U)) f⟩
 exact all X.outer (fun _ U=>U) I.ok.funs
theorem Inv.stack(I:Inv X pins Z H s):s.heap.FunFrames X.base X.stack:=by
 rcases I.ok.stk with e | ⟨e,hf⟩
 .rw[e];exact I.funs
 .rw[e];obtain⟨m,o,_⟩:=I.loc;refine .cons (by rw[I.ok.kind];decide) hf o ?_ I.funs
  exact Heap.get?_none_of_le (Oc I.ok.bsz I.ok.above)
theorem Inv.stkSub(I:Inv X pins Z H s):∀b∈frs X.stack,b∈X.env.locals::X.fs:=fun b o=>by
 rcases I.ok.stk with e | ⟨e,hf⟩
 .rw[e] at o;exact N2 _ o
 .rw[e] at o;unfold frs at o;rw[Qr,hf] at o;exact o
theorem Inv.stkFree(I:Inv X pins Z H s):∀b∈frs X.stack,H b=none:=fun b C=>by
 rcases Od.mp (I.stkSub b C) with e | C
 .rw[e];exact I.free
 .obtain⟨_,o,ho,_⟩:=I.ok.funs.mem C;exact I.base.free b o ho (I.ok.frf b C) fun z=>I.ok.exfs b z C
theorem Inv.step{g':Array GenState}{t':Nat}{d':Drawn}{ch:List Addr}(I:Inv X pins Z H s)
  (a:∀b∈ch,(b∈X.ex\/X.s₀.heap.objs.size<=b)/\b≠X.env.locals/\(∀x c,X.env.cells.lookup x=some c->c≠b)/\∀p∈X.pn++pins,p.1≠b)
  (keep:∀b o,b≠X.env.locals->b ∉ X.fs->b ∉ ch->s.heap.get? b=some o->H b=none->h'.get? b=some o)
  (j:∀b o,b≠X.env.locals->b∈X.fs->b ∉ ch->s.heap.get? b=some o->H b=none->∃sl,h'.get? b=some {o with slots:=sl}) (free:∀b o,b ∉ ch->s.heap.get? b=some o->H b=none->H' b=none)
  (there:∀b o,b ∉ ch->s.heap.get? b=some o->∃A,h'.get? b=some A)
  (B:∀b xs,H b=some (.tup xs)->H' b=some (.tup xs)) (E:∀b o u,H b=some (.frz o u)->H' b=some (.frz o u)) (F:∀b ps,H b=some (.tbl ps)->∃G,H' b=some (.tbl (ps++G)))
  (ns:∀m,s.heap.Ns X.env.locals m->h'.Ns X.env.locals m) (L:HOk X.prog X.w H' h') (Q:AllBare g'):
  Inv X pins Z H' {s with heap:=h',gens:=g',drawn:=d',toks:=t'}:=by
 have K:∀b o,X.s₀.heap.get? b=some o->b≠X.env.locals:=fun b o e=>Om (N8 (N5 e) I.ok.above)
 have g:∀b o,X.s₀.heap.get? b=some o->b ∉ X.ex->b ∉ ch:=fun b o e C y=>by
  rcases(a b y).1 with z | z
  .exact C z
  .exact absurd (N8 (N5 e) z) (O9 _)
 have U:∀x c,X.env.cells.lookup x=some c->∀v,s.heap.IsCell c v->h'.IsCell c v:=fun x c e v ⟨o,ho,hd⟩=>by
  have J:c ∉ ch:=fun z=>(a c z).2.2.1 x c e rfl
  by_cases O:c∈X.fs
  .obtain⟨sl,q⟩:=j c o (I.cne x c e) O J ho (I.freeC x c e);exact⟨_,q,hd⟩
  .exact⟨o,keep c o (I.cne x c e) O J ho (I.freeC x c e),hd⟩
 refine⟨I.ok,I.os,Q,⟨fun b o e n y C=> ?_,fun b o e n y C=> ?_,fun b o e n C=> ?_,fun b o e C=> ?_,fun b xs e=>B b xs (I.base.tups b xs e),fun b o xs e=>E b o xs (I.base.frzs b o xs e),fun b ps e=> ?_⟩,?_,fun x c e=> ?_,?_,fun x c e=> ?_,fun p N=> ?_,L,I.len⟩
 .exact keep b o (K b o e) y (g b o e C) (I.base.keep b o e n y C) (I.base.free b o e n C)
 .obtain⟨sl,f⟩:=I.base.slot b o e n y C;obtain⟨M,D⟩:=j b _ (K b o e) y (g b o e C) f (I.base.free b o e n C);exact⟨M,D⟩
 .obtain⟨A,f⟩:=I.base.there b o e C;exact free b A (g b o e C) f (I.base.free b o e n C)
 .obtain⟨A,f⟩:=I.base.there b o e C;exact there b A (g b o e C) f
 .obtain⟨m1,f⟩:=I.base.tbls b ps e;obtain⟨R,D⟩:=F b _ f;exact⟨m1++R,by rw[D,Array.append_assoc]⟩
 .obtain⟨m,hn,hl⟩:=I.loc;refine⟨m,ns m hn,fun i x v f D P=> ?_⟩
  obtain⟨u,r,l⟩:=hl i x v f D P;refine⟨u,r,?_⟩
  rcases l with l | ⟨k,c,e,z⟩
  .exact .inl l
  .exact .inr ⟨k,c,e,U x c e _ z⟩
 .obtain⟨v,z⟩:=I.cell x c e;exact⟨v,U x c e v z⟩
 .obtain⟨m,⟨o,_,_,ho,_⟩,_⟩:=I.loc;exact free _ o (fun z=>(a _ z).2.1 rfl) ho I.free
 .obtain⟨v,o,ho,hd⟩:=I.cell x c e;exact free c o (fun z=>(a c z).2.2.1 x c e rfl) ho (I.freeC x c e)
 .obtain⟨e,n,ne,nf,d⟩:=I.pin p N;have J:p.1 ∉ ch:=fun z=>(a p.1 z).2.2.2 p N rfl
  exact⟨keep p.1 p.2 ne nf J e n,free p.1 p.2 J e n,ne,nf,d⟩
theorem Inv.un{t':Nat}(I:Inv X pins Z H s)(u:Un X.fs [] H H' s.heap h')(J:HOk X.prog X.w H' h'):Inv X pins Z H' {s with heap:=h',toks:=t'}:=by
 obtain⟨m,⟨o,l,j,ho,r⟩,_⟩:=id I.loc;obtain⟨sl,f⟩:=u.any ho I.free (by simp)
 exact I.step (g':=s.gens) (d':=s.drawn) (ch:=[]) (fun _ z=>nomatch z) (fun b o _ U _ e n=>u.keep b o e n U (by simp)) (fun b o _ U _ e n=>u.slot b o e n U (by simp)) (fun b o _ e n=>u.free b o e n (by simp)) (fun b o _ e=>u.there b o e (by simp)) u.tups u.frzs u.tbls (fun i hm=>by
  obtain⟨g,a,c,C,d⟩:=hm;rw[ho] at C;cases C
  exact⟨_,a,c,f,d⟩) J I.bare
theorem Inv.call{g':Array GenState}{t':Nat}{d':Drawn}{ch:List Addr}(I:Inv X pins Z H s)(u:Un (frs X.stack) ch H H' s.heap h')(d:HOk X.prog X.w H' h')(l:AllBare g')
  (U:∀b∈ch,(b∈X.ex\/X.s₀.heap.objs.size<=b)/\b≠X.env.locals/\(∀x c,X.env.cells.lookup x=some c->c≠b)/\∀p∈X.pn++pins,p.1≠b):
  Inv X pins Z H' {s with heap:=h',gens:=g',drawn:=d',toks:=t'}:=by
 obtain⟨m,⟨o,A,y,ho,r⟩,_⟩:=id I.loc;obtain⟨sl,a⟩:=u.any ho I.free fun z=>(U _ z).2.1 rfl
 exact I.step (ch:=ch) U (fun b o a j C e n=>u.keep b o e n (fun z=>(Od.mp (I.stkSub b z)).elim a j) C) (fun b o _ _ C e n=>u.any e n C) (fun b o C e n=>u.free b o e n C) (fun b o C e=>u.there b o e C) u.tups u.frzs u.tbls (fun v hm=>by
  obtain⟨q,f,g,J,i⟩:=hm;rw[ho] at J;cases J
  exact⟨_,f,g,a,i⟩) d l
theorem Inv.turned{t':Nat}{it:Addr}(I:Inv X pins Z H s)(k:∀b o,b≠it->s.heap.get? b=some o->h'.get? b=some o)(f:H it=none)(U:it≠X.env.locals)
  (a:it∈X.ex\/X.s₀.heap.objs.size<=it) (d:∀x c,X.env.cells.lookup x=some c->c≠it) (g:∀p∈X.pn++pins,p.1≠it):Inv X pins Z H {s with heap:=h',toks:=t'}:=by
 have J:∀b u,H b=some u->b≠it:=fun b u e z=>by rw[z,f] at e;cases e
 refine I.step (g':=s.gens) (d':=s.drawn) (ch:=[it]) (fun b i=> ?_) (fun b o _ _ C e _=>k b o (fun z=>C (by simp [z])) e) (fun b o _ _ C e _=>⟨o.slots,k b o (fun z=>C (by simp [z])) e⟩) (fun _ _ _ _ n=>n)
  (fun b o C e=>⟨o,k b o (fun z=>C (by simp [z])) e⟩) (fun _ _ e=>e) (fun _ _ _ e=>e) (fun b j e=>⟨#[],by rw[e];simp⟩) (fun m hm=> ?_) (fun b u e=> ?_) I.bare
 .have e:b=it:=by simpa using i
  subst e;exact⟨a,U,d,g⟩
 .obtain⟨o,es,ep,ho,r⟩:=hm;exact⟨o,es,ep,k _ o (Ox U) ho,r⟩
 .refine(I.hok b u e).stay (fun c v C q=>k c v ?_ q) (fun _ q=>q) fun _ _ q=>q
  rcases C with z | z
  .rw[z];exact J b u e
  .exact J c _ z
theorem Inv.tok(I:Inv X pins Z H s)(t:Nat):Inv X pins Z H {s with toks:=t}:=I.un (h':=s.heap) (t':=t) Un.refl I.hok
theorem Inv.kept{t':Nat}(I:Inv X pins Z H s)(k:∀b u,s.heap.get? b=some u->h'.get? b=some u):Inv X pins Z H {s with heap:=h',toks:=t'}:=I.un (Un.kept k) (I.hok.kept k)
theorem Inv.laid{a:Addr}{o:HO}{t':Nat}(I:Inv X pins Z H s)(k:∀b u,s.heap.get? b=some u->h'.get? b=some u)(C:s.heap.objs.size<=a)(new:cU X.prog X.w (upd H a o) h' a o):
  Inv X pins Z (upd H a o) {s with heap:=h',toks:=t'}:=I.un (Un.laid k C (I.hok.fresh C)) (I.hok.laid k C new)
theorem Inv.write{x e:Addr}{o:HO}{t':Nat}(I:Inv X pins Z H s)(J:Mut (H x))(U:e=x\/H e=some (.own x))(k:∀b u,b≠e->s.heap.get? b=some u->h'.get? b=some u)(C:∃u,h'.get? e=some u)
  (new:cU X.prog X.w (upd H x o) h' x o):Inv X pins Z (upd H x o) {s with heap:=h',toks:=t'}:=I.un (Un.write J U k C) (I.hok.write J U k C new)
theorem Inv.weak{o:List (Option V)}(I:Inv X pins Z H s)(J:o.length=Z.length)(w:∀(i:Nat) v,o[i]? =some (some v)->Z[i]? =some (some v)):Inv X pins o H s:=
 ⟨I.ok,I.os,I.bare,I.base,let ⟨m,hn,hl'⟩:=I.loc;⟨m,hn,fun i x v C a U=>hl' i x v C (w i v a) U⟩,I.cell,I.free,I.freeC,I.pin,I.hok,J.trans I.len⟩
theorem Inv.pins_of{o:List (Addr × Obj)}(I:Inv X pins Z H s)(h:∀p∈o,s.heap.get? p.1=some p.2/\H p.1=none/\p.1≠X.env.locals/\p.1 ∉ X.fs/\∀v,p.2.data≠ .cell v):Inv X o Z H s:=
 ⟨I.ok,I.os,I.bare,I.base,I.loc,I.cell,I.free,I.freeC,fun p C=>(Ot.mp C).elim (fun z=>I.pin p (List.mem_append_left _ z)) (h p),I.hok,I.len⟩
theorem Da{N:List Str}(I:N.Nodup){i j:Nat}{x:Str}(a:N[i]? =some x)(b:N[j]? =some x):i=j:=by
 obtain⟨J,o⟩:=mF.mp a;obtain⟨U,C⟩:=mF.mp b;exact(List.getElem_inj I).mp (o.trans C.symm)
theorem zS{M:Model}{A:Around}{E:Value->Shared->Prop}{i:Nat}{x:Str}{v:V}{u:Value}{Q:Unit->Shared->Prop}(I:Inv X pins Z H s)(hN:X.N.Nodup)(K:X.N[i]? =some x)(f:Loc X.env.scope x)(r:bz v u)
  (h:∀s',Inv X pins (Z.set i (some v)) H s'->(∃a,Heap.SameBut a s.heap s'.heap/\(a=X.env.locals\/X.env.cells.lookup x=some a))->Q () s') (hf:X.fn x=true\/X.env.scope.names.lookup x=some .local:=by first | exact .inl rfl | exact .inr rfl | assumption):wpAny M A (storeName X.env x u) Q E s:=by
 obtain⟨m,hn,hl⟩:=id I.loc;have O:(X.env.scope.kind == .class || (X.env.scope.kind == .module && X.env.locals != X.env.globals))=false:=by rw[I.ok.kind];rfl
 have F:i<Z.length:=by rw[I.len];exact(mF.mp K).1
 have cne:=I.cne;have C:∀{a:Addr}{h':Heap},(∃o,s.heap.get? a=some o/\H a=none)->Heap.SameBut a s.heap h'->HOk X.prog X.w H h':=fun {a h'} ha hs b ob e=>by
  obtain⟨_,_,g⟩:=ha;refine(I.hok b ob e).stay (fun c R U q=>(hs.2 c ?_).trans q) (fun _ q=>q) fun _ _ q=>q
  rintro rfl
  rcases U with rfl | U
  .rw[g] at e;cases e
  .rw[g] at U;cases U
 rcases f with hk | hk
 .refine wpAny_storeName_local hk hn (fun h' ab hs=> ?_) O
  obtain⟨oL,_,_,W,_⟩:=id hn;refine h _ ⟨I.ok,I.os,I.bare,⟨fun b o e n B f=> ?_,fun b o e n B f=> ?_,I.base.free,fun b o e f=> ?_,I.base.tups,I.base.frzs,I.base.tbls⟩,⟨_,ab,fun j y S J l e3=> ?_⟩,fun y c e=> ?_,I.free,I.freeC,fun p T=> ?_,C ⟨oL,W,I.free⟩ hs,by simpa using I.len⟩ ⟨_,hs,.inl rfl⟩
  .exact(hs.2 b (Om (N8 (N5 e) I.ok.above))).trans (I.base.keep b o e n B f)
  .obtain⟨sl,J⟩:=I.base.slot b o e n B f;exact⟨sl,(hs.2 b (Om (N8 (N5 e) I.ok.above))).trans J⟩
  .obtain⟨o',J⟩:=I.base.there b o e f;exact⟨o',(hs.2 b (Om (N8 (N5 e) I.ok.above))).trans J⟩
  .by_cases hj:j=i
   .subst hj;rw[K] at J;cases J;rw[P7 F] at l
    cases l
    exact⟨u,r,.inl ⟨hk,by simp⟩⟩
   .rw[List.getElem?_set_ne (Ox hj)] at l;obtain⟨u',Y,q⟩:=hl j y S J l e3;refine⟨u',Y,?_⟩
    rcases q with⟨k,e⟩|⟨k,c,e,z⟩
    .refine .inl ⟨k,?_⟩
     have:y≠x:=fun e=>hj (Da hN J (e ▸ K))
     simp [this,e]
    .exact .inr ⟨k,c,e,z.sameBut hs (cne y c e)⟩
  .obtain⟨R,z⟩:=I.cell y c e;exact⟨R,z.sameBut hs (cne y c e)⟩
  .obtain⟨e,n,ne,nf,d⟩:=I.pin p T;exact⟨(hs.2 p.1 ne).trans e,n,ne,nf,d⟩
 .have hfn:X.fn x=true:=by
   rcases hf with z | z
   .exact z
   .rw[z] at hk;cases hk
  obtain⟨c,U⟩:=I.ok.has x (.inl hk);obtain⟨R,z⟩:=I.cell x c U;refine wpAny_storeName_cell I.ok.kind hk U z (fun h' G hs=> ?_)
  obtain⟨oc,L,D⟩:=id z;refine h {s with heap:=h'} ⟨I.ok,I.os,I.bare,⟨fun b o e n B f=> ?_,fun b o e n B f=> ?_,I.base.free,fun b o e f=> ?_,I.base.tups,I.base.frzs,I.base.tbls⟩,⟨m,hn.sameBut hs (Ox (cne x c U)),fun j y S J l e3=> ?_⟩,fun y P e=> ?_,I.free,I.freeC,fun p T=> ?_,C ⟨oc,L,I.freeC x c U⟩ hs,by simpa using I.len⟩ ⟨c,hs,.inr U⟩
  .exact(hs.2 b (Om (N8 (N5 e) (I.ok.cab x c hfn U)))).trans (I.base.keep b o e n B f)
  .obtain⟨sl,J⟩:=I.base.slot b o e n B f;exact⟨sl,(hs.2 b (Om (N8 (N5 e) (I.ok.cab x c hfn U)))).trans J⟩
  .obtain⟨o',J⟩:=I.base.there b o e f;exact⟨o',(hs.2 b (Om (N8 (N5 e) (I.ok.cab x c hfn U)))).trans J⟩
  .by_cases hj:j=i
   .subst hj;rw[K] at J;cases J;rw[P7 F] at l
    cases l
    exact⟨u,r,.inr ⟨.inl hk,c,U,G⟩⟩
   .rw[List.getElem?_set_ne (Ox hj)] at l;obtain⟨u',Y,q⟩:=hl j y S J l e3;refine⟨u',Y,?_⟩
    rcases q with q | ⟨k,P,e,z'⟩
    .exact .inl q
    .refine .inr ⟨k,P,e,z'.sameBut hs ?_⟩
     rintro rfl
     exact hj (Da hN J (I.ok.inj _ _ _ e U ▸ K))
  .by_cases hcc:P=c
   .subst hcc;exact⟨_,G⟩
   .obtain⟨w2,z2⟩:=I.cell y P e;exact⟨w2,z2.sameBut hs hcc⟩
  .obtain⟨e,n,ne,nf,d⟩:=I.pin p T;refine⟨(hs.2 p.1 ?_).trans e,n,ne,nf,d⟩
   intro q;rw[q,L] at e;have q':oc=p.2:=N_ e;exact d R (by rw[<- q'];exact D)
theorem C4{M:Model}{A:Around}{E:Value->Shared->Prop}{i:Nat}{x:Str}{v:V}{u:Value}{Q:Unit->Shared->Prop}(I:Inv X pins Z H s)(b:X.N.Nodup)(U:X.N[i]? =some x)(C:Loc X.env.scope x)(r:bz v u)
  (h:∀o,Inv X pins (Z.set i (some v)) H o->Q () o) (J:X.fn x=true\/X.env.scope.names.lookup x=some .local:=by first | exact .inl rfl | exact .inr rfl | assumption):wpAny M A (storeName X.env x u) Q E s:=
 zS I b U C r (fun o a _=>h o a) J
theorem Inv.call'{o:Shared}{ch:List Addr}(I:Inv X pins Z H s)(ho:o.os=s.os)(u:Un (frs X.stack) ch H H' s.heap o.heap)(C:HOk X.prog X.w H' o.heap)(g:AllBare o.gens)
  (J:∀b∈ch,(b∈X.ex\/X.s₀.heap.objs.size<=b)/\b≠X.env.locals/\(∀x c,X.env.cells.lookup x=some c->c≠b)/\∀p∈X.pn++pins,p.1≠b):Inv X pins Z H' o:=by
 obtain⟨h',a,d,U,f⟩:=o;have e:f=s.os:=ho;subst e;exact I.call (g':=a) (t':=U) (d':=d) u C g J
end
abbrev XK:=Value->Option Addr->Hp->Prop
abbrev St:=List (Option V)
abbrev VK:=V->Hp->Prop
abbrev TE:=St->Hp->VK->Prop
abbrev TT:=St->Hp->(Bool->Hp->Prop)->Prop
abbrev TA:=St->Hp->(List V->Hp->Prop)->Prop
structure vD where
 nx:St->Hp->Prop
 rt:VK
 bk:St->Hp->Prop:=fun _ _=>False
 ct:St->Hp->Prop:=fun _ _=>False
abbrev TS:=vD->St->Hp->Prop
def EP(X:Cx)(o:List (Addr × Obj))(Z:St)(Q:VK)(u:Value)(I:Shared):Prop:=∃v C,Inv X o Z C I/\bz v u/\Q v C
def TP(X:Cx)(o:List (Addr × Obj))(Z:St)(Q:Bool->Hp->Prop)(b:Bool)(I:Shared):Prop:=∃C,Inv X o Z C I/\Q b C
def AP(X:Cx)(o:List (Addr × Obj))(Z:St)(Q:List V->Hp->Prop)(us:List Value)(J:Shared):Prop:=∃I C,Inv X o Z C J/\bj I us/\Q I C
def SP(X:Cx)(o:List (Addr × Obj))(D:vD)(f:Flow)(J:Shared):Prop:=
 match f with
 | .next=>∃I C,Inv X o I C J/\D.nx I C
 | .brk=>∃I C,Inv X o I C J/\D.bk I C
 | .cont=>∃I C,Inv X o I C J/\D.ct I C
 | .ret u=>∃v I C,Inv X o I C J/\bz v u/\D.rt v C
def PE(X:Cx)(e:Expr)(t:TE):Prop:=
 ∀(o:List (Addr × Obj)) (s:Shared) (Z:St) (H:Hp) (Q:VK),Inv X o Z H s->t Z H Q->wpAny (model X.prog X.w) X.A (eval e X.env) (EP X o Z Q) X.xe s
def PT(X:Cx)(e:Expr)(t:TT):Prop:=
 ∀(o:List (Addr × Obj)) (s:Shared) (Z:St) (H:Hp) (Q:Bool->Hp->Prop),Inv X o Z H s->t Z H Q->wpAny (model X.prog X.w) X.A (isTrue e X.env (eval e X.env)) (TP X o Z Q) X.xe s
def PW(X:Cx)(e:Expr)(t:TT):Prop:=
 ∀(whole:Sem Value) (o:List (Addr × Obj)) (s:Shared) (Z:St) (H:Hp) (Q:Bool->Hp->Prop),Inv X o Z H s->t Z H Q->wpAny (model X.prog X.w) X.A (isTrue e X.env whole) (TP X o Z Q) X.xe s
theorem PW.pt{X:Cx}{e:Expr}{t:TT}(h:PW X e t):PT X e t:=h _
def PA(X:Cx)(I:List Expr)(t:TA):Prop:=
 ∀(C:Pos) (o:List (Addr × Obj)) (s:Shared) (Z:St) (H:Hp) (Q:List V->Hp->Prop),Inv X o Z H s->t Z H Q->wpAny (model X.prog X.w) X.A (spliced (backTo C (starEach I X.env))) (AP X o Z Q) X.xe s
def PS(X:Cx)(st:Stmt)(t:TS):Prop:=
 ∀(o:List (Addr × Obj)) (s:Shared) (Z:St) (H:Hp) (D:vD),Inv X o Z H s->t D Z H->wpAny (model X.prog X.w) X.A (exec st X.env) (SP X o D) X.xe s
def PSs(X:Cx)(st:List Stmt)(t:TS):Prop:=
 ∀(o:List (Addr × Obj)) (s:Shared) (Z:St) (H:Hp) (D:vD),Inv X o Z H s->t D Z H->wpAny (model X.prog X.w) X.A (execs st X.env) (SP X o D) X.xe s
theorem thn{C:Type}{t:Sem C}{Q o:C->Shared->Prop}{M:Model}{A:Around}{E:Value->Shared->Prop}{s:Shared}(h:wpAny M A t Q E s)(I:∀a s,Q a s->o a s):wpAny M A t o E s:=OS h I fun _ _ x=>x
theorem DS{o J:Type}{p q:o->Shared->J->Prop}{t:Sem o}{C:o->Shared->Prop}{M:Model}{A:Around}{E:Value->Shared->Prop}{s:Shared}(h:wpAny M A t (fun a s=>∃x,p a s x/\q a s x) E s)(I:∀a s x,p a s x->q a s x->C a s):wpAny M A t C E s:=thn h fun a s h=>QI h fun x h=>I a s x h.1 h.2
theorem M4{o J U:Type}{p q:o->Shared->J->U->Prop}{t:Sem o}{C:o->Shared->Prop}{M:Model}{A:Around}{E:Value->Shared->Prop}{s:Shared}(h:wpAny M A t (fun a s=>∃x y,p a s x y/\q a s x y) E s)(I:∀a s x y,p a s x y->q a s x y->C a s):wpAny M A t C E s:=thn h fun a s h=>QI h fun x h=>QI h fun y h=>I a s x y h.1 h.2
theorem cB{o J U:Type}{p r q:o->Shared->J->U->Prop}{t:Sem o}{C:o->Shared->Prop}{M:Model}{A:Around}{E:Value->Shared->Prop}{s:Shared}(h:wpAny M A t (fun a s=>∃x y,p a s x y/\r a s x y/\q a s x y) E s)(I:∀a s x y,p a s x y->r a s x y->q a s x y->C a s):wpAny M A t C E s:=thn h fun a s h=>QI h fun x h=>QI h fun y h=>I a s x y h.1 h.2.1 h.2.2
section
variable {X : Cx}
def LL(i:Nat):TE:=fun Z H Q=>∃v,Z[i]? =some (some v)/\Q v H
def tC(v:V):TE:=fun _ H Q=>Q v H
theorem LQ{i:Nat}{x:Str}{U:Pos}(j:X.N[i]? =some x)(f:Vis X.env.scope x)(hd:(x==("__debug__":Str))=false:=by decide)(a:(x==("__classdict__":Str))=false:=by decide):PE X (.Name x U) (LL i):=by
 intro J s Z H Q I h;obtain⟨v,e,h⟩:=h;obtain⟨m,g,d⟩:=I.loc;obtain⟨u,r,l⟩:=d i x v j e f;have fin:EP X J Z Q u s:=⟨v,H,I,r,h⟩;rcases l with⟨C,hm⟩|⟨C,c,b,o⟩
 .exact wpAny_Name (wpAny_loadName_local I.ok.kind C g hm fin) hd
 .rcases C with C | C
  .exact wpAny_Name (wpAny_loadName_cell I.ok.kind C b o fin) hd
  .exact wpAny_Name (wpAny_loadName_free I.ok.kind C b o fin a) hd
theorem ad{i j pos}:PE X (.Constant (.int i) j pos) (tC (.int i)):=fun _ _ _ H _ I h=>wpAny_Constant_int ⟨.int i,H,I.tok _,⟨_,rfl⟩,h⟩
theorem vq{b j pos}:PE X (.Constant (.bool b) j pos) (tC (.bl b)):=fun _ _ _ H _ I h=>Constant_bool ⟨.bl b,H,I,rfl,h⟩
theorem eP{j pos}:PE X (.Constant .none j pos) (tC .non):=fun _ _ _ H _ I h=>Rx ⟨.non,H,I,rfl,h⟩
theorem ax{x j pos}:PE X (.Constant (.str x) j pos) (tC (.str x)):=fun _ _ _ H _ I h=>Calls.Constant_str ⟨.str x,H,I.tok _,⟨_,rfl⟩,h⟩
def Gl(X:Cx)(x:Str):Prop:=X.env.kindOf x=some .globalImplicit
theorem mr{E:Value->Shared->Prop}{o:List (Addr × Obj)}{s:Shared}{Z:St}{H:Hp}{x:Str}{u:Value}{C:Pos}{Q:Value->Shared->Prop}(I:Inv X o Z H s)(J:Gl X x)(hm:X.mg x=some u)(h:Q u s)
  (hd:(x==("__debug__":Str))=false:=by decide):wpAny (model X.prog X.w) X.A (eval (.Name x C) X.env) Q E s:=
 Qz I.ok.kind J (Calls.loadGlobal_global (by rw[I.ok.glob];exact I.mod.glob.keeps I.bk) hm h) hd
theorem xc{E:Value->Shared->Prop}{o:List (Addr × Obj)}{s:Shared}{Z:St}{H:Hp}{x:Str}{u:Value}{C:Pos}{Q:Value->Shared->Prop}(I:Inv X o Z H s)(c:Gl X x)(hm:X.mg x=none)(a:bootBuiltins x=some u)(h:Q u s)
  (b:x≠"__name__":=by decide) (hd:(x==("__debug__":Str))=false:=by decide):wpAny (model X.prog X.w) X.A (eval (.Name x C) X.env) Q E s:=by
 obtain⟨d,J,U⟩:=I.mod.blt;exact Qz I.ok.kind c (Calls.loadGlobal_builtin (by rw[I.ok.glob];exact I.mod.glob.keeps I.bk) hm (by rw[I.ok.blt];exact J.keeps I.bk) ((U x b).trans a) h) hd
theorem nC{x:Str}{v:V}{u:Value}{o:Pos}(C:Gl X x)(hm:X.mg x=some u)(r:bz v u)(hd:(x==("__debug__":Str))=false:=by decide):PE X (.Name x o) (tC v):=
 fun _ _ _ H _ I h=>mr I C hm ⟨v,H,I,r,h⟩ hd
variable {a b : Expr} {ta tb : TE} {pos : Pos}
def PC(X:Cx)(J:CmpOp)(a b:Expr)(t:TE):Prop:=
 ∀(o:List (Addr × Obj)) (s:Shared) (Z:St) (H:Hp) (Q:VK),Inv X o Z H s->t Z H Q->
  wpAny (model X.prog X.w) X.A (eval a X.env) (fun v I=>wpAny (model X.prog X.w) X.A (eval b X.env) (fun u C=>wpAny (model X.prog X.w) X.A (compareOp J v u) (EP X o Z Q) X.xe C) X.xe I) X.xe s
theorem B_(b:Expr){o:CmpOp}(h:o≠ .In)(J:o≠ .NotIn):behindInMarks o b=false:=by
 have C:(o==CmpOp.In)=false:=by cases o <;> first | rfl | exact absurd rfl h
 have I:(o==CmpOp.NotIn)=false:=by cases o <;> first | rfl | exact absurd rfl J
 cases b <;> simp [behindInMarks,C,I]
def NJ(ta:TE):TE:=fun Z H Q=>ta Z H fun x o=>Q (.bl (decide (x= .non))) o
def MN(ta:TE):TE:=fun Z H Q=>ta Z H fun x o=>Q (.bl (!decide (x= .non))) o
theorem bz.none_iff{x:V}{v:Value}(r:bz x v):(v==Value.none)=decide (x= .non):=by
 cases x with
 | non=>cases r;rfl
 | bl _=>cases r;rfl
 | int _=>obtain⟨t,rfl⟩:=r;rfl
 | str _=>obtain⟨t,rfl⟩:=r;rfl
 | byt _=>obtain⟨t,rfl⟩:=r;rfl
 | flt _=>obtain⟨t,rfl⟩:=r;rfl
 | ref _=>cases r;rfl
 | ty _=>cases r;rfl
theorem ut{j pos'}(d:PE X a ta):PC X .Is a (.Constant .none j pos') (NJ ta):=by
 intro o s Z H Q I h;refine cB (d o s Z H _ I h) fun v e x J C U c=> ?_
 exact Rx (is_none_gen ⟨.bl _,J,C,by rw[U.none_iff];rfl,c⟩)
theorem wq{j pos'}(d:PE X a ta):PC X .IsNot a (.Constant .none j pos') (MN ta):=by
 intro o s Z H Q I h;refine cB (d o s Z H _ I h) fun v e x J C U c=> ?_
 exact Rx (isnot_none_gen ⟨.bl _,J,C,by rw[U.none_iff];rfl,c⟩)
def tB(t:TE):TT:=fun Z H Q=>t Z H fun x o=>∃c,x= .bl c/\Q c o
theorem Hw{C:CmpOp}{t:TE}(h:PC X C a b t)(J:behindInMarks C b=false:=by first | exact B_ _ (by decide) (by decide) | rfl):PE X (.Compare a [C] [b] pos) t:=fun o s Z H Q I hw=>wpAny_Compare1 (h o s Z H Q I hw) J
theorem pY{J:CmpOp}{t:TE}(h:PC X J a b t)(C:behindInMarks J b=false:=by first | exact B_ _ (by decide) (by decide) | rfl):PT X (.Compare a [J] [b] pos) (tB t):=by
 intro o s Z H Q I hw;refine Ra (thn (h o s Z H _ I hw) fun v j C=>thn C fun u l f=>thn f fun c m ⟨x,U,e,i,g⟩=> ?_) C
 obtain⟨d,rfl,q⟩:=g
 cases i
 exact OT ⟨U,e,q⟩
theorem cJ{e:Expr}{t:TE}(h:PE X e t)(f:∀whole,isTrue e X.env whole=(do let v <-whole;standAt e.pos;holding [v] (truthy v)):=by intro _;rfl):PT X e (tB t):=by
 intro o s Z H Q I hw;refine isTrue_plain (cB (h o s Z H _ I hw) fun v g x C J c U=> ?_) (f _)
 obtain⟨d,rfl,q⟩:=U
 cases c
 exact OT ⟨C,J,q⟩
variable {tA tB' : TT} {r8 : List Expr}
def NQ(t u:TT):TT:=fun Z H Q=>t Z H fun c o=>if c=true then u Z o Q else Q false o
def tOr(t u:TT):TT:=fun Z H Q=>t Z H fun c o=>if c=true then Q true o else u Z o Q
def Nt(t:TT):TT:=fun Z H Q=>t Z H fun c o=>Q (!c) o
theorem dH(C:PT X a tA):PW X (.BoolOp .And [a] pos) tA:=by
 intro J o s Z H Q I h;refine isTrue_and (thn (C o s Z H Q I h) fun c U e=> ?_)
 cases c with
 | true=>exact isTrue_and_nil e
 | false=>exact e
theorem fP(C:PT X a tA):PW X (.BoolOp .Or [a] pos) tA:=by
 intro J o s Z H Q I h;refine isTrue_or (thn (C o s Z H Q I h) fun c U e=> ?_)
 cases c with
 | false=>exact isTrue_or_nil e
 | true=>exact e
theorem fZ(f:PT X a tA)(d:PW X (.BoolOp .And (b::r8) pos) tB'):PW X (.BoolOp .And (a::b::r8) pos) (NQ tA tB'):=by
 intro e o s Z H Q I h;refine isTrue_and (DS (f o s Z H _ I h) fun c g J C U=> ?_)
 cases c with
 | true=>exact d e o g Z J Q C U
 | false=>exact⟨J,C,U⟩
theorem iS(f:PT X a tA)(d:PW X (.BoolOp .Or (b::r8) pos) tB'):PW X (.BoolOp .Or (a::b::r8) pos) (tOr tA tB'):=by
 intro e o s Z H Q I h;refine isTrue_or (DS (f o s Z H _ I h) fun c g J C U=> ?_)
 cases c with
 | true=>exact⟨J,C,U⟩
 | false=>exact d e o g Z J Q C U
theorem gA(J:PT X a tA):PT X (.UnaryOp .Not a pos) (Nt tA):=by
 intro o s Z H Q I h;exact isTrue_not (J o s Z H (fun c C=>Q (!c) C) I h)
def MX(ta tb:TE):TE:=fun Z H Q=>ta Z H fun x o=>∃c,x= .bl c/\if c=true then tb Z o Q else Q (.bl false) o
def NP(ta tb:TE):TE:=fun Z H Q=>ta Z H fun x o=>∃c,x= .bl c/\if c=true then Q (.bl true) o else tb Z o Q
theorem oU{op}{t:TE}(h:PE X a t):PE X (.BoolOp op [a] pos) t:=fun o s Z H Q I hw=>BoolOp_one (h o s Z H Q I hw)
theorem Ig(f:PE X a ta)(d:PE X (.BoolOp .And (b::r8) pos) tb):PE X (.BoolOp .And (a::b::r8) pos) (MX ta tb):=by
 intro o s Z H Q I h;refine BoolOp_and (cB (f o s Z H _ I h) fun v g x U J e C=> ?_)
 obtain⟨c,rfl,C⟩:=C
 cases e
 refine OT ?_
 cases c with
 | true=>exact d o g Z U Q J C
 | false=>exact⟨.bl false,U,J,rfl,C⟩
theorem ya(f:PE X a ta)(d:PE X (.BoolOp .Or (b::r8) pos) tb):PE X (.BoolOp .Or (a::b::r8) pos) (NP ta tb):=by
 intro o s Z H Q I h;refine BoolOp_or (cB (f o s Z H _ I h) fun v g x U J e C=> ?_)
 obtain⟨c,rfl,C⟩:=C
 cases e
 refine OT ?_
 cases c with
 | false=>exact d o g Z U Q J C
 | true=>exact⟨.bl true,U,J,rfl,C⟩
def tIf(t:TT)(ta tb:TE):TE:=fun Z H Q=>t Z H fun c o=>if c=true then ta Z o Q else tb Z o Q
theorem wC{c:Expr}(i:PT X c tA)(g:PE X a ta)(f:PE X b tb):PE X (.IfExp c a b pos) (tIf tA ta tb):=by
 intro o s Z H Q I h;refine wpAny_IfExp (DS (i o s Z H _ I h) fun d e J C U=> ?_)
 cases d with
 | true=>exact g o e Z J Q C U
 | false=>exact f o e Z J Q C U
end
def SqL(K:Frag)(H:Hp)(a:Addr)(xs:List V):Prop:=
 Rd H a (.lst xs)\/
  ∃(o:Obj) (C:Array Value) (n:Nat),K.lookup a=some o/\o.cls= .type "list"/\o.dict=none/\o.data= .seq C n/\C.size<=sizeLine/\bj xs C.toList
def SqT(K:Frag)(H:Hp)(a:Addr)(xs:List V):Prop:=
 Rd H a (.tup xs)\/
  ∃(o:Obj) (C:Array Value) (n:Nat),K.lookup a=some o/\o.cls= .type "tuple"/\o.data= .seq C n/\C.size<=sizeLine/\bj xs C.toList
noncomputable def M_:Value->Option V
 | .none=>some .non
 | .bool b=>some (.bl b)
 | .int i _=>some (.int i)
 | .str x _=>some (.str x)
 | .bytes b _=>some (.byt b)
 | .float b _=>some (.flt b)
 | .ref a=>some (.ref a)
 | .type n=>some (.ty n)
 | _=>none
theorem bz.abs{x:V}{u:Value}(r:bz x u):M_ u=some x:=by
 cases x with
 | non=>cases r;rfl
 | bl _=>cases r;rfl
 | int _=>obtain⟨t,rfl⟩:=r;rfl
 | str _=>obtain⟨t,rfl⟩:=r;rfl
 | byt _=>obtain⟨t,rfl⟩:=r;rfl
 | flt _=>obtain⟨t,rfl⟩:=r;rfl
 | ref _=>cases r;rfl
 | ty _=>cases r;rfl
theorem bz.inj{x y:V}{u:Value}(r:bz x u)(q:bz y u):x=y:=N_ (r.abs.symm.trans q.abs)
theorem bj.inj:∀{xs ys:List V}{us:List Value},bj xs us->bj ys us->xs=ys
 | _,_,_,.nil,.nil=>rfl
 | _,_,_,.cons r t,.cons r' t'=>by rw[r.inj r',bj.inj t t']
section
variable {X : Cx} {pins : List (Addr × Obj)} {σ : St} {H : Hp} {s : Shared} {a : Addr} {xs ys : List V}
theorem SqL.of{K:Frag}(h:H a=some (.lst xs)):SqL K H a xs:= .inl (.inl h)
theorem SqT.of{K:Frag}(h:H a=some (.tup xs)):SqT K H a xs:= .inl (.inl h)
theorem Inv.list(I:Inv X pins Z H s)(h:SqL X.K H a xs):∃C:List Value,bj xs C/\PlainL s.heap a C.toArray/\xs.length<=sizeLine:=by
 rcases h with h | ⟨o,C,n,hk,hc,hd,hs,hz,r⟩
 .obtain⟨z,C,n,r,e⟩:=h.ok I.hok;exact⟨C,r,⟨_,n,e,rfl,rfl,rfl⟩,z⟩
 .refine⟨C.toList,r,⟨o,n,I.kIn a o hk,hc,hd,by simpa using hs⟩,?_⟩
  have e:=r.length
  simp only[Qs] at e
  lia
theorem Inv.tuple(I:Inv X pins Z H s)(h:SqT X.K H a xs):∃C:List Value,bj xs C/\IsTup s.heap a C.toArray/\xs.length<=sizeLine:=by
 rcases h with h | ⟨o,C,n,hk,hc,hs,hz,r⟩
 .obtain⟨z,C,r,p⟩:=h.ok I.hok;exact⟨C,r,p,z⟩
 .refine⟨C.toList,r,⟨o,I.kIn a o hk,hc,n,by simpa using hs⟩,?_⟩
  have e:=r.length
  simp only[Qs] at e
  lia
theorem Inv.list_inj(I:Inv X pins Z H s)(h:SqL X.K H a xs)(h':SqL X.K H a ys):xs=ys:=by
 obtain⟨J,r,⟨o,n,e,_,_,d⟩,_⟩:=I.list h;obtain⟨C,c,⟨f,g,b,_,_,U⟩,_⟩:=I.list h';rw[e] at b;cases b;rw[d] at U
 injection U with d1 _
 have:J=C:=by simpa using congrArg Array.toList d1
 subst this;exact r.inj c
theorem Inv.tuple_inj(I:Inv X pins Z H s)(h:SqT X.K H a xs)(h':SqT X.K H a ys):xs=ys:=by
 obtain⟨J,r,⟨o,e,_,n,d⟩,_⟩:=I.tuple h;obtain⟨C,c,⟨f,b,_,g,U⟩,_⟩:=I.tuple h';rw[e] at b;cases b;rw[d] at U
 injection U with d1 _
 have:J=C:=by simpa using congrArg Array.toList d1
 subst this;exact r.inj c
end
noncomputable abbrev Cx.wish(X:Cx)(E:Value->Shared->Prop):Cx:={X with xe:=E}
noncomputable abbrev Cx.nox(X:Cx):Cx:=X.wish fun _ _=>False
theorem Cx.Ok.wish{X:Cx}(ok:X.Ok)(E:Value->Shared->Prop):(X.wish E).Ok:=
 ⟨ok.mod,ok.kind,ok.glob,ok.blt,ok.above,ok.inj,ok.has,ok.cab,ok.hd,ok.frames,ok.stk,ok.exf,ok.bs,ok.bsz,ok.noex,ok.exfs,ok.funs,ok.frf⟩
theorem Cx.Ok.unwish{X:Cx}{E:Value->Shared->Prop}(ok:(X.wish E).Ok):X.Ok:=
 ⟨ok.mod,ok.kind,ok.glob,ok.blt,ok.above,ok.inj,ok.has,ok.cab,ok.hd,ok.frames,ok.stk,ok.exf,ok.bs,ok.bsz,ok.noex,ok.exfs,ok.funs,ok.frf⟩
section
variable {X : Cx} {pins : List (Addr × Obj)} {σ : St} {H : Hp} {s : Shared} {E : Value → Shared → Prop}
theorem Inv.wish(I:Inv X pins Z H s)(E:Value->Shared->Prop):Inv (X.wish E) pins Z H s:=⟨I.ok.wish E,I.os,I.bare,I.base,I.loc,I.cell,I.free,I.freeC,I.pin,I.hok,I.len⟩
theorem Inv.unwish(I:Inv (X.wish E) pins Z H s):Inv X pins Z H s:=⟨I.ok.unwish,I.os,I.bare,I.base,I.loc,I.cell,I.free,I.freeC,I.pin,I.hok,I.len⟩
theorem SP.unwish{D:vD}{f:Flow}{J:Shared}(h:SP (X.wish E) pins D f J):SP X pins D f J:=by
 cases f with
 | next=>obtain⟨C,o,I,q⟩:=h;exact⟨C,o,I.unwish,q⟩
 | brk=>obtain⟨C,o,I,q⟩:=h;exact⟨C,o,I.unwish,q⟩
 | cont=>obtain⟨C,o,I,q⟩:=h;exact⟨C,o,I.unwish,q⟩
 | ret u=>obtain⟨v,C,o,I,r,q⟩:=h;exact⟨v,C,o,I.unwish,r,q⟩
theorem PE.nox{e:Expr}{t:TE}(h:PE X.nox e t):PE X e t:=fun pins s Z H Q I hw=>
 OS (h pins s Z H Q (I.wish _) hw) (fun _ _ ⟨v,o,C,r,q⟩=>⟨v,o,C.unwish,r,q⟩) fun _ _ z=>False.elim z
theorem PSs.nox{st:List Stmt}{t:TS}(h:PSs X.nox st t):PSs X st t:=fun pins s Z H D I hw=>
 OS (h pins s Z H D (I.wish _) hw) (fun _ _ q=>q.unwish) fun _ _ z=>False.elim z
end
section
variable {X : Cx} {st : Stmt} {r8 : List Stmt} {t u : TS} {e : Expr} {te : TE} {pos : Pos}
def L4:TS:=fun D Z H=>D.nx Z H
def Mm(t u:TS):TS:=fun D Z H=>t {D with nx:=u D} Z H
theorem al:PSs X [] L4:=fun _ _ Z H _ I h=>Qm ⟨Z,H,I,h⟩
theorem aa(U:PS X st t)(J:PSs X r8 u):PSs X (st::r8) (Mm t u):=by
 intro o s Z H D I h;refine wpAny_execs_cons (thn (U o s Z H {D with nx:=u D} I h) fun f b q=> ?_)
 cases f with
 | next=>
  obtain⟨c,C,a,q⟩:=q;exact J o b c C D a q
 | ret v=>exact q
 | brk=>exact q
 | cont=>exact q
theorem af(C:PS X st t):PSs X [st] t:=by
 intro o s Z H D I h;refine wpAny_execs_cons (thn (C o s Z H D I h) fun f J q=> ?_)
 cases f with
 | next=>exact Qm q
 | ret v=>exact q
 | brk=>exact q
 | cont=>exact q
theorem Inv.quiet{o:List (Addr × Obj)}{Z:St}{H:Hp}{s:Shared}(I:Inv X o Z H s):interactive X.env=false:=by simp [interactive,I.ok.kind]
def Md(te:TE):TS:=fun D Z H=>te Z H fun _ o=>D.nx Z o
theorem bP(a:PE X e te)(hs:swapsWith e none pos.line X.env=pure false:=by rfl):PS X (.Expr e pos) (Md te):=by
 intro o s Z H D I h;exact wpAny_Expr_any (cB (a o s Z H _ I h) fun v c x J C b U=>⟨Z,J,C,U⟩) I.quiet hs
def Nd(te:TE):TS:=fun D Z H=>te Z H D.rt
theorem ai(b:PE X e te):PS X (.Return (some e) pos) (Nd te):=by
 intro o s Z H D I h;exact wpAny_Return_some (cB (b o s Z H _ I h) fun v c x J C U a=>⟨x,Z,J,C,U,a⟩)
def NS(c:TT)(t u:TS):TS:=fun D Z H=>c Z H fun b o=>if b=true then t D Z o else u D Z o
theorem ay{c:Expr}{a b:List Stmt}{g:TT}(j:PT X c g)(i:PSs X a t)(l:PSs X b u):PS X (.If c a b pos) (NS g t u):=by
 intro o s Z H D I h;refine wpAny_If (DS (j o s Z H _ I h) fun d J C U f=> ?_)
 cases d with
 | true=>exact i o J Z C D U f
 | false=>exact l o J Z C D U f
def Lg:TS:=fun _ _ _=>False
theorem sT:PS X st Lg:=fun _ _ _ _ _ _ h=>h.elim
end
abbrev TG:=V->St->Hp->(St->Hp->Prop)->Prop
abbrev TGs:=List V->St->Hp->(St->Hp->Prop)->Prop
def PG(X:Cx)(o:Expr)(t:TG):Prop:=
 ∀(C:List (Addr × Obj)) (s:Shared) (Z:St) (H:Hp) (v:V) (u:Value) (Q:St->Hp->Prop),Inv X C Z H s->bz v u->t v Z H Q->
  wpAny (model X.prog X.w) X.A (assign o X.env u) (fun _ U=>∃J I,Inv X C J I U/\Q J I) X.xe s
def PGs(X:Cx)(b:List Expr)(t:TGs):Prop:=
 ∀(o:List (Addr × Obj)) (s:Shared) (Z:St) (H:Hp) (I:List V) (J:List Value) (Q:St->Hp->Prop),Inv X o Z H s->bj I J->t I Z H Q->
  wpAny (model X.prog X.w) X.A (assignInOrder ((assignEach b X.env).map (·.2)) J) (fun _ a=>∃U C,Inv X o U C a/\Q U C) X.xe s
abbrev LJ:=V->V->V->Hp->(Hp->Prop)->Prop
def MZ(X:Cx)(t:LJ):Prop:=
 ∀(C:List (Addr × Obj)) (s:Shared) (Z:St) (H:Hp) (o i v:V) (J U u:Value) (Q:Hp->Prop),Inv X C Z H s->bz o J->bz i U->bz v u->t o i v H Q->
  wpAny (model X.prog X.w) X.A (setItem J U u) (fun _ a=>∃I,Inv X C Z I a/\Q I) X.xe s
section
variable {X : Cx} {pos : Pos}
def D4(i:Nat):TG:=fun v Z H Q=>Q (Z.set i (some v)) H
theorem aR{i:Nat}{x:Str}(b:X.N.Nodup)(U:X.N[i]? =some x)(C:Loc X.env.scope x)(J:X.fn x=true\/X.env.scope.names.lookup x=some .local:=by first | exact .inl rfl | exact .inr rfl | assumption):PG X (.Name x pos) (D4 i):=by
 intro o s Z H v u Q I r h;exact wpAny_assign_Name (C4 I b U C r (fun c a=>⟨_,H,a,h⟩) J)
def NR:TGs:=fun o Z H Q=>o=[]/\Q Z H
def L7(t:TG)(u:TGs):TGs:=fun C Z H Q=>∃v r,C=v::r/\t v Z H fun I o=>u r I o Q
theorem nJ:PGs X [] NR:=by
 intro o s Z H C J Q I r h;obtain⟨e,h⟩:=h;subst e
 cases r
 exact assignInOrder_nil ⟨Z,H,I,h⟩
theorem cj{e:Expr}{C:List Expr}{t:TG}{u:TGs}(b:PG X e t)(c:PGs X C u)
  (hs:(assignEach (e::C) X.env).map (·.2)=assign e X.env::(assignEach C X.env).map (·.2):=by rfl):PGs X (e::C) (L7 t u):=by
 intro o s Z H i l Q I r h;obtain⟨v,j,f,h⟩:=h;subst f
 cases r with
 | cons r rr=>
  rw[hs];refine assignInOrder_cons (M4 (b o s Z H _ _ _ I r h) fun _ U g J a d=> ?_)
  exact c o U g J _ _ Q a rr d
def Np(K:Frag)(n:Nat)(t:TGs):TG:=fun v Z H Q=>∃a o,v= .ref a/\SqT K H a o/\o.length=n/\t o Z H Q
theorem rN{J:List Expr}{k:Nat}{t:TGs}{n:Nat}(p:X.calm=true)(h:PGs X J t)
  (m:(assignEach J X.env).length=n:=by rfl) (U:(assignEach J X.env).findIdx? (·.1)=none:=by rfl):PG X (.Tuple J k pos) (Np X.K n t):=by
 intro C s Z H v u Q I r hw;obtain⟨a,f,q,x,l,hw⟩:=hw;subst q
 cases r
 obtain⟨d,c,w,y⟩:=I.tuple x;refine assign_Tuple_tuple (I.ok.hd p) w (by simp [m, <-l,c.length]) U fun g j=> ?_
 have i:Inv X C Z H {s with heap:=g}:=I.kept (t':=s.toks) fun b o e=>j b o (Om (N5 e)) e
 exact h C _ Z H f _ Q i (by simpa using c) hw
def NM(I a:TE)(t:LJ):TG:=fun v Z H Q=>I Z H fun o J=>a Z J fun i U=>t o i v U fun C=>Q Z C
theorem kJ{o i:Expr}{b a:TE}{t:LJ}(ho:PE X o b)(w:PE X i a)(hs:MZ X t)
  (f:∀v,assign (.Subscript o i pos) X.env v=(do
   let J <-holding [v] (eval o X.env)
   let U <-holding [v,J] (eval i X.env)
   standAt pos
   holding [v,J,U] (setItem J U v)
   release [v,J,U] []):=by intro _;rfl):PG X (.Subscript o i pos) (NM b a t):=by
 intro C s Z H v u Q I r h;rw[f];refine gV (Qh (cB (ho C s Z H _ I h) fun J g x d l B A=> ?_))
 refine gV (Qh (cB (w C g Z d _ l A) fun U m y e q z p=> ?_))
 refine gV (Ry (gV (Qh (DS (hs C m Z e x y v J U u _ q B z r p) fun _ D c n j=> ?_))))
 exact wpAny_release ⟨Z,c,n,j⟩
def JY(C:TE)(g:TG):TS:=fun D Z H=>C Z H fun x o=>g x Z o D.nx
theorem gX{C e:Expr}{J:TE}{g:TG}(j:PE X e J)(f:PG X C g)(hs:swapsWithSole [C] e pos.line X.env=pure false:=by rfl)(hw:swappedStores [C] e X.env=pure none:=by rfl)
  (c:(assignEach [C] X.env).map (·.2)=[assign C X.env]:=by rfl):PS X (.Assign [C] e pos) (JY J g):=by
 intro o s Z H D I h;refine wpAny_Assign_stores (cB (j o s Z H _ I h) fun v a x U b i d=> ?_) hs hw
 rw[c];exact thn (f o a Z U x v _ b i d) fun _ l q=>q
theorem LB{i:Nat}{x:Str}{e:Expr}{J:TE}{o:Pos}(m:X.N.Nodup)(f:X.N[i]? =some x)(c:Loc X.env.scope x)(l:PE X e J)(hs:swapsWith e (some (.Name x o)) pos.line X.env=pure false:=by rfl)(U:X.fn x=true\/X.env.scope.names.lookup x=some .local:=by first | exact .inl rfl | exact .inr rfl | assumption):
  PS X (.Assign [.Name x o] e pos) (JY J (D4 i)):=by
 intro C s Z H D I h;refine wpAny_Assign_Name (cB (l C s Z H _ I h) fun v n y a b j g=> ?_) hs
 exact C4 b m f c j (fun p d=>⟨_,a,d,g⟩) U
end
section
variable {X : Cx} {pos : Pos}
def Lw(c:TT)(U:TS):TS:=fun D Z H=>∃W:Nat->St->Hp->Prop,(∃m,W m Z H)/\∀m Z H,W m Z H->
 c Z H fun b C=>if b=true then ∃N:St->Hp->Prop,(∀I o,N I o->∃J,J<m/\W J I o)/\U {D with nx:=N,ct:=N,bk:=D.nx} Z C else D.nx Z C
theorem kc{c:Expr}{C:List Stmt}{y:TT}{u:TS}(p:PassesOwn (model X.prog X.w) X.A X.env X.xe)(O:PT X c y)(P:PSs X C u):PS X (.While c C [] pos) (Lw y u):=by
 intro o s Z H D I h;obtain⟨W,⟨K,F⟩,turn⟩:=h;refine wpAny_While (codeAny_whileLoop (fun n M=>∃x q,Inv X o x q M/\W n x q) ?_ K ⟨Z,H,I,F⟩)
 rintro n B ⟨e,l,E,L⟩
 refine Pe p (DS (O o B e l _ E (turn n e l L)) fun b G m r d=> ?_)
 cases b with
 | true=>
  obtain⟨N,z,d⟩:=d;rw[NV rfl];refine Pe p (thn (P o G e m _ r d) fun f Q a=> ?_)
  cases f with
  | next=>
   obtain⟨U,J,i,n3⟩:=a;obtain⟨g,hm,j⟩:=z U J n3;exact⟨g,hm,U,J,i,j⟩
  | cont=>
   obtain⟨U,J,i,n3⟩:=a;obtain⟨g,hm,j⟩:=z U J n3;exact⟨g,hm,U,J,i,j⟩
  | brk=>exact a
  | ret v=>exact a
 | false=>
  rw[fI Oa];exact Qm ⟨e,m,r,d⟩
end
structure It where
 go:Nat->Hp->Prop
 yld:Nat->Hp->V->Hp->Prop
 stop:Nat->Hp->Prop
def uF(X:Cx)(o:List (Addr × Obj))(H:Hp)(b:Addr):Prop:=
 H b=none/\b≠X.env.locals/\b ∉ X.fs/\(b∈X.ex\/X.s₀.heap.objs.size<=b)/\(∀x c,X.env.cells.lookup x=some c->c≠b)/\∀p∈X.pn++o,p.1≠b
theorem Inv.fpOk{X:Cx}{o:List (Addr × Obj)}{Z:St}{H J:Hp}{s:Shared}{b:Addr}(I:Inv X o Z H s)(C:s.heap.objs.size<=b)(U:J b=none):uF X o J b:=by
 refine⟨U,Pw (N8 I.lt C),I.nofs C,.inr (Oc I.sz C),fun x c e z=> ?_,fun p a z=> ?_⟩
 .obtain⟨v,q⟩:=I.cell x c e;exact absurd (N8 q.lt (by rw[z];exact C)) (O9 _)
 .exact absurd (N8 (N5 (I.pin p a).1) (by rw[z];exact C)) (O9 _)
structure Dl (P:Program) (w:World) (K:Frag) (tg:Expr) (J:It) (fp:List Addr) (it:Addr) (tn:Nat->Heap->Prop):Prop where
 mem:it∈fp
 obj:∀i h,tn i h->∀b∈fp, ∃o,h.get? b=some o/\∀v,o.data≠ .cell v
 keep:∀i h h',tn i h->(∀b∈fp, ∀o,h.get? b=some o->h'.get? b=some o)->tn i h'
 item:∀(X:Cx),X.prog=P->X.w=w->X.K=K->X.calm=true->∀(i:Nat) (pins:List (Addr × Obj)) (s:Shared) (Z:St) (H:Hp) (E:Value->Shared->Prop),Inv X pins Z H s->(∀b∈fp,uF X pins H b)->tn i s.heap->J.go i H->
  wpAny (model P w) X.A (pyNext (.ref it)) (fun r s1=>∃u,r=some u/\
   wpAny (model P w) X.A (letOwnedTupleGo tg (.ref it) u) (fun _ s2=>∃x H',Inv X pins Z H' s2/\bz x u/\J.yld i H x H'/\tn (i+1) s2.heap/\∀b∈fp,H' b=none) E s1) E s
 done:∀(X:Cx),X.prog=P->X.w=w->X.K=K->X.calm=true->∀(i:Nat) (pins:List (Addr × Obj)) (s:Shared) (Z:St) (H:Hp) (E:Value->Shared->Prop),Inv X pins Z H s->(∀b∈fp,uF X pins H b)->tn i s.heap->J.stop i H->
  wpAny (model P w) X.A (pyNext (.ref it)) (fun r s1=>r=none/\Inv X pins Z H s1) E s
 self:∀(A:Around) (i:Nat) (s:Shared) (Q:Value->Shared->Prop) (E:Value->Shared->Prop),tn i s.heap->Q (.ref it) s->wpAny (model P w) A (pyIter (.ref it)) Q E s
abbrev TI:=St->Hp->(It->Hp->Prop)->Prop
def PIE(X:Cx)(o:List (Addr × Obj))(Z:St)(e:Expr)(R:It->Hp->Prop)(I:Value)(a:Shared):Prop:=
 ∃(c:Addr) (d:List Addr) (U:Nat->Heap->Prop) (J:It) (C:Hp),I= .ref c/\Inv X o Z C a/\Dl X.prog X.w X.K e J d c U/\U 0 a.heap/\(∀b∈d,uF X o C b)/\R J C
def PI(X:Cx)(J C:Expr)(I:TI):Prop:=
 ∀(o:List (Addr × Obj)) (s:Shared) (Z:St) (H:Hp) (R:It->Hp->Prop),Inv X o Z H s->I Z H R->
  wpAny (model X.prog X.w) X.A (eval C X.env) (fun v U=>wpAny (model X.prog X.w) X.A (pyIter v) (PIE X o Z J R) X.xe U) X.xe s
theorem Fi{M : Model}{A : Around}{E : Value → Shared → Prop}{s : Shared}{I : Expr}{it : Addr}{u : Value}{o : Obj}{n : String}{vs : Array Value}{Q : Unit → Shared → Prop}(ho : s.heap.get? it = some o)(U : o.cls = .type n)(hd : o.data = .fields vs)
    (J : ["enumerate", "zip", "dict_itemiterator", "dict_reverseitemiterator", "odict_iterator", "itertools.zip_longest", "itertools.pairwise"].contains n = false) (C : Q () s) : wpAny M A (letOwnedTupleGo I (.ref it) u) Q E s := by
  unfold letOwnedTupleGo
  cases I <;> first
    | exact Ob C
    | (cases u <;> first
        | exact Ob C
        | (refine gV (wpAny_load ho ?_)
           rw[U, hd]
           show wpAny M A (if (["enumerate", "zip", "dict_itemiterator", "dict_reverseitemiterator", "odict_iterator", "itertools.zip_longest", "itertools.pairwise"].contains n && vs[0]? == some (rawInt _)) = true then _ else _) Q E s
           rw[fI (by intro h; rw[J, Rh] at h; cases h)]
           exact Ob C))
noncomputable def Itl(K:Frag)(a:Addr):It:=
 ⟨fun i H=>∃o x,SqL K H a o/\o[i]? =some x,fun i H x C=>C=H/\∀o,SqL K H a o->o[i]? =some x,fun i H=>∃o,SqL K H a o/\o.length<=i⟩
noncomputable def Itt(K:Frag)(a:Addr):It:=
 ⟨fun i H=>∃o x,SqT K H a o/\o[i]? =some x,fun i H x C=>C=H/\∀o,SqT K H a o->o[i]? =some x,fun i H=>∃o,SqT K H a o/\o.length<=i⟩
noncomputable def Itr(lo:Int)(n:Nat):It:=⟨fun i _=>i<n,fun i H x o=>o=H/\x= .int (lo+i),fun i _=>n<=i⟩
theorem F6{P:Program}{w:World}{K:Frag}{N:Expr}(a it:Addr):Dl P w K N (Itl K a) [it] it (fun i h=>h.IsListIter it a i) where
 mem:=by simp
 obj:=fun i h st b J=>by
  have e:b=it:=by simpa using J
  subst e;obtain⟨o,e,c,d⟩:=st;exact⟨o,e,fun v z=>by rw[d] at z;cases z⟩
 keep:=fun i h g st k=>st.at fun o e=>k it (by simp) o e
 item:=by
  intro X m hw y A i C s Z H E I f st r;subst m hw y;obtain⟨D,x,j,n⟩:=r;obtain⟨l,q,p,F⟩:=I.list j;obtain⟨u,L,B⟩:=q.get n;obtain⟨f0,f1,f2,f3,f4,f5⟩:=f it (by simp)
  refine wpAny_pyNext_list_item st p.isList (x:=u) (by simpa using L) fun g U Q=> ?_
  have G:Inv X C Z H {s with heap:=g}:=I.turned (t':=s.toks) (fun b o J e=>(Q.2 b J).trans e) f0 f1 f3 f4 f5
  obtain⟨o,e,c,d⟩:=id U;exact⟨u,rfl,Fi (s:={s with heap:=g}) e c d (by decide) ⟨x,H,G,B,⟨rfl,fun R O=>by rw[I.list_inj O j];exact n⟩,U,fun b J=>(f b J).1⟩⟩
 done:=by
  intro X m hw y A i C s Z H E I f st r;subst m hw y;obtain⟨D,j,n⟩:=r;obtain⟨l,q,p,F⟩:=I.list j;obtain⟨f0,f1,f2,f3,f4,f5⟩:=f it (by simp)
  have S:=q.length;exact wpAny_pyNext_list_end (I.ok.hd A) st p.isList (by simp;lia) fun g M=>⟨rfl,I.turned (t':=s.toks) (fun b o J e=>M b o J e) f0 f1 f3 f4 f5⟩
 self:=fun _ _ _ _ _ st h=>wpAny_pyIter_listiter st h
theorem EA{P:Program}{w:World}{K:Frag}{N:Expr}(a it:Addr):Dl P w K N (Itt K a) [it] it (fun i h=>h.IsTupleIter it a i) where
 mem:=by simp
 obj:=fun i h st b U=>by
  have e:b=it:=by simpa using U
  subst e;obtain⟨o,e,c,d⟩:=st;exact⟨o,e,fun v z=>by rw[d] at z;cases z⟩
 keep:=fun i h j st k=>st.at fun o e=>k it (by simp) o e
 item:=by
  intro X m hw y A i C s Z H E I g st r;subst m hw y;obtain⟨D,x,l,n⟩:=r;obtain⟨J,q,p,F⟩:=I.tuple l;obtain⟨u,L,B⟩:=q.get n;obtain⟨f0,f1,f2,f3,f4,f5⟩:=g it (by simp)
  refine wpAny_pyNext_tuple_item st (show s.heap.IsTuple a J.toArray from p) (x:=u) (by simpa using L) fun j f Q=> ?_
  have G:Inv X C Z H {s with heap:=j}:=I.turned (t':=s.toks) (fun b o U e=>(Q.2 b U).trans e) f0 f1 f3 f4 f5
  obtain⟨o,e,c,d⟩:=id f;exact⟨u,rfl,Fi (s:={s with heap:=j}) e c d (by decide) ⟨x,H,G,B,⟨rfl,fun R O=>by rw[I.tuple_inj O l];exact n⟩,f,fun b U=>(g b U).1⟩⟩
 done:=by
  intro X m hw y A i C s Z H E I g st r;subst m hw y;obtain⟨D,l,n⟩:=r;obtain⟨J,q,p,F⟩:=I.tuple l;obtain⟨f0,f1,f2,f3,f4,f5⟩:=g it (by simp)
  have S:=q.length;exact wpAny_pyNext_tuple_end (I.ok.hd A) st (show s.heap.IsTuple a J.toArray from p) (by simp;lia) fun j M=>⟨rfl,I.turned (t':=s.toks) (fun b o U e=>M b o U e) f0 f1 f3 f4 f5⟩
 self:=fun _ _ _ _ _ st h=>wpAny_pyIter_tupleiter st h
theorem Ei{P:Program}{w:World}{K:Frag}{x:Expr}(it:Addr)(lo:Int)(n:Nat):Dl P w K x (Itr lo n) [it] it (fun i h=>IsRangeIter h it (lo+(i:Nat)*1) ((n:Int) - (i:Nat)) 1) where
 mem:=by simp
 obj:=fun i h st b J=>by
  have e:b=it:=by simpa using J
  subst e
  exact⟨_,st,fun v z=>by
   have q:Data.fields _=Data.cell v:=z
   cases q⟩
 keep:=fun i h c st k=>k it (by simp) _ st
 item:=by
  intro X d hw j f i C s Z H E I a st g;subst d hw j;obtain⟨f0,f1,f2,f3,f4,f5⟩:=a it (by simp)
  have W:=Walks.range (prog:=X.prog) (w:=X.w) (I.ok.hd f) it lo 1 n;refine W.item i s _ _ g st fun v c l u U m=> ?_
  obtain⟨t,rfl⟩:=u;have p:Inv X C Z H {s with heap:=c,toks:=l}:=I.turned (fun b o J e=>m b o (by simpa using J) e) f0 f1 f3 f4 f5
  refine⟨_,rfl,Fi (s:={s with heap:=c,toks:=l}) (n:="range_iterator") U rfl rfl (by decide) ⟨.int (lo+i),H,p,⟨t,?_⟩,⟨rfl,rfl⟩,U,fun b J=>(a b J).1⟩⟩
  rw[Int.mul_one]
 done:=by
  intro X d hw j f i C s Z H E I a st g;subst d hw j;obtain⟨f0,f1,f2,f3,f4,f5⟩:=a it (by simp)
  exact wpAny_pyNext_range_end (I.ok.hd f) st (by have:n<=i:=g;lia) fun c r=>⟨rfl,I.turned (t':=s.toks) (fun b o J e=>r b o J e) f0 f1 f3 f4 f5⟩
 self:=fun _ _ _ _ _ st h=>wpAny_pyIter_rangeiter st h
section
variable {X : Cx} {tg : Expr}
def Mh(K:Frag)(C:TE):TI:=fun Z H R=>C Z H fun x o=>∃a,x= .ref a/\(∃I,SqL K o a I)/\R (Itl K a) o
def Nu(K:Frag)(C:TE):TI:=fun Z H R=>C Z H fun x o=>∃a,x= .ref a/\(∃I,SqT K o a I)/\R (Itt K a) o
theorem tO{l:Expr}{c:TE}(g:PE X l c):PI X tg l (Mh X.K c):=by
 intro C s Z H R I h;refine cB (g C s Z H _ I h) fun v J x d U m j=> ?_
 obtain⟨a,e,⟨r,n⟩,q⟩:=j;subst e
 cases m
 obtain⟨f,w,p,u⟩:=U.list n;refine wpAny_pyIter_list p.isList ?_
 refine⟨J.heap.objs.size,[J.heap.objs.size],_,_,d,rfl,U.kept (t':=J.toks) fun b o e=>NU _ e,F6 a _,⟨_,Ol _ rfl,rfl,rfl⟩,fun b i=> ?_,q⟩
 have e:b=J.heap.objs.size:=by simpa using i
 subst e;exact U.fpOk (NW _) (U.hok.fresh (NW _))
theorem o7{l:Expr}{d:TE}(g:PE X l d):PI X tg l (Nu X.K d):=by
 intro J s Z H R I h;refine cB (g J s Z H _ I h) fun v C x f U m j=> ?_
 obtain⟨a,e,⟨r,n⟩,q⟩:=j;subst e
 cases m
 obtain⟨c,w,p,u⟩:=U.tuple n;refine wpAny_pyIter_tuple (show C.heap.IsTuple a c.toArray from p) ?_
 refine⟨C.heap.objs.size,[C.heap.objs.size],_,_,f,rfl,U.kept (t':=C.toks) fun b o e=>NU _ e,EA a _,⟨_,Ol _ rfl,rfl,rfl⟩,fun b i=> ?_,q⟩
 have e:b=C.heap.objs.size:=by simpa using i
 subst e;exact U.fpOk (NW _) (U.hok.fresh (NW _))
theorem Ha{J:List (Addr × Obj)}{Z:St}{H:Hp}{s:Shared}{R:It->Hp->Prop}{E:Value->Shared->Prop}{lo C:Int}{t u v:Tok}{a:Nat}(I:Inv X J Z H s)(d: -(2^62)<=lo)(f:lo<2^62)(g: -(2^62)<=C)(j:C<2^62)
  (q:R (Itr lo (C - lo).toNat) H):wpAny (model X.prog X.w) X.A (pyIter (.ref s.heap.objs.size)) (PIE X J Z tg R) E {s with heap:=s.heap.push {cls:= .type "range",data:= .fields #[.int lo t,.int C u,.int 1 v]},toks:=a}:=by
 refine wpAny_pyIter_range (IsRange.new ..) (small_one d f g j) ?_
 have U:Inv X J Z H {s with heap:=s.heap.push {cls:= .type "range",data:= .fields #[.int lo t,.int C u,.int 1 v]},toks:=a}:=I.kept fun b o e=>NU _ e
 refine⟨(s.heap.push {cls:= .type "range",data:= .fields #[.int lo t,.int C u,.int 1 v]}).objs.size,[(s.heap.push {cls:= .type "range",data:= .fields #[.int lo t,.int C u,.int 1 v]}).objs.size],_,_,H,rfl,
  U.kept (t':=a) fun b o e=>NU _ e,Ei _ lo (C - lo).toNat,?_,fun b i=> ?_,q⟩
 .have e1:lo+((0:Nat):Int)*1=lo:=by simp
  have c:(((C - lo).toNat:Nat):Int) - ((0:Nat):Int)=Builtin.Range.rangeSize lo C 1:=by rw[rangeSize_one];split <;> lia
  show IsRangeIter _ _ (lo+((0:Nat):Int)*1) ((((C - lo).toNat:Nat):Int) - ((0:Nat):Int)) 1
  rw[e1,c];exact Ol _ rfl
 .have e:b=(s.heap.push {cls:= .type "range",data:= .fields #[.int lo t,.int C u,.int 1 v]}).objs.size:=by simpa using i
  subst e;exact U.fpOk (NW _) (U.hok.fresh (NW _))
def Mu(I:TA):TI:=fun Z H R=>I Z H fun C o=>∃j:Int,C=[.int j]/\ -(2^62)<=j/\j<2^62/\R (Itr 0 j.toNat) o
theorem dt{a:Expr}{U:TA}{p C:Pos}(f:Gl X "range")(hm:X.mg "range"=none)(b:PA X [a] U)(hs:starEach [a] X.env=[(false,eval a X.env)]:=by rfl):PI X tg (.Call (.Name "range" p) [a] [] C) (Mu U):=by
 intro o s Z H R I h;refine Call_ (xc I f hm boot_range (O8 (cB (b C o s Z H _ I h) fun n m l i c g J=> ?_) hs rfl))
 obtain⟨j,e,J,d,q⟩:=J;subst e
 cases g with
 | cons r rr=>
  cases rr
  obtain⟨t,rfl⟩:=r;exact call_range_1 (Ha c (by lia) (by lia) J d (by simpa using q))
def Nb(c:TI)(g:TG)(d:TS):TS:=fun D Z H=>c Z H fun J a=>∃W:Nat->Nat->St->Hp->Prop,(∃m,W 0 m Z a)/\∀i m Z H,W i m Z H->
 (J.stop i H/\D.nx Z H)\/(J.go i H/\∃N:St->Hp->Prop,(∀C o,N C o->∃I,I<m/\W (i+1) I C o)/\∀x o,J.yld i H x o->g x Z o fun U b=>d {D with nx:=N,ct:=N,bk:=D.nx} U b)
noncomputable def AQ(C:List Addr)(h:Heap):List (Addr × Obj):=C.filterMap fun b=>(h.get? b).map fun o=>(b,o)
theorem mU{C:List Addr}{h:Heap}{b:Addr}{o:Obj}(I:b∈C)(e:h.get? b=some o):(b,o)∈AQ C h:=Px.mpr ⟨b,I,by rw[e];rfl⟩
theorem GB{C:List Addr}{h:Heap}{p:Addr × Obj}(J:p∈AQ C h):p.1∈C/\h.get? p.1=some p.2:=by
 obtain⟨b,I,e⟩:=Px.mp J
 cases q:h.get? b with
 | none=>rw[q] at e;cases e
 | some o=>
  rw[q] at e;have U:(b,o)=p:=N_ e;subst U;exact⟨I,q⟩
theorem Inv.pinned{C:List (Addr × Obj)}{Z:St}{H:Hp}{s:Shared}{J:List Addr}(I:Inv X C Z H s)(c:∀b∈J,uF X C H b)(ho:∀b∈J, ∃o,s.heap.get? b=some o/\∀v,o.data≠ .cell v):Inv X (C++AQ J s.heap) Z H s:=
 I.pins_of fun p f=>(Ot.mp f).elim (fun z=>I.pin p (OC _ z)) fun z=>by
  obtain⟨a,e⟩:=GB z;obtain⟨f0,f1,f2,_⟩:=c p.1 a;obtain⟨o,U,d⟩:=ho p.1 a;rw[e] at U;cases U;exact⟨e,f0,f1,f2,d⟩
theorem Inv.unpinned{o pl:List (Addr × Obj)}{Z:St}{H:Hp}{s:Shared}(I:Inv X (o++pl) Z H s):Inv X o Z H s:=I.pins_of fun p C=>I.pin p (OC _ (List.mem_append_left _ C))
theorem eQ{U:Expr}{B:List Stmt}{wi:TI}{g:TG}{tb:TS}{S:Pos}(F:PassesOwn (model X.prog X.w) X.A X.env X.xe)(hc:X.calm=true)(hi:PI X tg U wi)(hg:PG X tg g)(c:PSs X B tb)
  (hs:∀x,foldedSetIterable U X.env x=pure x:=by intro _;rfl):PS X (.For tg U B [] S) (Nb wi g tb):=by
 intro C s Z H D I h;refine wpAny_For (thn (hi C s Z H _ I h) fun v s1 h1=>thn h1 fun aH s2 h2=> ?_) hs
 obtain⟨it,K,tn,J,H2,e,I2,T,ab,f2,W,⟨m0,w0⟩,turn⟩:=h2;subst e;have a:∀{y:Hp},(∀b∈K,y b=none)->∀b∈K,uF X C y b:=fun hn b c=>⟨hn b c,(f2 b c).2⟩
 refine codeAny_forLoop_any (fun n s'=>∃i M y,Inv X C M y s'/\tn i s'.heap/\(∀b∈K,y b=none)/\W i n M y) ?_ m0 ⟨0,Z,H2,I2,ab,fun b c=>(f2 b c).1,w0⟩
 rintro n s3 ⟨i,L,R,I3,Q,O,w3⟩
 rcases turn i n L R w3 with⟨G,qn⟩|⟨go,N,hN,step⟩
 .refine Pe F (thn (T.done X rfl rfl rfl hc i C s3 L R X.xe I3 (a O) Q G) fun r s4 ⟨Y,I4⟩=> ?_)
  subst Y;exact Qm ⟨L,R,I4,qn⟩
 .refine Pe F (DS (T.item X rfl rfl rfl hc i C s3 L R X.xe I3 (a O) Q go) fun r s4 u Y h4=> ?_)
  subst Y;refine Pe F (thn h4 fun _ s5 ⟨x,H5,I5,r5,y5,E,au⟩=> ?_)
  have ar:=I5.pinned (a au) (T.obj _ _ E);refine Pe F (M4 (hg _ s5 L H5 x u _ ar r5 (step x H5 y5)) fun _ s6 Z6 H6 I6 q6=> ?_)
  refine Pe F (thn (c _ s6 Z6 H6 _ I6 q6) fun f s7 z=> ?_)
  have p:∀{q:St}{l:Hp},Inv X (C++AQ K s5.heap) q l s7->N q l->∃m,m<n/\∃i M y,Inv X C M y s7/\tn i s7.heap/\(∀b∈K,y b=none)/\W i m M y:=fun {q l} j P=>by
   obtain⟨m',hm,w7⟩:=hN q l P;refine⟨m',hm,i+1,q,l,j.unpinned,T.keep _ _ _ E fun b c o e=>(j.pin (b,o) (OC _ (OC _ (mU c e)))).1,fun b c=> ?_,w7⟩
   obtain⟨o,e,d⟩:=T.obj _ _ E b c;exact(j.pin (b,o) (OC _ (OC _ (mU c e)))).2.1
  cases f with
  | next=>obtain⟨q,l,j,P⟩:=z;exact p j P
  | cont=>obtain⟨q,l,j,P⟩:=z;exact p j P
  | brk=>obtain⟨q,l,j,z⟩:=z;exact⟨q,l,j.unpinned,z⟩
  | ret v=>obtain⟨x7,q,l,j,r7,z⟩:=z;exact⟨x7,q,l,j.unpinned,r7,z⟩
end
theorem yv{K:Frag}{a:Addr}{xs:List V}{g:TG}{d:TS}{D:vD}{Z:St}{H:Hp}(o:Nat->St->Hp->Prop)(j:o 0 Z H)(l:∀i Z H,i<=xs.length->o i Z H->SqL K H a xs)
  (hs:∀i x Z H,xs[i]? =some x->o i Z H->g x Z H fun J U=>d {D with nx:=o (i+1),ct:=o (i+1),bk:=D.nx} J U) (hd:∀Z H,o xs.length Z H->D.nx Z H):
  ∃W:Nat->Nat->St->Hp->Prop,(∃m,W 0 m Z H)/\∀i m Z H,W i m Z H->
   ((Itl K a).stop i H/\D.nx Z H)\/((Itl K a).go i H/\∃N:St->Hp->Prop,(∀b C,N b C->∃c,c<m/\W (i+1) c b C)/\∀x C,(Itl K a).yld i H x C->g x Z C fun J U=>d {D with nx:=N,ct:=N,bk:=D.nx} J U):=by
 refine⟨fun i m Z H=>m=xs.length - i/\i<=xs.length/\o i Z H,⟨xs.length,by simp,Ou _,j⟩,?_⟩
 rintro i m Z H ⟨rfl,n,p⟩
 have q:=l i Z H n p
 by_cases I:i<xs.length
 .refine .inr ⟨⟨xs,xs[i],q,by simp [I]⟩,o (i+1),fun b C f=>⟨xs.length - (i+1),by lia,rfl,I,f⟩,fun x C y=> ?_⟩
  obtain⟨e,y⟩:=y;subst e;exact hs i x Z _ (y xs q) p
 .have e:i=xs.length:=by lia
  subst e;exact .inl ⟨⟨xs,q,NW _⟩,hd Z H p⟩
theorem wu{K:Frag}{a:Addr}{xs:List V}{g:TG}{d:TS}{D:vD}{Z:St}{H:Hp}(o:Nat->St->Hp->Prop)(j:o 0 Z H)(l:∀i Z H,i<=xs.length->o i Z H->SqT K H a xs)
  (hs:∀i x Z H,xs[i]? =some x->o i Z H->g x Z H fun J U=>d {D with nx:=o (i+1),ct:=o (i+1),bk:=D.nx} J U) (hd:∀Z H,o xs.length Z H->D.nx Z H):
  ∃W:Nat->Nat->St->Hp->Prop,(∃m,W 0 m Z H)/\∀i m Z H,W i m Z H->
   ((Itt K a).stop i H/\D.nx Z H)\/((Itt K a).go i H/\∃N:St->Hp->Prop,(∀b C,N b C->∃c,c<m/\W (i+1) c b C)/\∀x C,(Itt K a).yld i H x C->g x Z C fun J U=>d {D with nx:=N,ct:=N,bk:=D.nx} J U):=by
 refine⟨fun i m Z H=>m=xs.length - i/\i<=xs.length/\o i Z H,⟨xs.length,by simp,Ou _,j⟩,?_⟩
 rintro i m Z H ⟨rfl,n,p⟩
 have q:=l i Z H n p
 by_cases I:i<xs.length
 .refine .inr ⟨⟨xs,xs[i],q,by simp [I]⟩,o (i+1),fun b C f=>⟨xs.length - (i+1),by lia,rfl,I,f⟩,fun x C y=> ?_⟩
  obtain⟨e,y⟩:=y;subst e;exact hs i x Z _ (y xs q) p
 .have e:i=xs.length:=by lia
  subst e;exact .inl ⟨⟨xs,q,NW _⟩,hd Z H p⟩
theorem h_{lo:Int}{n:Nat}{g:TG}{c:TS}{D:vD}{Z:St}{H:Hp}(C:Nat->St->Hp->Prop)(f:C 0 Z H)
  (hs:∀i Z H,i<n->C i Z H->g (.int (lo+i)) Z H fun J U=>c {D with nx:=C (i+1),ct:=C (i+1),bk:=D.nx} J U) (hd:∀Z H,C n Z H->D.nx Z H):
  ∃W:Nat->Nat->St->Hp->Prop,(∃m,W 0 m Z H)/\∀i m Z H,W i m Z H->
   ((Itr lo n).stop i H/\D.nx Z H)\/((Itr lo n).go i H/\∃N:St->Hp->Prop,(∀a o,N a o->∃b,b<m/\W (i+1) b a o)/\∀x o,(Itr lo n).yld i H x o->g x Z o fun J U=>c {D with nx:=N,ct:=N,bk:=D.nx} J U):=by
 refine⟨fun i m Z H=>m=n - i/\i<=n/\C i Z H,⟨n,by simp,Ou _,f⟩,?_⟩
 rintro i m Z H ⟨rfl,j,p⟩
 by_cases I:i<n
 .refine .inr ⟨I,C (i+1),fun a o d=>⟨n - (i+1),by lia,rfl,I,d⟩,fun x o y=> ?_⟩
  obtain⟨e,y⟩:=y;subst e y;exact hs i Z _ I p
 .have e:i=n:=by lia
  subst e;exact .inl ⟨NW _,hd Z H p⟩
abbrev R2:=V->V->Hp->VK->Prop
def OpR(X:Cx)(f:Value->Value->Sem Value)(r:R2):Prop:=
 ∀(o:List (Addr × Obj)) (s:Shared) (Z:St) (H:Hp) (x y:V) (v u:Value) (Q:VK),Inv X o Z H s->bz x v->bz y u->r x y H Q->
  wpAny (model X.prog X.w) X.A (f v u) (EP X o Z Q) X.xe s
def UnR(X:Cx)(f:Value->Sem Value)(r:V->Hp->VK->Prop):Prop:=
 ∀(o:List (Addr × Obj)) (s:Shared) (Z:St) (H:Hp) (x:V) (v:Value) (Q:VK),Inv X o Z H s->bz x v->r x H Q->
  wpAny (model X.prog X.w) X.A (f v) (EP X o Z Q) X.xe s
def kC(X:Cx)(f:Value)(r:List V->Hp->VK->Prop):Prop:=
 ∀(o:List (Addr × Obj)) (s:Shared) (Z:St) (H:Hp) (C:List V) (I:List Value) (Q:VK),Inv X o Z H s->bj C I->r C H Q->
  wpAny (model X.prog X.w) X.A (call f I) (EP X o Z Q) X.xe s
def NB(X:Cx)(r:V->Hp->(Bool->Hp->Prop)->Prop):Prop:=
 ∀(o:List (Addr × Obj)) (s:Shared) (Z:St) (H:Hp) (x:V) (v:Value) (Q:Bool->Hp->Prop),Inv X o Z H s->bz x v->r x H Q->
  wpAny (model X.prog X.w) X.A (truthy v) (TP X o Z Q) X.xe s
def tOp(r:R2)(J I:TE):TE:=fun Z H Q=>J Z H fun x o=>I Z o fun y C=>r x y C Q
def tUn(r:V->Hp->VK->Prop)(C:TE):TE:=fun Z H Q=>C Z H fun x o=>r x o Q
def rI(C:Int->Int->Prop)(g:Int->Int->V):R2:=fun x y H Q=>∃i j,x= .int i/\y= .int j/\C i j/\Q (g i j) H
def rI0(g:Int->Int->V):R2:=fun x y H Q=>∃i j,x= .int i/\y= .int j/\Q (g i j) H
def rU(g:Int->V):V->Hp->VK->Prop:=fun x H Q=>∃i,x= .int i/\Q (g i) H
section
variable {X : Cx} {a b c : Expr} {ta tb tc : TE} {pos : Pos}
theorem K6(i:PE X a ta)(q:PE X b tb){o:List (Addr × Obj)}{s:Shared}{Z:St}{H:Hp}{R:V->V->Hp->Prop}(I:Inv X o Z H s)
  (h:ta Z H fun x e=>tb Z e fun y C=>R x y C) {Q:Value->Shared->Prop}{f:Value->Value->Sem Value}
  (g:∀v u d x y C,Inv X o Z C d->bz x v->bz y u->R x y C->wpAny (model X.prog X.w) X.A (f v u) Q X.xe d):
  wpAny (model X.prog X.w) X.A (eval a X.env) (fun v J=>wpAny (model X.prog X.w) X.A (eval b X.env) (fun u U=>wpAny (model X.prog X.w) X.A (f v u) Q X.xe U) X.xe J) X.xe s:=by
 refine cB (i o s Z H _ I h) fun v j x e l z r=> ?_
 refine cB (q o j Z e _ l r) fun u d y C n p m=> ?_
 exact g v u d x y C n z p m
theorem aw{C:Operator}{r:R2}(ho:OpR X (binaryOp C) r)(d:PE X a ta)(i:PE X b tb):PE X (.BinOp a C b pos) (tOp r ta tb):=by
 intro o s Z H Q I h;exact wpAny_BinOp (K6 d i I h fun v u e x y U g f J q=>ho o e Z U x y v u Q g f J q)
theorem Mq{C:UnaryOp}{r:V->Hp->VK->Prop}(ho:UnR X (unaryOp C) r)(f:PE X a ta):PE X (.UnaryOp C a pos) (tUn r ta):=by
 intro o s Z H Q I h;exact UnaryOp_ (cB (f o s Z H _ I h) fun v g x U J d e=>ho o g Z U x v Q J d e)
theorem opI{f:Value->Value->Sem Value}{C:Int->Int->Prop}{g:Int->Int->Int}
  (o:∀(i j:Int) (t u:Tok) (s:Shared) (Q:Value->Shared->Prop) (E:Value->Shared->Prop),C i j->Q (.int (g i j) s.toks) {s with toks:=s.toks+1}->wpAny (model X.prog X.w) X.A (f (.int i t) (.int j u)) Q E s):
  OpR X f (rI C fun i j=> .int (g i j)):=by
 intro J s Z H x y v u Q I e U h;obtain⟨i,j,rfl,rfl,l,q⟩:=h;obtain⟨t,rfl⟩:=e;obtain⟨d,rfl⟩:=U;exact o i j t d s _ _ l ⟨.int (g i j),H,I.tok _,⟨_,rfl⟩,q⟩
theorem Iq{f:Value->Value->Sem Value}{g:Int->Int->Int}
  (o:∀(i j:Int) (t u:Tok) (s:Shared) (Q:Value->Shared->Prop) (E:Value->Shared->Prop),Q (.int (g i j) s.toks) {s with toks:=s.toks+1}->wpAny (model X.prog X.w) X.A (f (.int i t) (.int j u)) Q E s):
  OpR X f (rI0 fun i j=> .int (g i j)):=by
 intro C s Z H x y v u Q I d J h;obtain⟨i,j,rfl,rfl,q⟩:=h;obtain⟨t,rfl⟩:=d;obtain⟨U,rfl⟩:=J;exact o i j t U s _ _ ⟨.int (g i j),H,I.tok _,⟨_,rfl⟩,q⟩
theorem JL{f:Value->Value->Sem Value}{g:Int->Int->Bool}
  (o:∀(i j:Int) (t u:Tok) (s:Shared) (Q:Value->Shared->Prop) (E:Value->Shared->Prop),Q (.bool (g i j)) s->wpAny (model X.prog X.w) X.A (f (.int i t) (.int j u)) Q E s):
  OpR X f (rI0 fun i j=> .bl (g i j)):=by
 intro C s Z H x y v u Q I d J h;obtain⟨i,j,rfl,rfl,q⟩:=h;obtain⟨t,rfl⟩:=d;obtain⟨U,rfl⟩:=J;exact o i j t U s _ _ ⟨.bl (g i j),H,I,rfl,q⟩
def xB(i j:Int):Prop:=0<=j/\j<=1000000/\i.natAbs<2^64
def wY(i j:Int):Prop:=(-(2^64)<i/\i<2^64)\/(-(2^64)<j/\j<2^64)
theorem wY.ok{i j:Int}(h:wY i j):IntMulOk i j:=by
 rcases h with⟨o,C⟩|⟨o,C⟩
 .exact .of_left (intBits_le_64 o C)
 .exact .of_right (intBits_le_64 o C)
theorem aS:OpR X (binaryOp .Add) (rI0 fun i j=> .int (i+j)):=Iq fun _ _ _ _ _ _ _ q=>add_int q
theorem cC:OpR X (binaryOp .Sub) (rI0 fun i j=> .int (i - j)):=Iq fun _ _ _ _ _ _ _ q=>sub_int q
theorem bH:OpR X (binaryOp .Mult) (rI wY fun i j=> .int (i*j)):=opI fun _ _ _ _ _ _ _ o q=>mul_int q o.ok
theorem cW:OpR X (binaryOp .Mod) (rI (fun _ j=>0<j) fun i j=> .int (i %j)):=opI fun i j _ _ _ _ _ o q=>by
 have C:(0:Int)<j:=o;exact mod_int' (by lia) (by rw[Int.fmod_eq_emod_of_nonneg i (by lia)];exact q)
theorem LT:OpR X (binaryOp .Pow) (rI xB fun i j=> .int (i^j.toNat)):=opI fun _ _ _ _ _ _ _ o q=>pow_int_small o.1 o.2.1 o.2.2 q
theorem nB:OpR X (binaryOp .LShift) (rI xB fun i j=> .int (i*2^j.toNat)):=opI fun _ _ _ _ _ _ _ o q=>lshift_int_small o.1 o.2.1 o.2.2 q
theorem K2:OpR X (binaryOp .BitAnd) (rI0 fun i j=> .int (Builtin.bitAnd i j)):=Iq fun _ _ _ _ _ _ _ q=>and_int q
theorem MT:OpR X (binaryOp .BitOr) (rI0 fun i j=> .int (Builtin.bitOr i j)):=Iq fun _ _ _ _ _ _ _ q=>or_int q
theorem Lu:OpR X (binaryOp .BitXor) (rI0 fun i j=> .int (Builtin.bitXor i j)):=Iq fun _ _ _ _ _ _ _ q=>xor_int q
theorem unI{f:Value->Sem Value}{g:Int->Int}
  (o:∀(i:Int) (t:Tok) (s:Shared) (Q:Value->Shared->Prop) (E:Value->Shared->Prop),Q (.int (g i) s.toks) {s with toks:=s.toks+1}->wpAny (model X.prog X.w) X.A (f (.int i t)) Q E s):
  UnR X f (rU fun i=> .int (g i)):=by
 intro C s Z H x v Q I J h;obtain⟨i,rfl,q⟩:=h;obtain⟨t,rfl⟩:=J;exact o i t s _ _ ⟨.int (g i),H,I.tok _,⟨_,rfl⟩,q⟩
theorem LU:UnR X (unaryOp .USub) (rU fun i=> .int (-i)):=unI fun _ _ _ _ _ q=>neg_int q
end
noncomputable def MV:V->V->Bool
 | .non,.non=>true | .non,.int _=>true | .int _,.non=>true | .non,.bl _=>true | .bl _,.non=>true | .non,.str _=>true | .str _,.non=>true
 | .int _,.int _=>true | .bl _,.bl _=>true | .str _,.str _=>true | .byt _,.byt _=>true
 | .int _,.str _=>true | .str _,.int _=>true | .bl _,.str _=>true | .str _,.bl _=>true
 | _,_=>false
def rEq:R2:=fun x y H Q=>MV x y=true/\Q (.bl (decide (x=y))) H
def rNe:R2:=fun x y H Q=>MV x y=true/\Q (.bl (!decide (x=y))) H
theorem FF{i j:Int}:decide (V.int i=V.int j)=(i==j):=by
 rw[Qn]
 simp
theorem HE{i j:Bool}:decide (V.bl i=V.bl j)=(i==j):=by
 rw[Qn]
 simp
theorem Fg{i j:Str}:decide (V.str i=V.str j)=(i==j):=by
 rw[Qn]
 simp
theorem FE{i j:Array UInt8}:decide (V.byt i=V.byt j)=(i.toList==j.toList):=by
 rw[Qn]
 cases i
 cases j
 simp
section
variable {X : Cx} {a b c : Expr} {ta tb tc : TE} {pos : Pos}
theorem bQ{o:List (Addr × Obj)}{Z:St}{H:Hp}{s:Shared}{Q:VK}{k C:Bool}(I:Inv X o Z H s)(q:Q (.bl k) H)(e:k=C):EP X o Z Q (.bool C) s:=by
 subst e;exact⟨.bl k,H,I,rfl,q⟩
theorem aE:OpR X (compareOp .Eq) rEq:=by
 intro U s Z H x y v u Q I J o h;obtain⟨hs,q⟩:=h
 cases x with
 | non=>
  cases J
  cases y with
  | non=>cases o;exact PySem.EqNone.eq_none_none (bQ I q (by simp))
  | bl j=>cases o;exact PySem.EqNone.eq_none_bool (bQ I q (by simp))
  | int j=>obtain⟨C,rfl⟩:=o;exact PySem.EqNone.eq_none_int (bQ I q (by simp))
  | str j=>obtain⟨C,rfl⟩:=o;exact PySem.EqNone.eq_none_str (bQ I q (by simp))
  | _=>exact absurd (show false=true from hs) Oa
 | bl i=>
  cases J
  cases y with
  | non=>cases o;exact PySem.EqNone.eq_bool_none (bQ I q (by simp))
  | bl j=>cases o;exact eq_bool (bQ I q HE)
  | str j=>obtain⟨C,rfl⟩:=o;exact PySem.EqMixed.eq_bool_str (bQ I q (by simp))
  | _=>exact absurd (show false=true from hs) Oa
 | int i=>
  obtain⟨t,rfl⟩:=J
  cases y with
  | non=>cases o;exact PySem.EqNone.eq_int_none (bQ I q (by simp))
  | int j=>obtain⟨C,rfl⟩:=o;exact eq_int (bQ I q FF)
  | str j=>obtain⟨C,rfl⟩:=o;exact PySem.EqMixed.eq_int_str (bQ I q (by simp))
  | _=>exact absurd (show false=true from hs) Oa
 | str i=>
  obtain⟨t,rfl⟩:=J
  cases y with
  | non=>cases o;exact PySem.EqNone.eq_str_none (bQ I q (by simp))
  | bl j=>cases o;exact PySem.EqMixed.eq_str_bool (bQ I q (by simp))
  | int j=>obtain⟨C,rfl⟩:=o;exact PySem.EqMixed.eq_str_int (bQ I q (by simp))
  | str j=>obtain⟨C,rfl⟩:=o;exact eq_str (bQ I q Fg)
  | _=>exact absurd (show false=true from hs) Oa
 | byt i=>
  obtain⟨t,rfl⟩:=J
  cases y with
  | byt j=>obtain⟨C,rfl⟩:=o;exact W.eq_bytes (bQ I q FE)
  | _=>exact absurd (show false=true from hs) Oa
 | _=>cases y <;> exact absurd (show false=true from hs) Oa
theorem vb:OpR X (compareOp .NotEq) rNe:=by
 intro U s Z H x y v u Q I J o h;obtain⟨hs,q⟩:=h
 cases x with
 | non=>
  cases J
  cases y with
  | non=>cases o;exact PySem.EqNone.ne_none_none (bQ I q (by simp))
  | bl j=>cases o;exact PySem.EqNone.ne_none_bool (bQ I q (by simp))
  | int j=>obtain⟨C,rfl⟩:=o;exact PySem.EqNone.ne_none_int (bQ I q (by simp))
  | str j=>obtain⟨C,rfl⟩:=o;exact PySem.EqNone.ne_none_str (bQ I q (by simp))
  | _=>exact absurd (show false=true from hs) Oa
 | bl i=>
  cases J
  cases y with
  | non=>cases o;exact PySem.EqNone.ne_bool_none (bQ I q (by simp))
  | bl j=>cases o;exact ne_bool (bQ I q (congrArg not HE))
  | str j=>obtain⟨C,rfl⟩:=o;exact PySem.EqMixed.ne_bool_str (bQ I q (by simp))
  | _=>exact absurd (show false=true from hs) Oa
 | int i=>
  obtain⟨t,rfl⟩:=J
  cases y with
  | non=>cases o;exact PySem.EqNone.ne_int_none (bQ I q (by simp))
  | int j=>obtain⟨C,rfl⟩:=o;exact ne_int (bQ I q (congrArg not FF))
  | str j=>obtain⟨C,rfl⟩:=o;exact PySem.EqMixed.ne_int_str (bQ I q (by simp))
  | _=>exact absurd (show false=true from hs) Oa
 | str i=>
  obtain⟨t,rfl⟩:=J
  cases y with
  | non=>cases o;exact PySem.EqNone.ne_str_none (bQ I q (by simp))
  | bl j=>cases o;exact PySem.EqMixed.ne_str_bool (bQ I q (by simp))
  | int j=>obtain⟨C,rfl⟩:=o;exact PySem.EqMixed.ne_str_int (bQ I q (by simp))
  | str j=>obtain⟨C,rfl⟩:=o;exact ne_str (bQ I q (congrArg not Fg))
  | _=>exact absurd (show false=true from hs) Oa
 | byt i=>
  obtain⟨t,rfl⟩:=J
  cases y with
  | byt j=>obtain⟨C,rfl⟩:=o;exact W.ne_bytes (bQ I q (congrArg not FE))
  | _=>exact absurd (show false=true from hs) Oa
 | _=>cases y <;> exact absurd (show false=true from hs) Oa
theorem fL:OpR X (compareOp .Lt) (rI0 fun i j=> .bl (decide (i<j))):=JL fun _ _ _ _ _ _ _ q=>lt_int q
theorem Ft:OpR X (compareOp .LtE) (rI0 fun i j=> .bl (decide (i<=j))):=JL fun _ _ _ _ _ _ _ q=>le_int q
theorem zX:OpR X (compareOp .Gt) (rI0 fun i j=> .bl (decide (j<i))):=JL fun _ _ _ _ _ _ _ q=>gt_int q
theorem iT:OpR X (compareOp .GtE) (rI0 fun i j=> .bl (decide (j<=i))):=JL fun _ _ _ _ _ _ _ q=>ge_int q
theorem EB(b:Expr){o:CmpOp}(h:o≠ .In:=by decide)(J:o≠ .NotIn:=by decide):behindInMarks o b=false:=by
 have C:(o==CmpOp.In)=false:=by cases o <;> first | rfl | exact absurd rfl h
 have I:(o==CmpOp.NotIn)=false:=by cases o <;> first | rfl | exact absurd rfl J
 cases b <;> simp [behindInMarks,C,I]
theorem FJ{C:CmpOp}{r:R2}(ho:OpR X (compareOp C) r)(d:PE X a ta)(i:PE X b tb)(hm:behindInMarks C b=false):PE X (.Compare a [C] [b] pos) (tOp r ta tb):=by
 intro o s Z H Q I h;exact wpAny_Compare1 (K6 d i I h fun v u e x y U g f J q=>ho o e Z U x y v u Q g f J q) hm
def IV(t:TE):TT:=fun Z H Q=>t Z H fun x o=>∃k,x= .bl k/\Q k o
theorem gR{C:CmpOp}{r:R2}(ho:OpR X (compareOp C) r)(g:PE X a ta)(A:PE X b tb)(hm:behindInMarks C b=false):PT X (.Compare a [C] [b] pos) (IV (tOp r ta tb)):=by
 intro o s Z H Q I h
 refine Ra (cB (g o s Z H _ I h) fun v i x U l D B=>cB (A o i Z U _ l B) fun u m y d q w p=>
  thn (ho o m Z d x y v u _ q D w p) fun c E ⟨z,J,n,f,k,e,j⟩=> ?_) hm
 subst e
 cases f
 exact OT ⟨J,n,j⟩
def Lk(r J:R2)(ta tb tc:TE):TE:=fun Z H Q=>ta Z H fun x C=>tb Z C fun y I=>r x y I fun z o=>∃k,z= .bl k/\
 (if k=true then tc Z o fun U d=>J y U d Q else Q (.bl false) o)
theorem Jb{U C:CmpOp}{r i:R2}(ho:OpR X (compareOp U) r)(J:OpR X (compareOp C) i)(w:PE X a ta)(hb:PE X b tb)(S:PE X c tc)
  (hm:lastMarks [U,C] [b,c]=false:=by with_unfolding_all rfl):PT X (.Compare a [U,C] [b,c] pos) (IV (Lk r i ta tb tc)):=by
 intro o s Z H Q I h
 refine isTrue_chain (cB (w o s Z H _ I h) fun v A x m E r1 q1=>test_link (cB (hb o A Z m _ E q1) fun u G y n O l N=>
  thn (ho o G Z n x y v u _ O r1 l N) fun d Y ⟨z,f,j,p,k,e,g⟩=> ?_)) hm
 subst e
 cases p
 refine OT ?_
 cases k with
 | false=>
  obtain⟨k',T,P⟩:=g
  cases T
  exact ite_ff ⟨f,j,P⟩
 | true=>
  refine ite_tt (test_last (thn (S o Y Z f _ j g) fun w' s4 ⟨F,M,W,q,R⟩=>thn (J o s4 Z M y F u w' _ W l q R) fun d' s5 ⟨z2,H5,K,L,k2,B,D⟩=> ?_))
  subst B
  cases L
  exact OT ⟨H5,K,D⟩
def Mb(K:Frag)(x:V)(H:Hp)(k:Bool):Prop:=
 match x with
 | .non=>k=false
 | .bl b=>k=b
 | .int i=>k=(i != 0)
 | .str y=>y.length<=sizeLine/\k=((y.length:Int) != 0)
 | .byt y=>y.size<=sizeLine/\k=((y.size:Int) != 0)
 | .ref p=>(∃C,SqL K H p C/\k= !C.isEmpty)\/(∃C,SqT K H p C/\k= !C.isEmpty)\/∃o,H p=some (.dK o)/\k= !o.isEmpty
 | _=>False
theorem ET{o:Type}{kvs:List (o × V)}{vs:List (o × Value)}(r:KV kvs vs):(!vs.isEmpty)= !kvs.isEmpty:=by
 cases r <;> rfl
theorem xM{xs:List V}{o:List Value}(r:bj xs o):(!o.toArray.isEmpty)= !xs.isEmpty:=by
 cases r <;> simp
theorem xo:(sizeLine:Nat)<2^63:=by rw[sizeLine_eq];decide
theorem Lo:NB X (fun x H Q=>∃k,Mb X.K x H k/\Q k H):=by
 intro u s Z H x v Q I d h;obtain⟨k,e,q⟩:=h;have B:=xo;have hs:sizeLine=16777216:=sizeLine_eq
 cases x with
 | non=>
  cases d
  have o:k=false:=e;subst o;exact truthy_none ⟨H,I,q⟩
 | bl b=>
  cases d
  have o:k=b:=e;subst o;exact OT ⟨H,I,q⟩
 | int i=>
  obtain⟨t,rfl⟩:=d;have o:k=(i != 0):=e;subst o;exact PySem.P.truthy_int ⟨H,I,q⟩
 | str y=>
  obtain⟨t,rfl⟩:=d;obtain⟨A,o⟩:y.length<=sizeLine/\k=((y.length:Int) != 0):=e;subst o;exact PySem.P.truthy_str (by lia) ⟨H,I.tok _,q⟩
 | byt y=>
  obtain⟨t,rfl⟩:=d;obtain⟨A,o⟩:y.size<=sizeLine/\k=((y.size:Int) != 0):=e;subst o;exact W.truthy_bytes (by lia) ⟨H,I.tok _,q⟩
 | ref p=>
  cases d
  have o:(∃U,SqL X.K H p U/\k= !U.isEmpty)\/(∃U,SqT X.K H p U/\k= !U.isEmpty)\/∃C,H p=some (.dK C)/\k= !C.isEmpty:=e;rcases o with⟨U,f,o⟩|⟨U,f,o⟩|⟨C,f,o⟩
  .subst o;obtain⟨j,r,l,n⟩:=I.list f;have J:=r.length;exact wpAny_truthy_list l.isList (by simp only[N1];lia) ⟨H,I.tok _,by rw[xM r];exact q⟩
  .subst o;obtain⟨j,r,l,n⟩:=I.tuple f;have J:=r.length;exact truthy_tuple l (by simp only[N1];lia) ⟨H,I.tok _,by rw[xM r];exact q⟩
  .subst o;obtain⟨n,z,g,r,m⟩:C.length<=sizeLine/\(p==sysModules)=false/\∃g,KV C g/\s.heap.DictOf (bK X.prog X.w) p g:=I.hok p _ f;have J:C.length=g.length:=QK r;exact wpAny_truthy_dict z m (by lia) ⟨H,I.tok _,by rw[ET r];exact q⟩
 | _=>exact(show False from e).elim
theorem Hd(U:PE X a ta)(i:∀whole,isTrue a X.env whole=(do let v <-whole;standAt a.pos;holding [v] (truthy v))):
  PT X a (fun Z H Q=>ta Z H fun x C=>∃k,Mb X.K x C k/\Q k C):=by
 intro o s Z H Q I h;exact isTrue_plain (cB (U o s Z H _ I h) fun v d x J e g f=>Lo o d Z J x v Q e g f) (i _)
theorem qM{x:V}{us:List Value}(r:bj [x] us):∃u,us=[u]/\bz x u:=by
 cases r with
 | cons r1 r2=>cases r2;exact⟨_,rfl,r1⟩
theorem IW{x y:V}{us:List Value}(r:bj [x,y] us):∃u w',us=[u,w']/\bz x u/\bz y w':=by
 cases r with
 | cons r1 r2=>
  cases r2 with
  | cons r3 r4=>cases r4;exact⟨_,_,rfl,r1,r3⟩
theorem Hi:kC X (.builtin "abs") (fun xs H Q=>∃i,xs=[.int i]/\Q (.int (if i<0 then -i else i)) H):=by
 intro o s Z H xs J Q I r h;obtain⟨i,rfl,q⟩:=h;obtain⟨u,rfl,t,rfl⟩:=qM r;exact call_abs_int fun u C=>⟨.int (if i<0 then -i else i),H,I.tok _,⟨_,rfl⟩,q⟩
theorem uJ(J:X.calm=true):kC X (.builtin "max") (fun xs H Q=>∃i j,xs=[.int i,.int j]/\Q (.int (if j >i then j else i)) H):=by
 intro C s Z H xs f Q I r h;obtain⟨i,j,rfl,q⟩:=h;obtain⟨u,g,rfl,⟨t,rfl⟩,⟨U,rfl⟩⟩:=IW r;refine max_two_ints (I.ok.hd J) fun d e k=>⟨_,H,I.kept k,?_,q⟩
 by_cases o:j >i
 .rw[NV o,NV o];exact⟨_,rfl⟩
 .rw[fI o,fI o];exact⟨_,rfl⟩
theorem iq(J:X.calm=true):kC X (.builtin "min") (fun xs H Q=>∃i j,xs=[.int i,.int j]/\Q (.int (if j<i then j else i)) H):=by
 intro C s Z H xs f Q I r h;obtain⟨i,j,rfl,q⟩:=h;obtain⟨u,g,rfl,⟨t,rfl⟩,⟨U,rfl⟩⟩:=IW r;refine min_two_ints (I.ok.hd J) fun d e k=>⟨_,H,I.kept k,?_,q⟩
 by_cases o:j<i
 .rw[NV o,NV o];exact⟨_,rfl⟩
 .rw[fI o,fI o];exact⟨_,rfl⟩
theorem GH:kC X (.type "int") (fun xs H Q=>(∃i,xs=[.int i]/\Q (.int i) H)\/∃k,xs=[.bl k]/\Q (.int (if k then 1 else 0)) H):=by
 intro o s Z H xs C Q I r h;rcases h with⟨i,rfl,q⟩|⟨k,rfl,q⟩
 .obtain⟨u,rfl,t,rfl⟩:=qM r;exact call_int_int ⟨.int i,H,I,⟨_,rfl⟩,q⟩
 .obtain⟨u,rfl,r1⟩:=qM r
  cases r1
  exact call_int_bool ⟨.int (if k then 1 else 0),H,I.tok _,⟨_,rfl⟩,q⟩
end
structure D8 (h:Heap) (x dx C:Addr) (mA:Str->Option Value):Prop where
 obj:h.get? x=some (W.instObj C dx)
 ns:h.Ns1 dx mA
 ne:dx≠x
theorem GR{h:Heap}{b:Addr}{I:Str->Option Value}(n:h.Ns1 b I):∃J,h.get? b=some J/\∀name,W.lookIn name J=some (I name):=by
 obtain⟨o,U,g,ho,hd,c,_,hm⟩:=n;refine⟨o,ho,fun name=> ?_⟩
 have e:=hm name;unfold nsFind findBy at e;rw[<- Array.find?_toList] at e;unfold W.lookIn;rw[hd];dsimp only
 split
 .rename_i y q
  rw[q] at e;exact congrArg some e
 .rename_i q
  rw[q] at e;have a:U.toList.any (·.refKey)=false:=by
   rw[List.any_eq_false];intro y d;obtain⟨z,t,C⟩:=c y (Array.mem_toList_iff.mp d)
   simp [DictEntry.refKey,C]
  have f:¬U.toList.any (·.refKey)=true:=by rw[a];exact Oa
  rw[fI f];exact congrArg some e
theorem D8.look{h:Heap}{x J C:Addr}{U:Str->Option Value}(I:D8 h x J C U):∃o,PySem.W.InstAt h x (W.instObj C J) C (some o)/\∀name,W.lookIn name o=some (U name):=
 let ⟨o,ho,hl⟩:=GR I.ns
 ⟨o,⟨I.obj,rfl,rfl,ho⟩,hl⟩
section
variable {prog : Program} {w : World} {A : Around} {E : Value → Shared → Prop} {s : Shared} {K : Frag} {x dx C f : Addr} {mA : Str → Option Value} {name : Str} {v : Value}
theorem Jm{o:Bool}{Q:Value->Shared->Prop}(X:K.In s.heap)(I:D8 s.heap x dx C mA)(a:W.plainGet K C name=true)(b:W.hasDictIn K C=true)
  (e:W.findIn K (.ref C) name=some none) (c:mA name=some v) (U:W.handedIn v=true) (h:Q v {s with toks:=s.toks+1}):
  wpAny (model prog w) A (getAttr (.ref x) name o) Q E s:=by
 obtain⟨g,J,d⟩:=I.look;exact W.get_value X J (Rz a).1 (W.findObj_own b e rfl (by rw[d,c])) U h
theorem HD{pl:Sem Bool}{Q:Value × List Value->Shared->Prop}(X:K.In s.heap)(I:D8 s.heap x dx C mA)(o:W.plainGet K C name=true)
  (U:W.findIn K (.ref C) name=some (some (.ref f))) (c:W.isFn K (.ref f)=true) (a:mA name=none) (h:Q (.ref f,[.ref x]) s):
  wpAny (model prog w) A (getMethod (.ref x) name pl) Q E s:=by
 obtain⟨d,J,b⟩:=I.look;exact W.method_fn X J (Rz o).1 (Rz o).2 U (P4.mp c) (by show(W.lookIn name d).map (·.isSome)=some false;rw[b,a];rfl) h
theorem JU{ns:List Str}{Q:Unit->Shared->Prop}(X:K.In s.heap)(I:D8 s.heap x dx C mA)
  (hs:W.findIn K (.ref C) "__setattr__"=some (some (.builtin "object.__setattr__"))) (j:W.plainOver K C=true) (q:W.takerIn K C name=some none) (i:W.hasDictIn K C=true)
  (hw:PySem.Within mA ns) (hsz:ns.length<=sizeLine)
  (h:∀h',D8 h' x dx C (fun y=>if y=name then some v else mA y)->Heap.SameBut dx s.heap h'->Q () {s with heap:=h',toks:=s.toks+2}):
  wpAny (model prog w) A (setAttr (.ref x) name v) Q E s:=by
 obtain⟨z,J,B⟩:=I.look;refine W.set_plain X J hs (W.osa_open (s:={s with toks:=s.toks+1}) (r:=none) X J j q fun b=> ?_)
 obtain⟨cd,p,e⟩:=W.any_some i;have l:s.heap.get? x=some ⟨.ref C,some dx,.plain, #[]⟩:=I.obj;refine gV (Ob (gV (gV (wpAny_loadPart l (gV (PySem.W.Looks.here (s:={s with toks:=s.toks+1}) (W.looks_clsIn X p) ?_))))))
 rw[e];refine Ob (a:=some dx) (gV (Ob (gV ?_)))
 refine wpAny_nsSet1 (s:={s with toks:=s.toks+1}) I.ns fun h' U o=> ?_
 obtain⟨u,m,n,d,c,g⟩:=U.count (PySem.Within.cons name v hw);refine gV (wpAny_lookBehind d (by rw[c];exact pastItsLine_dict (Oc g (by rw[N6];lia))) ?_)
 exact Ob (h _ ⟨(o.2 _ (Ox I.ne)).trans I.obj,U,I.ne⟩ o)
theorem Iv{R:Result->Shared->Prop}{vs:List Value}{I:List (Str × Value)}(X:K.In s.heap)(hm:W.makesIn K C=true)
  (U:W.findIn K (.ref C) "__init__"=some (some (.ref f))) (J:W.typeIn K (.ref f)=some (.type "function"))
  (h:codeAny (model prog w) (A.under (.builtin "type.__call__" ⟨.ref C::vs,I⟩)) (.call (.ref f) ⟨.ref (s.heap.objs.size+1)::vs,I⟩) (PySem.W.InitBack (s.heap.objs.size+1) R)
   {s with heap:=(s.heap.push W.emptyDict).push (W.instObj C s.heap.objs.size)}):
  codeAny (model prog w) A (.call (.ref C) ⟨vs,I⟩) R s:=by
 obtain⟨a,g,d,t,b⟩:=s;exact W.make_core (W.makes_of X hm) (W.looks_findIn X U) (fun o=>W.bind_fn X o J) (.inl rfl) h
end
noncomputable def bR(f:Str)(v:V):List (Str × V)->List (Str × V)
 | []=>[(f,v)]
 | (g,x)::r=>if g=f then(g,v)::r else(g,x)::bR f v r
theorem vt(f g:Str)(v:V):∀fs:List (Str × V),(bR f v fs).lookup g=if g=f then some v else fs.lookup g
 | []=>by
  show List.lookup g [(f,v)]=_
  by_cases h:g=f
  .have hb:(g==f)=true:=P4.mpr h
   simp only[List.lookup,hb,NV h]
  .have hb:(g==f)=false:=OL.mpr h
   simp only[List.lookup,hb,fI h]
 | (k,x)::r=>by
  have ih:=vt f g v r;rw[show bR f v ((k,x)::r)=(if k=f then(k,v)::r else(k,x)::bR f v r) from rfl]
  by_cases o:k=f
  .rw[NV o]
   by_cases h:g=k
   .have hb:(g==k)=true:=P4.mpr h
    simp only[List.lookup,hb,NV (h.trans o)]
   .have hb:(g==k)=false:=OL.mpr h
    simp only[List.lookup,hb,fI (fun e:g=f=>h (e.trans o.symm))]
  .rw[fI o]
   by_cases h:g=k
   .have hb:(g==k)=true:=P4.mpr h
    simp only[List.lookup,hb,fI (fun e:g=f=>o (h.symm.trans e))]
   .have hb:(g==k)=false:=OL.mpr h
    simp only[List.lookup,hb]
    exact ih
theorem uw(f:Str)(v:V):∀fs:List (Str × V),f∈(bR f v fs).map (·.1)/\∀g,g∈fs.map (·.1)->g∈(bR f v fs).map (·.1)
 | []=>⟨by simp [bR],fun g h=>by simp at h⟩
 | (k,x)::r=>by
  obtain⟨C,I⟩:=uw f v r;rw[show bR f v ((k,x)::r)=(if k=f then(k,v)::r else(k,x)::bR f v r) from rfl]
  by_cases o:k=f
  .rw[NV o];subst o;exact⟨by simp,fun g h=>by simpa using h⟩
  .rw[fI o];refine⟨?_,fun g h=> ?_⟩
   .rw[OD];exact N2 _ C
   .rw[OD] at h ⊢;rcases Od.mp h with e | e
    .exact Od.mpr (.inl e)
    .exact N2 _ (I g e)
theorem u_(f:Str)(v:V):∀fs:List (Str × V),(bR f v fs).length<=fs.length+1
 | []=>by simp [bR]
 | (k,x)::r=>by
  have ih:=u_ f v r;rw[show bR f v ((k,x)::r)=(if k=f then(k,v)::r else(k,x)::bR f v r) from rfl]
  by_cases o:k=f
  .rw[NV o,N6,N6];lia
  .rw[fI o,N6,N6];lia
theorem oa.some_of{v:V}{o:Option Value}(r:oa (some v) o):∃u,o=some u/\bz v u:=by
 cases o with
 | none=>exact(show False from r).elim
 | some u=>exact⟨u,rfl,r⟩
theorem oa.none_of{o:Option Value}(r:oa none o):o=none:=by
 cases o with
 | none=>rfl
 | some u=>exact(show False from r).elim
theorem Go{v:V}{u:Value}(r:bz v u):W.handedIn u=true:=by
 cases v with
 | non=>cases(show u=Value.none from r);rfl
 | bl b=>cases(show u=Value.bool b from r);rfl
 | int i=>obtain⟨t,e⟩:=(show ∃t,u=Value.int i t from r);cases e;rfl
 | str x=>obtain⟨t,e⟩:=(show ∃t,u=Value.str x t from r);cases e;rfl
 | byt b=>obtain⟨t,e⟩:=(show ∃t,u=Value.bytes b t from r);cases e;rfl
 | flt b=>obtain⟨t,e⟩:=(show ∃t,u=Value.float b t from r);cases e;rfl
 | ref a=>cases(show u=Value.ref a from r);rfl
 | ty n=>cases(show u=Value.type n from r);rfl
section
variable {P : Program} {w : World} {H H' : Hp} {h h' : Heap} {a C dx : Addr} {fs fs' : List (Str × V)}
theorem BC(I:HOk P w H h)(e:H a=some (.ins C dx fs)):∃o,D8 h a dx C o/\(∀f,oa (fs.lookup f) (o f))/\PySem.Within o (fs.map (·.1))/\fs.length<=1000/\H dx=some (.own a):=by
 obtain⟨d,z,ne,J,o,n,r,q⟩:=(show cU P w H h a (.ins C dx fs) from I a _ e);exact⟨o,⟨J,n,ne⟩,r,q,z,d⟩
end
structure Cls (K:Frag) (C:Addr):Prop where
 pg:W.plainGet K C Str.empty=true
 hd:W.hasDictIn K C=true
 po:W.plainOver K C=true
 sa:W.findIn K (.ref C) "__setattr__"=some (some (.builtin "object.__setattr__"))
theorem Cls.get{K:Frag}{C:Addr}(c:Cls K C)(f:Str):W.plainGet K C f=true:=c.pg
def uy(K:Frag)(C:Addr)(f:Str):Prop:=W.findIn K (.ref C) f=some none
theorem uy.taker{K:Frag}{C:Addr}{f:Str}(n:uy K C f):W.takerIn K C f=some none:=by
 unfold W.takerIn;rw[show W.findIn K (.ref C) f=some none from n]
 rfl
structure Ix (K:Frag) (C:Addr) (m:Str) (f:Addr):Prop where
 at_:W.findIn K (.ref C) m=some (some (.ref f))
 fn:W.isFn K (.ref f)=true
 kp:W.keepIn K (.ref f)=true
section
variable {X : Cx} {pins : List (Addr × Obj)} {σ : St} {H : Hp} {s : Shared} {a C dx : Addr} {fs : List (Str × V)} {f : Str} {v : V} {A : Around} {E : Value → Shared → Prop}
theorem D_{b:Bool}{Q:Value->Shared->Prop}(I:Inv X pins Z H s)(e:H a=some (.ins C dx fs))(c:Cls X.K C)(n:uy X.K C f)(l:fs.lookup f=some v)
  (h:∀u J,Inv X pins Z H J->bz v u->Q u J):wpAny (model X.prog X.w) A (getAttr (.ref a) f b) Q E s:=by
 obtain⟨g,O,r,_,_,_⟩:=BC I.hok e;obtain⟨u,d,U⟩:=oa.some_of (v:=v) (o:=g f) (by rw[<- l];exact r f)
 exact Jm I.kIn O (c.get f) c.hd n d (Go U) (h u _ (I.tok _) U)
theorem wN{m:Str}{g:Addr}{pl:Sem Bool}{Q:Value × List Value->Shared->Prop}(I:Inv X pins Z H s)(e:H a=some (.ins C dx fs))(c:Cls X.K C)(k:Ix X.K C m g)(l:fs.lookup m=none)
  (h:Q (.ref g,[.ref a]) s):wpAny (model X.prog X.w) A (getMethod (.ref a) m pl) Q E s:=by
 obtain⟨J,O,r,_,_,_⟩:=BC I.hok e;have o:J m=none:=oa.none_of (by rw[<- l];exact r m)
 exact HD I.kIn O (c.get m) k.at_ k.fn o h
theorem EE{y:V}{u:Value}{Q:Unit->Shared->Prop}(I:Inv X pins Z H s)(e:H a=some (.ins C dx fs))(c:Cls X.K C)(n:uy X.K C f)(F:fs.length<1000)(j:bz y u)
  (h:∀i,Inv X pins Z (upd H a (.ins C dx (bR f y fs))) i->Q () i):wpAny (model X.prog X.w) A (setAttr (.ref a) f u) Q E s:=by
 obtain⟨d,O,r,U,_,ho⟩:=BC I.hok e;have m:(fs.map (·.1)).length<=sizeLine:=by rw[be,sizeLine_eq];lia
 refine JU I.kIn O c.sa c.po n.taker c.hd U m fun l J D=>h _ ?_
 have hd:∃o,l.get? dx=some o:=let ⟨o,_,_,e',_⟩:=J.ns;⟨o,e'⟩
 refine I.write (x:=a) (e:=dx) (by rw[e];exact True.intro) (.inr ho) (fun b q p z=>(D.2 b p).trans z) hd ?_
 refine⟨by rw[aq O.ne];exact ho,?_,O.ne,J.obj,_,J.ns,fun g=> ?_,fun g B=> ?_⟩
 .have:=u_ f y fs;lia
 .show oa ((bR f y fs).lookup g) (if g=f then some u else d g)
  rw[vt]
  by_cases q:g=f
  .rw[NV q,NV q];exact j
  .rw[fI q,fI q];exact r g
 .by_cases q:g=f
  .rw[q];exact(uw f y fs).1
  .refine(uw f y fs).2 g (U g fun z=>B ?_)
   show(if g=f then some u else d g)=none
   rw[fI q];exact z
theorem Inv.made(I:Inv X pins Z H s):Inv X pins Z (upd (upd H s.heap.objs.size (.own (s.heap.objs.size+1))) (s.heap.objs.size+1) (.ins C s.heap.objs.size []))
  {s with heap:=(s.heap.push W.emptyDict).push (W.instObj C s.heap.objs.size)}:=by
 have J:(s.heap.push W.emptyDict).get? s.heap.objs.size=some W.emptyDict:=Ol s.heap rfl;have g:((s.heap.push W.emptyDict).push (W.instObj C s.heap.objs.size)).get? (s.heap.objs.size+1)=some (W.instObj C s.heap.objs.size):=by
  have:=Ol (s.heap.push W.emptyDict) (o:=W.instObj C s.heap.objs.size) rfl
  rwa [PJ] at this
 have c:(s.heap.push W.emptyDict).Ns s.heap.objs.size (fun _=>none):=⟨W.emptyDict, #[],_,J,rfl,(fun e d=>absurd d (by simp)),fun _=>rfl⟩
 have U:=I.laid (a:=s.heap.objs.size) (o:= .own (s.heap.objs.size+1)) (h':=s.heap.push W.emptyDict) (t':=s.toks) (fun b u q=>NU _ q) (NW _) ⟨_,J⟩
 refine U.laid (a:=s.heap.objs.size+1) (o:= .ins C s.heap.objs.size []) (t':=s.toks) (fun b u q=>NU _ q) (Nat.le_of_eq (PJ _ _)) ?_
 have ne:s.heap.objs.size≠s.heap.objs.size+1:=Om (Qe _);refine⟨by rw[aq ne,ae],Ou _,ne,g,fun _=>none,(Heap.Ns1.of_empty c).at fun o q=>NU _ q,fun _=>True.intro,fun y i=>absurd rfl i⟩
theorem Jr{prog:Program}{w:World}{env:Env}{e:Expr}{f:Str}{J:Pos}{s:Shared}{Q:Value->Shared->Prop}(U:attributeBase e f env (eval e env)=eval e env)
  (h:wpAny (model prog w) A (eval e env) (fun o I=>wpAny (model prog w) A (getAttr o f true) Q E I) E s):wpAny (model prog w) A (eval (.Attribute e f J) env) Q E s:=
 Attribute_any_ h (by rw[arm_eval_Attribute,U])
end
def Nh(K:Frag)(J:TE)(f:Str):TE:=fun Z H Q=>J Z H fun x o=>∃a C I fs v,x= .ref a/\o a=some (.ins C I fs)/\Cls K C/\uy K C f/\fs.lookup f=some v/\Q v o
def Ny(K:Frag)(b U:TE)(f:Str):TS:=fun D Z H=>U Z H fun y J=>b Z J fun x o=>∃a C I fs,x= .ref a/\o a=some (.ins C I fs)/\Cls K C/\uy K C f/\fs.length<1000/\
 D.nx Z (upd o a (.ins C I (bR f y fs)))
section
variable {X : Cx} {o e value : Expr} {f : Str} {pos pos' tpos : Pos} {ta tv : TE}
theorem aV(w:PE X e ta)(r:attributeBase e f X.env (eval e X.env)=eval e X.env):PE X (.Attribute e f pos) (Nh X.K ta f):=by
 intro J s Z H Q I h;refine Jr r (cB (w J s Z H _ I h) fun u y x b g i U=> ?_)
 obtain⟨a,C,B,fs,v,p,j,c,n,l,q⟩:=U;subst p;obtain rfl:u=Value.ref a:=i;exact D_ g j c n l fun A z m d=>⟨v,b,m,d,q⟩
theorem cu(g:PE X o ta)(A:PE X value tv)(hs:swapsWith value (some (.Attribute o f pos')) pos.line X.env=pure false):PS X (.Assign [.Attribute o f pos'] value pos) (Ny X.K ta tv f):=by
 intro J s Z H D I h;refine plainObj_wpAny_Assign_Attribute (cB (A J s Z H _ I h) fun u i y d j b q=>cB (g J i Z d _ j q) fun p F x E z m U=> ?_) hs
 obtain⟨a,C,L,fs,B,r,c,n,l,w⟩:=U;subst B;obtain rfl:p=Value.ref a:=m;exact EE z r c n l b fun G v=>⟨Z,_,v,w⟩
end
section
variable {X : Cx} {pins : List (Addr × Obj)} {σ : St} {H : Hp} {s : Shared} {A : Around} {E : Value → Shared → Prop} {Q : Value → Shared → Prop} {c : Value} {b : Bool}
inductive vV (K:Frag) (H:Hp):V->Value->Prop where
 | non:vV K H .non (.type "NoneType")
 | bl (x:Bool):vV K H (.bl x) (.type "bool")
 | int (i:Int):vV K H (.int i) (.type "int")
 | str (x:Str):vV K H (.str x) (.type "str")
 | flt (x:UInt64):vV K H (.flt x) (.type "float")
 | lst {a:Addr}{xs:List V}(e:H a=some (.lst xs)):vV K H (.ref a) (.type "list")
 | frz {a:Addr}{o:Obj}{xs:List V}(e:H a=some (.frz o (.lst xs))):vV K H (.ref a) (.type "list")
 | tup {a:Addr}{xs:List V}(e:H a=some (.tup xs)):vV K H (.ref a) (.type "tuple")
 | dK {a:Addr}{kvs:List (Key × V)}(e:H a=some (.dK kvs)):vV K H (.ref a) (.type "dict")
 | dT {a:Addr}{kvs:List (List Key × V)}(e:H a=some (.dT kvs)):vV K H (.ref a) (.type "dict")
 | ins {a C dx:Addr}{fs:List (Str × V)}(e:H a=some (.ins C dx fs)) (cl:Cls K C) (ha:W.findIn K (.ref C) "__class__"=some (some (.builtin "object.__class__")))
   (hn:W.specialIn K (.builtin "object.__class__") "__get__"=some (some (.builtin "getset_descriptor.__get__"))) (htk:W.takesIn K (.builtin "object.__class__")=some true)
   (hm:W.mroIn K C (.type "object")=some true):vV K H (.ref a) (.ref C)
end
structure Room (k:Nat) (A:Around):Prop where
 hd:A.handled=none
 dp:A.depth+3*k+5<recursionLimit
 un:A.units+16*k+200<cLine
theorem Room.mono{j k:Nat}{A:Around}(r:Room k A)(h:j<=k):Room j A:=⟨r.hd,by have:=r.dp;lia,by have:=r.un;lia⟩
theorem Room.deeper{k:Nat}{A:Around}(r:Room (k+1) A)(env:Env):Room k (A.deeper env):=
 ⟨r.hd,by have:=r.dp;show A.depth+1+3*k+5<_;lia,by have:=r.un;show A.units+3+16*k+200<_;lia⟩
theorem Es{A:Around}{C:Addr}{us:List Value}{o:List (Str × Value)}:(A.under (.builtin "type.__call__" ⟨.ref C::us,o⟩)).depth=A.depth+1:=by
 first | rfl | simp [Around.under,Code.weight,Code.isCreation,Code.isGuard,Code.isCaller,Code.frames,Code.isFrame,guardIds]
theorem EV{A:Around}{C:Addr}{us:List Value}{o:List (Str × Value)}:(A.under (.builtin "type.__call__" ⟨.ref C::us,o⟩)).units=A.units+1:=by
 first | rfl | simp [Around.under,Code.cUnits,Code.frames,Code.isFrame]
theorem Room.make{k:Nat}{A:Around}(r:Room (k+1) A)(C:Addr)(us:List Value)(o:List (Str × Value)):Room k (A.under (.builtin "type.__call__" ⟨.ref C::us,o⟩)):=
 ⟨r.hd,by have:=r.dp;rw[Es];lia,by have:=r.un;rw[EV];lia⟩
theorem Room.depth{k:Nat}{A:Around}(r:Room k A):A.depth<recursionLimit:=by have:=r.dp;lia
theorem Room.units{k:Nat}{A:Around}(r:Room k A):A.units+64<cLine:=by have:=r.un;lia
def xG:TA:=fun _ H Q=>Q [] H
def jm(U:TE)(I:TA):TA:=fun Z H Q=>U Z H fun x o=>I Z o fun J C=>Q (x::J) C
section
variable {X : Cx} {e : Expr} {es : List Expr} {te : TE} {t : TA} {pos : Pos}
theorem dN:PA X [] xG:=fun _ _ _ _ H Q I h=>Calls.spliced_nil ⟨[],H,I,.nil,h⟩
theorem dF(a:PE X e te)(i:PA X es t)(hs:starEach (e::es) X.env=(false,eval e X.env)::starEach es X.env:=by rfl):PA X (e::es) (jm te t):=by
 intro pos o s Z H Q I h;rw[hs];show wpAny _ _ (spliced ((false,eval e X.env)::backTo pos (starEach es X.env))) _ _ s
 refine QA (cB (a o s Z H _ I h) fun u b x C c l j=> ?_)
 exact cB (i pos o b Z C _ c j) fun n m U J f g d=>⟨x::U,J,f,.cons l g,d⟩
def NC(t:TA):TE:=fun Z H Q=>t Z H fun C o=>C.length<=sizeLine/\∀p,o p=none->Q (.ref p) (upd o p (.tup C))
def Nz(t:TA):TE:=fun Z H Q=>t Z H fun C o=>C.length<=sizeLine/\∀p,o p=none->Q (.ref p) (upd o p (.lst C))
theorem aB{x1}(h:PA X es t):PE X (.Tuple es x1 pos) (NC t):=by
 intro o s Z H Q I f;refine wpAny_Tuple_spliced (thn (h pos o s Z H _ I f) fun d C ⟨c,J,U,r,z,q⟩=>⟨by rw[<- r.length];exact z,?_⟩)
 have a:J C.heap.objs.size=none:=U.hok.fresh (NW _);refine⟨.ref C.heap.objs.size,upd J C.heap.objs.size (.tup c),U.laid (t':=C.toks) (fun b u e=>NU _ e) (NW _) ?_,rfl,q _ a⟩
 exact⟨z,d,r,⟨_,Ol _ rfl,rfl,_,rfl⟩⟩
theorem bo(h:PA X es t):PE X (.List es pos) (Nz t):=by
 intro o s Z H Q I f;refine wpAny_List_spliced (thn (h pos o s Z H _ I f) fun d C ⟨c,J,U,r,z,q⟩=>⟨by rw[<- r.length];exact z,?_⟩)
 have a:J C.heap.objs.size=none:=U.hok.fresh (NW _);refine⟨.ref C.heap.objs.size,upd J C.heap.objs.size (.lst c),U.laid (t':=C.toks) (fun b u e=>NU _ e) (NW _) ?_,rfl,q _ a⟩
 exact⟨z,d,0,r,Ol _ rfl⟩
end
abbrev Sp:=List V->Hp->VK->XK->Prop
abbrev CXT:=List Env->Hp->Shared->XK->Value->Shared->Prop
structure D6 (P:Program) (w:World) (K:Frag) (mg:Str->Option Value) (base:Heap) (A:Around) (outer:List Env) (s:Shared) (H:Hp):Prop where
 frames:A.frames=some outer
 mod:Mod K mg base
 bs:∀b o,base.get? b=some o->s.heap.get? b=some o/\H b=none
 bsz:base.objs.size<=s.heap.objs.size
 funs:s.heap.FunFrames base outer
 frf:∀b∈frs outer,H b=none
 hok:HOk P w H s.heap
 bare:AllBare s.gens
def CE(o:List Env)(P:Program)(w:World)(H:Hp)(s:Shared)(Q:VK)(u:Value)(C:Shared):Prop:=
 ∃v I,C.os=s.os/\AllBare C.gens/\Un (frs o) [] H I s.heap C.heap/\HOk P w I C.heap/\bz v u/\Q v I
def CR(CX:CXT)(o:List Env)(P:Program)(w:World)(H:Hp)(s:Shared)(Q:VK)(E:XK)(r:Result)(C:Shared):Prop:=
 match r with
 | .ok (.ret u)=>CE o P w H s Q u C
 | .ok _=>False
 | .error e=>CX o H s E e C
structure ja (P:Program) (w:World) (K:Frag) (mg:Str->Option Value) (base:Heap) (CX:CXT) (k:Nat) (f:Addr) (fd:FuncData) (ps:List Str) (sp:Sp):Prop where
 len:∀vs H Q E,sp vs H Q E->vs.length=ps.length
 run:∀(A:Around) (outer:List Env) (s:Shared) (H:Hp) (args:Args) (us:List Value) (vs:List V) (Q:VK) (E:XK),Room k A->D6 P w K mg base A outer s H->BindsTo s fd args (ps.zip us)->bj vs us->sp vs H Q E->
  codeAny (model P w) A (.call (.ref f) args) (CR CX outer P w H s Q E) s
theorem ja.mono{P:Program}{w:World}{K:Frag}{I:Str->Option Value}{base:Heap}{CX:CXT}{j k:Nat}{f:Addr}{J:FuncData}{ps:List Str}{sp:Sp}(F:ja P w K I base CX j f J ps sp)(h:j<=k):
  ja P w K I base CX k f J ps sp:=⟨F.len,fun A o s H C b U Q E a=>F.run A o s H C b U Q E (a.mono h)⟩
theorem ja.imp{P:Program}{w:World}{K:Frag}{I:Str->Option Value}{base:Heap}{CX:CXT}{k:Nat}{f:Addr}{J:FuncData}{ps:List Str}{sp sp':Sp}(F:ja P w K I base CX k f J ps sp)
  (h:∀vs H Q E,sp' vs H Q E->sp vs H Q E):ja P w K I base CX k f J ps sp':=
 ⟨fun vs H Q E q=>F.len vs H Q E (h _ _ _ _ q),fun A o s H C b vs Q E a d c U hs=>F.run A o s H C b vs Q E a d c U (h _ _ _ _ hs)⟩
theorem D6.make{P:Program}{w:World}{K:Frag}{I:Str->Option Value}{base:Heap}{A:Around}{o:List Env}{s:Shared}{H:Hp}(e:D6 P w K I base A o s H)(C:Addr)(us:List Value)(J:List (Str × Value)):
  D6 P w K I base (A.under (.builtin "type.__call__" ⟨.ref C::us,J⟩)) o s H:=⟨by first | exact e.frames | (simpa [Around.under,Code.envs,Code.isFrame,pushEnvs] using e.frames),e.mod,e.bs,e.bsz,e.funs,e.frf,e.hok,e.bare⟩
section
variable {X : Cx} {pins : List (Addr × Obj)} {σ : St} {H : Hp} {s s' : Shared}
theorem Inv.env0(I:Inv X pins Z H s):D6 X.prog X.w X.K X.mg X.base X.A X.stack s H:=
 ⟨I.ok.frames,I.ok.mod,I.bs,Oc I.ok.bsz I.sz,I.stack,I.stkFree,I.hok,I.bare⟩
theorem Inv.after{Q:VK}{u:Value}(I:Inv X pins Z H s)(h:CE X.stack X.prog X.w H s Q u s'):EP X pins Z Q u s':=by
 obtain⟨v,a,c,o,un,C,r,q⟩:=h;obtain⟨U,g,d,t,J⟩:=s';obtain rfl:J=s.os:=c;exact⟨v,a,I.call (h':=U) (g':=g) (d':=d) (t':=t) (ch:=[]) un C o (fun b z=>absurd z (by simp)),r,q⟩
end
def FQ(sp:Sp)(o:List V)(E:XK)(t:TA):TE:=fun Z H Q=>t Z H fun I C=>sp (I++o) C Q E
def Fe(C:Addr)(m:Str)(sp:Sp)(o:List V)(E:XK)(c:TE)(t:TA):TE:=fun Z H Q=>c Z H fun x I=>∃a b fs,x= .ref a/\I a=some (.ins C b fs)/\fs.lookup m=none/\
 t Z I fun U J=>sp (x::(U++o)) J Q E
def FB(C:Addr)(sp:Sp)(J:List V)(E:XK)(t:TA):TE:=fun Z H Q=>t Z H fun a I=>∀x o,I x=none->I o=none->o≠x->
 sp (.ref x::(a++J)) (upd (upd I o (.own x)) x (.ins C o [])) (fun v U=>v= .non/\Q (.ref x) U) E
def jp(K:Frag)(C:FuncData)(ps:List Str)(ds:List Value):Prop:=
 ∀(s:Shared) (o:List Value),K.In s.heap->(o++ds).length=ps.length->BindsTo s C ⟨o,[]⟩ (ps.zip (o++ds))
theorem jp.all{K:Frag}{C:FuncData}{ps:List Str}(h:∀us:List Value,us.length=ps.length->bindArgs C ⟨us,[]⟩=pure (ps.zip us)):jp K C ps []:=fun s us _ o=>by
 rw[Oz] at o ⊢;exact .of_eq (h us o)
def nD(CX:CXT)(X:Cx)(E:XK):Prop:=∀(o:List (Addr × Obj)) (Z:St) (H:Hp) (s:Shared) (e:Value) (C:Shared),Inv X o Z H s->CX X.stack H s E e C->X.xe e C
section
variable {X : Cx} {CX : CXT} {k : Nat} {f C : Addr} {fd : FuncData} {ps : List Str} {sp : Sp} {dvs : List V} {ds : List Value} {E : XK} {x m : Str} {p pos apos : Pos} {e o : Expr} {es : List Expr} {ta : TE} {t : TA}
theorem Ao{J:List (Addr × Obj)}{Z:St}{H:Hp}{s:Shared}{Q:VK}{us:List Value}{vs:List V}(F:ja X.prog X.w X.K X.mg X.base CX k f fd ps sp)(g:Room k X.A)(i:jp X.K fd ps ds)(hd:bj dvs ds)(b:nD CX X E)
  (I:Inv X J Z H s) (r:bj vs us) (h:sp (vs++dvs) H Q E):wpAny (model X.prog X.w) X.A (call (.ref f) us) (EP X J Z Q) X.xe s:=by
 have a:bj (vs++dvs) (us++ds):=r.append hd;have d:(us++ds).length=ps.length:=by rw[<- a.length];exact F.len _ _ _ _ h
 refine wpAny_call (P8 (F.run X.A X.stack s H ⟨us,[]⟩ (us++ds) (vs++dvs) Q E g I.env0 (i s us I.kIn d) a h) fun r c U=> ?_)
 cases r with
 | error e=>exact b J Z H s e c I U
 | ok fl=>
  cases fl with
  | ret u=>exact I.after U
  | next=>exact False.elim U
  | brk=>exact False.elim U
  | cont=>exact False.elim U
theorem Kk(F:ja X.prog X.w X.K X.mg X.base CX k f fd ps sp)(i:Room k X.A)(l:Gl X x)(hm:X.mg x=some (.ref f))(g:W.keepIn X.K (.ref f)=true)(j:jp X.K fd ps ds)(hd:bj dvs ds)(d:nD CX X E)
  (c:PA X (e::es) t) (U:(x==("__debug__":Str))=false:=by decide) (n:starEach (e::es) X.env=(false,eval e X.env)::starEach es X.env:=by rfl) (a:(backTo pos (starEach es X.env)).any (·.1)=false:=by rfl):
  PE X (.Call (.Name x p) (e::es) [] pos) (FQ sp dvs E t):=by
 intro J s Z H Q I h;refine OY (mr I l hm ?_ U)
 refine QY (h₀:=X.base) I.ok.mod.kin g (cB (c pos J s Z H _ I h) fun z y v u b r q=>⟨b.kIn,?_⟩) n a
 exact Ao F i j hd d b r q
theorem HG(F:ja X.prog X.w X.K X.mg X.base CX k f fd ps sp)(g:Room k X.A)(c:Gl X x)(hm:X.mg x=some (.ref f))(d:W.keepIn X.K (.ref f)=true)(a:jp X.K fd ps ds)(hd:bj dvs ds)(b:nD CX X E)
  (J:(x==("__debug__":Str))=false:=by decide):PE X (.Call (.Name x p) [] [] pos) (FQ sp dvs E xG):=by
 intro U s Z H Q I h;refine OY (mr I c hm ?_ J)
 exact RA I.kIn d (Ao (us:=[]) F g a hd b I .nil h)
theorem Jt{pl:Sem Bool}(R:PE X o ta)(c:Cls X.K C)(hm:Ix X.K C m f)(F:ja X.prog X.w X.K X.mg X.base CX k f fd ps sp)(N:Room k X.A)(P:jp X.K fd ps ds)(hd:bj dvs ds)(D:nD CX X E)(z:PA X (e::es) t)
  (b:starEach (e::es) X.env=(false,eval e X.env)::starEach es X.env:=by rfl) (U:(backTo pos (starEach es X.env)).any (·.1)=false:=by rfl)
  (S:eval (.Call (.Attribute o m apos) (e::es) [] pos) X.env=(do
   let j <-eval o X.env
   standAt apos.atName
   let (f,first) <-holding [j] (getMethod j m pl)
   callWith pos f first (backTo pos (starEach (e::es) X.env)) (backToKw pos (keywordEach [] X.env))):=by rfl):
  PE X (.Call (.Attribute o m apos) (e::es) [] pos) (Fe C m sp dvs E ta t):=by
 intro J s Z H Q I h;refine W.methodCall_KW (pl:=pl) (cB (R J s Z H _ I h) fun u B x y i G d=> ?_) S
 obtain⟨a,dx,fs,O,L,l,q⟩:=d;subst O;obtain rfl:u=Value.ref a:=G;refine wN i L c hm l ?_
 refine QY (first:=[.ref a]) (h₀:=X.base) I.ok.mod.kin hm.kp (cB (z pos J B Z y _ i q) fun v Y g T n r M=>⟨n.kIn,?_⟩) b U
 exact Ao (us:= .ref a::v) (vs:= .ref a::g) F N P hd D n (.cons rfl r) M
theorem HN{pl:Sem Bool}(y:PE X o ta)(c:Cls X.K C)(hm:Ix X.K C m f)(F:ja X.prog X.w X.K X.mg X.base CX k f fd ps sp)(n:Room k X.A)(v:jp X.K fd ps ds)(hd:bj dvs ds)(g:nD CX X E)
  (z:eval (.Call (.Attribute o m apos) [] [] pos) X.env=(do
   let d <-eval o X.env
   standAt apos.atName
   let (f,first) <-holding [d] (getMethod d m pl)
   callWith pos f first (backTo pos (starEach [] X.env)) (backToKw pos (keywordEach [] X.env))):=by rfl):
  PE X (.Call (.Attribute o m apos) [] [] pos) (Fe C m sp dvs E ta xG):=by
 intro J s Z H Q I h;refine W.methodCall_KW (pl:=pl) (cB (y J s Z H _ I h) fun u D x B U i b=> ?_) z
 obtain⟨a,G,fs,r,j,l,q⟩:=b;subst r;obtain rfl:u=Value.ref a:=i;refine wN U j c hm l ?_
 exact RA (first:=[.ref a]) U.kIn hm.kp (Ao (us:=[.ref a]) (vs:=[.ref a]) F n v hd g U (.cons rfl .nil) q)
structure Mk (K:Frag) (C f:Addr):Prop where
 makes:W.makesIn K C=true
 init:W.findIn K (.ref C) "__init__"=some (some (.ref f))
 fn:W.isFn K (.ref f)=true
 kp:W.keepIn K (.ref C)=true
theorem DR{J:List (Addr × Obj)}{Z:St}{H:Hp}{s:Shared}{Q:VK}{us:List Value}{vs:List V}(M:Mk X.K C f)(F:ja X.prog X.w X.K X.mg X.base CX k f fd ps sp)(z:Room (k+1) X.A)(D:jp X.K fd ps ds)(hd:bj dvs ds)
  (l:nD CX X E) (I:Inv X J Z H s) (r:bj vs us)
  (h:∀x b,H x=none->H b=none->b≠x->sp (.ref x::(vs++dvs)) (upd (upd H b (.own x)) x (.ins C b [])) (fun v g=>v= .non/\Q (.ref x) g) E):
  wpAny (model X.prog X.w) X.A (call (.ref C) us) (EP X J Z Q) X.xe s:=by
 have d:=h (s.heap.objs.size+1) s.heap.objs.size (I.hok.fresh (Nat.le_succ _)) (I.hok.fresh (NW _)) (Om (Qe _));have a:=Inv.made (C:=C) I;have c:bj (V.ref (s.heap.objs.size+1)::(vs++dvs)) (Value.ref (s.heap.objs.size+1)::(us++ds)):= .cons rfl (r.append hd);have y:(Value.ref (s.heap.objs.size+1)::us++ds).length=ps.length:=by
  have e:=c.length;rw[F.len _ _ _ _ d] at e;exact e.symm
 refine wpAny_call (Iv (f:=f) I.kIn M.makes M.init (P4.mp M.fn) (P8 (F.run _ X.stack _ _ ⟨Value.ref (s.heap.objs.size+1)::us,[]⟩ (Value.ref (s.heap.objs.size+1)::(us++ds)) _ _ E (z.make C us [])
  (a.env0.make C us []) (D _ (Value.ref (s.heap.objs.size+1)::us) a.kIn y) c d) fun r q U=> ?_))
 cases r with
 | error e=>exact l J Z _ _ e q a U
 | ok fl=>
  cases fl with
  | ret u=>
   obtain⟨v,j,n,B,G,i⟩:=a.after U;subst G;exact⟨B,⟨V.ref (s.heap.objs.size+1),j,n,rfl,i⟩⟩
  | next=>exact False.elim U
  | brk=>exact False.elim U
  | cont=>exact False.elim U
theorem JZ(M:Mk X.K C f)(F:ja X.prog X.w X.K X.mg X.base CX k f fd ps sp)(g:Room (k+1) X.A)(j:Gl X x)(hm:X.mg x=some (.ref C))(i:jp X.K fd ps ds)(hd:bj dvs ds)(d:nD CX X E)
  (c:PA X (e::es) t) (U:(x==("__debug__":Str))=false:=by decide) (l:starEach (e::es) X.env=(false,eval e X.env)::starEach es X.env:=by rfl) (a:(backTo pos (starEach es X.env)).any (·.1)=false:=by rfl):
  PE X (.Call (.Name x p) (e::es) [] pos) (FB C sp dvs E t):=by
 intro J s Z H Q I h;refine OY (mr I j hm ?_ U)
 refine QY (h₀:=X.base) I.ok.mod.kin M.kp (cB (c pos J s Z H _ I h) fun y v u n b r q=>⟨b.kIn,?_⟩) l a
 exact DR M F g i hd d b r q
theorem Hn(M:Mk X.K C f)(F:ja X.prog X.w X.K X.mg X.base CX k f fd ps sp)(d:Room (k+1) X.A)(c:Gl X x)(hm:X.mg x=some (.ref C))(a:jp X.K fd ps ds)(hd:bj dvs ds)(b:nD CX X E)
  (J:(x==("__debug__":Str))=false:=by decide):PE X (.Call (.Name x p) [] [] pos) (FB C sp dvs E xG):=by
 intro U s Z H Q I h;refine OY (mr I c hm ?_ J)
 exact RA I.kIn M.kp (DR (us:=[]) M F d a hd b I .nil h)
end
structure av (N P:List Str) (sc:Scope):Prop where
 kind:sc.kind= .function
 co:sc.isCoroutine=false
 gen:sc.isGenerator=false
 nd:N.Nodup
 pre:N.take P.length=P
 par:∀x∈P,sc.names.lookup x=some .local\/sc.names.lookup x=some .cell
 nofree:∀y∈sc.names,y.2≠ .free
theorem zR{o:Str->Option NameKind}{x:Str}:∀{binds:List (Str × Value)}{m:Str->Option Value},(∀v,(x,v) ∉ binds)->bindL o binds m x=m x
 | [],_,_=>rfl
 | (n,v)::r,m,h=>by
  unfold bindL;rw[zR fun w hw=>h w (N2 _ hw)]
  split
  .have:x≠n:=by rintro rfl;exact h v N3
   simp [this]
  .rfl
theorem zC{o:Str->Option NameKind}{x:Str}:∀{binds:List (Str × Value)}{m:Str->Option Value},(∀v,(x,v) ∉ binds)->bindC o binds m x=m x
 | [],_,_=>rfl
 | (n,v)::r,m,h=>by
  unfold bindC;rw[zC fun w hw=>h w (N2 _ hw)]
  split
  .rfl
  .have:x≠n:=by rintro rfl;exact h v N3
   simp [this]
theorem zQ{o:Str->Option NameKind}{x:Str}{v:Value}:∀{P:List Str}{vs:List Value}{i:Nat}{m:Str->Option Value},P.Nodup->P[i]? =some x->vs[i]? =some v->o x=some .local->
  bindL o (P.zip vs) m x=some v
 | [],_,_,_,_,h,_,_=>by simp at h
 | _::_,[],_,_,_,_,h,_=>by simp at h
 | p::P,w::vs,0,m,nd,h1,h2,hk=>by
  simp at h1 h2;subst h1;subst h2
  show bindL o ((p,w)::P.zip vs) m p=_
  unfold bindL;rw[zR fun v C=>(O5.mp nd).1 (Q7 C).1,NV hk]
  simp
 | p::P,w::vs,i+1,m,nd,h1,h2,hk=>by
  show bindL o ((p,w)::P.zip vs) m x=_
  unfold bindL;exact zQ (i:=i) (O5.mp nd).2 (by simpa using h1) (by simpa using h2) hk
theorem zT{o:Str->Option NameKind}{x:Str}{v:Value}:∀{P:List Str}{vs:List Value}{i:Nat}{m:Str->Option Value},P.Nodup->P[i]? =some x->vs[i]? =some v->o x≠some .local->
  bindC o (P.zip vs) m x=some v
 | [],_,_,_,_,h,_,_=>by simp at h
 | _::_,[],_,_,_,_,h,_=>by simp at h
 | p::P,w::vs,0,m,nd,h1,h2,hk=>by
  simp at h1 h2;subst h1;subst h2
  show bindC o ((p,w)::P.zip vs) m p=_
  unfold bindC;rw[zC fun v C=>(O5.mp nd).1 (Q7 C).1,fI hk]
  simp
 | p::P,w::vs,i+1,m,nd,h1,h2,hk=>by
  show bindC o ((p,w)::P.zip vs) m x=_
  unfold bindC;exact zT (i:=i) (O5.mp nd).2 (by simpa using h1) (by simpa using h2) hk
noncomputable def start(N:List Str)(vs:List V):St:=vs.map some++List.replicate (N.length - vs.length) none
noncomputable def i6(CX:CXT)(P:Program)(w:World)(K:Frag)(U:Str->Option Value)(base:Heap)(N:List Str)(I:Str)(o:Scope)(f:Addr)(cd:Value)(A:Around)(C:List Env)(s:Shared)(H:Hp)(E:XK):Cx where
 prog:=P
 w:=w
 K:=K
 mg:=U
 base:=base
 A:=A.deeper (envOfC I o s.heap.objs.size f cd)
 N:=N
 s₀:=s
 H₀:=H
 env:=envOfC I o s.heap.objs.size f cd
 outer:=C
 stack:=envOfC I o s.heap.objs.size f cd::C
 ex:=[]
 calm:=true
 fn:=fun _=>true
 pn:=[]
 xe:=fun e a=>wpAny (model P w) (A.deeper (envOfC I o s.heap.objs.size f cd)) (leaving (envOfC I o s.heap.objs.size f cd) e) (fun _ J=>CX C H s E e J) (fun b J=>CX C H s E b J) a
theorem Di{o:Scope}{n:Nat}{x:Str}(h:o.names.lookup x=some .cell):∃c,(cellsFrom n o.names []).lookup x=some c:=by
 have q:=W.cellsFrom_some o.names n [] (.inl h);exact Option.isSome_iff_exists.mp q
theorem Gu{CX:CXT}{P:Program}{w:World}{K:Frag}{D:Str->Option Value}{base:Heap}{N ps:List Str}{I:Str}{o:Scope}{f:Addr}{cd:Value}{A:Around}{C:List Env}{s F:Shared}{H:Hp}{E:XK}{us:List Value}{vs:List V}
  (S:av N ps o) (hd:A.handled=none) (U:D6 P w K D base A C s H) (R:vs.length=ps.length) (r:bj vs us)
  (x:InCallC s s.heap.objs.size (bindL (envOfC I o s.heap.objs.size f cd).kindOf (ps.zip us) fun _=>none) (cellsFrom (s.heap.objs.size+1) o.names []) (bindC (envOfC I o s.heap.objs.size f cd).kindOf (ps.zip us) fun _=>none) F):
  Inv (i6 CX P w K D base N I o f cd A C s H E) [] (start N vs) H F:=by
 have O:ps.length<=N.length:=by have:=congrArg List.length S.pre;rw[Oh] at this;lia
 obtain⟨m,T,rfl,L⟩:=x.done;have g:∀b:Addr,b ∉ (i6 CX P w K D base N I o f cd A C s H E).ex:=fun b z=>absurd (show b∈([]:List Addr) from z) (by simp)
 refine⟨⟨U.mod,S.kind,rfl,rfl,NW _,fun y z c m J=> ?_,fun y d=> ?_,fun y c _ h=> ?_,fun _=>hd,Around.frames_deeper U.frames,.inr ⟨rfl,rfl⟩,fun b z=>absurd z (g b),U.bs,U.bsz,fun b _ _=>g b,fun b z=>absurd z (g b),U.funs,U.frf⟩,
  rfl,U.bare,Un.kept L,⟨_,x.toInCall.ns,fun i y v m J W=> ?_⟩,fun y c h=>⟨_,x.cell y c h⟩,U.hok.fresh (NW _),fun y c h=> ?_,fun p j=>absurd (show p∈([]:List (Addr × Obj)) from j) (by simp),U.hok.kept L,?_⟩
 .exact name_of_addr x.apart (OV m) (OV J)
 .have d:o.names.lookup y=some .cell\/o.names.lookup y=some .free:=d;rcases d with d | d
  .exact Di d
  .exact absurd rfl (S.nofree _ (OV d))
 .exact Qt (x.above y c (OV h))
 .have B:i<vs.length:=by
   unfold start at J
   by_cases B:i<vs.length
   .exact B
   .rw[Oe (by simpa using B)] at J
    rw[Pq] at J
    split at J <;> cases J
  have M:vs[i]? =some v:=by
   unfold start at J;rw[Oo (by simpa using B),OB] at J
   cases e:vs[i]? with
   | none=>rw[e] at J;cases J
   | some a=>rw[e] at J;cases J;rfl
  obtain⟨u,G,Q⟩:=r.get M;have j:ps[i]? =some y:=by
   rw[<- S.pre,List.getElem?_take_of_lt (by lia)];exact m
  have l:ps.Nodup:=by rw[<- S.pre];exact S.nd.sublist (List.take_sublist _ _)
  refine⟨u,Q,?_⟩
  rcases S.par y (N4 j) with k | k
  .exact .inl ⟨k,zQ l j G k⟩
  .obtain⟨c,e⟩:=Di (n:=s.heap.objs.size+1) k;refine .inr ⟨.inl k,c,e,?_⟩
   have q:=x.cell y c e;rw[zT l j G (by show o.names.lookup y≠_;rw[k];decide)] at q
   exact q
 .exact U.hok.fresh (Qt (x.above y c (OV h)))
 .unfold start;show _=N.length
  rw[NT,be,OA]
  lia
theorem Kp{CX:CXT}{P:Program}{w:World}{K:Frag}{B:Str->Option Value}{base:Heap}{k:Nat}{f:Addr}{name a:Str}{d:Arguments}{g:List Stmt}{C:Scope}{Z kV z pm c ct oc:Value}{T od:Option Addr}
  {F:Array (Option Value)}{N ps:List Str}{sp:Sp}(lk:K.lookup f=some ⟨oc,od,.func (W.fnOf name a d g C Z kV z pm T c ct),F⟩) (L:W.codeIn K c a=true) (S:av N ps C)
  (len:∀vs H Q E,sp vs H Q E->vs.length=ps.length)
  (l:∀(A:Around) (U:List Env) (s:Shared) (H:Hp) (vs:List V) (Q:VK) (E:XK),Room k (A.deeper (envOfC a C s.heap.objs.size f c))->sp vs H Q E->
   ∃t,PSs (i6 CX P w K B base N a C f c A U s H E) g t/\t {nx:=fun _ i=>Q .non i,rt:=Q} (start N vs) H):
  ja P w K B base CX (k+1) f (W.fnOf name a d g C Z kV z pm T c ct) ps sp:=by
 refine⟨len,fun A U s H ab us vs Q E M p hb r m=> ?_⟩
 have hl:=len _ _ _ _ m;have Y:K.In s.heap:=p.mod.kin.keeps fun b o e=>(p.bs b o e).1
 have R:s.heap.NoLimit:=p.mod.nolimit.keeps fun b o e=>(p.bs b o e).1
 have j:∀y∈ps.zip us,C.names.lookup y.1=some .local\/(C.names.lookup y.1=some .cell/\((cellsFrom (s.heap.objs.size+1) C.names []).lookup y.1).isSome=true):=fun⟨n,v⟩ hy=>by
  rcases S.par n (Q7 hy).1 with q | q
  .exact .inl q
  .exact .inr ⟨q,W.cellsFrom_some _ _ _ (.inl q)⟩
 refine codeAny_call_function M.depth (Y _ _ lk) rfl S.co S.gen rfl (W.codeRec_of Y L) (hb _ _ _ _ ?_)
 refine wpAny_newFunctionEnv_cells S.kind j fun ar he X x=> ?_
 subst he;refine⟨R.keeps x.toInCall.keep,codeAny_func ?_⟩
 obtain⟨t,ht,hq⟩:=l A U s H vs Q E (M.deeper _) m;have I:Inv (i6 CX P w K B base N a C f c A U s H E) [] (start N vs) H X:=Gu S M.hd p hl r x;refine OS (ht [] X (start N vs) H _ I hq) (fun fl G hs=> ?_) fun e G hs=>hs
 have fin:∀{D:St}{i:Hp}{v:V}{u:Value},Inv (i6 CX P w K B base N a C f c A U s H E) [] D i G->bz v u->Q v i->CE U P w H s Q u G:=
  fun {D i v u} J O q=>⟨v,i,J.os,J.bare,J.base,J.hok,O,q⟩
 cases fl with
 | ret u=>
  obtain⟨v,D,i,J,O,q⟩:=hs;exact fin J O q
 | next=>
  obtain⟨D,i,J,q⟩:=hs;exact fin (v:=V.non) (u:=Value.none) J rfl q
 | brk=>
  obtain⟨_,_,_,q⟩:=hs;exact False.elim q
 | cont=>
  obtain⟨_,_,_,q⟩:=hs;exact False.elim q
section
variable {X : Cx} {x : Str} {p pos : Pos} {e : Expr} {es : List Expr} {t : TA} {id T : String} {r : List V → Hp → VK → Prop}
def tCB(r:List V->Hp->VK->Prop)(t:TA):TE:=fun Z H Q=>t Z H fun C o=>r C o Q
theorem aM(i:kC X (.builtin id) r)(m:Gl X x)(hm:X.mg x=none)(f:bootBuiltins x=some (.builtin id))(b:PA X (e::es) t)(g:x≠"__name__":=by decide)(C:(x==("__debug__":Str))=false:=by decide)
  (q:starEach (e::es) X.env=(false,eval e X.env)::starEach es X.env:=by rfl) (J:(backTo pos (starEach es X.env)).any (·.1)=false:=by rfl):PE X (.Call (.Name x p) (e::es) [] pos) (tCB r t):=by
 intro o s Z H Q I h;refine OY (xc I m hm f ?_ g C)
 exact PyProof.Rows.callWith_builtin1 (cB (b pos o s Z H _ I h) fun j c a U d n l=>i o c Z U a j Q d n l) q J
theorem bX(i:kC X (.type T) r)(m:Gl X x)(hm:X.mg x=none)(f:bootBuiltins x=some (.type T))(b:PA X (e::es) t)(g:x≠"__name__":=by decide)(C:(x==("__debug__":Str))=false:=by decide)
  (q:starEach (e::es) X.env=(false,eval e X.env)::starEach es X.env:=by rfl) (J:(backTo pos (starEach es X.env)).any (·.1)=false:=by rfl):PE X (.Call (.Name x p) (e::es) [] pos) (tCB r t):=by
 intro o s Z H Q I h;refine OY (xc I m hm f ?_ g C)
 exact O8 (cB (b pos o s Z H _ I h) fun j c a U d n l=>i o c Z U a j Q d n l) q J
end
end L2
namespace HT
open PySem PyProof.Rows
section
variable {prog : Program} {w : World} {A : Around} {E : Value → Shared → Prop} {s : Shared}
theorem cat_tup{t b:Addr}{vs ws:List Value}{Q:Value->Shared->Prop}(p:IsTup s.heap t vs.toArray)(m:IsTup s.heap b ws.toArray)(g:vs≠[])
  (j:ws=[]->Q (.ref t) s) (l:ws≠[]->Q (.ref s.heap.objs.size) {s with heap:=s.heap.push {cls:= .type "tuple",data:= .seq (vs++ws).toArray}})
  (hsz:vs.length+ws.length<=sizeLine):wpAny (model prog w) A (binaryOp .Add (.ref t) (.ref b)) Q E s:=by
 obtain⟨⟨d,dd,U,sl⟩,ho,i,n,hd⟩:=id p;obtain⟨⟨f,C,c,I⟩,o,J,n2,a⟩:=id m
 simp only at i hd J a
 subst i hd J a;have e:vs.toArray++ws.toArray=(vs++ws).toArray:=by simp
 by_cases hw:ws=[]
 .exact RV ⟨_,ho,rfl⟩ ⟨_,o,rfl⟩ QT RB P9 P5 (PU _ _)
   (tuple_addW1 t b vs.toArray ws.toArray n n2 dd C sl I (by simpa using g) (by simp [hw])) ⟨ho,o,j hw⟩
 .refine RV ⟨_,ho,rfl⟩ ⟨_,o,rfl⟩ QT RB P9 P5 (PU _ _)
   (tuple_addW2 t b vs.toArray ws.toArray n n2 dd C sl I (by simpa using g) (by simpa using hw) (by rw[N1,N1];exact hsz)) ⟨ho,o,?_⟩
  rw[e];exact l hw
noncomputable def sIx(n d:Nat):Option Int->Nat
 | none=>d
 | some v=>if v<0 then(v+(n:Int)).toNat else min v.toNat n
theorem sIx_nat(n d k:Nat):sIx n d (some (k:Int))=min k n:=by
 show(if (k:Int)<0 then((k:Int)+(n:Int)).toNat else min (k:Int).toNat n)=min k n
 rw[fI (by lia),Os]
theorem KU(n d:Nat)(hd:d<=n)(o:Option Int):sIx n d o<=n:=by
 cases o with
 | none=>exact hd
 | some v=>
  show(if v<0 then(v+(n:Int)).toNat else min v.toNat n)<=n
  by_cases C:v<0
  .rw[NV C];lia
  .rw[fI C];exact QU _ _
theorem Fq(v:Int)(n d:Nat):(if v<0 then max (v+(n:Int)) 0 else min v (n:Int))=((sIx n d (some v):Nat):Int):=by
 show(if v<0 then max (v+(n:Int)) 0 else min v (n:Int))=(((if v<0 then(v+(n:Int)).toNat else min v.toNat n):Nat):Int)
 by_cases o:v<0
 .simp only[NV o];lia
 .simp only[fI o];lia
theorem EJ(lo o:Option Int)(n:Nat):Builtin.Slice.sliceAdjust lo o 1 (n:Int)=(((sIx n 0 lo:Nat):Int),((sIx n n o:Nat):Int)):=by
 have C:¬((1:Int)<0):=by lia
 unfold Builtin.Slice.sliceAdjust
 simp only[C,QV]
 refine Prod.ext ?_ ?_
 .cases lo with
  | none=>rfl
  | some v=>exact Fq v n 0
 .cases o with
  | none=>rfl
  | some v=>exact Fq v n n
theorem EF(i j:Nat):Builtin.Slice.slicePlaces (i:Int) (j:Int) 1=j - i:=by
 unfold Builtin.Slice.slicePlaces;have o:(1:Int) >0:=by lia
 simp only[o,Qu,Int.ediv_one]
 split <;> lia
theorem yc{v:Value}{o:Option Int}{Q:Option Int->Shared->Prop}(p:IsPart v o)(h:Q o s):wpAny (model prog w) A (Builtin.Slice.slicePartIndex v) Q E s:=by
 cases p with
 | none=>exact slicePart_none h
 | int i t=>exact slicePart_int h
theorem sliceApplied_gen{sl:Addr}{U J:Value}{lo C:Option Int}{n:Nat}{Q:Int × Int × Nat->Shared->Prop}(hs:s.heap.IsSliceOf sl U J .none)(pl:IsPart U lo)(a:IsPart J C)
  (h:Q (((sIx n 0 lo:Nat):Int),1,sIx n n C - sIx n 0 lo) s):wpAny (model prog w) A (Builtin.Slice.sliceApplied (.ref sl) (pure (n:Int))) Q E s:=by
 obtain⟨c,I,b,o⟩:=id hs;unfold Builtin.Slice.sliceApplied Builtin.Slice.sliceFields;refine gV (gV (OP I o (x:=U) rfl (gV (OP I o (x:=J) rfl (gV (OP I o (x:= .none) rfl (Ob ?_)))))))
 refine gV (slicePart_none ?_)
 show wpAny _ _ (if ((1:Int)==0)=true then _ else _) _ _ s
 rw[fI (by decide)]
 refine gV (yc pl (gV (yc a (gV (Ob ?_)))))
 show wpAny _ _ (match Builtin.Slice.sliceAdjust lo C 1 (n:Int) with | (lo,C)=>pure (lo,(1:Int),Builtin.Slice.slicePlaces lo C 1)) _ _ s
 rw[EJ lo C n];show wpAny _ _ (pure (((sIx n 0 lo:Nat):Int),(1:Int),Builtin.Slice.slicePlaces ((sIx n 0 lo:Nat):Int) ((sIx n n C:Nat):Int) 1)) _ _ s
 rw[EF];exact Ob h
theorem Hc(xs:Array Value)(i k:Nat):((List.range k).filterMap fun(m:Nat)=>xs[((i:Int)+(m:Int)*1).toNat]?).toArray=((xs.toList.drop i).take k).toArray:=by
 have e:(fun(m:Nat)=>xs[((i:Int)+(m:Int)*1).toNat]?)=fun m=>xs[i+m]? :=by
  funext m
  have:((i:Int)+(m:Int)*1).toNat=i+m:=by lia
  rw[this]
 rw[e];have:=pick_run xs i k;rw[List.filterMap_map] at this;have o:((fun x=>xs[x]?) ∘ fun x=>i+x)=fun m=>xs[i+m]? :=rfl
 rw[o] at this;rw[this]
theorem getItem_tuple_cut{t sl:Addr}{o:Array Value}{e d:Value}{lo I:Option Int}{Q:Value->Shared->Prop}(J:IsTup s.heap t o)(hs:s.heap.IsSliceOf sl e d .none)(pl:IsPart e lo)(f:IsPart d I)
  (hw:¬(sIx o.size 0 lo=0/\sIx o.size o.size I=o.size))
  (h:Q (.ref s.heap.objs.size) {s with heap:=s.heap.push {cls:= .type "tuple",data:= .seq ((o.toList.drop (sIx o.size 0 lo)).take (sIx o.size o.size I - sIx o.size 0 lo)).toArray}})
  (hsz:o.size<=sizeLine):wpAny (model prog w) A (getItem (.ref t) (.ref sl)) Q E s:=by
 have C:sizeOk (.seq ((o.toList.drop (sIx o.size 0 lo)).take (sIx o.size o.size I - sIx o.size 0 lo)).toArray):=by
  show((o.toList.drop (sIx o.size 0 lo)).take (sIx o.size o.size I - sIx o.size 0 lo)).toArray.size<=sizeLine
  rw[N1,Oh,OZ,Qs]
  lia
 have l:sIx o.size o.size I<=o.size:=KU _ _ (NW _) I;obtain⟨g,b,U,i⟩:=id hs;have a:s.TypeIs (.ref sl) "slice":=⟨g,b,U⟩;unfold getItem
 try with_reducible refine Qh ?_
 first | refine gV (Ob ?_) | skip
 refine gV (wpAny_sequenceKey J.typeIs (by decide) ?_)
 refine gV (OQ (name:=Str.ofString "__getitem__") J.typeIs OF
  (Pr OF J.typeIs entry_tuple_getitem ?_ (args_tuple_getitem _ _)))
 show wpAny _ _ (Builtin.Tuple.tupleItemsOf (.ref t) >>= _) _ _ s
 refine gV (tupleItemsOf_ J ?_)
 refine gV (RX a ?_)
 rw[NV (by decide)]
 refine gV (sliceApplied_gen hs pl f ?_)
 have c:¬((((sIx o.size 0 lo:Nat):Int)==0 && (1:Int)==1 && (sIx o.size o.size I - sIx o.size 0 lo)==o.size)=true):=by
  intro q;rw[ON,ON] at q;have n:((sIx o.size 0 lo:Nat):Int)=0:=eq_of_beq q.1.1;have j:sIx o.size o.size I - sIx o.size 0 lo=o.size:=eq_of_beq q.2;exact hw ⟨by lia,by lia⟩
 show wpAny _ _ (if (((sIx o.size 0 lo:Nat):Int)==0 && (1:Int)==1 && (sIx o.size o.size I - sIx o.size 0 lo)==o.size)=true then _ else _) _ _ s
 rw[fI c,Hc]
 first
  | exact gV (m:=Builtin.Tuple.tupleExact _) (O3 (Ob ⟨_,rfl,Ob h⟩) C)
  | exact gV (m:=Builtin.Tuple.tupleExact _) (O3 (gV (Ob (Ob ⟨_,rfl,Ob h⟩))) C)
  | exact gV (gV (m:=Builtin.Tuple.tupleExact _) (O3 (Ob (Ob ⟨_,rfl,Ob h⟩)) C))
  | exact gV (gV (m:=Builtin.Tuple.tupleExact _) (O3 (Ob ⟨_,rfl,Ob h⟩) C))
end
end HT
namespace L2
open PySem PySem.Spec PyProof.Rows
abbrev TO:=St->Hp->(Option Int->Hp->Prop)->Prop
def PO(X:Cx)(e:Option Expr)(t:TO):Prop:=
 ∀(C:List (Addr × Obj)) (s:Shared) (Z:St) (H:Hp) (Q:Option Int->Hp->Prop),Inv X C Z H s->t Z H Q->
  wpAny (model X.prog X.w) X.A (evalPart e X.env) (fun u J=>∃o I,Inv X C Z I J/\IsPart u o/\Q o I) X.xe s
def JD:TO:=fun _ H Q=>Q none H
def Mf(t:TE):TO:=fun Z H Q=>t Z H fun x o=>∃i,x= .int i/\Q (some i) o
theorem rn{ns:List Int}:∀{us:List Value},bj (ns.map V.int) us->IntsAre us ns:=by
 induction ns with
 | nil=>intro us r;rw[RY] at r;cases r;exact .nil
 | cons n ns ih=>
  intro us r;rw[OD] at r
  cases r with
  | cons r1 r2=>
   obtain⟨t,e⟩:=r1;subst e;exact .cons n t (ih r2)
section
variable {X : Cx} {e : Expr} {te : TE} {lo hi : Option Expr} {tl th : TO} {pos p2 : Pos}
theorem gS:PO X none JD:=by
 intro o s Z H Q I h;rw[evalPart_none];exact Ob ⟨none,H,I,.none,h⟩
theorem d6(h:PE X e te):PO X (some e) (Mf te):=by
 intro o s Z H Q I hw;rw[evalPart_some];refine cB (h o s Z H _ I hw) fun u b x C J a U=> ?_
 obtain⟨i,rfl,q⟩:=U;obtain⟨t,rfl⟩:=a;exact⟨some i,C,J,.int i t,q⟩
def SlR(X:Cx)(r:V->Option Int->Option Int->Hp->VK->Prop):Prop:=
 ∀(o:List (Addr × Obj)) (s:Shared) (Z:St) (H:Hp) (x:V) (v I C:Value) (lo hi:Option Int) (sl:Addr) (Q:VK),Inv X o Z H s->bz x v->s.heap.IsSliceOf sl I C .none->IsPart I lo->IsPart C hi->r x lo hi H Q->
  ∃T id,typeLookup (.type T) "__getitem__"=pure (some (.builtin id))/\s.TypeIs v T/\wpAny (model X.prog X.w) X.A (getItem v (.ref sl)) (EP X o Z Q) X.xe s
def tSl(r:V->Option Int->Option Int->Hp->VK->Prop)(te:TE)(tl th:TO):TE:=fun Z H Q=>te Z H fun x C=>tl Z C fun l I=>th Z I fun u o=>r x l u o Q
theorem dR{r:V->Option Int->Option Int->Hp->VK->Prop}(F:SlR X r)(N:PE X e te)(E:PO X lo tl)(p:PO X hi th):PE X (.Subscript e (.Slice lo hi none p2) pos) (tSl r te tl th):=by
 intro o s Z H Q I h;refine Subscript_ (cB (N o s Z H _ I h) fun v g x c j M K=> ?_)
 refine wpAny_Slice (cB (E o g Z c _ j K) fun U m l d D f B=>cB (p o m Z d _ D B) fun J C u a z n i=> ?_)
 rw[evalPart_none];refine Ob ?_
 have G:Inv X o Z a {C with heap:=C.heap.push {cls:= .type "slice",data:= .fields #[U,J,.none]}}:=z.kept (t':=C.toks) fun b P q=>NU _ q
 obtain⟨T,id,y,O,L⟩:=F o {C with heap:=C.heap.push {cls:= .type "slice",data:= .fields #[U,J,.none]}} Z a x v U J l u C.heap.objs.size Q G M (Heap.IsSliceOf.new ..) f n i
 show wpAny (model X.prog X.w) X.A (subscriptTail e (.Slice lo hi none p2) v (.ref C.heap.objs.size)) (EP X o Z Q) X.xe {C with heap:=C.heap.push {cls:= .type "slice",data:= .fields #[U,J,.none]}}
 exact tail_any (ops:=[.ref C.heap.objs.size,v]) O y L (by with_unfolding_all rfl)
noncomputable def gw(xs:List V)(lo hi:Option Int):List V:=(xs.drop (HT.sIx xs.length 0 lo)).take (HT.sIx xs.length xs.length hi - HT.sIx xs.length 0 lo)
theorem vo(xs:List V)(lo hi:Option Int):(gw xs lo hi).length<=xs.length:=by
 unfold gw;rw[Oh,OZ]
 lia
def Na(K:Frag):V->Option Int->Option Int->Hp->VK->Prop:=fun x lo hi H Q=>∃a o,x= .ref a/\SqT K H a o/\
 ¬(HT.sIx o.length 0 lo=0/\HT.sIx o.length o.length hi=o.length)/\∀p,H p=none->Q (.ref p) (upd H p (.tup (gw o lo hi)))
theorem nh:SlR X (Na X.K):=by
 intro d s Z H x v p m lo hi sl Q I j hs g l h;obtain⟨a,J,rfl,i,hw,q⟩:=h
 cases j
 obtain⟨U,r,f,c⟩:=I.tuple i;have C:U.toArray.size=J.length:=by rw[N1];exact r.length.symm
 refine⟨"tuple",_,OF.lookup,f.typeIs,?_⟩
 refine HT.getItem_tuple_cut f hs g l (by rw[C];exact hw) ?_ (by rw[C];exact c)
 rw[C];refine⟨.ref s.heap.objs.size,_,I.laid (t':=s.toks) (o:= .tup (gw J lo hi)) (fun b n q=>NU _ q) (NW _) ?_,rfl,q _ (I.hok.fresh (NW _))⟩
 exact⟨Oc (vo J lo hi) c,_,(r.drop (HT.sIx J.length 0 lo)).take (HT.sIx J.length J.length hi - HT.sIx J.length 0 lo),IsTup.new _ _⟩
def MA(K:Frag):R2:=fun x y H Q=>∃a b C o,x= .ref a/\y= .ref b/\SqT K H a C/\SqT K H b o/\C≠[]/\C.length+o.length<=sizeLine/\
 (o=[]->Q (.ref a) H)/\(o≠[]->∀p,H p=none->Q (.ref p) (upd H p (.tup (C++o))))
theorem bj.nil_iff{xs:List V}{us:List Value}(r:bj xs us):us=[]↔xs=[]:=by
 cases r with
 | nil=>simp
 | cons _ _=>simp
theorem Fl:OpR X (binaryOp .Add) (MA X.K):=by
 intro c s Z H x y v u Q I p f h;obtain⟨a,b,i,j,rfl,rfl,l,A,n,U,B,r⟩:=h
 cases p
 cases f
 obtain⟨g,J,m,_⟩:=I.tuple l;obtain⟨d,C,p2,_⟩:=I.tuple A;refine HT.cat_tup m p2 (fun z=>n (J.nil_iff.mp z)) (fun z=>⟨.ref a,H,I,rfl,B (C.nil_iff.mp z)⟩) (fun z=> ?_) (by rw[<- J.length, <-C.length];exact U)
 refine⟨.ref s.heap.objs.size,_,I.laid (t':=s.toks) (o:= .tup (i++j)) (fun b D q=>NU _ q) (NW _) ?_,rfl,r (fun w=>z (C.nil_iff.mpr w)) _ (I.hok.fresh (NW _))⟩
 exact⟨by rw[NT];exact U,_,J.append C,IsTup.new _ _⟩
end
noncomputable def ixN(n:Nat)(i:Int):Option Nat:=if 0<=i then(if i<n then some i.toNat else none) else if -(n:Int)<=i then some (i+n).toNat else none
noncomputable def atI{o:Type}(xs:List o)(i:Int):Option o:=(ixN xs.length i).bind fun j=>xs[j]?
theorem FG{n:Nat}{i:Int}{j:Nat}(h:ixN n i=some j):seqIndex? i n=some j/\j<n/\ -(n:Int)<=i/\i<n:=by
 unfold ixN at h
 by_cases C:0<=i
 .rw[NV C] at h
  by_cases o:i<n
  .rw[NV o] at h;have e:i.toNat=j:=N_ h;exact⟨by rw[seqIndex_of C o,e],by lia,by lia,o⟩
  .rw[fI o] at h;cases h
 .rw[fI C] at h
  by_cases o: -(n:Int)<=i
  .rw[NV o] at h;have e:(i+n).toNat=j:=N_ h;exact⟨by rw[RZ (by lia) o,e],by lia,o,by lia⟩
  .rw[fI o] at h;cases h
theorem Fm{o:Type}{xs:List o}{i:Int}{v:o}(h:atI xs i=some v):∃j,seqIndex? i xs.length=some j/\xs[j]? =some v/\j<xs.length/\ -(xs.length:Int)<=i/\i<xs.length:=by
 unfold atI at h
 cases e:ixN xs.length i with
 | none=>rw[e] at h;cases h
 | some j=>
  rw[e] at h;obtain⟨I,U,C,J⟩:=FG e;exact⟨j,I,h,U,C,J⟩
theorem aQ{o:Type}{xs:List o}{j:Nat}{v:o}(h:xs[j]? =some v):atI xs (j:Int)=some v:=by
 have C:j<xs.length:=(mF.mp h).1;have e:ixN xs.length (j:Int)=some j:=by
  unfold ixN;rw[NV (by lia),NV (by lia)];simp
 unfold atI;rw[e];exact h
def E9(b:Expr):Prop:=∀o i,subscripted b false o i=operate [o,i] (getItem o i)
def IxR(X:Cx)(r:R2):Prop:=
 ∀(I o:Expr) (C:List (Addr × Obj)) (s:Shared) (Z:St) (H:Hp) (x y:V) (v u:Value) (Q:VK),Inv X C Z H s->bz x v->bz y u->r x y H Q->
  subscripted o false v u=operate [v,u] (getItem v u)->wpAny (model X.prog X.w) X.A (subscriptTail I o v u) (EP X C Z Q) X.xe s
def MtR(X:Cx)(id:String)(r:V->List V->Hp->VK->Prop):Prop:=
 ∀(o:List (Addr × Obj)) (s:Shared) (Z:St) (H:Hp) (x:V) (C:List V) (v:Value) (I:List Value) (Q:VK),Inv X o Z H s->bz x v->bj C I->r x C H Q->
  wpAny (model X.prog X.w) X.A (call (.builtin id) (v::I)) (EP X o Z Q) X.xe s
section
variable {X : Cx} {a b : Expr} {ta tb : TE} {pos : Pos}
theorem HP{r:R2}(f:IxR X r)(U:PE X a ta)(g:PE X b tb)(hs:E9 b):PE X (.Subscript a b pos) (tOp r ta tb):=by
 intro o s Z H Q I h;exact Subscript_ (K6 U g I h fun v u c x y J e d C q=>f a b o c Z J x y v u Q e d C q (hs _ _))
def NA(K:Frag):R2:=fun x y H Q=>∃p o i v,x= .ref p/\y= .int i/\SqL K H p o/\atI o i=some v/\Q v H
def No(K:Frag):R2:=fun x y H Q=>∃p o i v,x= .ref p/\y= .int i/\SqT K H p o/\atI o i=some v/\Q v H
theorem ba:IxR X (NA X.K):=by
 intro d c o s Z H x y v u Q I n l h hs;obtain⟨p,L,i,z,rfl,rfl,F,E,q⟩:=h
 cases n
 obtain⟨t,rfl⟩:=l;obtain⟨J,r,U,M⟩:=I.list F;obtain⟨j,C,A,O,G,m⟩:=Fm E;obtain⟨w,g,e⟩:=r.get A;have D:=r.length;have N:=xo;have fin:EP X o Z Q w s:=⟨z,H,I,e,q⟩
 by_cases f:0<=i
 .have hj:i.toNat=j:=by
   rw[seqIndex_of f m] at C;exact N_ C
  exact item_listR U.isList f (by lia) (by rw[hj];simpa using g) fin hs
 .have hj:(i+(J.toArray.size:Int)).toNat=j:=by
   rw[RZ (by lia) G] at C
   rw[N1, <-D];exact N_ C
  exact P_ (x:=w) U.isList.typeIs slot_list_getitem.lookup
   (wpAny_getItem_list_neg (Q:=fun r B=>r=w/\EP X o Z Q r B) U.isList (by lia) (by rw[N1] <;> lia) (by lia) (by rw[hj];simpa using g) ⟨rfl,fin⟩) hs
theorem aj:IxR X (No X.K):=by
 intro J C o s Z H x y v u Q I f d h hs;obtain⟨p,E,i,z,rfl,rfl,D,B,q⟩:=h
 cases f
 obtain⟨t,rfl⟩:=d;obtain⟨e,r,c,G⟩:=I.tuple D;obtain⟨j,g,m,M,N,F⟩:=Fm B;obtain⟨w,l,U⟩:=r.get m;have A:=r.length;have L:=xo;have fin:EP X o Z Q w s:=⟨z,H,I,U,q⟩;exact P_ (x:=w) c.typeIs slot_tuple_getitem.lookup
  (getItem_tuple (j:=j) (Q:=fun r n=>r=w/\EP X o Z Q r n) c (by lia) (by lia) (by rw[N1, <-A];exact g) (by simpa using l) ⟨rfl,fin⟩) hs
theorem EM(o:List Value)(n j:Nat)(u:Value):Obj.mapSeq (·.setIfInBounds j u) {cls:= .type "list",data:= .seq o.toArray n}={cls:= .type "list",data:= .seq (o.set j u).toArray n}:=by
 simp [Obj.mapSeq]
theorem Inv.lst{C:List (Addr × Obj)}{Z:St}{H:Hp}{s:Shared}{p:Addr}{xs:List V}(I:Inv X C Z H s)(h:H p=some (.lst xs)):
  ∃(o:List Value) (n:Nat),bj xs o/\s.heap.get? p=some {cls:= .type "list",data:= .seq o.toArray n}/\xs.length<=sizeLine:=by
 obtain⟨z,o,n,r,e⟩:=I.hok p _ h;exact⟨o,n,r,e,z⟩
theorem Inv.lstUpd{o:List (Addr × Obj)}{Z:St}{H:Hp}{s:Shared}{p:Addr}{xs ys:List V}{C its':List Value}{n J:Nat}{f:Obj->Obj}(I:Inv X o Z H s)(h:H p=some (.lst xs))
  (ho:s.heap.get? p=some {cls:= .type "list",data:= .seq C.toArray n}) (U:f {cls:= .type "list",data:= .seq C.toArray n}={cls:= .type "list",data:= .seq its'.toArray J}) (r:bj ys its') (c:ys.length<=sizeLine) (t:Nat):
  Inv X o Z (upd H p (.lst ys)) {s with heap:=s.heap.update p f,toks:=t}:=by
 have e:(s.heap.update p f).get? p=some {cls:= .type "list",data:= .seq its'.toArray J}:=by
  rw[Rb f ho (by rw[U] <;> rfl),U]
 refine I.write (x:=p) (e:=p) (by rw[h];trivial) (.inl rfl) (fun b u d q=>(QZ _ _ (Ox d)).trans q) ⟨_,e⟩ ?_
 exact⟨c,its',J,r,e⟩
def ML:V->V->V->Hp->(Hp->Prop)->Prop:=fun o i v H Q=>∃p C k j,o= .ref p/\i= .int k/\H p=some (.lst C)/\ixN C.length k=some j/\Q (upd H p (.lst (C.set j v)))
theorem f_:MZ X ML:=by
 intro J s Z H o i v B F u Q I x A y h;obtain⟨p,m,k,j,rfl,rfl,d,z,q⟩:=h
 cases x
 obtain⟨t,rfl⟩:=A;obtain⟨C,n,r,ho,w⟩:=I.lst d;obtain⟨U,D,g,f⟩:=FG z;have c:=r.length;have E:=xo;have l:Inv X J Z (upd H p (.lst (m.set j v))) {s with heap:=s.heap.update p (Obj.mapSeq (·.setIfInBounds j u))}:=
  I.lstUpd d ho (EM C n j u) (r.set y j) (by rw[P0];exact w) s.toks
 by_cases e:0<=k
 .have hk:k.toNat=j:=by
   rw[seqIndex_of e f] at U;exact N_ U
  exact W.ki_setAt ho e (by lia) (by rw[N1, <-c];exact f) (by rw[hk];exact⟨_,l,q⟩)
 .have hk:(k+(C.toArray.size:Int)).toNat=j:=by
   rw[RZ (by lia) g] at U
   rw[N1, <-c];exact N_ U
  exact W.ki_setBack ho (by lia) (by rw[N1, <-c];exact g) (by lia) (by rw[hk];exact⟨_,l,q⟩)
theorem AI(lo o:Option Int)(n:Nat):(sliceBounds lo o none n).1=((HT.sIx n 0 lo:Nat):Int)/\(sliceBounds lo o none n).2.1=((HT.sIx n n o:Nat):Int)/\(sliceBounds lo o none n).2.2=1:=by
 refine⟨?_,?_,rfl⟩
 .cases lo with
  | none=>simp [sliceBounds,HT.sIx]
  | some i=>
   simp only[sliceBounds,HT.sIx,Option.getD_none,show(1:Int) >0 by decide,Qu]
   by_cases h:i<0
   .simp only[h,Qu] <;> lia
   .simp only[h,QV] <;> lia
 .cases o with
  | none=>simp [sliceBounds,HT.sIx]
  | some i=>
   simp only[sliceBounds,HT.sIx,Option.getD_none,show(1:Int) >0 by decide,Qu]
   by_cases h:i<0
   .simp only[h,Qu] <;> lia
   .simp only[h,QV] <;> lia
theorem yU(o:List Value)(lo C:Option Int):slicePick o.toArray lo C none=((o.drop (HT.sIx o.length 0 lo)).take (HT.sIx o.length o.length C - HT.sIx o.length 0 lo)).toArray:=by
 obtain⟨J,U,I⟩:=AI lo C o.toArray.size;unfold slicePick;rw[J,U,I]
 simp only[sliceRange_one,pick_run,N1] <;> rfl
def NK(K:Frag):V->Option Int->Option Int->Hp->VK->Prop:=fun x I C H Q=>∃a o,x= .ref a/\SqL K H a o/\∀p,H p=none->Q (.ref p) (upd H p (.lst (gw o I C)))
theorem ww:SlR X (NK X.K):=by
 intro d s Z H x v u n U c sl Q I l hs g m h;obtain⟨a,C,rfl,j,q⟩:=h
 cases l
 obtain⟨f,r,e,i⟩:=I.list j;have J:=r.length;refine⟨"list",_,slot_list_getitem.lookup,e.isList.typeIs,?_⟩
 refine wpAny_getItem_list_slice e.isList hs g m .none (by simp) ?_ (by rw[N1] <;> lia)
 rw[yU, <-J];refine⟨.ref s.heap.objs.size,_,I.laid (t':=s.toks) (o:= .lst (gw C U c)) (fun b p q=>NU _ q) (NW _) ?_,rfl,q _ (I.hok.fresh (NW _))⟩
 exact⟨Oc (vo C U c) i,_,0,(r.drop (HT.sIx C.length 0 U)).take (HT.sIx C.length C.length c - HT.sIx C.length 0 U),Ol _ rfl⟩
noncomputable def nQ:V->Bool
 | .non=>true
 | .bl _=>true
 | .int _=>true
 | .str _=>true
 | _=>false
noncomputable def eqV:V->V->Bool
 | .non,.non=>true
 | .bl a,.bl b=>a==b
 | .bl a,.int b=>(if a then 1 else 0)==b
 | .int a,.bl b=>a==(if b then 1 else 0)
 | .int a,.int b=>a==b
 | .str a,.str b=>a==b
 | _,_=>false
theorem LE{A:Around}{s:Shared}{y x:V}{u v:Value}(I:bz y u)(o:bz x v)(U:nQ y=true)(J:nQ x=true):SeqAt.EqAt A s u v (eqV y x):=by
 cases y with
 | non=>
  cases I
  cases x with
  | non=>cases o;exact SeqAt.EqAt.same _
  | bl b=>cases o;exact SeqAt.EqAt.none_bool b
  | int b=>obtain⟨t,rfl⟩:=o;exact SeqAt.EqAt.none_int b t
  | str b=>obtain⟨t,rfl⟩:=o;exact SeqAt.EqAt.none_str b t
  | _=>exact absurd (show false=true from J) Oa
 | bl a=>
  cases I
  cases x with
  | non=>cases o;exact SeqAt.EqAt.bool_none a
  | bl b=>cases o;exact SeqAt.EqAt.bool_bool a b
  | int b=>obtain⟨t,rfl⟩:=o;exact SeqAt.EqAt.bool_int a b t
  | str b=>obtain⟨t,rfl⟩:=o;exact SeqAt.EqAt.bool_str a b t
  | _=>exact absurd (show false=true from J) Oa
 | int a=>
  obtain⟨C,rfl⟩:=I
  cases x with
  | non=>cases o;exact SeqAt.EqAt.int_none a C
  | bl b=>cases o;exact SeqAt.EqAt.int_bool a C b
  | int b=>obtain⟨t,rfl⟩:=o;exact SeqAt.EqAt.int_int a C b t
  | str b=>obtain⟨t,rfl⟩:=o;exact SeqAt.EqAt.int_str a C b t
  | _=>exact absurd (show false=true from J) Oa
 | str a=>
  obtain⟨C,rfl⟩:=I
  cases x with
  | non=>cases o;exact SeqAt.EqAt.str_none a C
  | bl b=>cases o;exact SeqAt.EqAt.str_bool a C b
  | int b=>obtain⟨t,rfl⟩:=o;exact SeqAt.EqAt.str_int a C b t
  | str b=>obtain⟨t,rfl⟩:=o;exact SeqAt.EqAt.str_str a C b t
  | _=>exact absurd (show false=true from J) Oa
 | _=>exact absurd (show false=true from U) Oa
noncomputable def eqU(x:V)(u:Value):Bool:=match u with
 | .none=>eqV .non x
 | .bool b=>eqV (.bl b) x
 | .int i _=>eqV (.int i) x
 | .str z _=>eqV (.str z) x
 | _=>false
theorem Aw{x y:V}{u:Value}(r:bz y u)(f:nQ y=true):eqU x u=eqV y x:=by
 cases y with
 | non=>cases r;rfl
 | bl b=>cases r;rfl
 | int i=>obtain⟨t,rfl⟩:=r;rfl
 | str z=>obtain⟨t,rfl⟩:=r;rfl
 | _=>exact absurd (show false=true from f) Oa
theorem tR{x:V}:∀{xs:List V}{us:List Value},bj xs us->xs.all nQ=true->us.any (eqU x)=xs.any fun y=>eqV y x
 | _,_,.nil,_=>rfl
 | y::xs,u::us,.cons r t,f=>by
  rw[List.all_cons,ON] at f;rw[Qi,Qi,Aw r f.1,tR t f.2]
theorem lS{A:Around}{s:Shared}{x:V}{v:Value}(C:bz x v)(I:nQ x=true):∀{xs:List V}{us:List Value},bj xs us->xs.all nQ=true->∀u∈us,SeqAt.EqAt A s u v (eqU x u)
 | _,_,.nil,_=>fun u o=>by cases o
 | y::xs,u::us,.cons r t,f=>fun J o=>by
  rw[List.all_cons,ON] at f;rcases Od.mp o with rfl | o
  .rw[Aw r f.1];exact LE r C f.1 I
  .exact lS C I t f.2 J o
noncomputable def inV(x:V)(xs:List V):Bool:=xs.any fun y=>eqV y x
def rIn(K:Frag)(C:Bool):R2:=fun x y H Q=>∃p o,y= .ref p/\(SqL K H p o\/SqT K H p o)/\nQ x=true/\o.all nQ=true/\Q (.bl (if C then !inV x o else inV x o)) H
theorem iu:OpR X (compareOp .In) (rIn X.K false):=by
 intro C s Z H x y v u Q I J c h;obtain⟨p,d,rfl,o,U,fs,q⟩:=h
 cases c
 rcases o with o | o
 .obtain⟨its,r,pl,hz⟩:=I.list o;refine SeqAt.in_listAt (eqU x) pl.isList (fun w hw=>lS J U r fs w (by simpa using hw)) ⟨.bl _,H,I,rfl,?_⟩
  rw[show its.toArray.any (eqU x)=its.any (eqU x) by simp,tR r fs]
  exact q
 .obtain⟨its,r,pl,hz⟩:=I.tuple o;refine SeqAt.in_tupleAt (eqU x) pl (fun w hw=>lS J U r fs w (by simpa using hw)) ⟨.bl _,H,I,rfl,?_⟩
  rw[show its.toArray.any (eqU x)=its.any (eqU x) by simp,tR r fs]
  exact q
theorem ju:OpR X (compareOp .NotIn) (rIn X.K true):=by
 intro C s Z H x y v u Q I J c h;obtain⟨p,d,rfl,o,U,fs,q⟩:=h
 cases c
 rcases o with o | o
 .obtain⟨its,r,pl,hz⟩:=I.list o;refine SeqAt.notIn_listAt (eqU x) pl.isList (fun w hw=>lS J U r fs w (by simpa using hw)) ⟨.bl _,H,I,rfl,?_⟩
  rw[show its.toArray.any (eqU x)=its.any (eqU x) by simp,tR r fs]
  exact q
 .obtain⟨its,r,pl,hz⟩:=I.tuple o;refine SeqAt.notIn_tupleAt (eqU x) pl (fun w hw=>lS J U r fs w (by simpa using hw)) ⟨.bl _,H,I,rfl,?_⟩
  rw[show its.toArray.any (eqU x)=its.any (eqU x) by simp,tR r fs]
  exact q
theorem aG:kC X (.builtin "len") (fun xs H Q=>∃p ys,xs=[.ref p]/\(SqL X.K H p ys\/SqT X.K H p ys)/\Q (.int ys.length) H):=by
 intro J s Z H xs d Q I r h;obtain⟨p,ys,rfl,C,q⟩:=h;obtain⟨u,rfl,U⟩:=qM r
 cases U
 have c:=xo;rcases C with C | C
 .obtain⟨its,r',pl,hz⟩:=I.list C;have o:=r'.length;exact Calls.call_len_list pl.isList (by simp only[N1] <;> lia) ⟨.int ys.length,H,I.tok _,⟨s.toks+1,by rw[N1,o]⟩,q⟩
 .obtain⟨its,r',pl,hz⟩:=I.tuple C;have o:=r'.length;exact len_tuple pl (by simp only[N1] <;> lia) ⟨.int ys.length,H,I.tok _,⟨s.toks+1,by rw[N1,o]⟩,q⟩
theorem nE:kC X (.type "list") (fun xs H Q=>∃p ys,xs=[.ref p]/\(SqL X.K H p ys\/SqT X.K H p ys)/\∀l,H l=none->Q (.ref l) (upd H l (.lst ys))):=by
 intro f s Z H xs x Q I r h;obtain⟨p,ys,rfl,i,q⟩:=h;obtain⟨u,rfl,v⟩:=qM r
 cases v
 have fin:∀(C:List Value),bj ys C->ys.length<=sizeLine->∀(J:Heap) (c:Nat),(∀b m,s.heap.get? b=some m->J.get? b=some m)->
   J.get? s.heap.objs.size=some {cls:= .type "list",dict:=none,data:= .seq C.toArray c,slots:= #[]}->EP X f Z Q (.ref s.heap.objs.size) {s with heap:=J}:=fun C U d J c kp e=>
  ⟨.ref s.heap.objs.size,_,I.laid (t':=s.toks) kp (NW _) (show cU X.prog X.w _ J _ (.lst ys) from⟨d,C,c,U,e⟩),rfl,q _ (I.hok.fresh (NW _))⟩
 rcases i with i | i
 .obtain⟨C,U,pl,d⟩:=I.list i;have g:=U.length;obtain⟨o,ho,j,n,hd⟩:=pl.isList;exact call_list_seq p (.inl rfl) ho j hd (fun J c kp e=>fin C U d J c kp e) (by simp only[N1] <;> lia)
 .obtain⟨C,U,pl,d⟩:=I.tuple i;have g:=U.length;obtain⟨o,ho,j,n,hd⟩:=pl;exact call_list_seq p (.inr rfl) ho j hd (fun J c kp e=>fin C U d J c kp e) (by simp only[N1] <;> lia)
theorem iN:kC X (.type "tuple") (fun xs H Q=>∃p ys,xs=[.ref p]/\((SqL X.K H p ys/\∀l,H l=none->Q (.ref l) (upd H l (.tup ys)))\/(SqT X.K H p ys/\Q (.ref p) H))):=by
 intro C s Z H xs i Q I r h;obtain⟨p,ys,rfl,h⟩:=h;obtain⟨u,rfl,f⟩:=qM r
 cases f
 rcases h with⟨U,q⟩|⟨U,q⟩
 .obtain⟨its,r',pl,hz⟩:=I.list U;have d:=r'.length;refine call_tuple_list pl.isList (fun J kp=> ?_) (by simp only[N1] <;> lia)
  have c:Inv X C Z H {s with heap:=J}:=I.kept (t':=s.toks) kp
  have g:Inv X C Z (upd H J.objs.size (.tup ys)) {s with heap:=J.push {cls:= .type "tuple",data:= .seq its.toArray}}:=
   c.laid (t':=s.toks) (fun b o e=>NU _ e) (NW _) (show cU X.prog X.w _ _ _ (.tup ys) from⟨hz,its,r',IsTup.new _ _⟩)
  exact⟨.ref J.objs.size,_,g,rfl,q _ (c.hok.fresh (NW _))⟩
 .obtain⟨its,r',pl,hz⟩:=I.tuple U;exact call_tuple_same pl ⟨.ref p,H,I,rfl,q⟩
def tyV(K:Frag)(T:String)(x:V)(H:Hp):Prop:=match x with
 | .str _=>T="str"
 | .int _=>T="int"
 | .ref p=>(T="list"/\∃I,SqL K H p I)\/(T="tuple"/\∃o,K.lookup p=some o/\o.cls= .type "tuple"/\o.dict=none)\/
   (T="dict"/\((∃C,H p=some (.dK C))\/∃C,H p=some (.dT C)))\/(T="set"/\∃S n,H p=some (.set S n))
 | _=>False
theorem LC{U:List (Addr × Obj)}{Z:St}{H:Hp}{s:Shared}{T:String}{x:V}{v:Value}(I:Inv X U Z H s)(r:bz x v)(ty:tyV X.K T x H):
  s.TypeIs v T/\∀a,v= .ref a->∃g,s.heap.get? a=some g/\g.dict=none:=by
 cases x with
 | str z=>
  obtain⟨t,rfl⟩:=r
  cases(show T="str" from ty)
  exact⟨typeIs_str s z t,fun _ e=>nomatch e⟩
 | int i=>
  obtain⟨t,rfl⟩:=r
  cases(show T="int" from ty)
  exact⟨typeIs_int s i t,fun _ e=>nomatch e⟩
 | ref p=>
  cases r
  rcases ty with⟨rfl,m,l⟩|⟨rfl,o,C,j,hd⟩|⟨rfl,C⟩|⟨rfl,S,n,C⟩
  .obtain⟨its,_,pl,_⟩:=I.list l;refine⟨pl.isList.typeIs,fun a e=> ?_⟩
   cases e
   obtain⟨o,n,e,c,hd,_⟩:=pl;exact⟨o,e,hd⟩
  .refine⟨⟨o,I.kIn p o C,j⟩,fun a e=> ?_⟩
   cases e
   exact⟨o,I.kIn _ o C,hd⟩
  .have z:∃o,s.heap.get? p=some o/\o.ExactDict:=by
    rcases C with⟨d,C⟩|⟨d,C⟩
    .obtain⟨_,_,_,_,o,_,_,e,J,_⟩:=I.hok p _ C;exact⟨o,e,J⟩
    .obtain⟨_,_,_,_,o,_,_,e,J,_⟩:=I.hok p _ C;exact⟨o,e,J⟩
   obtain⟨o,e,J⟩:=z;refine⟨⟨o,e,J.1⟩,fun a f=> ?_⟩
   cases f
   exact⟨o,e,J.2.1⟩
  .obtain⟨o,_,_,_,e,J,_⟩:=I.hok p _ C;refine⟨⟨o,e,J.1⟩,fun a f=> ?_⟩
   cases f
   exact⟨o,e,J.2.1⟩
 | _=>exact False.elim ty
def tBM(K:Frag)(T:String)(r:V->List V->Hp->VK->Prop)(C:TE)(t:TA):TE:=fun Z H Q=>C Z H fun x o=>tyV K T x o/\t Z o fun J I=>r x J I Q
variable {o e : Expr} {es : List Expr} {to : TE} {t : TA} {name : Str} {apos cpos : Pos} {T id : String} {r : V → List V → Hp → VK → Prop}
theorem jk(y:PlainAttrs T)(d:Slot T name id)(g:typeOf (.builtin id)=pure (.type "method_descriptor"))(hm:MtR X id r)(ho:PE X o to)(u:PA X (e::es) t)
  (c:attributeBase o name X.env (eval o X.env)=eval o X.env:=by rfl)
  (f:((backTo cpos (starEach (e::es) X.env)).all (fun x=> !x.1) && (backToKw cpos (keywordEach [] X.env)).all (fun x=>x.1.isSome)
   && decide ((e::es).length+([]:List Keyword).length+(if ([]:List Keyword).isEmpty then 0 else 1)<30))=true:=by rfl)
  (U:(apos.endLine==cpos.line)=true:=by rfl) (hs:starEach (e::es) X.env=(false,eval e X.env)::starEach es X.env:=by rfl) (J:(backTo cpos (starEach es X.env)).any (·.1)=false:=by rfl):
  PE X (.Call (.Attribute o name apos) (e::es) [] cpos) (tBM X.K T r to t):=by
 intro C s Z H Q I h;refine wpAny_Call_method_late c f U rfl (cB (ho C s Z H _ I h) fun v w x n j m i=> ?_)
 obtain⟨ty,L⟩:=i;obtain⟨A,B⟩:=LC j m ty;refine⟨T,id,y,d,g,A,B,?_⟩
 have l:=u cpos C w Z n _ j L;rw[hs] at l ⊢;refine Q0 (by show(false || (backTo cpos (starEach es X.env)).any (·.1))=false;rw[J] <;> rfl) (Calls.evalArgs_plain ?_)
 exact thn l fun G z ⟨q,p,E,F,D⟩=>hm C z Z p x q v G Q E m F D
end
def MtM(X:Cx)(id:String)(r:V->List V->Hp->VK->Prop):Prop:=
 ∀(o:List (Addr × Obj)) (s:Shared) (Z:St) (H:Hp) (x:V) (C:List V) (v:Value) (I:List Value) (Q:VK),Inv X o Z H s->bz x v->bj C I->r x C H Q->
  wpAny (model X.prog X.w) X.A (call (.builtin id) (v::I)) (EP X o Z Q) X.xe s
theorem bj.one:∀{x:V}{us:List Value},bj [x] us->∃u,us=[u]/\bz x u
 | _,_,.cons r .nil=>⟨_,rfl,r⟩
theorem bj.rep{xs:List V}{us:List Value}(h:bj xs us):∀k:Nat,bj (List.replicate k xs).flatten (List.replicate k us).flatten
 | 0=> .nil
 | k+1=>by
  rw[OG,OG,PF,PF];exact bj.append h (bj.rep h k)
theorem zL(o:List Value):∀(k:Nat) (acc:List Value),
  List.foldl (fun I C=>I++C) acc.toArray (List.replicate k o.toArray)=(acc++(List.replicate k o).flatten).toArray
 | 0,acc=>by simp
 | k+1,acc=>by
  have e:acc.toArray++o.toArray=(acc++o).toArray:=by simp
  have J:(acc++o)++(List.replicate k o).flatten=acc++(List.replicate (k+1) o).flatten:=by
   rw[OG,PF,On]
  rw[<- J, <-zL o k (acc++o), <-e,OG,List.foldl_cons]
section
variable {X : Cx} {pins : List (Addr × Obj)} {σ : St} {H : Hp} {s : Shared} {l b : Addr} {xs ys zs : List V}
theorem Inv.lset{o its':List Value}{n:Nat}{f:Array Value->Array Value}{t':Nat}(I:Inv X pins Z H s)(c:H l=some (.lst xs))
  (e:s.heap.get? l=some {cls:= .type "list",data:= .seq o.toArray n}) (J:f o.toArray=its'.toArray) (U:bj ys its') (d:ys.length<=sizeLine):
  Inv X pins Z (upd H l (.lst ys)) {s with heap:=s.heap.update l (Obj.mapSeq f),toks:=t'}:=by
 have q:=PySem.IsL.update e f;rw[J] at q;refine I.write (x:=l) (e:=l) (by rw[c];exact trivial) (.inl rfl) (fun g u C a=>(QZ s.heap (Obj.mapSeq f) (Ox C)).trans a) ⟨_,q⟩ ?_
 exact⟨d,its',_,U,q⟩
theorem Inv.lnew{o:List Value}{t':Nat}(I:Inv X pins Z H s)(J:bj ys o)(C:ys.length<=sizeLine):
  Inv X pins Z (upd H s.heap.objs.size (.lst ys)) {s with heap:=s.heap.push {cls:= .type "list",data:= .seq o.toArray},toks:=t'}:=
 I.laid (fun _ _ q=>NU _ q) (NW _) ⟨C,o,0,J,Ol _ rfl⟩
theorem Inv.fresh(I:Inv X pins Z H s):H s.heap.objs.size=none:=I.hok.fresh (NW _)
theorem Inv.lstM(I:Inv X pins Z H s)(C:H l=some (.lst xs)):xs.length<=sizeLine/\∃(o:List Value) (n:Nat),bj xs o/\xs.length=o.length/\s.heap.get? l=some {cls:= .type "list",data:= .seq o.toArray n}:=by
 obtain⟨z,o,n,r,e⟩:=I.hok l _ C;exact⟨z,o,n,r,r.length,e⟩
theorem Dk{n:Nat}(h:n<=sizeLine):Builtin.List.listTooLong n=false:=by
 unfold Builtin.List.listTooLong;exact NX (by lia)
end
section
variable {X : Cx}
def JN:V->List V->Hp->VK->Prop:=fun x C H Q=>∃l o y,x= .ref l/\C=[y]/\H l=some (.lst o)/\o.length<sizeLine/\Q .non (upd H l (.lst (o++[y])))
theorem du:MtM X "list.append" JN:=by
 intro C s Z H x d v i Q I a b h;obtain⟨l,c,y,rfl,rfl,J,f,q⟩:=h
 cases a
 obtain⟨u,rfl,U⟩:=b.one;obtain⟨z,o,n,r,g,e⟩:=I.lstM J;refine Q1 F.slot_list_append ⟨_,e,rfl⟩ F.entry_list_append (F.args_list_append_2 _ _) (PySem.list_append l o.toArray n u (by rw[N1];lia)) ⟨e,?_⟩
 refine⟨.non,_,I.lset (its':=o++[u]) J e (by simp) (r.append (.cons U .nil)) ?_,rfl,q⟩
 rw[NT,Pc]
 lia
def Kc:V->List V->Hp->VK->Prop:=fun x I H Q=>∃l b C o,x= .ref l/\I=[.ref b]/\H l=some (.lst C)/\H b=some (.lst o)/\C.length+o.length<=sizeLine/\Q .non (upd H l (.lst (C++o)))
theorem uD:MtM X "list.extend" Kc:=by
 intro a s Z H x y v E Q I i m h;obtain⟨l,b,w,D,rfl,rfl,c,p,A,q⟩:=h
 cases i
 obtain⟨u,rfl,f⟩:=m.one
 cases f
 obtain⟨z,C,n,r,B,e⟩:=I.lstM c;obtain⟨z2,o,n2,j,d,g⟩:=I.lstM p;have U:C.toArray.size+o.toArray.size<=sizeLine:=by rw[N1,N1];lia
 have J:¬(!C.toArray.isEmpty && Builtin.List.listTooLong (C.toArray.size+o.toArray.size))=true:=by
  rw[Dk U,Bool.and_false];exact Oa
 refine Q1 F.slot_list_extend ⟨_,e,rfl⟩ F.entry_list_extend (F.args_list_extend_2 _ _)
  (AutoSeq1.list_extend_list_list_0 l C.toArray n b o.toArray n2 J (by rw[N1];lia) (by lia)) ⟨e,g,?_⟩
 refine⟨.non,_,I.lset (its':=C++o) c e (by simp) (r.append j) ?_,rfl,q⟩
 rw[NT]
 lia
def Ni:R2:=fun x y H Q=>∃l b C o,x= .ref l/\y= .ref b/\H l=some (.lst C)/\H b=some (.lst o)/\C.length+o.length<=sizeLine/\∀p,H p=none->Q (.ref p) (upd H p (.lst (C++o)))
theorem lE:OpR X (binaryOp .Add) Ni:=by
 intro J s Z H x y v u Q I d U h;obtain⟨l,b,m,A,rfl,rfl,j,i,p,q⟩:=h
 cases d
 cases U
 obtain⟨z,C,n,r,w,e⟩:=I.lstM j;obtain⟨z2,o,n2,g,a,c⟩:=I.lstM i;refine PySem.P.add_list e c ?_ (by rw[N1,N1];lia)
 have f:C.toArray++o.toArray=(C++o).toArray:=by simp
 rw[f];exact⟨.ref _,_,I.lnew (t':=s.toks) (r.append g) (by rw[NT];lia),rfl,q _ I.fresh⟩
def NL:R2:=fun x y H Q=>∃l k o,x= .ref l/\y= .int k/\H l=some (.lst o)/\ -(2^63)<=k/\k<2^63/\o.length*k.toNat<=sizeLine/\
 ∀p,H p=none->Q (.ref p) (upd H p (.lst (List.replicate k.toNat o).flatten))
theorem Kf{o:Type}(xs:List o)(k:Nat):(List.replicate k xs).flatten.length=k*xs.length:=by
 induction k with
 | zero=>simp
 | succ k ih=>rw[OG,PF,NT,ih,Nat.succ_mul,Nat.add_comm]
theorem Ej:OpR X (binaryOp .Mult) NL:=by
 intro j s Z H x y v u Q I w p h;obtain⟨l,k,K,rfl,rfl,G,A,B,i,q⟩:=h
 cases w
 obtain⟨t,rfl⟩:=p;obtain⟨z,o,n,r,E,e⟩:=I.lstM G;have d:o.toArray.size*k.toNat<=sizeLine:=by rw[N1, <-E];exact i
 have b:¬o.toArray.size*k.toNat >(2^63 - 1) / 8:=by
  have:(sizeLine:Nat)<=(2^63 - 1) / 8:=by decide
  lia
 have J:¬(!Builtin.List.listFitsIndex k)=true:=by
  rw[fitsIndex_both A B];exact Oa
 have C:¬Builtin.List.listTooLong (o.toArray.size*k.toNat)=true:=by
  rw[Dk d];exact Oa
 have c:List.foldl (fun g f=>g++f) #[] (List.replicate (if o.toArray.isEmpty=true then 0 else k.toNat) o.toArray)=(List.replicate k.toNat o).flatten.toArray:=by
  have f0:∀m:Nat,List.foldl (fun g f=>g++f) #[] (List.replicate m o.toArray)=(List.replicate m o).flatten.toArray:=fun m=>by
   have:=zL o m [];rw[Q8] at this;exact this
  rw[f0]
  cases o with
  | nil=>simp
  | cons a r'=>rw[fI (by simp)]
 refine wpAny_binaryOp_repeat_ref (T:="list") (U:="int") (by decide) ⟨_,e,rfl⟩ (fun D=>typeIs_int D k t) noFill_list_mul F.fills_int_mul F.slot_int_rmul repeat_list F.slot_int_index.lookup
  (Q1 F.slot_int_rmul (typeIs_int s k t) F.entry_int_rmul (F.args_int_rmul_2 _ _) (int___rmul___int_list k t l o.toArray n)
   ⟨e,rfl,⟨_,e,rfl⟩,Q1 F.slot_list_mul ⟨_,e,rfl⟩ F.entry_list_mul (F.args_list_mul_2 _ _) (AutoListH.list___mul___list_int_3 l o.toArray n k t J b C) ⟨e,?_⟩⟩)
 rw[c];exact⟨.ref _,_,I.lnew (t':=s.toks) (r.rep k.toNat) (by rw[Kf,Nat.mul_comm];exact i),rfl,q _ I.fresh⟩
end
section
variable {κ : Type} [DecidableEq κ]
noncomputable def km(kvs:List (κ × V))(k:κ):Option V:=(kvs.find? fun o=>decide (o.1=k)).map (·.2)
noncomputable def cF(kvs:List (κ × V))(k:κ)(v:V):List (κ × V):=
 if (kvs.any fun o=>decide (o.1=k))=true then kvs.map (fun o=>if o.1=k then(o.1,v) else o) else kvs++[(k,v)]
theorem oi{p:κ × V}{r:List (κ × V)}{k:κ}(e:p.1=k):km (p::r) k=some p.2:=by simp [km,Pf,e]
theorem pq{p:κ × V}{r:List (κ × V)}{k:κ}(e:¬p.1=k):km (p::r) k=km r k:=by simp [km,Pf,e]
theorem uf(k:κ):∀kvs:List (κ × V),(kvs.any fun o=>decide (o.1=k))=(km kvs k).isSome
 | []=>rfl
 | p::r=>by
  rw[Qi]
  by_cases e:p.1=k
  .simp only[oi e,NY e,Bool.true_or,Option.isSome_some]
  .rw[pq e,NX e,RC];exact uf k r
theorem pH(kvs:List (κ × V))(k:κ)(v:V):(cF kvs k v).length<=kvs.length+1:=by
 unfold cF
 split
 .rw[be];lia
 .rw[NT,N6,OM];lia
theorem GV{kvs:List (κ × V)}{k:κ}(v:V)(h:km kvs k=none):cF kvs k v=kvs++[(k,v)]:=by
 unfold cF;rw[uf,h];exact fI (by decide)
theorem oa.isSome_eq{o:Option V}{u:Option Value}(r:oa o u):o.isSome=u.isSome:=by
 cases o with
 | none=>cases u with
  | none=>rfl
  | some _=>exact(show False from r).elim
 | some _=>cases u with
  | none=>exact(show False from r).elim
  | some _=>rfl
theorem oa.getD{o:Option V}{u:Option Value}{d:V}{d':Value}(r:oa o u)(C:bz d d'):bz (o.getD d) (u.getD d'):=by
 cases o with
 | none=>cases u with
  | none=>exact C
  | some _=>exact(show False from r).elim
 | some _=>cases u with
  | none=>exact(show False from r).elim
  | some _=>exact r
theorem KV.val{kvs:List (κ × V)}{vs:List (κ × Value)}(r:KV kvs vs)(k:κ):oa (km kvs k) (valueAt vs k):=by
 unfold KV at r
 induction r with
 | nil=>exact True.intro
 | @cons p q ps qs h t ih=>
  obtain⟨o,C⟩:=h
  by_cases e:p.1=k
  .have e':q.1=k:=o.symm.trans e;have b:valueAt (q::qs) k=some q.2:=by simp [valueAt,Pf,e']
   rw[oi e,b];exact C
  .have e':¬q.1=k:=fun z=>e (o.trans z)
   have b:valueAt (q::qs) k=valueAt qs k:=by simp [valueAt,Pf,e']
   rw[pq e,b];exact ih
theorem KV.any{kvs:List (κ × V)}{vs:List (κ × Value)}(r:KV kvs vs)(k:κ):(kvs.any fun o=>decide (o.1=k))=vs.any fun o=>decide (o.1=k):=by
 unfold KV at r
 induction r with
 | nil=>rfl
 | cons h t ih=>rw[Qi,Qi,ih,h.1]
theorem KV.repl{kvs:List (κ × V)}{vs:List (κ × Value)}(r:KV kvs vs)(k:κ){y:V}{u:Value}(I:bz y u):
  KV (kvs.map fun o=>if o.1=k then(o.1,y) else o) (vs.map fun o=>if o.1=k then(o.1,u) else o):=by
 unfold KV at r ⊢
 induction r with
 | nil=>exact .nil
 | @cons p q ps qs h t ih=>
  rw[OD,OD];refine .cons ?_ ih
  obtain⟨C,J⟩:=h
  by_cases e:p.1=k
  .rw[NV e,NV (C.symm.trans e)];exact⟨C,I⟩
  .rw[fI e,fI (fun z=>e (C.trans z))];exact⟨C,J⟩
theorem KV.put{kvs:List (κ × V)}{vs:List (κ × Value)}(r:KV kvs vs)(k:κ){y:V}{u:Value}(o:bz y u):KV (cF kvs k y) (stored vs k u):=by
 unfold cF stored;rw[r.any k]
 by_cases e:(vs.any fun C=>decide (C.1=k))=true
 .rw[NV e,NV e];exact r.repl k o
 .rw[fI e,fI e];exact Paired.snoc r ⟨rfl,o⟩
theorem KV.keys{kvs:List (κ × V)}{vs:List (κ × Value)}(r:KV kvs vs):kvs.map (·.1)=vs.map (·.1):=by
 unfold KV at r
 induction r with
 | nil=>rfl
 | cons h t ih=>rw[OD,OD,ih,h.1]
theorem KV.length{kvs:List (κ × V)}{vs:List (κ × Value)}(r:KV kvs vs):kvs.length=vs.length:=QK r
end
theorem Fp{P:Program}{w:World}{k:Key}{u:Value}(r:bz (kV k) u):(bK P w).is k u=true:=by
 cases k with
 | inl i=>obtain⟨t,e⟩:=(show ∃t,u=Value.int i t from r);subst e;exact CB P w i t
 | inr x=>obtain⟨t,e⟩:=(show ∃t,u=Value.str x t from r);subst e;exact vh P w x t
theorem z_{P:Program}{w:World}:∀{o:List Key}{us:List Value},bj (o.map kV) us->ItemsAre (bK P w) o us
 | [],_,r=>by rw[RY] at r;cases r;exact .nil
 | k::o,_,r=>by
  rw[OD] at r
  cases r with
  | cons h t=>exact .cons (Fp h) (z_ t)
abbrev KT(H:Hp):List (List Key × V)->List (List Key × Addr × Value)->Prop:=Paired fun p q=>p.1=q.1/\H q.2.1=some (.tup (p.1.map kV))/\bz p.2 q.2.2
theorem KT.val{H:Hp}{kvs:List (List Key × V)}{xs:List (List Key × Addr × Value)}(r:KT H kvs xs)(k:List Key):oa (km kvs k) ((atKey xs k).map (·.2)):=by
 induction r with
 | nil=>exact True.intro
 | @cons p q ps qs h t ih=>
  obtain⟨o,_,C⟩:=h
  by_cases e:p.1=k
  .have e':q.1=k:=o.symm.trans e;have b:atKey (q::qs) k=some q.2:=by simp [atKey,Pf,e']
   rw[oi e,b];exact C
  .have e':¬q.1=k:=fun z=>e (o.trans z)
   have b:atKey (q::qs) k=atKey qs k:=by simp [atKey,Pf,e']
   rw[pq e,b];exact ih
theorem KT.repl{H:Hp}{kvs:List (List Key × V)}{xs:List (List Key × Addr × Value)}(r:KT H kvs xs)(k:List Key){y:V}{u:Value}(J:bz y u):
  KT H (kvs.map fun C=>if C.1=k then(C.1,y) else C) (xs.map (putAt k u)):=by
 induction r with
 | nil=>exact .nil
 | @cons p q ps qs h t ih=>
  rw[OD,OD];refine .cons ?_ ih
  obtain⟨o,I,U⟩:=h;unfold putAt
  by_cases e:p.1=k
  .rw[NV e,NV (o.symm.trans e)];exact⟨o,I,J⟩
  .rw[fI e,fI (fun z=>e (o.trans z))];exact⟨o,I,U⟩
theorem KT.put{H:Hp}{kvs:List (List Key × V)}{xs:List (List Key × Addr × Value)}(r:KT H kvs xs)(k:List Key){b:Addr}{y:V}{u:Value}(C:H b=some (.tup (k.map kV)))(o:bz y u):
  KT H (cF kvs k y) (storedH xs k b u):=by
 have e:(kvs.any fun I=>decide (I.1=k))=(atKey xs k).isSome:=by
  rw[uf,(r.val k).isSome_eq,Option.isSome_map]
 unfold cF storedH;rw[e]
 by_cases q:(atKey xs k).isSome=true
 .rw[NV q,NV q];exact r.repl k o
 .rw[fI q,fI q];exact Paired.snoc r ⟨rfl,C,o⟩
theorem KT.keeps{H o:Hp}{kvs:List (List Key × V)}{xs:List (List Key × Addr × Value)}(r:KT H kvs xs)(C:∀b ys,H b=some (.tup ys)->o b=some (.tup ys)):KT o kvs xs:=
 Paired.mapP r fun _ _ z=>⟨z.1,C _ _ z.2.1,z.2.2⟩
section
variable {P : Program} {w : World} {H : Hp} {h : Heap} {a : Addr}
theorem KO{u:HO}(ok:HOk P w H h)(e:Rd H a u):cU P w H h a u:=e.ok ok
theorem nT{kvs:List (Key × V)}(ok:HOk P w H h)(e:Rd H a (.dK kvs)):kvs.length<=sizeLine/\(a==sysModules)=false/\∃vs,KV kvs vs/\h.DictOf (bK P w) a vs:=
 show cU P w H h a (.dK kvs) from KO ok e
theorem Hl{kvs:List (Key × V)}(ok:HOk P w H h)(e:H a=some (.dK kvs)):kvs.length<=sizeLine/\(a==sysModules)=false/\∃vs,KV kvs vs/\h.DictOf (bK P w) a vs:=nT ok (.inl e)
theorem Bq{I:List Key}(ok:HOk P w H h)(e:H a=some (.tup (I.map kV))):(tupleKind (bK P w)).is h I a:=by
 obtain⟨_,C,r,o,U,b,n,J⟩:=(show cU P w H h a (.tup (I.map kV)) from ok a _ e);exact⟨o,C.toArray,n,U,b,J,by simpa using z_ r⟩
theorem Cy{kvs:List (List Key × V)}(ok:HOk P w H h)(e:Rd H a (.dT kvs)):kvs.length<=sizeLine/\(a==sysModules)=false/\
  ∃xs,KT H kvs xs/\h.DictOfH (tupleKind (bK P w)) a xs:=by
 obtain⟨z,y,xs,r,o,c,J,U,b,d,f,I⟩:=(show cU P w H h a (.dT kvs) from KO ok e);refine⟨z,y,xs,r,o,c,J,U,b,d,f,fun x C=> ?_,I⟩
 have all:∀{l:List (List Key × V)}{m:List (List Key × Addr × Value)},KT H l m->∀x∈m,(tupleKind (bK P w)).is h x.1 x.2.1:=by
  intro l m q
  induction q with
  | nil=>intro x C;exact nomatch C
  | @cons p q ps qs hq t ih=>
   intro x C;rcases Od.mp C with e | C
   .subst e;exact Bq ok (by rw[<- hq.1];exact hq.2.1)
   .exact ih x C
 exact all r x C
theorem Mw{kvs:List (List Key × V)}(ok:HOk P w H h)(e:H a=some (.dT kvs)):kvs.length<=sizeLine/\(a==sysModules)=false/\
  ∃xs,KT H kvs xs/\h.DictOfH (tupleKind (bK P w)) a xs:=Cy ok (.inl e)
end
def yS(H:Hp)(a:Addr)(y:V)(r:Option V):Prop:=
 (∃o k,Rd H a (.dK o)/\y=kV k/\r=km o k)\/∃o k b,Rd H a (.dT o)/\y= .ref b/\H b=some (.tup (k.map kV))/\r=km o k
def tE(H:Hp)(a:Addr)(y v:V)(C:Hp):Prop:=
 (∃o k,H a=some (.dK o)/\y=kV k/\o.length<sizeLine/\C=upd H a (.dK (cF o k v)))\/
 ∃o k b,H a=some (.dT o)/\y= .ref b/\H b=some (.tup (k.map kV))/\o.length<sizeLine/\C=upd H a (.dT (cF o k v))
theorem yS.k{H:Hp}{a:Addr}{kvs:List (Key × V)}{k:Key}(e:H a=some (.dK kvs)):yS H a (kV k) (km kvs k):= .inl ⟨kvs,k,.inl e,rfl,rfl⟩
theorem tE.k{H:Hp}{a:Addr}{kvs:List (Key × V)}{k:Key}{v:V}(e:H a=some (.dK kvs))(o:kvs.length<sizeLine):tE H a (kV k) v (upd H a (.dK (cF kvs k v))):= .inl ⟨kvs,k,e,rfl,o,rfl⟩
theorem tE.t{H:Hp}{a b:Addr}{kvs:List (List Key × V)}{k:List Key}{v:V}(e:H a=some (.dT kvs))(C:H b=some (.tup (k.map kV)))(o:kvs.length<sizeLine):
  tE H a (.ref b) v (upd H a (.dT (cF kvs k v))):= .inr ⟨kvs,k,b,e,rfl,C,o,rfl⟩
section
variable {X : Cx} {pins : List (Addr × Obj)} {σ : St} {H : Hp} {s : Shared} {a : Addr} {y v : V} {u r : Value} {o : Option V} {A : Around} {E : Value → Shared → Prop}
theorem Inv.big(I:Inv X pins Z H s):sysModules<s.heap.objs.size:=by
 have h:mainGlobals<s.heap.objs.size:=(I.mod.glob.keeps I.bk).lt;exact Nat.lt_trans (by decide) h
theorem Gb{Q:Value->Shared->Prop}(q:A.units+1<cLine)(I:Inv X pins Z H s)(g:yS H a y (some v))(f:bz y u)(h:∀w' i,Inv X pins Z H i->bz v w'->Q w' i):
  wpAny (model X.prog X.w) A (getItem (.ref a) u) Q E s:=by
 rcases g with⟨U,k,e,c,l⟩|⟨U,k,b,e,c,x,l⟩
 .subst c;obtain⟨z,hd,m,C,dd⟩:=nT I.hok e;obtain⟨w',hw,J⟩:=oa.some_of (v:=v) (o:=valueAt m k) (by rw[l];exact C.val k)
  exact wpAny_getItem_of (Fp f) dd.mapOf hw (h w' _ (I.tok _) J)
 .subst c
  cases(show u=Value.ref b from f)
  obtain⟨z,hd,n,C,dd⟩:=Cy I.hok e;obtain⟨w',hw,J⟩:=oa.some_of (v:=v) (o:=(atKey n k).map (·.2)) (by rw[l];exact C.val k)
  obtain⟨p,j,d⟩:=Option.map_eq_some_iff.mp hw;refine wpAny_getItem_heap (QB q) (Bq I.hok x) dd j ?_
  rw[d];exact h w' _ (I.tok _) J
theorem A0{h':Heap}{t':Nat}{C:HO}(I:Inv X pins Z H s)(U:Mut (H a))(hs:Heap.SameBut a s.heap h')(c:∃q,h'.get? a=some q)(new:cU X.prog X.w (upd H a C) h' a C):
  Inv X pins Z (upd H a C) {s with heap:=h',toks:=t'}:=
 I.write (x:=a) (e:=a) U (.inl rfl) (fun b q J z=>(hs.2 b J).trans z) c new
theorem ES{P:Program}{w:World}{I:Hp}{h':Heap}{kvs:List (Key × V)}{vs:List (Key × Value)}(z:kvs.length<=sizeLine)(hd:(a==sysModules)=false)(C:KV kvs vs)(dd:h'.DictOf (bK P w) a vs):
  cU P w I h' a (.dK kvs):=⟨z,hd,vs,C,dd⟩
theorem GL{x:Hp}{Q:Unit->Shared->Prop}(N:A.units+1<cLine)(I:Inv X pins Z H s)(g:tE H a y v x)(n:bz y u)(G:bz v r)(h:∀D,Inv X pins Z x D->Q () D):
  wpAny (model X.prog X.w) A (setItem (.ref a) u r) Q E s:=by
 rcases g with⟨C,k,e,j,l,f⟩|⟨C,k,b,e,j,B,l,f⟩
 .subst j f;obtain⟨z,hd,K,J,dd⟩:=Hl I.hok e;have i:K.length<=sizeLine:=by rw[<- J.length];exact z
  have m:(cF C k v).length<=sizeLine:=by have:=pH C k v;lia
  refine wpAny_setItem_pairs (hsz:=i) (Fp n) dd fun p U hs=>h _ ?_
  have T:∃q,p.get? a=some q:=let ⟨q,_,_,d,_⟩:=U;⟨q,d⟩
  exact A0 I (by rw[e];exact True.intro) hs T (ES m hd (J.put k G) U)
 .subst j f
  cases(show u=Value.ref b from n)
  obtain⟨z,hd,L,J,dd⟩:=Mw I.hok e;have i:L.length<=sizeLine:=by rw[<- QK J];exact z
  have m:(cF C k v).length<=sizeLine:=by have:=pH C k v;lia
  refine wpAny_setItem_heap (hsz:=i) (QB N) (Bq I.hok B) dd fun p U hs=>h _ ?_
  obtain⟨q,R,O,d,P,S,W,_,M⟩:=U;refine A0 I (by rw[e];exact True.intro) hs ⟨q,d⟩ ⟨m,hd,_,(J.put k B G).keeps fun c Y F=> ?_,q,R,O,d,P,S,W,M⟩
  rw[aq (eD F e (fun z=>nomatch z))]
  exact F
end
def Mt(i:Expr):Prop:=∀o C,subscripted i false o C=operate [o,C] (getItem o C)
theorem Jw{prog:Program}{w:World}{A:Around}{E:Value->Shared->Prop}{s:Shared}{env:Env}{I C:Expr}{e:Pos}{T id:String}{Q:Value->Shared->Prop}
  (g:typeLookup (.type T) "__getitem__"=pure (some (.builtin id))) (hs:Mt C)
  (h:wpAny (model prog w) A (eval I env) (fun o a=>wpAny (model prog w) A (eval C env) (fun i J=>J.TypeIs o T/\wpAny (model prog w) A (getItem o i) Q E J) E a) E s):
  wpAny (model prog w) A (eval (.Subscript I C e) env) Q E s:=by
 refine Subscript_ (OS h (fun o a d=>OS d (fun i J U=> ?_) fun _ _ x=>x) fun _ _ x=>x)
 obtain⟨f,U⟩:=U;unfold subscriptTail;refine gV ?_
 rw[getitemInPython_of_ne f.not_modules];refine gV (wpAny_specialOf f g ?_)
 have fin:wpAny (model prog w) A (subscripted C false o i) (fun r b=>wpAny (model prog w) A (letTemporaryGo I o r >>= fun _=>pure r) Q E b) E J:=by
  rw[hs o i];exact wpAny_operating (OS U (fun r b c=>gV (wpAny_letTemporaryGo (Ob c))) fun _ _ x=>x)
 first
  | exact Ob (gV fin)
  | exact gV (Ob (gV fin))
  | exact gV fin
theorem BM{X:Cx}{C:List (Addr × Obj)}{Z:St}{H:Hp}{s:Shared}{a:Addr}{y:V}{o:Option V}(I:Inv X C Z H s)(g:yS H a y o):s.TypeIs (.ref a) "dict":=by
 rcases g with⟨J,k,e,_,_⟩|⟨J,k,b,e,_,_,_⟩
 .obtain⟨_,_,vs,_,dd⟩:=nT I.hok e;exact dd.typeIs
 .obtain⟨_,_,xs,_,dd⟩:=Cy I.hok e;exact dd.typeIs
def MP(I ty:TE):TE:=fun Z H Q=>I Z H fun x C=>ty Z C fun y o=>∃a v,x= .ref a/\yS o a y (some v)/\Q v o
def Mv(b ty U:TE):TS:=fun D Z H=>U Z H fun v I=>b Z I fun x J=>ty Z J fun y C=>∃a o,x= .ref a/\tE C a y v o/\D.nx Z o
section
variable {X : Cx} {o i e value : Expr} {pos pos' tpos : Pos} {td ty tv : TE}
theorem E4(n:X.A.units+1<cLine)(ho:PE X o td)(r:PE X i ty)(hs:Mt i):PE X (.Subscript o i pos) (MP td ty):=by
 intro C s Z H Q I h;refine Jw PySem.F.slot_dict_getitem.lookup hs (cB (ho C s Z H _ I h) fun u j x d l m z=>cB (r C j Z d _ l z) fun G B y f b c J=> ?_)
 obtain⟨a,v,w,g,q⟩:=J;subst w;obtain rfl:u=Value.ref a:=m;exact⟨BM b g,Gb n b g c fun E D p U=>⟨v,f,p,U,q⟩⟩
theorem wp(n:X.A.units+1<cLine)(ho:PE X o td)(E:PE X i ty)(B:PE X value tv)(hs:swapsWith value (some (.Subscript o i pos')) pos.line X.env=pure false):
  PS X (.Assign [.Subscript o i pos'] value pos) (Mv td ty tv):=by
 intro C s Z H D I h;refine wpAny_Assign_Subscript (cB (B C s Z H _ I h) fun r d v b j G L=>cB (ho C d Z b _ j L) fun u l x c z m w=>cB (E C l Z c _ z w) fun P N y M q U J=> ?_) hs
 obtain⟨a,p,K,g,f⟩:=J;subst K;obtain rfl:u=Value.ref a:=m;exact GL n q g U G fun O F=>⟨Z,p,F,f⟩
end
theorem Il{P:Program}{w:World}{H:Hp}(h:Heap)(o:sysModules<h.objs.size):cU P w H (h.push {cls:= .type "dict",data:= .dict #[]}) h.objs.size (.dK []):=
 ⟨Ou _,OL.mpr (Ox (Om o)),[],.nil,Heap.DictOf.new h⟩
theorem Iy{P:Program}{w:World}{H:Hp}(h:Heap)(o:sysModules<h.objs.size):cU P w H (h.push {cls:= .type "dict",data:= .dict #[]}) h.objs.size (.dT []):=
 ⟨Ou _,OL.mpr (Ox (Om o)),[],.nil,_, #[],0,Ol _ rfl,⟨rfl,rfl,rfl⟩,rfl,rfl,QC⟩
def Lr:TE:=fun _ H Q=>∀p,H p=none->Q (.ref p) (upd H p (.dK []))
def LI:TE:=fun _ H Q=>∀p,H p=none->Q (.ref p) (upd H p (.dT []))
section
variable {X : Cx} {pos : Pos}
theorem Cc:PE X (.Dict [] [] pos) Lr:=fun C s Z H Q I h=>
 wpAny_Dict_empty ⟨.ref s.heap.objs.size,_,I.laid (a:=s.heap.objs.size) (o:= .dK []) (t':=s.toks) (fun _ _ q=>NU _ q) (NW _) (Il s.heap I.big),rfl,h _ (I.hok.fresh (NW _))⟩
theorem HY:PE X (.Dict [] [] pos) LI:=fun C s Z H Q I h=>
 wpAny_Dict_empty ⟨.ref s.heap.objs.size,_,I.laid (a:=s.heap.objs.size) (o:= .dT []) (t':=s.toks) (fun _ _ q=>NU _ q) (NW _) (Iy s.heap I.big),rfl,h _ (I.hok.fresh (NW _))⟩
end
noncomputable def eC(kvs o:List (Key × V)):List (Key × V):=o.foldl (fun acc C=>cF acc C.1 C.2) kvs
theorem KV.merge:∀{o:List (Key × V)}{C:List (Key × Value)}{kvs:List (Key × V)}{vs:List (Key × Value)},KV o C->KV kvs vs->KV (eC kvs o) (merged vs C):=by
 intro o C kvs vs r;unfold KV at r
 induction r generalizing kvs vs with
 | nil=>intro q;exact q
 | @cons p q ps qs h t ih=>
  intro I;have e:KV (cF kvs p.1 p.2) (stored vs q.1 q.2):=by
   have:=I.put p.1 h.2;rw[<- h.1];exact this
  exact ih e
theorem iJ:∀(o kvs:List (Key × V)),(eC kvs o).length<=kvs.length+o.length
 | [],kvs=>by show kvs.length<=kvs.length+0;lia
 | p::r,kvs=>by
  have C:=iJ r (cF kvs p.1 p.2);have I:=pH kvs p.1 p.2;show(eC (cF kvs p.1 p.2) r).length<=_
  rw[N6];lia
structure M1 (X:Cx) (o:Expr) (m:Str) (apos:Pos) (e:Expr) (cpos:Pos):Prop where
 base:attributeBase o m X.env (eval o X.env)=eval o X.env
 few:((backTo cpos (starEach [e] X.env)).all (fun x=> !x.1) && (backToKw cpos (keywordEach [] X.env)).all (fun x=>x.1.isSome)
  && decide (([e]:List Expr).length+([]:List Keyword).length+(if ([]:List Keyword).isEmpty then 0 else 1)<30))=true
 line:(apos.endLine==cpos.line)=true
 trees:backTo cpos (starEach [e] X.env)=[(false,eval e X.env)]
structure M2 (X:Cx) (o:Expr) (m:Str) (apos:Pos) (e f:Expr) (cpos:Pos):Prop where
 base:attributeBase o m X.env (eval o X.env)=eval o X.env
 few:((backTo cpos (starEach [e,f] X.env)).all (fun x=> !x.1) && (backToKw cpos (keywordEach [] X.env)).all (fun x=>x.1.isSome)
  && decide (([e,f]:List Expr).length+([]:List Keyword).length+(if ([]:List Keyword).isEmpty then 0 else 1)<30))=true
 line:(apos.endLine==cpos.line)=true
 trees:backTo cpos (starEach [e,f] X.env)=[(false,eval e X.env),(false,eval f X.env)]
def IsD(H:Hp)(a:Addr):Prop:=(∃o,Rd H a (.dK o))\/∃o,Rd H a (.dT o)
theorem K1{X:Cx}{C:List (Addr × Obj)}{Z:St}{H:Hp}{s:Shared}{a:Addr}(I:Inv X C Z H s)(d:IsD H a):
  s.TypeIs (.ref a) "dict"/\(∀b,Value.ref a= .ref b->∃o,s.heap.get? b=some o/\o.dict=none)/\(a==sysModules)=false:=by
 rcases d with⟨U,e⟩|⟨U,e⟩
 .obtain⟨_,hd,vs,_,dd⟩:=nT I.hok e;refine⟨dd.typeIs,fun b q=> ?_,hd⟩
  cases q
  obtain⟨o,_,_,c,J,_⟩:=dd;exact⟨o,c,J.2.1⟩
 .obtain⟨_,hd,xs,_,dd⟩:=Cy I.hok e;refine⟨dd.typeIs,fun b q=> ?_,hd⟩
  cases q
  obtain⟨o,_,_,c,J,_⟩:=dd;exact⟨o,c,J.2.1⟩
section
variable {X : Cx} {pins : List (Addr × Obj)} {σ : St} {H : Hp} {s : Shared} {a : Addr} {y d : V} {u r : Value} {o : Option V} {A : Around} {E : Value → Shared → Prop}
theorem Lc{Q:Value->Shared->Prop}(m:A.units+1<cLine)(I:Inv X pins Z H s)(g:yS H a y o)(c:bz y u)(f:bz d r)(h:∀w' i,Inv X pins Z H i->bz (o.getD d) w'->Q w' i):
  wpAny (model X.prog X.w) A (call (.builtin "dict.get") [.ref a,u,r]) Q E s:=by
 rcases g with⟨J,k,e,U,l⟩|⟨J,k,b,e,U,n,l⟩
 .subst U;obtain⟨z,hd,p,C,dd⟩:=nT I.hok e;refine R3 Qc dd.typeIs Q2 (QW _ _ _) (meets_dict_get_default (bK X.prog X.w) a (Fp c) hd r) ⟨_,dd.mapOf,h _ _ (I.tok _) ?_⟩
  rw[l];exact(C.val k).getD f
 .subst U
  cases(show u=Value.ref b from c)
  obtain⟨z,hd,j,C,dd⟩:=Cy I.hok e;refine R3 Qc dd.typeIs Q2 (QW _ _ _) (meetsH_dict_get_default (tupleKind (bK X.prog X.w)) a b hd r) ⟨QB m,k,j,Bq I.hok n,dd,h _ _ (I.tok _) ?_⟩
  rw[l];exact(C.val k).getD f
end
def KY(b ty U:TE):TE:=fun Z H Q=>b Z H fun x I=>∃a,x= .ref a/\IsD I a/\ty Z I fun y J=>U Z J fun z C=>∃o,yS C a y o/\Q (o.getD z) C
section
variable {X : Cx} {o e f : Expr} {apos cpos : Pos} {td ty tx : TE}
theorem HA(B:X.A.units+1<cLine)(ho:PE X o td)(P:PE X e ty)(j:PE X f tx)(m:M2 X o "get" apos e f cpos):PE X (.Call (.Attribute o "get" apos) [e,f] [] cpos) (KY td ty tx):=by
 intro C s Z H Q I h;refine wpAny_Call_method m.base m.few m.line QX Qc PySem.F.type_dict_get (cB (ho C s Z H _ I h) fun u q x l b v U=> ?_)
 obtain⟨a,M,d,N⟩:=U;subst M;obtain rfl:u=Value.ref a:=v;obtain⟨O,K,_⟩:=K1 b d;refine⟨O,K,?_⟩
 rw[m.trees]
 refine Q0 rfl (Calls.evalArgs_plain (QA (cB (P C q Z l _ b N) fun iv w y n G c E=>
  QA (thn (j C w Z n _ G E) fun R T ⟨z,i,D,p,S,g,r⟩=>Calls.spliced_nil ?_))))
 exact Lc B D g c p fun Y W L J=>⟨_,i,L,J,r⟩
end
section
variable {X : Cx} {pins : List (Addr × Obj)} {σ : St} {H : Hp} {s : Shared} {a : Addr} {kvs : List (Key × V)} {A : Around} {E : Value → Shared → Prop}
theorem Hz{Q:Value->Shared->Prop}(I:Inv X pins Z H s)(e:Rd H a (.dK kvs))(h:∀p U,H p=none->Inv X pins Z (upd H p (.dK kvs)) U->Q (.ref p) U):wpAny (model X.prog X.w) A (call (.type "dict") [.ref a]) Q E s:=by
 obtain⟨z,hd,f,C,dd⟩:=nT I.hok e;refine kt_call_dict hd dd (by rw[<- C.length];exact z) fun d J hs=> ?_
 refine h _ _ (I.hok.fresh (NW _)) (I.laid (a:=s.heap.objs.size) (o:= .dK kvs) (t':=s.toks) (fun b q c=> ?_) (NW _) (ES z (OL.mpr (Ox (Om I.big))) C J))
 exact(hs.2 b (Om (N5 c))).trans (NU _ c)
end
end L2
namespace Att
open PySem PySem.W PySem.Calls PyProof.Rows
theorem vK{P:Params}{h:Heap}:∀(ns:List Int) (vs:List Value),WellAll P h vs (ns.map WData.int)->IntsAre vs ns:=by
 intro ns
 induction ns with
 | nil=>
  intro vs w;rw[RY] at w
  cases w
  exact .nil
 | cons n ns ih=>
  intro vs w;rw[OD] at w
  cases w with
  | cons a b=>
   cases a
   exact .cons _ _ (ih _ b)
theorem Gq{l:OpenLaw}{n:Nat}(i:l.most=some n){P:Params}{h:Heap}{args:List WData}{C:List Value}
  (o:l.row.toRowW.claim.pre args=true) (c:WellAll P h C args):
  ∃a vs ns,C=[Value.ref a]/\args=[WData.list (ns.map WData.int)]/\h.get? a=some {cls:= .type "list",data:= .seq vs.toArray}/\IntsAre vs ns/\ns.length<=n:=by
 have b:WShape.hasAll [] args [.list .int]=true:=(pre_splitW o).1;have e:l.pre.holds [] {args:=args}=true:=(pre_splitW o).2;obtain⟨d,r,rfl,f,g⟩:=hasAllW_cons b;obtain rfl:=hasAllW_nil g;obtain⟨p,rfl,m⟩:=hasW_list f;obtain⟨ns,rfl⟩:=items_int m;have I:ns.length<=n:=by
  unfold OpenLaw.pre at e;have U:(WTm.not (.lt (.lit (.int (n:Int))) (.len (.arg 0)))).holds [] {args:=[.list (ns.map .int)]}=true:=by
   have U:=(holds_andW e).1;rw[i] at U;exact U
  have J:=condW_of U (w_not (w_lt w_lit (w_len_list (w_arg rfl))));rw[be] at J;refine Nat.le_of_not_lt fun q=> ?_
  have j:(n:Int)<((ns.length:Nat):Int):=by lia
  first
   | (rw[NY j] at J;exact absurd J (by decide))
   | (simp at J;lia)
 cases c with
 | cons w1 w2=>
  cases w2
  cases w1 with
  | list ho hall=>exact⟨_,_,ns,rfl,rfl,ho,vK ns _ hall,I⟩
theorem GG(l:OpenLaw)(args:List WData):l.row.toRowW.claim.post args (.bool true) args=true:=
 postW_of (r:=l.row.toRowW) (X:=(true==true))
  (show WShape.has [] (.bool true) .bool=true by first | rfl | decide | simp [WShape.has,WShape.arms,WShape.armsAll])
  (show(WTm.eq .res (.lit (.bool true))).value [] {args:=args,res:=some (.bool true),after:=args}=some (.bool (true==true)) from w_eq_bool (w_res rfl) w_lit) rfl
theorem attach_call{l:OpenLaw}{n:Nat}{q:Program}{I:List Str}{D:(Str->Option Value)->Heap->Prop}{A:World->Heap->Prop}{d:DefRec}
  (L:l.most=some n) (v:d.params.defaults=[])
  (call:∀(w:World) (J C:Shared) (j s:Str->Option Value) (c:Addr) (o:Obj) (pm cd b:Value) (a:Addr) (vs:List Value) (ns:List Int),
   Ground q I [] D w J j s C.heap->A w C.heap->
   C.heap.get? c=some o->o.data= .func (docDef d.name d.params d.body d.scope pm cd b)->C.heap.CodeRec cd d.name->j d.name=some (.ref c)->
   C.heap.get? a=some {cls:= .type "list",data:= .seq vs.toArray}->IntsAre vs ns->ns.length<=n->C.gens= #[]->
   codeAny (model l.prog w) callerA (.call (.ref c) ⟨[.ref a],[]⟩) (fun r m=>r= .ok (.ret (.bool true))/\OldK C.heap m.heap/\m.os=C.os/\AllBare m.gens) C):
  WalkO q I D A l.row.toRowW d [] (fun f vs=>PySem.call f vs):=by
 intro w J C j s G Y c o pm cd b K kV ho hd u y p P E B R e z N x O;obtain rfl:K= .none:=Dflts.none y v;obtain rfl:kV= .none:=Dflts.noKw y;obtain⟨a,vs,ns,rfl,rfl,g,U,i⟩:=Gq L e x;refine enter_call (P8 (call w J C j s c o pm cd b a vs ns G Y ho (fd_plain hd) u p g U i P) fun r m Q=> ?_)
 obtain⟨rfl,H,M,F⟩:=Q;exact⟨.inl ⟨.bool true,.bool true,[],rfl,fun _=>rfl,.bool true,GG l _,fun _=>⟨List.Pairwise.nil,fun _ hm=>(nomatch hm)⟩⟩,H,M,F⟩
end Att
namespace L2
open PySem PySem.Spec PyProof.Rows
theorem Am:∀{vs:List Value}{ns:List Int},IntsAre vs ns->bj (ns.map V.int) vs
 | _,_,.nil=> .nil
 | _,_,.cons n t h=> .cons ⟨t,rfl⟩ (Am h)
def JH(H:Hp):Prop:=∀b,H b=none\/∃o C,H b=some (.frz o (.lst C))
theorem Ie{P:Program}{w:World}{K:Frag}{l Q:Str->Option Value}{CX:CXT}{k:Nat}{O a:Addr}{Y:FuncData}{x:Str}{sp:Sp}{C:Shared}{vs:List Value}{ns:List Int}
  (X:K.In C.heap) (E:C.heap.Ns mainGlobals l) (J:C.heap.Ns builtinsNs Q) (R:∀x:Str,x≠"__name__"->Q x=bootBuiltins x) (j:C.heap.NoLimit) (hg:C.gens= #[])
  (M:C.heap.get? a=some {cls:= .type "list",data:= .seq vs.toArray}) (hi:IntsAre vs ns) (hl:ns.length<=sizeLine) (hr:Room k callerA)
  (F:∀base:Heap,K.In base->base.Ns mainGlobals l->ja P w K l base CX k O Y [x] sp) (g:∀(s:Shared) (u:Value),BindsTo s Y ⟨[u],[]⟩ [(x,u)])
  (S:∀H:Hp,JH H->SqL K H a (ns.map V.int)->sp [.ref a] H (fun v _=>v= .bl true) fun _ _ _=>False)
  (N:∀H e U,CX [] H C (fun _ _ _=>False) e U->False):
  codeAny (model P w) callerA (.call (.ref O) ⟨[.ref a],[]⟩) (fun r U=>r= .ok (.ret (.bool true))/\OldK C.heap U.heap/\U.os=C.os/\AllBare U.gens) C:=by
 have rv:=Am hi;have p:=hi.length;have f:∀H:Hp,JH H->SqL K H a (ns.map V.int)->HOk P w H C.heap->(∀b,H b≠none->b=a)->(H a≠none->K.lookup a=none)->
   codeAny (model P w) callerA (.call (.ref O) ⟨[.ref a],[]⟩) (fun r U=>r= .ok (.ret (.bool true))/\OldK C.heap U.heap/\U.os=C.os/\AllBare U.gens) C:=by
  intro H Z hS B hA hK;have I:∀{b:Addr}{o:Obj},C.heap.get? b=some o->H b=none->(BE C.heap H).get? b=some o:=fun e n=>Hu e n
  have W:∀{b:Addr}{o:Obj}{D:Array DictEntry}{A:Nat},C.heap.get? b=some o->o.data= .dict D A->H b=none:=fun {b o D A} e d=>by
   cases q:H b with
   | none=>rfl
   | some u=>
    have T:b=a:=hA b (by rw[q];simp)
    subst T;rw[M] at e;cases e;have d':Data.seq vs.toArray _=Data.dict D A:=d
    cases d'
  have c:∀{b:Addr}{m:Str->Option Value},C.heap.Ns b m->(BE C.heap H).Ns b m:=fun {b m} ⟨o,D,A,e,d,r⟩=>⟨o,D,A,I e (W e d),d,r⟩
  have L:K.In (BE C.heap H):=fun b o e=>I (X b o e) (by
   cases q:H b with
   | none=>rfl
   | some u=>
    have T:b=a:=hA b (by rw[q];simp)
    subst T
    rw[hK (by rw[q];simp)] at e;cases e)
  have hM:Mod K l (BE C.heap H):=⟨L,c E,⟨Q,c J,R⟩,let ⟨mc,h1,h2⟩:=j;⟨mc,c h1,h2⟩⟩
  have e0:D6 P w K l (BE C.heap H) callerA [] C H:=⟨rfl,hM,fun b o e=>Jh e,Nat.le_of_eq (GD _ _),trivial,fun b J=>absurd (show b∈([]:List Addr) from J) (by simp),B,.of_eq hg⟩
  refine P8 ((F _ L (c E)).run callerA [] C H ⟨[.ref a],[]⟩ [.ref a] [.ref a] _ _ hr e0 (g C (.ref a)) (.cons rfl .nil) (S H Z hS)) fun r U h=> ?_
  cases r with
  | error e=>exact(N H e U h).elim
  | ok fl=>
   cases fl with
   | next=>exact False.elim h
   | brk=>exact False.elim h
   | cont=>exact False.elim h
   | ret u=>
    obtain⟨v,H',os,i,un,G,r',q⟩:=h;have q':v= .bl true:=q;subst q';obtain rfl:u=Value.bool true:=r';refine⟨rfl,OldK.of_keep fun b o e=> ?_,os,i⟩
    cases q:H b with
    | none=>exact un.keep b o e q (by intro z;exact absurd (show b∈([]:List Addr) from z) (by simp)) (by simp)
    | some u=>
     rcases Z b with z | ⟨ob,xs,z⟩
     .rw[q] at z;cases z
     .have z2:=un.frzs b ob _ z;obtain⟨e1,_⟩:=B b _ z;obtain⟨e2,_⟩:=G b _ z2;rw[e] at e1;cases e1;exact e2
 cases hk:K.lookup a with
 | some o=>
  have e:=X a o hk;rw[M] at e
  cases e
  refine f (fun _=>none) (fun _=> .inl rfl) (.inr ⟨_,vs.toArray,_,hk,rfl,rfl,rfl,by rw[N1,p];exact hl,by simpa using rv⟩) (fun b u z=>by have y:(none:Option HO)=some u:=z;cases y) (fun b z=>absurd rfl z) fun z=>absurd rfl z
 | none=>
  refine f (fun b=>if b=a then some (.frz {cls:= .type "list",data:= .seq vs.toArray} (.lst (ns.map V.int))) else none) (fun b=> ?_) (.inl (.inr ⟨{cls:= .type "list",data:= .seq vs.toArray},NV rfl⟩)) (fun b u z=> ?_) (fun b z=> ?_) fun _=>hk
  .by_cases J:b=a
   .exact .inr ⟨_,_,NV J⟩
   .exact .inl (fI J)
  .by_cases J:b=a
   .have y:=(NV J).symm.trans z
    cases y
    subst J;exact⟨M,by rw[be];exact hl,vs,_,rv,M⟩
   .have y:=(fI J).symm.trans z
    cases y
  .by_cases J:b=a
   .exact J
   .exact absurd (fI J) z
noncomputable abbrev KOf{K:Frag}{h:Heap}(_:K.In h):Frag:=K
theorem JK{l:PySem.W.OpenLaw}{n k:Nat}{q:Program}{I:List Str}{P:(Str->Option Value)->Heap->Prop}{D:World->Heap->Prop}{d:DefRec}{K:Params->Frag}{CX:World->CXT}{sp:World->Sp}{x:Str}
  (R:l.most=some n) (A:n<=sizeLine) (B:d.params.defaults=[]) (X:Room k callerA)
  (Q:∀(w:World) (h:Heap),D w h->(K w.params).In h)
  (F:∀(w:World) (U:Str->Option Value) (j:Addr) (h:Heap),(K w.params).In h->h.Ns mainGlobals U->U d.name=some (.ref j)->
   ∃r:FuncData,(∀(s:Shared) (u:Value),BindsTo s r ⟨[u],[]⟩ [(x,u)])/\
    ∀base:Heap,(K w.params).In base->base.Ns mainGlobals U->ja l.prog w (K w.params) U base (CX w) k j r [x] (sp w))
  (z:∀(w:World) (H:Hp) (a:Addr) (ns:List Int),ns.length<=n->JH H->SqL (K w.params) H a (ns.map V.int)->sp w [.ref a] H (fun v _=>v= .bl true) fun _ _ _=>False)
  (m:∀(w:World) (H:Hp) (s:Shared) (e:Value) (y:Shared),CX w [] H s (fun _ _ _=>False) e y->False):
  PySem.W.WalkO q I P D l.row.toRowW d [] (fun f vs=>PySem.call f vs):=by
 refine Att.attach_call R B fun w L c U mb j o pm cd ab a vs ns G Y ho hd S p i J C hg=> ?_
 have E:=Q w _ Y;obtain⟨r,Z,M⟩:=F w U j _ E G.T.g p;exact Ie E G.T.g G.T.b G.T.builtins G.T.nolimit hg i J (Oc C A) X M Z (fun H O N=>z w H a ns C O N) fun H e y=>m w H c e y
noncomputable def cI(s:Stmt)(j:Nat):Stmt:=match s with
 | .ClassDef _ _ _ body _ _ _ _ _ _ _=>body.getD j (.Pass ⟨0,0,0,0⟩)
 | _=> .Pass ⟨0,0,0,0⟩
noncomputable def jt(s:Stmt):Arguments:=match s with
 | .FunctionDef _ a _ _ _ _ _ _ _ _=>a
 | _=>{posonlyargs:=[],args:=[],vararg:=none,kwonlyargs:=[],kw_defaults:=[],kwarg:=none,defaults:=[]}
noncomputable def fH(s:Stmt):List Stmt:=match s with
 | .FunctionDef _ _ b _ _ _ _ _ _ _=>b
 | _=>[]
noncomputable def ah(s:Stmt):Scope:=match s with
 | .FunctionDef _ _ _ _ _ _ sc _ _ _=>sc
 | _=>{kind:= .function,names:=[],isGenerator:=false,isCoroutine:=false}
abbrev CX0:CXT:=fun _ _ _ _ _ _=>False
abbrev E0:XK:=fun _ _ _=>False
theorem Ak{X:Cx}:nD CX0 X E0:=fun _ _ _ _ _ _ _ h=>h.elim
structure Fun (K:Frag) (x qual:Str) (st:Stmt) (f:Addr) (fd:FuncData):Prop where
 ex:∃(oc:Value) (od:Option Addr) (kV doc pm:Value) (an:Option Addr) (cdv ct:Value) (osl:Array (Option Value)),
  fd=W.fnOf x qual (jt st) (fH st) (ah st) .none kV doc pm an cdv ct/\K.lookup f=some ⟨oc,od,.func fd,osl⟩/\W.codeIn K cdv qual=true
 kp:W.keepIn K (.ref f)=true
section
variable {P : Program} {w : World} {K : Frag} {mg : Str → Option Value} {base : Heap}
theorem Fun.ok{x C:Str}{st:Stmt}{f:Addr}{b:FuncData}{N ps:List Str}{k:Nat}{sp:Sp}(F:Fun K x C st f b)(S:av N ps (ah st))(len:∀vs H Q E,sp vs H Q E->vs.length=ps.length)
  (J:∀(I:Value) (A:Around) (o:List Env) (s:Shared) (H:Hp) (vs:List V) (Q:VK) (E:XK),Room k (A.deeper (envOfC C (ah st) s.heap.objs.size f I))->sp vs H Q E->
   ∃t,PSs (i6 CX0 P w K mg base N C (ah st) f I A o s H E).nox (fH st) t/\t {nx:=fun _ d=>Q .non d,rt:=Q} (start N vs) H):ja P w K mg base CX0 (k+1) f b ps sp:=by
 obtain⟨l,n,kV,i,j,m,I,p,c,rfl,g,U⟩:=F.ex;refine Kp g U S len fun A o s H vs Q E e a=> ?_
 obtain⟨t,h,q⟩:=J I A o s H vs Q E e a;exact⟨t,h.nox,q⟩
theorem Fun.binds{x o:Str}{st:Stmt}{f:Addr}{U:FuncData}{ps:List Str}(F:Fun K x o st f U)
  (h:∀(kV I pm:Value) (J:Option Addr) (C ct:Value) (us:List Value),us.length=ps.length->bindArgs (W.fnOf x o (jt st) (fH st) (ah st) .none kV I pm J C ct) ⟨us,[]⟩=pure (ps.zip us)):jp K U ps []:=by
 obtain⟨c,d,kV,I,pm,J,C,ct,a,rfl,e,b⟩:=F.ex;exact .all (h kV I pm J C ct)
theorem El{x o:Str}{st:Stmt}{f:Addr}{a:Value}{b U:Option Addr}{J:Array (Option Value)}{kV I pm C ct:Value}(l:K.lookup f=some ⟨a,b,.func (W.fnOf x o (jt st) (fH st) (ah st) .none kV I pm U C ct),J⟩)
  (c:W.codeIn K C o=true) (k:W.keepIn K (.ref f)=true):Fun K x o st f (W.fnOf x o (jt st) (fH st) (ah st) .none kV I pm U C ct):=⟨⟨a,b,kV,I,pm,U,C,ct,J,rfl,l,c⟩,k⟩
end
theorem xj{A:Around}{k:Nat}(o:Room k A):A.units+1<cLine:=Of (Nat.add_le_add_left (by decide:1<=64) _) o.units
section
variable {X : Cx}
theorem pv(i:Nat){x:Str}{o:Pos}(J:X.N[i]? =some x:=by rfl)(I:Vis X.env.scope x:=by first | exact Or.inl rfl | exact Or.inr (Or.inl rfl) | exact Or.inr (Or.inr rfl))(hd:(x==("__debug__":Str))=false:=by decide)
  (C:(x==("__classdict__":Str))=false:=by decide):PE X (.Name x o) (LL i):=LQ J I hd C
end
theorem C3{A B:Prop}(h:B):if false=true then A else B:=by
 rw[fI Oa];exact h
theorem BI{A B:Prop}(h:A):if true=true then A else B:=by
 rw[NV rfl];exact h
theorem Mg{c A B:Prop}[Decidable c](o:c->A)(C:¬c->B):if c then A else B:=by
 by_cases h:c
 .rw[NV h];exact o h
 .rw[fI h];exact C h
theorem FI{c A B:Prop}[Decidable c](o:c)(h:B):if (!decide c)=true then A else B:=by
 rw[NY o];exact C3 h
def aA(H C:Hp):Prop:=∀b o,H b=some o->C b=some o
theorem aA.refl(H:Hp):aA H H:=fun _ _ h=>h
theorem aA.trans{H C I:Hp}(a:aA H C)(b:aA C I):aA H I:=fun c o h=>b c o (a c o h)
theorem aA.free{H C:Hp}(e:aA H C){l:Addr}(h:C l=Option.none):H l=Option.none:=by
 cases q:H l with
 | none=>rfl
 | some o=>
  rw[e l o q] at h
  cases h
theorem aA.seq{K:Frag}{H C:Hp}{a:Addr}{xs:List V}(e:aA H C)(h:SqL K H a xs):SqL K C a xs:=by
 rcases h with(h | ⟨o,h⟩) | h
 .exact .inl (.inl (e _ _ h))
 .exact .inl (.inr ⟨o,e _ _ h⟩)
 .exact .inr h
section
variable {κ : Type} [DecidableEq κ]
theorem Hv{kvs:List (κ × V)}{k:κ}(h:km kvs k=none):¬k∈kvs.map (·.1):=by
 intro m;obtain⟨p,C,e⟩:=OJ.mp m;have q:(kvs.any fun o=>decide (o.1=k))=true:=Qf.mpr ⟨p,C,NY e⟩
 rw[uf,h] at q;exact absurd q (by simp)
theorem Fa:∀{l:List κ}{k:κ},l.Nodup->¬k∈l->(l++[k]).Nodup
 | [],k,_,_=>by simp
 | a::r,k,h,hk=>by
  obtain⟨o,C⟩:=O5.mp h;show(a::(r++[k])).Nodup
  refine O5.mpr ⟨fun m=> ?_,Fa C fun m=>hk (Od.mpr (Or.inr m))⟩
  rcases Ot.mp m with q | q
  .exact o q
  .exact hk (Od.mpr (Or.inl (Og.mp q).symm))
theorem JX{kvs:List (κ × V)}{k:κ}(v:V)(o:(kvs.map (·.1)).Nodup)(h:km kvs k=none):((cF kvs k v).map (·.1)).Nodup:=by
 rw[GV v h,NZ];exact Fa o (Hv h)
end
end L2
set_option maxHeartbeats 4000000
namespace L2
open PySem PySem.Spec PyProof.Rows
theorem LP:bootBuiltins "int"=some (.type "int"):=by decide +kernel
theorem AE:bootBuiltins "list"=some (.type "list"):=by decide +kernel
theorem f8:bootBuiltins "tuple"=some (.type "tuple"):=by decide +kernel
theorem FM:bootBuiltins "dict"=some (.type "dict"):=by decide +kernel
theorem Li:bootBuiltins "zip"=some (.type "zip"):=by decide +kernel
theorem K4:bootBuiltins "sum"=some (.builtin "sum"):=by decide +kernel
theorem AX:bootBuiltins "enumerate"=some (.type "enumerate"):=by decide +kernel
theorem AA:bootBuiltins "max"=some (.builtin "max"):=by decide +kernel
theorem rK:bootBuiltins "min"=some (.builtin "min"):=by decide +kernel
theorem KZ:bootBuiltins "abs"=some (.builtin "abs"):=by decide +kernel
theorem bS:bootBuiltins "len"=some (.builtin "len"):=by decide +kernel
structure Bi (mg:Str->Option Value):Prop where
 len:mg "len"=none
 range:mg "range"=none
 isinstance:mg "isinstance"=none
 max:mg "max"=none
 min:mg "min"=none
 abs:mg "abs"=none
 all:mg "all"=none
 int:mg "int"=none
 bool:mg "bool"=none
 str:mg "str"=none
 list:mg "list"=none
 tuple:mg "tuple"=none
 dict:mg "dict"=none
 zip:mg "zip"=none
 enumerate:mg "enumerate"=none
 sum:mg "sum"=none
section
variable {X : Cx} {a b c : Expr} {ta tb tc : TE} {pos : Pos}
def tJ(i j:Int):Prop:=0<j/\j<=2^100
theorem cE:OpR X (binaryOp .FloorDiv) (rI tJ fun i j=> .int (i / j)):=opI fun i j _ _ _ _ _ o q=>by
 have J:(0:Int)<j:=o.1;have U:j<=2^100:=o.2;refine floordiv_int (by lia) (by rw[Int.fdiv_eq_ediv_of_nonneg i (by lia)];exact q) (.inl (PyProof.noPylong_of_log2 ?_))
 have I:j.natAbs<=2^100:=by lia
 have C:j.natAbs≠0:=by lia
 exact N8 ((Nat.log2_lt C).mpr (Of I (by decide:2^100<2^101))) (by decide)
def NN(t:TS):TS:=fun D Z H=>∃M:St->Hp->Prop,t {D with nx:=M} Z H/\∀C o,M C o->D.nx C o
theorem a_{st:Stmt}{t:TS}(h:PS X st t):PS X st (NN t):=by
 intro o s Z H D I i;obtain⟨M,J,U⟩:=i;refine thn (h o s Z H _ I J) fun f j q=> ?_
 cases f with
 | next=>obtain⟨e,C,g,d⟩:=q;exact⟨e,C,g,U _ _ d⟩
 | brk=>exact q
 | cont=>exact q
 | ret u=>exact q
noncomputable def Nf(t T:String):Option Bool:=
 if t=T then(if T∈["int","bool","str","list","tuple","dict"] then some true else none)
 else if t∈["int","bool","str","list","tuple","dict","NoneType"]/\T∈["int","bool","str","list","tuple","dict"] then some (t="bool"/\T="int") else none
structure Has (P:Program) (w:World) (K:Frag) (mg:Str->Option Value) (base:Heap) (k:Nat) (x:Str) (ps:List Str) (sp:Sp):Prop where
 ex:∃(f:Addr) (fd:FuncData),mg x=some (.ref f)/\W.keepIn K (.ref f)=true/\jp K fd ps []/\ja P w K mg base CX0 k f fd ps sp
theorem Has.mono{P:Program}{w:World}{K:Frag}{o:Str->Option Value}{base:Heap}{j k:Nat}{x:Str}{ps:List Str}{sp:Sp}(h:Has P w K o base j x ps sp)(C:j<=k):Has P w K o base k x ps sp:=by
 obtain⟨f,I,J,e,U,d⟩:=h.ex;exact⟨f,I,J,e,U,d.mono C⟩
theorem Has.imp{P:Program}{w:World}{K:Frag}{o:Str->Option Value}{base:Heap}{k:Nat}{x:Str}{ps:List Str}{sp sp':Sp}(h:Has P w K o base k x ps sp)(U:∀vs H Q E,sp' vs H Q E->sp vs H Q E):Has P w K o base k x ps sp':=by
 obtain⟨f,C,I,J,d,e⟩:=h.ex;exact⟨f,C,I,J,d,e.imp U⟩
theorem IT{k:Nat}{x:Str}{ps:List Str}{sp:Sp}{e:Expr}{o:List Expr}{t:TA}{p pos:Pos}(h:Has X.prog X.w X.K X.mg X.base k x ps sp)(d:Room k X.A)(i:Gl X x)
  (J:PA X (e::o) t) (C:(x==("__debug__":Str))=false:=by decide) (j:starEach (e::o) X.env=(false,eval e X.env)::starEach o X.env:=by rfl) (I:(backTo pos (starEach o X.env)).any (·.1)=false:=by rfl):
  PE X (.Call (.Name x p) (e::o) [] pos) (FQ sp [] E0 t):=by
 obtain⟨f,l,hm,U,g,F⟩:=h.ex;exact Kk F d i hm U g .nil Ak J C j I
structure Def (K:Frag) (mg:Str->Option Value) (x:Str) (st:Stmt) (ps:List Str):Prop where
 ex:∃(f:Addr) (fd:FuncData),Fun K x x st f fd/\mg x=some (.ref f)/\jp K fd ps []
theorem Def.has{P:Program}{w:World}{K:Frag}{J:Str->Option Value}{base:Heap}{k:Nat}{x:Str}{st:Stmt}{N ps:List Str}{sp:Sp}(D:Def K J x st ps)(S:av N ps (ah st))(len:∀vs H Q E,sp vs H Q E->vs.length=ps.length)
  (I:∀(f:Addr) (C:Value) (A:Around) (o:List Env) (s:Shared) (H:Hp) (vs:List V) (Q:VK) (E:XK),Room k (A.deeper (envOfC x (ah st) s.heap.objs.size f C))->sp vs H Q E->
   ∃t,PSs (i6 CX0 P w K J base N x (ah st) f C A o s H E).nox (fH st) t/\t {nx:=fun _ U=>Q .non U,rt:=Q} (start N vs) H):Has P w K J base (k+1) x ps sp:=by
 obtain⟨f,d,F,hm,g⟩:=D.ex;exact⟨f,d,hm,F.kp,g,F.ok S len fun C A o s H vs Q E e h=>I f C A o s H vs Q E e h⟩
end
theorem Dg{c A B:Prop}[Decidable c](o:c)(h:A):if decide c=true then A else B:=by
 rw[NY o];exact BI h
theorem bN{c A B:Prop}[Decidable c](o:¬c)(h:B):if decide c=true then A else B:=by
 rw[NX o];exact C3 h
theorem bc{c A B:Prop}[Decidable c](o:c->A)(C:¬c->B):if decide c=true then A else B:=by
 by_cases h:c
 .exact Dg h (o h)
 .exact bN h (C h)
def But(d:Addr)(H C:Hp):Prop:=∀b o,b≠d->H b=some o->C b=some o
theorem But.refl(d:Addr)(H:Hp):But d H H:=fun _ _ _ h=>h
theorem But.trans{d:Addr}{H C I:Hp}(a:But d H C)(b:But d C I):But d H I:=fun c o J h=>b c o J (a c o J h)
theorem aA.but{d:Addr}{H C:Hp}(a:aA H C):But d H C:=fun c o _ h=>a c o h
theorem But.upd{d:Addr}{H:Hp}{o:HO}:But d H (upd H d o):=fun c u C h=>by rw[aq C];exact h
theorem But.same{d:Addr}{H C I:Hp}(a:aA H C)(hd:H d=none)(b:But d C I):aA H I:=fun c o h=>b c o (ak h hd) (a c o h)
theorem ag{H:Hp}{p:Addr}(h:H p=none)(o:HO):aA H (upd H p o):=fun b u q=>by rw[aq (ak q h)];exact q
theorem But.seq{K:Frag}{d:Addr}{H I:Hp}{a:Addr}{xs:List V}(e:But d H I)(C:a≠d)(h:SqL K H a xs):SqL K I a xs:=by
 rcases h with(h | ⟨o,h⟩) | h
 .exact .inl (.inl (e _ _ C h))
 .exact .inl (.inr ⟨o,e _ _ C h⟩)
 .exact .inr h
def Bd(x:Str)(st:Stmt)(ps:List Str):Prop:=∀(kV I J:Value) (U:Option Addr) (o a:Value) (C:List Value),C.length=ps.length->
 bindArgs (W.fnOf x x (jt st) (fH st) (ah st) .none kV I J U o a) ⟨C,[]⟩=pure (ps.zip C)
theorem aF{K:Frag}{h:Heap}{o:Str->Option Value}{x:Str}{st:Stmt}{ps:List Str}{f:Addr}{J I:Option Addr}{sl:Array (Option Value)}{C kV U pm cd ct:Value}(b:Bd x st ps)(X:K.In h)(G:h.Ns mainGlobals o)
  (a:W.nsIn K mainGlobals x=some (some (.ref f))) (l:K.lookup f=some ⟨C,J,.func (W.fnOf x x (jt st) (fH st) (ah st) .none kV U pm I cd ct),sl⟩) (c:W.codeIn K cd x=true) (k:W.keepIn K (.ref f)=true):
  Def K o x st ps:=by
 have F:=El (st:=st) l c k;exact⟨f,_,F,SJ X G a,F.binds b⟩
theorem MC{K:Frag}{h:Heap}{o:Str->Option Value}(X:K.In h)(G:h.Ns mainGlobals o)
  (z0:W.nsIn K mainGlobals "len"=some none) (z1:W.nsIn K mainGlobals "range"=some none) (z2:W.nsIn K mainGlobals "isinstance"=some none) (z3:W.nsIn K mainGlobals "max"=some none) (z4:W.nsIn K mainGlobals "min"=some none)
  (z5:W.nsIn K mainGlobals "abs"=some none) (z6:W.nsIn K mainGlobals "all"=some none) (z7:W.nsIn K mainGlobals "int"=some none) (z8:W.nsIn K mainGlobals "bool"=some none) (z9:W.nsIn K mainGlobals "str"=some none)
  (z10:W.nsIn K mainGlobals "list"=some none) (z11:W.nsIn K mainGlobals "tuple"=some none) (z12:W.nsIn K mainGlobals "dict"=some none) (z13:W.nsIn K mainGlobals "zip"=some none) (z14:W.nsIn K mainGlobals "enumerate"=some none) (z15:W.nsIn K mainGlobals "sum"=some none):Bi o:=
 ⟨OK X G z0,OK X G z1,OK X G z2,OK X G z3,OK X G z4,OK X G z5,OK X G z6,OK X G z7,OK X G z8,
  OK X G z9,OK X G z10,OK X G z11,OK X G z12,OK X G z13,OK X G z14,OK X G z15⟩
def CJ(K:Frag):Sp:=fun I H Q _=>∃(a:Addr) (o:List Int),I=[.ref a]/\SqL K H a (o.map V.int)/\o.length<=63/\JH H/\∀C,Q (.bl true) C
theorem Ld{P:Program}{w:World}{K:Frag}{h:Heap}{o:Str->Option Value}{x:Str}{st:Stmt}{U f:Addr}{i J:Option Addr}{sl:Array (Option Value)}{g kV d pm cd ct:Value}{k:Nat}(b:Bd "law" st [x])(X:K.In h)(G:h.Ns mainGlobals o)(I:o "law"=some (.ref U))
  (a:W.nsIn K mainGlobals "law"=some (some (.ref f))) (l:K.lookup f=some ⟨g,i,.func (W.fnOf "law" "law" (jt st) (fH st) (ah st) .none kV d pm J cd ct),sl⟩) (c:W.codeIn K cd "law"=true) (kp:W.keepIn K (.ref f)=true)
  (ok:∀(f:Addr) (C:FuncData),Fun K "law" "law" st f C->∀base:Heap,ja P w K o base CX0 k f C [x] (CJ K)):
  ∃C:FuncData,(∀(s:Shared) (u:Value),BindsTo s C ⟨[u],[]⟩ [(x,u)])/\∀base:Heap,K.In base->base.Ns mainGlobals o->ja P w K o base CX0 k U C [x] (CJ K):=by
 have e:=I.symm.trans (SJ X G a)
 cases e
 have F:=El (st:=st) l c kp;exact⟨_,fun s u=> .of_eq (b kV d pm J cd ct [u] rfl),fun base _ _=>ok _ _ F base⟩
theorem Iw{l:PySem.W.OpenLaw}{k:Nat}{x:Str}{q:Program}{o:List Str}{i:(Str->Option Value)->Heap->Prop}{J:World->Heap->Prop}{d:DefRec}{K:Params->Frag}(p:l.most=some 63)(I:d.params.defaults=[])
  (r:Room k callerA) (j:∀(w:World) (h:Heap),J w h->(K w.params).In h)
  (F:∀(w:World) (C:Str->Option Value) (U:Addr) (h:Heap),(K w.params).In h->h.Ns mainGlobals C->C d.name=some (.ref U)->
   ∃b:FuncData,(∀(s:Shared) (u:Value),BindsTo s b ⟨[u],[]⟩ [(x,u)])/\∀base:Heap,(K w.params).In base->base.Ns mainGlobals C->ja l.prog w (K w.params) C base CX0 k U b [x] (CJ (K w.params))):
  PySem.W.WalkO q o i J l.row.toRowW d [] (fun f vs=>PySem.call f vs):=
 L2.JK (n:=63) (k:=k) (x:=x) (CX:=fun _=>CX0) (sp:=fun w=>CJ (K w.params)) p (by decide) I r j F (fun _ _ a c m g e=>⟨a,c,rfl,e,m,g,fun _=>rfl⟩) fun _ _ _ _ _ z=>z
noncomputable def uA:List (Str × NameKind)->Env->List (Str × Addr)->List (Str × Addr)
 | [],_,acc=>acc
 | (n,k)::r,env,acc=>uA r env (if (k==NameKind.free)=true then(n,(env.cells.lookup n).getD 0)::acc else acc)
theorem qU{o:Scope}{env:Env}(h:∀y∈o.names,y.2=NameKind.free->∃c,env.cells.lookup y.1=some c):closureFor o env=pure (uA o.names env []):=by
 have J:∀(l:List (Str × NameKind)) (acc:List (Str × Addr)),(∀y∈l,y.2=NameKind.free->∃c,env.cells.lookup y.1=some c)->
   (forIn l acc fun(x:Str × NameKind) (r:List (Str × Addr))=>(if (x.2==NameKind.free)=true then do let a <-cellOf env x.1;pure (ForInStep.yield ((x.1,a)::r)) else pure (ForInStep.yield r):Sem (ForInStep (List (Str × Addr)))))=pure (uA l env acc):=by
  intro l
  induction l with
  | nil=>intro acc _;rfl
  | cons y r ih=>
   intro acc U;obtain⟨n,k⟩:=y;rw[Q9];have b:∀z∈r,z.2=NameKind.free->∃c,env.cells.lookup z.1=some c:=fun z d=>U z (N2 _ d)
   by_cases I:(k==NameKind.free)=true
   .have hk':k=NameKind.free:=by simpa using I
    obtain⟨c,f⟩:=U (n,k) N3 hk';have C:env.cells.lookup n=some c:=f;have e:cellOf env n=pure c:=by unfold cellOf;rw[C]
    simp only[I,Qu,e,pure_bind]
    rw[ih _ b]
    simp only[uA,I,Qu,C,Option.getD_some]
   .have hk2:(k==NameKind.free)=false:=by simpa using I
    simp only[hk2,QD,QV,pure_bind]
    rw[ih _ b]
    simp only[uA,hk2,QD,QV]
 have k:=J o.names [] h;unfold closureFor;refine Eq.trans ?_ k
 simp only[bind_pure_comp,bind_pure]
theorem Dq{env:Env}{x:Str}{c:Addr}:∀{names:List (Str × NameKind)}{acc:List (Str × Addr)},(∀y∈names,y.2=NameKind.free->∃c,env.cells.lookup y.1=some c)->(∀d,acc.lookup x=some d->env.cells.lookup x=some d)->
  (uA names env acc).lookup x=some c->env.cells.lookup x=some c
 | [],_,_,ha,h=>ha c h
 | (n,k)::r,acc,hl,ha,h=>by
  unfold uA at h;refine Dq (names:=r) (fun z U=>hl z (N2 _ U)) (fun d hd=> ?_) h
  split at hd
  .rename_i hk
   have C:k=NameKind.free:=by simpa using hk
   obtain⟨J,o⟩:=hl (n,k) N3 C;have o:env.cells.lookup n=some J:=o;rw[o,Option.getD_some,Pu] at hd
   by_cases I:x=n
   .subst I
    simp only[OO] at hd
    rw[<- hd];exact o
   .have hb:(x==n)=false:=by simpa using I
    rw[hb] at hd;exact ha d hd
  .exact ha d hd
theorem wR{env:Env}{x:Str}:∀{names:List (Str × NameKind)}{acc:List (Str × Addr)},((x,NameKind.free)∈names\/∃d,acc.lookup x=some d)->∃c,(uA names env acc).lookup x=some c
 | [],acc,h=>by
  rcases h with h | h
  .simp at h
  .exact h
 | (n,k)::r,acc,h=>by
  unfold uA;apply wR (names:=r)
  rcases h with h | ⟨d,h⟩
  .rcases Od.mp h with e | e
   .cases e
    refine .inr ⟨(env.cells.lookup x).getD 0,?_⟩
    rw[NV (by simp),Pu]
    simp only[OO]
   .exact .inl e
  .refine .inr ?_
   split
   .rw[Pu]
    cases(x==n) with
    | true=>exact⟨_,rfl⟩
    | false=>exact⟨d,h⟩
   .exact⟨d,h⟩
structure qd (sc0 scope:Scope) (N0 N:List Str) (t:Nat) (js:List Nat):Prop where
 kind:scope.kind= .function
 cell:∀y∈scope.names,y.2≠NameKind.cell
 names:∀y∈scope.names,y.2=NameKind.local->scope.names.lookup y.1=some NameKind.local
 free:∀y∈scope.names,y.2=NameKind.free->sc0.names.lookup y.1=some NameKind.cell
 frs:∀x∈N.drop t,scope.names.lookup x=some NameKind.free
 js:(N.drop t).map some=js.map fun j=>N0[j]?
 len:t<=N.length
 nd:N.Nodup
noncomputable def blk(t:Nat)(o:List Nat)(Z:St):St:=List.replicate t none++o.map fun j=>(Z[j]?).join
noncomputable def cxB(X:Cx)(o:Scope)(N:List Str)(C:Addr)(s:Shared)(H:Hp)(I:List Addr):Cx where
 prog:=X.prog
 w:=X.w
 K:=X.K
 mg:=X.mg
 base:=X.base
 A:=X.A
 N:=N
 s₀:=s
 H₀:=H
 env:=compEnvC o (uA o.names X.env []) C X.env
 outer:=X.stack
 stack:=X.stack
 ex:=I
 fn:=fun _=>false
 calm:=X.calm
 pn:=[]
 xe:=fun _ _=>False
theorem nM{f:Str->NameKind->NameKind}{x:Str}:∀(names:List (Str × NameKind)),(names.map fun y=>(y.1,f y.1 y.2)).lookup x=(names.lookup x).map (f x)
 | []=>rfl
 | (n,k)::r=>by
  rw[OD,Pu,Pu,nM r]
  by_cases o:x=n
  .subst o
   simp
  .have hb:(x==n)=false:=by simpa using o
   rw[hb]
theorem yC(o:Scope)(env:Env):(relabel o env).names=o.names.map fun y=>(y.1,if (y.2==NameKind.free && env.scope.kind == .function && env.kindOf y.1==some NameKind.cell)=true then NameKind.cell else y.2):=by
 unfold relabel;refine List.map_congr_left fun y _=> ?_
 obtain⟨n,k⟩:=y;dsimp only
 split <;> rfl
theorem oE(o:Scope)(env:Env)(x:Str):(relabel o env).names.lookup x=(o.names.lookup x).map fun k=>if (k==NameKind.free && env.scope.kind == .function && env.kindOf x==some NameKind.cell)=true then NameKind.cell else k:=by
 rw[yC];exact nM (f:=fun n k=>if (k==NameKind.free && env.scope.kind == .function && env.kindOf n==some NameKind.cell)=true then NameKind.cell else k) o.names
section
variable {X : Cx} {pins : List (Addr × Obj)} {σ : St} {H H' : Hp} {s s' : Shared} {sc0 scope : Scope} {N0 N : List Str} {t : Nat} {js : List Nat} {fp : List Addr}
theorem xU(I:Inv X pins Z H s)(o:X.env.scope=sc0)(B:qd sc0 scope N0 N t js):∀y∈scope.names,y.2=NameKind.free->∃c,X.env.cells.lookup y.1=some c:=fun y J C=>
 I.ok.has y.1 (.inl (by show X.env.scope.names.lookup y.1=_;rw[o];exact B.free y J C))
theorem F8{m:Str->Option Value}{W:Obj}{J:Heap}{tk:Nat}(I:Inv X pins Z H s)(A:X.env.scope=sc0)(G:X.N=N0)(B:qd sc0 scope N0 N t js)(g:∀b∈fp,uF X pins H b)(M:∀b∈fp,b<s.heap.objs.size)
  (O:J.Ns s.heap.objs.size m) (K:Heap.SameBut s.heap.objs.size (s.heap.push W) J):Inv (cxB X scope N s.heap.objs.size s H fp) [] (blk t js Z) H {s with heap:=J,toks:=tk}:=by
 have S:=xU I A B;have U:∀{x c},(uA scope.names X.env []).lookup x=some c->X.env.cells.lookup x=some c:=fun {x c} h=>Dq S (fun d hd=>by simp at hd) h
 have f:∀b o,s.heap.get? b=some o->J.get? b=some o:=fun b o e=>(K.2 b (Om (N5 e))).trans (NU _ e)
 refine⟨⟨I.ok.mod,B.kind,I.ok.glob,I.ok.blt,NW _,fun x y c h1 h2=>I.ok.inj x y c (U h1) (U h2),fun x Y=> ?_,fun x c h=>absurd (show false=true from h) (by decide),I.ok.hd,I.ok.frames,.inl rfl,fun b a=>⟨Om (M b a),fun x c h=>(g b a).2.2.2.2.1 x c (U h)⟩,
  I.bs,Oc I.ok.bsz I.sz,fun b o e a=> ?_,fun b a z=> ?_,I.stack,I.stkFree⟩,rfl,I.bare,Un.kept f,⟨m,O,fun i x v e1 C e3=> ?_⟩,fun x c h=> ?_,I.hok.fresh (NW _),fun x c h=>I.freeC x c (U h),fun p T=>absurd (show p∈([]:List (Addr × Obj)) from T) (by simp),I.hok.kept f,?_⟩
 .apply wR
  left
  have q:(relabel scope X.env).names.lookup x=some NameKind.cell\/(relabel scope X.env).names.lookup x=some NameKind.free:=Y;rw[oE] at q
  cases e:scope.names.lookup x with
  | none=>rw[e] at q;simp at q
  | some k=>
   have hm:=OV e
   by_cases n:k=NameKind.free
   .rw[<- n];exact hm
   .rw[e] at q;have a:(k==NameKind.free)=false:=by simpa using n
    simp only[Q_,a,Rh,QD,QV,Option.some.injEq] at q
    rcases q with q | q
    .exact absurd q (B.cell _ hm)
    .exact absurd q n
 .rcases(g b a).2.2.2.1 with z | z
  .exact I.ok.noex b o e z
  .exact absurd (N8 (N5 e) (Oc I.ok.bsz z)) (O9 _)
 .rcases Od.mp (I.stkSub b z) with q | q
  .exact(g b a).2.1 q
  .exact(g b a).2.2.1 q
 .unfold blk at C
  by_cases Q:i<t
  .rw[Oo (by simpa using Q),Pq] at C
   split at C <;> cases C
  .rw[Oe (by simpa using Nat.not_lt.mp Q),OA,OB] at C
   cases ej:js[i - t]? with
   | none=>rw[ej] at C;cases C
   | some j=>
    rw[ej] at C;have C:(Z[j]?).join=some v:=by simpa using C
    have eZ:Z[j]? =some (some v):=by
     cases q:Z[j]? with
     | none=>rw[q] at C;cases C
     | some o=>rw[q] at C;exact congrArg some C
    have P:(N.drop t)[i - t]? =some x:=by rw[List.getElem?_drop,show t+(i - t)=i by lia];exact e1
    have eX:X.N[j]? =some x:=by
     have q:=congrArg (fun l=>l[i - t]?) B.js
     simp only[OB,P,ej,Q_] at q
     rw[G];exact(N_ q).symm
    have F:scope.names.lookup x=some NameKind.free:=B.frs x (N4 P);have E:=OV F;have D:X.env.scope.names.lookup x=some NameKind.cell:=by rw[A];exact B.free _ E rfl
    obtain⟨m0,ab,L⟩:=I.loc;obtain⟨u,r,l⟩:=L j x v eX eZ (.inr (.inl D));refine⟨u,r,?_⟩
    rcases l with⟨n,_⟩|⟨_,c,hc,w⟩
    .have n:X.env.scope.names.lookup x=some NameKind.local:=n;rw[D] at n
     cases n
    .obtain⟨c',hc'⟩:=wR (env:=X.env) (names:=scope.names) (acc:=[]) (.inl E);have R:=U hc';rw[hc] at R
     cases R
     refine .inr ⟨?_,c,hc',?_⟩
     .have q:=oE scope X.env x;rw[F] at q;show(relabel scope X.env).names.lookup x=_\/(relabel scope X.env).names.lookup x=_
      rw[q]
      simp only[Q_]
      split
      .exact .inl rfl
      .exact .inr rfl
     .obtain⟨o,ho,hd⟩:=w;exact⟨o,f c o ho,hd⟩
 .obtain⟨v,o,ho,hd⟩:=I.cell x c (U h);exact⟨v,o,f c o ho,hd⟩
 .show(blk t js Z).length=N.length
  unfold blk;have q:=congrArg List.length B.js
  simp only[be,OZ] at q
  rw[NT,OA,be];have:=B.len
  lia
theorem GJ{C:List (Addr × Obj)}{a:St}(I:Inv X pins Z H s)(o:∀b∈fp,uF X pins H b)(U:Inv (cxB X scope N s.heap.objs.size s H fp) C a H' s'):Inv X pins Z H' s':=
 I.call' (ch:=fp) U.os U.base U.hok U.bare fun b J=>⟨(o b J).2.2.2.1,(o b J).2.1,(o b J).2.2.2.2.1,(o b J).2.2.2.2.2⟩
theorem DF{h':Heap}{C:Addr}{a:St}(I:Inv X pins Z H s){J:Shared}(U:Inv X pins a H' J)(i:C=s.heap.objs.size)(f:H' C=none)(hs:Heap.SameBut C J.heap h'):Inv X pins a H' {J with heap:=h'}:=by
 subst i;refine U.turned (t':=J.toks) (it:=s.heap.objs.size) (fun b o d e=>(hs.2 b d).trans e) f (Pw I.lt) (.inr I.sz) (fun x c e z=> ?_) fun p g z=> ?_
 .obtain⟨v,q⟩:=I.cell x c e;exact absurd q.lt (by rw[z];exact O9 _)
 .exact absurd (N5 (I.pin p g).1) (by rw[z];exact O9 _)
end
def Wk(Z o:St):Prop:=∀(k:Nat) v,Z[k]? =some (some v)->o[k]? =some (some v)
theorem Wk.none{r C:St}{o:Option V}(h:Wk r C):Wk (none::r) (o::C)
 | 0,v,q=>by simp at q
 | k+1,v,q=>by
  rw[OR] at q ⊢;exact h k v q
theorem Wk.refl{Z:St}:Wk Z Z:=fun _ _ h=>h
structure oW (J:It) (g:TG) (te:TE) (t:Nat) (js:List Nat) (Z:St) (p:Addr) (H1:Hp) (Q:VK):Prop where
 out:∃W:Nat->Nat->List V->Hp->Prop,(∃m,W 0 m [] (upd H1 p (.lst [])))/\∀i m ys H,W i m ys H->
  (J.stop i H/\Q (.ref p) H)\/(J.go i H/\∀x H',J.yld i H x H'->g x (blk t js Z) H' fun Z2 H2=>Wk (blk t js Z) Z2/\te Z2 H2 fun y H3=>H3 p=some (.lst ys)/\ys.length<sizeLine/\∃m',m' < m/\W (i+1) m' (ys++[y]) (upd H3 p (.lst (ys++[y]))))
def KI(C:TI)(g:TG)(I:TE)(t:Nat)(U:List Nat):TE:=fun Z H Q=>C Z H fun J o=>∀p,o p=none->oW J g I t U Z p o Q
theorem A9{prog:Program}{w:World}{A:Around}{R:Result->Shared->Prop}{s:Shared}{g o e:Expr}{J:Scope}{q:Pos}{it acc:Value}{env:Env}(I:Nat->Shared->Prop)
  (turn:∀n s,I n s->wpAny (model prog w) A (pyNext it) (fun r C=>match r with
   | none=>R (.ok .next) C
   | some v=>wpAny (model prog w) A (letOwnedTupleGo o it v) (fun _ U=>wpAny (model prog w) A (assign o env v) (fun _ b=>wpAny (model prog w) A (eval g env) (fun x f=>
     wpAny (model prog w) A (call (.builtin "list.append") [acc,x]) (fun _ c=>∃m,m<n/\I m c) (fun _ _=>False) f)
     (fun _ _=>False) b) (fun _ _=>False) U) (fun _ _=>False) C) (fun _ _=>False) s)
  (n:Nat) (h:I n s):
  codeAny (model prog w) A (.compLoop (.ListComp g [⟨o,e,[],0⟩] J q) 0 it acc env) R s:=by
 refine codeAny_loop rfl I (fun n s u=> ?_) n h
 show wpAny _ _ ((compTurn (.ListComp g [⟨o,e,[],0⟩] J q) 0 it acc env).onRaise (fun x=>do noteFrame x env;theTreesLotGoes x)) _ _ s
 refine wpAny_noted ?_
 rw[compTurn_list1];refine gV (Ry (gV (OS (turn n s u) (fun r C d=> ?_) fun _ _ a=>a.elim)))
 cases r with
 | none=>exact Ob d
 | some v=>
  exact gV (OS d (fun _ U i=>gV (OS i (fun _ b l=>gV (gV (OS l (fun x f j=>gV (OS j
   (fun _ c p=>Ob (Ob ⟨rfl,p⟩)) fun _ _ a=>a.elim)) fun _ _ a=>a.elim))) fun _ _ a=>a.elim)) fun _ _ a=>a.elim)
section
variable {X : Cx}
theorem Ch{f:List (Addr × Obj)}{Z:St}{L:Shared}{sc0 I:Scope}{N0 N:List Str}{t:Nat}{js:List Nat}{ab O tg:Expr}{aP:Pos}{g:TG}{te:TE}{J:It}{v:Hp}{it:Addr}{j:List Addr}{tn:Nat->Heap->Prop}
  {RR:Value->Addr->Result->Shared->Prop}{Q:V->Hp->Prop}{E:Value->Shared->Prop}(hc:X.calm=true) (bF:X.env.scope=sc0) (bG:X.N=N0) (B:qd sc0 I N0 N t js)
  (hg:∀(C:Addr) (s:Shared) (H:Hp) (j:List Addr),PG (cxB X I N C s H j) tg g) (he:∀(C:Addr) (s:Shared) (H:Hp) (j:List Addr),PE (cxB X I N C s H j) ab te)
  (I2:Inv X f Z v L) (T:Dl X.prog X.w X.K tg J j it tn) (au:tn 0 L.heap) (f2:∀b∈j,uF X f v b)
  (h:∀p,v p=none->oW J g te t js Z p v Q)
  (bA:∀(U:Shared) (H3:Hp) (p:Addr) (z:Hp) (s':Shared) (m:Str->Option Value),Inv X f Z H3 U->Inv X f Z z s'->s'.heap.Ns U.heap.objs.size m->z U.heap.objs.size=none->Q (.ref p) z->RR (.ref p) U.heap.objs.size (.ok .next) s'):
  wpAny (model X.prog X.w) X.A (newList []) (fun acc a6=>wpAny (model X.prog X.w) X.A (newFunctionEnv I X.env.globals (uA I.names X.env []) [] X.env.qual none .none (some X.env)) (fun S a7=>
   codeAny (model X.prog X.w) X.A (.compStart (.ListComp ab [⟨tg,O,[],0⟩] I aP) 0 (.ref it) acc {S with scope:=relabel I X.env}) (RR acc S.locals) a7) E a6) E L:=by
 refine O3 ?_ (by show 0<=sizeLine;decide)
 generalize hp:L.heap.objs.size=p;have ar:v p=none:=by rw[<- hp];exact I2.fresh
 generalize aY:({L with heap:=L.heap.push {cls:= .type "list",data:= .seq ([]:List Value).toArray}}:Shared)=U
 have I3:Inv X f Z (upd v p (.lst [])) U:=by
  rw[<- aY, <-hp];exact I2.laid (t':=L.toks) (fun b u e=>NU _ e) (NW _) ⟨by show 0<=sizeLine;decide,[],0,.nil,Ol _ rfl⟩
 have R:∀b o,L.heap.get? b=some o->U.heap.get? b=some o:=by
  rw[<- aY];exact fun b o e=>NU _ e
 have bT:∀b∈j,b<L.heap.objs.size:=fun b a=>by
  obtain⟨o,e,_⟩:=T.obj 0 _ au b a;exact N5 e
 have f3:∀b∈j,uF X f (upd v p (.lst [])) b:=fun b a=>⟨by rw[aq (by rw[<- hp];exact Om (bT b a))];exact(f2 b a).1,(f2 b a).2⟩
 have bl:∀b∈j,b<U.heap.objs.size:=fun b a=>by
  obtain⟨o,e,_⟩:=T.obj 0 _ au b a;exact N5 (R b o e)
 have bV:tn 0 U.heap:=T.keep _ _ _ au fun b _ o e=>R b o e
 obtain⟨W,⟨m0,w0⟩,turn⟩:=(h p ar).out;refine wpAny_newFunctionEnv B.cell (by intro y hy;simp at hy) (fun bb G l=> ?_) B.kind
 generalize bt:({U with heap:=bb,toks:=U.toks+([]:List (Str × Value)).length}:Shared)=s4
 have I4:Inv (cxB X I N U.heap.objs.size U (upd v p (.lst [])) j) [] (blk t js Z) (upd v p (.lst [])) s4:=by
  rw[<- bt];exact F8 I3 bF bG B f3 bl G l
 have bp:tn 0 s4.heap:=by
  rw[<- bt];exact T.keep _ _ _ bV fun b a o e=>(l.2 b (Om (bl b a))).trans (NU _ e)
 have F:∀{z:Hp},(∀b∈j,z b=none)->∀b∈j,uF (cxB X I N U.heap.objs.size U (upd v p (.lst [])) j) [] z b:=fun {z} hn b a=>by
  refine⟨hn b a,(I4.ok.exf b a).1,I4.ok.exfs b a,.inl a,fun x c e=>(I4.ok.exf b a).2 x c e,fun q hq=>absurd (show q∈([]:List (Addr × Obj)) from hq) (by simp)⟩
 have P:∀D:Shared,D=s4->codeAny (model X.prog X.w) X.A (.compLoop (.ListComp ab [⟨tg,O,[],0⟩] I aP) 0 (.ref it) (.ref p) (compEnvC I (uA I.names X.env []) U.heap.objs.size X.env)) (RR (.ref p) U.heap.objs.size) D:=by
  rintro D rfl
  refine A9 (fun n s'=>∃i ys z,Inv (cxB X I N U.heap.objs.size U (upd v p (.lst [])) j) [] (blk t js Z) z s'/\tn i s'.heap/\(∀b∈j,z b=none)/\W i n ys z) ?_ m0 ⟨0,[],_,I4,bp,fun b a=>(f3 b a).1,w0⟩
  rintro n s5 ⟨i,ys,H5,I5,aU,bh,w5⟩
  rcases turn i n ys H5 w5 with⟨aH,qn⟩|⟨go,step⟩
  .refine thn (T.done (cxB X I N U.heap.objs.size U (upd v p (.lst [])) j) rfl rfl rfl hc i [] s5 _ H5 _ I5 (F bh) aU aH) fun r s6 ⟨hr,I6⟩=> ?_
   subst hr;obtain⟨m6,bM,_⟩:=I6.loc;exact bA U _ p H5 s6 m6 I3 (GJ I3 f3 I6) bM I6.free qn
  .refine DS (T.item (cxB X I N U.heap.objs.size U (upd v p (.lst [])) j) rfl rfl rfl hc i [] s5 _ H5 _ I5 (F bh) aU go) fun r s6 u hr h6=> ?_
   subst hr;refine thn h6 fun _ s7 ⟨x,H7,I7,r7,y7,Y,bx⟩=> ?_
   have bC:=I7.pinned (F bx) (T.obj _ _ Y);refine thn (hg _ _ _ _ _ s7 _ H7 x u _ bC r7 (step x H7 y7)) fun _ s8 ⟨Z8,H8,I8,bu,q8⟩=> ?_
   refine thn (he _ _ _ _ _ s8 Z8 H8 _ I8 q8) fun v9 s9 ⟨y,H9,I9,r9,bw,hz,m',hm,w9⟩=> ?_
   refine cB (du _ s9 Z8 H9 (.ref p) [y] (.ref p) [v9] (fun _ a'=>a'=upd H9 p (.lst (ys++[y]))) I9 rfl (.cons r9 .nil) ⟨p,ys,y,rfl,rfl,bw,hz,rfl⟩) fun _ bW _ a' M _ bL=> ?_
   subst bL;refine⟨m',hm,i+1,ys++[y],_,?_,T.keep _ _ _ Y fun b a o e=>(M.pin (b,o) (OC _ (OC _ (mU a e)))).1,fun b a=> ?_,w9⟩
   .exact M.unpinned.weak (by rw[I5.len];exact M.len.symm) bu
   .obtain⟨o,e,d⟩:=T.obj _ _ Y b a;exact(M.pin (b,o) (OC _ (OC _ (mU a e)))).2.1
 exact codeAny_compStart_list (P _ rfl) (T.self _ 0 _ _ _ bp (P _ rfl))
variable {sc0 scope : Scope} {N0 N : List Str} {t : Nat} {js : List Nat} {elt iter tg : Expr} {pos : Pos} {wi : TI} {g : TG} {te : TE}
theorem mY(E:X.calm=true)(a:X.env.scope=sc0)(d:X.N=N0)(B:qd sc0 scope N0 N t js)(D:PI X tg iter wi)(F:∀(C:Addr) (s:Shared) (H:Hp) (b:List Addr),PG (cxB X scope N C s H b) tg g)
  (G:∀(C:Addr) (s:Shared) (H:Hp) (b:List Addr),PE (cxB X scope N C s H b) elt te) (hs:∀x,foldedSetIterable iter X.env x=pure x:=by intro _;rfl):PE X (.ListComp elt [⟨tg,iter,[],0⟩] scope pos) (KI wi g te t js):=by
 intro o s Z H Q I h;rw[eval_ListComp];refine QM (use:=none) rfl hs (qU (xU I a B)) B.kind B.names (thn (D o s Z H _ I h) fun v R j=>thn j fun u S r=> ?_)
 obtain⟨W,b,M,J,O,e,y,T,f,f2,n⟩:=r;subst e;refine Ch (RR:=fun acc C=>compPost (model X.prog X.w) X.A X.xe none (EP X o Z Q) acc C) (Q:=Q) E a d B F G y T f f2 n ?_
 intro s3 L p i Y m l K z U q;exact⟨m,z,fun P c=>⟨.ref p,i,DF l K rfl U c,rfl,q⟩⟩
theorem wc{i:Nat}{y:Str}{j U:Pos}(hc:X.calm=true)(d:X.env.scope=sc0)(u:X.N=N0)(B:qd sc0 scope N0 N t js)(R:X.N.Nodup)(E:X.N[i]? =some y)(hy:Loc X.env.scope y)(hi:PI X tg iter wi)
  (hg:∀(C:Addr) (s:Shared) (H:Hp) (l:List Addr),PG (cxB X scope N C s H l) tg g) (he:∀(C:Addr) (s:Shared) (H:Hp) (l:List Addr),PE (cxB X scope N C s H l) elt te)
  (hs:∀x,foldedSetIterable iter X.env x=pure x:=by intro _;rfl)
  (G:swapsWith (.ListComp elt [⟨tg,iter,[],0⟩] scope pos) (some (.Name y j)) U.line X.env=pure true:=by rfl)
  (M:X.fn y=true\/X.env.scope.names.lookup y=some .local:=by first | exact .inl rfl | exact .inr rfl | assumption):
  PS X (.Assign [.Name y j] (.ListComp elt [⟨tg,iter,[],0⟩] scope pos) U) (JY (KI wi g te t js) (D4 i)):=by
 intro o s Z H D I h;rw[exec_Assign_Name_used _ _ _ _ G];refine gV (Ry (gV ?_))
 show wpAny _ X.A (do let _ <-comprehension (.ListComp elt [⟨tg,iter,[],0⟩] scope pos) scope X.env _ (newList []) false (eval iter X.env) (some (assign (.Name y j) X.env))) _ _ s
 refine gV (OS (QM (use:=some (assign (.Name y j) X.env)) (Q:=fun _ f=>SP X o D .next f) rfl hs (qU (xU I d B)) B.kind B.names
  (thn (hi o s Z H _ I h) fun v s1 S=>thn S fun ab s2 Y=> ?_)) (fun _ f hq=>Ob (Ob hq)) fun _ _ e=>e)
 obtain⟨it,l,tn,J,H2,e,I2,T,L,f2,W⟩:=Y;subst e;refine Ch (RR:=fun acc C=>compPost (model X.prog X.w) X.A X.xe (some (assign (.Name y j) X.env)) (fun _ f=>SP X o D .next f) acc C) (Q:=fun x O=>D4 i x Z O D.nx) hc d u B hg he I2 T L f2 W ?_
 intro s3 H3 p P f m K I' hn b q;refine wpAny_assign_Name (zS (v:=V.ref p) I' R E hy (show bz (.ref p) (.ref p) from rfl) (fun ar F ⟨a,r,c⟩=>⟨m,hn.sameBut r ?_,fun h' n=>⟨_,P,DF K F rfl b n,q⟩⟩) M)
 rcases c with c | c
 .rw[c];exact Pw K.lt
 .obtain⟨v,z⟩:=K.cell y a c;exact Pw z.lt
end
section
variable {X : Cx}
def wA(x:V)(xs:List V)(j:Nat):Prop:=(∃y,xs[j]? =some y/\eqV y x=true)/\∀m y,m<j->xs[m]? =some y->eqV y x=false
theorem Gk{x:V}{xs:List V}{o:List Value}{j:Nat}(r:bj xs o)(fs:xs.all nQ=true)(e:wA x xs j):
  ∃d:j<o.toArray.size,eqU x o.toArray[j]=true/\∀m (hm:m<o.toArray.size),m<j->eqU x o.toArray[m]=false:=by
 obtain⟨⟨y,b,p⟩,a⟩:=e;have c:∀(m:Nat) (z:V),xs[m]? =some z->nQ z=true:=fun m z l=>List.all_eq_true.mp fs z (N4 l)
 obtain⟨u,n,f⟩:=r.get b;obtain⟨d,g⟩:=mF.mp n;refine⟨by simpa using d,?_,fun m hm I=> ?_⟩
 .rw[List.getElem_toArray,g,Aw f (c _ _ b)];exact p
 .have hm':m<o.length:=by simpa using hm
  have C:m<xs.length:=by rw[r.length];exact hm'
  obtain⟨q,U,J⟩:=r.get (mC C);obtain⟨_,i⟩:=mF.mp U;rw[List.getElem_toArray,i,Aw J (c _ _ (mC C))];exact a m _ I (mC C)
theorem vz{M:Model}{A:Around}{E:Value->Shared->Prop}{s:Shared}{U:Type}(n:Nat)(f:Nat->U->Sem (ForInStep U))(I:Nat->U->Shared->Prop)(Q:U->Shared->Prop)
  (turn:∀i b s,i<n->I i b s->wpAny M A (f i b) (fun r c=>match r with | .yield b'=>I (i+1) b' c | .done b'=>Q b' c) E s)
  (fin:∀b s,I n b s->Q b s) (b:U) (h:I 0 b s):wpAny M A (forIn [:n] b f) Q E s:=by
 rw[Std.Legacy.Range.forIn_eq_forIn_range'];have d:List.range' [:n].start [:n].size [:n].step=(List.range n):=by simp [Std.Legacy.Range.size,List.range_eq_range']
 rw[d];refine wpAny_forIn_list f (fun r8 b s=>∃i,r8=(List.range n).drop i/\i<=n/\I i b s) Q (fun x r8 b s J=> ?_) (fun b s J=> ?_) _ b ⟨0,rfl,Ou _,h⟩
 .obtain⟨i,o,hi,J⟩:=J;have C:i<n:=by
   rcases PQ i n with h' | h'
   .exact h'
   .rw[List.drop_of_length_le (by simpa using h')] at o;cases o
  rw[Pd (by simpa using C)] at o
  injection o with a h2
  have a:x=i:=by simpa using a
  subst a;refine OS (turn x b s C J) (fun r c o=> ?_) fun _ _ e=>e
  cases r with
  | done b'=>exact o
  | yield b'=>exact⟨x+1,h2,C,o⟩
 .obtain⟨i,o,hi,J⟩:=J;have:i=n:=by
   rcases PQ i n with h' | h'
   .rw[Pd (by simpa using h')] at o;cases o
   .lia
  subst this;exact fin b s J
theorem ze(l:Addr)(o:Array Value)(n:Nat)(dd:Option Addr)(sl:Array (Option Value))(x:Value)(e:Value->Bool)(j:Nat)(D:j<o.size)(a:e o[j]=true)(c:∀m (hm:m<o.size),m<j->e o[m]=false):
  Meets (Builtin.«tuple.index» ⟨[.ref l,x],[]⟩)
   (fun A R s=>s.heap.get? l=some {cls:= .type "tuple",dict:=dd,data:= .seq o n,slots:=sl}/\(∀y,y∈o->SeqAt.EqAt A.in1 s y x (e y))/\R (.ok (.ret (.int j s.toks))) {s with toks:=s.toks+1}):=
 .of_wp fun I w A R s h=>by
  obtain⟨f,g,d,q,r⟩:=s;obtain⟨p,v,h⟩:=h
  wp_walk using AutoSeq1.wpAny_loadPart' p,vz _ _ (fun i b U=>b.1=none/\U=⟨f,g,d,q,r⟩/\i<=j) _
  case turn=>
   rintro i ⟨E,z⟩ U B ⟨u,rfl,J⟩
   have C:i<o.size:=by lia
   rw[Array.getElem?_eq_getElem C];refine gV (v _ (Array.getElem_mem C) I w _ _ ?_)
   rcases PQ i j with hlt | hge
   .rw[c i C hlt]
    wp_walk
    exact⟨rfl,rfl,hlt⟩
   .have hij2:i=j:=by lia
    subst hij2;rw[a]
    wp_walk
    exact⟨_,rfl,h⟩
  case fin=>
   rintro b U ⟨u,rfl,J⟩
   lia
  case h=>exact⟨rfl,rfl,Ou _⟩
theorem GO:MtM X "tuple.index" (fun x vs H Q=>∃p xs y j,x= .ref p/\vs=[y]/\SqT X.K H p xs/\nQ y=true/\xs.all nQ=true/\wA y xs j/\Q (.int j) H):=by
 intro c s Z H x vs v G Q I m A h;obtain⟨p,xs,y,j,rfl,rfl,D,w,fs,f,q⟩:=h
 cases m
 obtain⟨u,rfl,g⟩:=A.one;obtain⟨C,r,⟨o,e,d,n,hs⟩,b⟩:=I.tuple D;obtain⟨B,U,a⟩:=Gk r fs f;obtain⟨E,l,i,J⟩:=o
 simp only at d hs
 subst d hs;refine Q1 F.slot_tuple_index ⟨_,e,rfl⟩ F.entry_tuple_index (F.args_tuple_index_2 _ _) (ze p C.toArray n l J u (eqU y) j B U a) ⟨e,fun z b=>lS g w r fs z (by simpa using b),?_⟩
 exact⟨.int j,H,I.tok _,⟨_,rfl⟩,q⟩
noncomputable def C1(o:Params)(L:List (Str × Tok × Value)):Array DictEntry:=(L.map fun p=>(⟨PyData.keyHash o p.1,.str p.1 p.2.1,p.2.2⟩:DictEntry)).toArray
def SqD(o:Params)(K:Frag)(a:Addr)(kvs:List (Str × V)):Prop:=
 ∃(L:List (Str × Tok × Value)) (n:Nat),K.lookup a=some {cls:= .type "dict",data:= .dict (C1 o L) n}/\Paired (fun(p:Str × V) (q:Str × Tok × Value)=>p.1=q.1/\bz p.2 q.2.2) kvs L
theorem CZ{x:Str}:∀{kvs:List (Str × V)}{L:List (Str × Tok × Value)}{v:V}(o:Params),Paired (fun(p:Str × V) (q:Str × Tok × Value)=>p.1=q.1/\bz p.2 q.2.2) kvs L->kvs.lookup x=some v->
  ∃u,bz v u/\findBy kE (C1 o L) (Sum.inr x:Key)=some u
 | _,_,_,_,.nil,h=>by simp at h
 | p::kvs,q::L,v,o,.cons hpq r,h=>by
  obtain⟨b,a⟩:=hpq;obtain⟨C,pv⟩:=p;obtain⟨g,U,J⟩:=q
  simp only at b a
  subst b;rw[Pu] at h;have c:findBy kE (C1 o ((C,U,J)::L)) (Sum.inr x:Key)=if (x==C)=true then some J else findBy kE (C1 o L) (Sum.inr x:Key):=by
   unfold findBy C1;rw[OD];show((⟨PyData.keyHash o C,.str C U,J⟩::L.map fun p=>(⟨PyData.keyHash o p.1,.str p.1 p.2.1,p.2.2⟩:DictEntry)).toArray.find? fun e=>kE (Sum.inr x) e.key).map (·.val)=_
   rw[List.find?_toArray,Pf,List.find?_toArray];have f:kE (Sum.inr x:Key) (.str C U)=(x==C):=by
    show Value.isStrOf x (.str C U)=_
    show(C==x)=(x==C)
    by_cases I:C=x
    .subst I
     rfl
    .have h1:(C==x)=false:=OL.mpr I;have d:(x==C)=false:=OL.mpr (Ox I);rw[h1,d]
   dsimp only;rw[f]
   cases(x==C) <;> rfl
  rw[c]
  cases hx:(x==C) with
  | true=>
   rw[hx] at h
   cases h
   exact⟨J,a,NV rfl⟩
  | false=>
   rw[hx] at h;rw[fI (by simp)]
   exact CZ o r h
theorem Ko:IxR X (fun x y H Q=>∃a kvs k v,x= .ref a/\y= .str k/\SqD X.w.params X.K a kvs/\kvs.lookup k=some v/\Q v H):=by
 intro U J C s Z H x y v u Q I f b h hs;obtain⟨a,kvs,k,z,rfl,rfl,⟨L,n,l,d⟩,j,q⟩:=h
 cases f
 obtain⟨t,rfl⟩:=b;have e:=I.kIn a _ l;obtain⟨u,c,g⟩:=CZ X.w.params d j;have hm:s.heap.MapOf (bK X.prog X.w) a (fun k=>findBy kE (C1 X.w.params L) k):=by
  refine⟨_,_,_,e,⟨rfl,rfl,rfl⟩,rfl,fun en o=> ?_,fun k=>rfl⟩
  have o:en∈(L.map fun p=>(⟨PyData.keyHash X.w.params p.1,.str p.1 p.2.1,p.2.2⟩:DictEntry)):=by simpa [C1] using o
  obtain⟨p,_,rfl⟩:=OJ.mp o;exact⟨Sum.inr p.1,zJ p.1 p.2.1,rfl⟩
 exact P_ (x:=u) hm.typeIs slot_dict_getitem.lookup (wpAny_getItem_of (Q:=fun r i=>r=u/\EP X C Z Q r i) (vh X.prog X.w k t) hm g ⟨rfl,⟨z,H,I.tok _,c,q⟩⟩) hs
end
section
variable {prog : Program} {w : World} {A : Around} {E : Value → Shared → Prop} {s : Shared}
theorem Ee{q t:Addr}{k:Nat}{C:Array Value}{v:Value}{Q:Value->Shared->Prop}(U:s.heap.IsTupleIter q t k)(d:s.heap.IsTuple t C)(a:C[k]? =some v)
  (c:∀h',h'.IsTupleIter q t (k+1)->Heap.SameBut q s.heap h'->Q v {s with heap:=h'}):wpAny (model prog w) A (Builtin.SmallTypes.nextOf (.ref q)) Q E s:=by
 obtain⟨o,ho,b,hd⟩:=id U;obtain⟨f,I,_,e,J⟩:=d;unfold Builtin.SmallTypes.nextOf;refine gV (OQ (name:=Str.ofString "__next__") U.typeIs O_ (Pr O_ U.typeIs Qv ?_ (Qo _)))
 show wpAny _ _ (field (.ref q) 0 >>= _) _ _ s
 refine gV (OP ho hd (x:= .ref t) rfl ?_)
 show wpAny _ _ (if (Value.ref t==Value.none)=true then _ else _) _ _ s
 rw[fI (show ¬((Value.ref t==Value.none)=true) from Oa)];show wpAny _ _ (field (.ref q) 1 >>= _) _ _ s
 refine gV (OP ho hd (x:= .int k 0) rfl ?_)
 show wpAny _ _ (seqItems? (.ref t) >>= _) _ _ s
 refine gV (Pa I J ?_)
 simp only[Os,a]
 refine gV (wpAny_setField ho hd (by simp) (Ob ⟨v,rfl,Ob (c _ ?_ (Heap.SameBut.update ..))⟩))
 exact⟨_,Rb _ ho (Obj.isFreed_of_fields (Obj.data_mapFields hd _)),(Obj.cls_mapFields ..).trans b,by rw[Obj.data_mapFields hd];simp [rawInt]⟩
theorem GC{q t:Addr}{k:Nat}{C:Array Value}{Q:Value->Shared->Prop}(b:A.handled=none)(U:s.heap.IsTupleIter q t k)(f:s.heap.IsTuple t C)(c:C[k]? =none)
  (d:∀h' e,Heap.ExtBut q s.heap h'->(∃o,h'.get? e=some o/\o.cls= .type "StopIteration")->E (.ref e) {s with heap:=h'}):wpAny (model prog w) A (Builtin.SmallTypes.nextOf (.ref q)) Q E s:=by
 obtain⟨o,ho,i,hd⟩:=id U;obtain⟨j,I,_,g,J⟩:=f;unfold Builtin.SmallTypes.nextOf;refine gV (OQ (name:=Str.ofString "__next__") U.typeIs O_ (Pr O_ U.typeIs Qv ?_ (Qo _)))
 show wpAny _ _ (field (.ref q) 0 >>= _) _ _ s
 refine gV (OP ho hd (x:= .ref t) rfl ?_)
 show wpAny _ _ (if (Value.ref t==Value.none)=true then _ else _) _ _ s
 rw[fI (show ¬((Value.ref t==Value.none)=true) from Oa)];show wpAny _ _ (field (.ref q) 1 >>= _) _ _ s
 refine gV (OP ho hd (x:= .int k 0) rfl ?_)
 show wpAny _ _ (seqItems? (.ref t) >>= _) _ _ s
 refine gV (Pa I J ?_)
 simp only[Os,c]
 refine gV (RL (gV (wpAny_setField ho hd (by simp) ?_)))
 show wpAny _ _ (newExc (.type "StopIteration") [] >>= _) _ _ _
 refine gV ?_
 simp only[newExc,newTuple]
 refine gV (O3 ?_ (by size_fits))
 refine gV (m:=firstArgMember _ _) (wpAny_of_eq (a:=Value.none) (by first | rfl | (simp only[firstArgMember];rfl)) ?_)
 refine O3 ?_ (by size_fits)
 simp only[raiseNew]
 refine gV (wpAny_handled ?_)
 first | rw[show A.in1.handled=none from b] | rw[b]
 refine gV (Ob (wpAny_throw ?_))
 exact d _ _ (((Heap.SameBut.update ..).extBut.push _).push _) ⟨_,Ol _ rfl,rfl⟩
end
theorem Cm{prog:Program}{w:World}{A:Around}(a:A.handled=none)(q t:Addr)(I:t≠q)(C:Array Value):
  Draws prog w A q [q,t] C.size (fun i v=>C[i]? =some v) (fun i h=>h.IsTupleIter q t i/\h.IsTuple t C) where
 live:=fun _ _ st=>let ⟨o,ho,_⟩:=st.1;⟨o,ho⟩
 frame:=fun _ _ _ st U=>⟨st.1.at fun o e=>U q (by simp) o e,st.2.at fun o e=>U t (by simp) o e⟩
 item:=fun i s Q E J st c=>by
  refine Ee st.1 st.2 (v:=C[i]) (by simp [J]) fun b f hs=> ?_
  exact c _ b s.toks (by simp [J]) ⟨f,st.2.extBut hs.extBut I⟩ hs
 done:=fun s Q E st d=>GC a st.1 st.2 (by simp) d
structure ZA (z TI TO i1 i2:Addr) (fp1 fp2:List Addr):Prop where
 TIz:TI≠z
 TOz:TO≠z
 i1z:i1≠z
 i2z:i2≠z
 TITO:TI≠TO
 TIi1:TI≠i1
 TIi2:TI≠i2
 TOi1:TO≠i1
 TOi2:TO≠i2
 i12:i1≠i2
 z1:z ∉ fp1
 z2:z ∉ fp2
 o1:TO ∉ fp1
 o2:TO ∉ fp2
 a2:i1 ∉ fp2
 a1:i2 ∉ fp1
section
variable {prog : Program} {w : World} {A : Around} {E : Value → Shared → Prop} {s : Shared} {z TI TO i1 i2 : Addr} {fp1 fp2 : List Addr} {n1 n2 : Nat} {P1 P2 : Nat → Value → Prop} {S1 S2 : Nat → Heap → Prop}
def ZK(z TO i1 i2:Addr)(h h':Heap):Prop:=∀c o,c≠z->c≠TO->c≠i1->c≠i2->h.get? c=some o->h'.get? c=some o
theorem nS{D1:Draws prog w A i1 fp1 n1 P1 S1}{k:Nat}{h h':Heap}{b:Addr}(st:S1 k h)(hs:Heap.SameBut b h h')(C:b ∉ fp1):S1 k h':=D1.frame _ _ _ st fun c I o e=>hs.extBut c o (fun q=>C (q ▸ I)) e
theorem F1{k:Nat}{a b:Value}{Q:Value->Shared->Prop}(D1:Draws prog w A i1 fp1 n1 P1 S1)(u:Draws prog w A i2 fp2 n2 P2 S2)(D:ZA z TI TO i1 i2 fp1 fp2)
  (G:IsZip s.heap z TI TO .none) (aY:IsPair s.heap TI (.ref i1) (.ref i2)) (W:IsPair s.heap TO a b) (h1:S1 k s.heap) (h2:S2 k s.heap) (l1:k<n1) (l2:k<n2)
  (hQ:∀x y h' tk,P1 k x->P2 k y->IsZip h' z TI TO (rawInt s.heap.objs.size)->IsPair h' TO x y->S1 (k+1) h'->S2 (k+1) h'->IsPair h' s.heap.objs.size x y->ZK z TO i1 i2 s.heap h'->Q (.ref s.heap.objs.size) {s with heap:=h',toks:=tk}):
  wpAny (model prog w) A (Builtin.«zip.__next__» ⟨[.ref z],[]⟩) (fun fin s'=>∃v,fin= .done (.ret v)/\Q v s') E s:=by
 obtain⟨S,g,d,ar,os⟩:=s;show wpAny _ _ (field (.ref z) 2 >>= _) _ _ _
 refine gV (OP G rfl (x:= .bool false) rfl ?_)
 show wpAny _ _ (field (.ref z) 3 >>= _) _ _ _
 refine gV (OP G rfl (x:= .ref TI) rfl ?_)
 refine gV (Pa aY rfl ?_)
 show wpAny _ _ (Builtin.SmallTypes.ownedTupleIsFree (.ref z) >>= _) _ _ _
 refine gV ?_
 unfold Builtin.SmallTypes.ownedTupleIsFree;refine gV (OP G rfl (x:= .none) rfl (Ob ?_))
 simp only[Qu]
 refine gV (RL ?_)
 refine gV (OP G rfl (x:= .ref TO) rfl ?_)
 refine gV (Pb G (by simp) fun B n r=> ?_)
 replace n:IsZip B z TI TO .ellipsis:=n
 replace r:Heap.SameBut z S B:=r
 refine gV ?_
 simp only[List.zipIdx_cons,List.zipIdx_nil,Q9,List.forIn_nil]
 refine gV (gV (QN ?_))
 show wpAny _ _ (Builtin.SmallTypes.nextOf (.ref i1) >>= _) _ _ _
 have a6:S1 k B:=nS (D1:=D1) h1 r D.z1;have Z:S2 k B:=nS (D1:=u) h2 r D.z2;refine gV (D1.item k _ _ _ l1 a6 fun x O t2 hx X l=>Ob ?_)
 replace l:Heap.SameBut i1 B O:=l
 have Y:S2 k O:=nS (D1:=u) Z l D.a2;have H:IsPair O TO a b:=l.extBut _ _ D.TOi1 (r.extBut _ _ D.TOz W);refine gV (Pa H rfl ?_)
 refine gV (Qk H fun L j p=> ?_)
 replace j:IsPair L TO x b:=j
 replace p:Heap.SameBut TO O L:=p
 refine gV (wpAny_letGo (Ob ?_))
 have a7:S1 (k+1) L:=nS (D1:=D1) X p D.o1;have au:S2 k L:=nS (D1:=u) Y p D.o2;refine gV (gV (QN ?_))
 show wpAny _ _ (Builtin.SmallTypes.nextOf (.ref i2) >>= _) _ _ _
 refine gV (u.item k _ _ _ l2 au fun y R t4 hy a' i=>Ob ?_)
 replace i:Heap.SameBut i2 L R:=i
 have aP:S1 (k+1) R:=nS (D1:=D1) a7 i D.a1;have K:IsPair R TO x b:=i.extBut _ _ D.TOi2 j;refine gV (Pa K rfl ?_)
 refine gV (Qk K fun C J m=> ?_)
 replace J:IsPair C TO x y:=J
 replace m:Heap.SameBut TO R C:=m
 refine gV (wpAny_letGo (Ob (Ob ?_)))
 have aH:S1 (k+1) C:=nS (D1:=D1) aP m D.o1;have aU:S2 (k+1) C:=nS (D1:=u) a' m D.o2;refine gV (Pa J rfl ?_)
 refine gV (wpAny_newTuple ?_)
 have F:C.objs.size=S.objs.size:=by rw[m.1,i.1,p.1,l.1,r.1]
 have N:IsZip C z TI TO .ellipsis:=m.extBut _ _ D.TOz.symm (i.extBut _ _ D.i2z.symm (p.extBut _ _ D.TOz.symm (l.extBut _ _ D.i1z.symm n)));have T:ZK z TO i1 i2 S C:=fun c o c1 c2 c3 c4 e=>m.extBut _ _ c2 (i.extBut _ _ c4 (p.extBut _ _ c2 (l.extBut _ _ c3 (r.extBut _ _ c1 e))))
 have U:z<C.objs.size:=N5 N;show wpAny _ _ (Builtin.SmallTypes.ownedTupleHandOut (.ref z) (.ref C.objs.size) >>= _) _ _ _
 refine gV ?_
 unfold Builtin.SmallTypes.ownedTupleHandOut;have ab:IsZip (C.push {cls:= .type "tuple",data:= .seq #[x,y]}) z TI TO .ellipsis:=NU _ N;refine gV (Pb ab (by simp) fun g7 f e7=> ?_)
 replace f:IsZip g7 z TI TO (rawInt C.objs.size):=f
 refine Pb f (by simp) fun P I e8=> ?_
 replace I:IsZip P z TI TO (rawInt C.objs.size):=I
 have up:∀c o,c≠z->C.get? c=some o->P.get? c=some o:=fun c o c1 e=>e8.extBut _ _ c1 (e7.extBut _ _ c1 (NU _ e))
 have M:IsPair P C.objs.size x y:=e8.extBut _ _ (Pw U) (e7.extBut _ _ (Pw U) (Ol _ rfl));rw[F] at I M;refine Ob ⟨_,rfl,?_⟩
 show Q (.ref C.objs.size) _
 rw[F];exact hQ x y P _ hx hy I (up _ _ D.TOz J) (D1.frame _ _ _ aH fun c hc o e=>up c o (fun q=>D.z1 (q ▸ hc)) e) (u.frame _ _ _ aU fun c hc o e=>up c o (fun q=>D.z2 (q ▸ hc)) e) M fun c o c1 c2 c3 c4 e=>up c o c1 (T c o c1 c2 c3 c4 e)
theorem Hj{k:Nat}{a b:Value}{Q:PySem.Fin->Shared->Prop}(D1:Draws prog w A i1 fp1 n1 P1 S1)(B:Draws prog w A i2 fp2 n2 P2 S2)(D:ZA z TI TO i1 i2 fp1 fp2)
  (n:IsZip s.heap z TI TO .none) (M:IsPair s.heap TI (.ref i1) (.ref i2)) (K:IsPair s.heap TO a b) (Y:S1 k s.heap) (h2:S2 k s.heap) (y:k=n1\/(k<n1/\k=n2))
  (S:∀h' e tk,ZK z TO i1 i2 s.heap h'->(∃o,h'.get? e=some o/\o.cls= .type "StopIteration")->E (.ref e) {s with heap:=h',toks:=tk}):
  wpAny (model prog w) A (Builtin.«zip.__next__» ⟨[.ref z],[]⟩) Q E s:=by
 obtain⟨W,g,d,G,os⟩:=s;show wpAny _ _ (field (.ref z) 2 >>= _) _ _ _
 refine gV (OP n rfl (x:= .bool false) rfl ?_)
 show wpAny _ _ (field (.ref z) 3 >>= _) _ _ _
 refine gV (OP n rfl (x:= .ref TI) rfl ?_)
 refine gV (Pa M rfl ?_)
 show wpAny _ _ (Builtin.SmallTypes.ownedTupleIsFree (.ref z) >>= _) _ _ _
 refine gV ?_
 unfold Builtin.SmallTypes.ownedTupleIsFree;refine gV (OP n rfl (x:= .none) rfl (Ob ?_))
 simp only[Qu]
 refine gV (RL ?_)
 refine gV (OP n rfl (x:= .ref TO) rfl ?_)
 refine gV (Pb n (by simp) fun m U l=> ?_)
 replace U:IsZip m z TI TO .ellipsis:=U
 replace l:Heap.SameBut z W m:=l
 refine gV ?_
 simp only[List.zipIdx_cons,List.zipIdx_nil,Q9,List.forIn_nil]
 refine gV (gV (QN ?_))
 show wpAny _ _ (Builtin.SmallTypes.nextOf (.ref i1) >>= _) _ _ _
 have u:S1 k m:=nS (D1:=D1) Y l D.z1;have O:S2 k m:=nS (D1:=B) h2 l D.z2;rcases y with rfl | ⟨l1,rfl⟩
 .refine gV (D1.done _ _ _ u fun j e I P=> ?_)
  replace I:Heap.ExtBut i1 m j:=I
  obtain⟨N,C,J⟩:=P;have p:IsZip j z TI TO .ellipsis:=I _ _ D.i1z.symm U;have i:e≠z:=fun x=>by subst x;rw[p] at C;cases C;simp at J
  exact Pb p (by simp) fun v _ f=>S v e _ (fun c o c1 _ c3 _ x=>f.extBut _ _ c1 (I _ _ c3 (l.extBut _ _ c1 x))) ⟨N,f.extBut _ _ i C,J⟩
 .refine gV (D1.item k _ _ _ l1 u fun x j t2 hx Z I=>Ob ?_)
  replace I:Heap.SameBut i1 m j:=I
  have L:S2 k j:=nS (D1:=B) O I D.a2;have r:IsPair j TO a b:=I.extBut _ _ D.TOi1 (l.extBut _ _ D.TOz K);refine gV (Pa r rfl ?_)
  refine gV (Qk r fun v ab f=> ?_)
  replace f:Heap.SameBut TO j v:=f
  refine gV (wpAny_letGo (Ob ?_))
  have H:S2 k v:=nS (D1:=B) L f D.o2;refine gV (gV (QN ?_))
  show wpAny _ _ (Builtin.SmallTypes.nextOf (.ref i2) >>= _) _ _ _
  refine gV (B.done _ _ _ H fun R e F P=> ?_)
  replace F:Heap.ExtBut i2 v R:=F
  obtain⟨N,C,J⟩:=P;have q:IsZip R z TI TO .ellipsis:=F _ _ D.i2z.symm (f.extBut _ _ D.TOz.symm (I.extBut _ _ D.i1z.symm U));have i:e≠z:=fun x=>by subst x;rw[q] at C;cases C;simp at J
  exact Pb q (by simp) fun X _ T=>S X e _ (fun c o c1 c2 c3 c4 x=>T.extBut _ _ c1 (F _ _ c4 (f.extBut _ _ c2 (I.extBut _ _ c3 (l.extBut _ _ c1 x))))) ⟨N,T.extBut _ _ i C,J⟩
end
section
variable {X : Cx} {pins : List (Addr × Obj)} {σ : St} {H : Hp} {s : Shared} {h' : Heap}
theorem Inv.turnedN{t':Nat}{ch:List Addr}{p:Addr}{o:HO}(I:Inv X pins Z H s)(k:∀b u,b ∉ ch->s.heap.get? b=some u->h'.get? b=some u)(J:∀b∈ch,uF X pins H b)(f:s.heap.objs.size<=p)
  (new:cU X.prog X.w (upd H p o) h' p o):Inv X pins Z (upd H p o) {s with heap:=h',toks:=t'}:=by
 have U:=I.hok.fresh f;have a:∀b u,H b=some u->b ∉ ch:=fun b u e z=>by rw[(J b z).1] at e;cases e
 refine I.step (g':=s.gens) (d':=s.drawn) (ch:=ch) (fun b C=>⟨(J b C).2.2.2.1,(J b C).2.1,(J b C).2.2.2.2.1,(J b C).2.2.2.2.2⟩) (fun b u _ _ C e _=>k b u C e) (fun b u _ _ C e _=>⟨u.slots,k b u C e⟩)
  (fun b u C e n=>by rw[aq (Om (N8 (N5 e) f))];exact n) (fun b u C e=>⟨u,k b u C e⟩) (fun b g e=>by rw[aq (ak e U)];exact e) (fun b u v e=>by rw[aq (ak e U)];exact e)
  (fun b i e=>⟨#[],by rw[aq (ak e U),e];simp⟩) (fun m hm=> ?_) (fun b u e=> ?_) I.bare
 .obtain⟨v,es,ep,ho,r⟩:=hm;exact⟨v,es,ep,k _ v (fun z=>(J _ z).2.1 rfl) ho,r⟩
 .by_cases C:b=p
  .subst C;rw[ae] at e
   cases e
   exact new
  .rw[aq C] at e;refine(I.hok b u e).stay (fun c v d q=>k c v ?_ q) (fun c q=>by rw[aq (ak q U)];exact q) fun c g q=>by rw[aq (ak q U)];exact q
   rcases d with z | z
   .rw[z];exact a b u e
   .exact a c _ z
theorem Inv.turnedL{t':Nat}{ch:List Addr}(I:Inv X pins Z H s)(k:∀b u,b ∉ ch->s.heap.get? b=some u->h'.get? b=some u)(C:∀b∈ch,uF X pins H b):Inv X pins Z H {s with heap:=h',toks:=t'}:=by
 have J:∀b u,H b=some u->b ∉ ch:=fun b u e z=>by rw[(C b z).1] at e;cases e
 refine I.step (g':=s.gens) (d':=s.drawn) (ch:=ch) (fun b o=>⟨(C b o).2.2.2.1,(C b o).2.1,(C b o).2.2.2.2.1,(C b o).2.2.2.2.2⟩) (fun b u _ _ o e _=>k b u o e) (fun b u _ _ o e _=>⟨u.slots,k b u o e⟩)
  (fun b u o e n=>n) (fun b u o e=>⟨u,k b u o e⟩) (fun b a e=>e) (fun b u v e=>e) (fun b d e=>⟨#[],by rw[e];simp⟩) (fun m hm=> ?_) (fun b u e=> ?_) I.bare
 .obtain⟨v,es,ep,ho,r⟩:=hm;exact⟨v,es,ep,k _ v (fun z=>(C _ z).2.1 rfl) ho,r⟩
 .refine(I.hok b u e).stay (fun c v U q=>k c v ?_ q) (fun c q=>q) fun c a q=>q
  rcases U with z | z
  .rw[z];exact J b u e
  .exact J c _ z
end
def Sq(K:Frag)(H:Hp)(b:Bool)(a:Addr)(xs:List V):Prop:=if b=true then SqL K H a xs else SqT K H a xs
def sj(h:Heap)(b:Bool)(a:Addr)(o:Array Value):Prop:=if b=true then h.IsList a o else h.IsTuple a o
def sZ(h:Heap)(b:Bool)(q a:Addr)(i:Nat):Prop:=if b=true then h.IsListIter q a i else h.IsTupleIter q a i
noncomputable def Fu(b:Bool):String:=if b=true then "list_iterator" else "tuple_iterator"
theorem sj.at{h h':Heap}{b:Bool}{a:Addr}{C:Array Value}(x:sj h b a C)(k:∀o,h.get? a=some o->h'.get? a=some o):sj h' b a C:=by
 cases b with
 | true=>exact Heap.IsList.at (show h.IsList a C from x) k
 | false=>exact Heap.IsTuple.at (show h.IsTuple a C from x) k
theorem sZ.at{h h':Heap}{b:Bool}{q a:Addr}{i:Nat}(x:sZ h b q a i)(k:∀o,h.get? q=some o->h'.get? q=some o):sZ h' b q a i:=by
 cases b with
 | true=>exact Heap.IsListIter.at (show h.IsListIter q a i from x) k
 | false=>exact Heap.IsTupleIter.at (show h.IsTupleIter q a i from x) k
theorem sZ.obj{h:Heap}{b:Bool}{q a:Addr}{i:Nat}(x:sZ h b q a i):∃o,h.get? q=some o/\∀v,o.data≠ .cell v:=by
 cases b with
 | true=>obtain⟨o,e,c,d⟩:=(show h.IsListIter q a i from x);exact⟨o,e,fun v z=>by rw[d] at z;cases z⟩
 | false=>obtain⟨o,e,c,d⟩:=(show h.IsTupleIter q a i from x);exact⟨o,e,fun v z=>by rw[d] at z;cases z⟩
theorem sZ.mk{h:Heap}{b:Bool}{q a:Addr}(e:h.get? q=some {cls:= .type (Fu b),data:= .fields #[.ref a,.int 0 0]}):sZ h b q a 0:=by
 cases b with
 | true=>exact⟨_,e,rfl,rfl⟩
 | false=>exact⟨_,e,rfl,rfl⟩
theorem sj.lt{h:Heap}{b:Bool}{a:Addr}{C:Array Value}(x:sj h b a C):a<h.objs.size:=by
 cases b with
 | true=>obtain⟨o,e,_⟩:=(show h.IsList a C from x);exact N5 e
 | false=>obtain⟨o,e,_⟩:=(show h.IsTuple a C from x);exact N5 e
theorem tF{prog:Program}{w:World}{A:Around}(I:A.handled=none)(b:Bool)(q a:Addr)(C:a≠q)(o:Array Value):
  Draws prog w A q [q,a] o.size (fun i v=>o[i]? =some v) (fun i h=>sZ h b q a i/\sj h b a o):=by
 cases b with
 | true=>exact Draws.list I q a C o
 | false=>exact Cm I q a C o
section
variable {X : Cx} {pins : List (Addr × Obj)} {σ : St} {H : Hp} {s : Shared}
theorem Inv.sq{b:Bool}{a:Addr}{xs:List V}(I:Inv X pins Z H s)(h:Sq X.K H b a xs):∃o:List Value,bj xs o/\sj s.heap b a o.toArray:=by
 cases b with
 | true=>obtain⟨o,r,p,_⟩:=I.list (show SqL X.K H a xs from h);exact⟨o,r,p.isList⟩
 | false=>obtain⟨o,r,p,_⟩:=I.tuple (show SqT X.K H a xs from h);exact⟨o,r,p⟩
theorem Inv.sq_inj{b:Bool}{a:Addr}{xs ys:List V}(I:Inv X pins Z H s)(h:Sq X.K H b a xs)(h':Sq X.K H b a ys):xs=ys:=by
 cases b with
 | true=>exact I.list_inj (show SqL X.K H a xs from h) h'
 | false=>exact I.tuple_inj (show SqT X.K H a xs from h) h'
end
section
variable {prog : Program} {w : World} {A : Around} {E : Value → Shared → Prop} {s : Shared}
theorem zD{b:Bool}{a:Addr}{o:Array Value}{Q:Value->Shared->Prop}(h:sj s.heap b a o)
  (C:Q (.ref s.heap.objs.size) {s with heap:=s.heap.push {cls:= .type (Fu b),data:= .fields #[.ref a,.int 0 0]}}):wpAny (model prog w) A (pyIter (.ref a)) Q E s:=by
 cases b with
 | true=>exact wpAny_pyIter_list (show s.heap.IsList a o from h) C
 | false=>exact wpAny_pyIter_tuple (show s.heap.IsTuple a o from h) C
end
noncomputable abbrev zh1(b:Bool)(h:Heap)(a:Addr):Heap:=h.push {cls:= .type (Fu b),data:= .fields #[.ref a,.int 0 0]}
noncomputable abbrev zh2(b c:Bool)(h:Heap)(a d:Addr):Heap:=(zh1 b h a).push {cls:= .type (Fu c),data:= .fields #[.ref d,.int 0 0]}
noncomputable abbrev zh3(b c:Bool)(h:Heap)(a d:Addr):Heap:=(zh2 b c h a d).push {cls:= .type "tuple",data:= .seq #[.ref h.objs.size,.ref (zh1 b h a).objs.size]}
noncomputable abbrev zh4(b c:Bool)(h:Heap)(a d:Addr):Heap:=(zh3 b c h a d).push {cls:= .type "tuple",data:= .seq #[.none,.none]}
noncomputable abbrev zh5(b c:Bool)(h:Heap)(a d:Addr):Heap:=(zh4 b c h a d).push {cls:= .type "zip",data:= .fields #[.none,.bool false,.bool false,.ref (zh2 b c h a d).objs.size,.ref (zh3 b c h a d).objs.size]}
theorem Iz(b c:Bool)(a d:Addr)(xs ys:Array Value):Meets (Builtin.«zip.__new__» ⟨[.type "zip",.ref a,.ref d],[]⟩) (fun _ R s=>sj s.heap b a xs/\sj s.heap c d ys/\R (.ok (.ret (.ref (zh4 b c s.heap a d).objs.size))) {s with heap:=zh5 b c s.heap a d}):=
 .of_wp fun n w A R s h=>by
  obtain⟨f,g,j,l,m⟩:=s;obtain⟨I,C,h⟩:=h;have i:=sub_zip;have U:sj (Shared.heap ⟨f,g,j,l,m⟩) b a xs:=I;have J:sj (Shared.heap ⟨zh1 b f a,g,j,l,m⟩) c d ys:=sj.at C fun o e=>NU _ e
  wp_walk using zD U,zD J
  exact⟨_,rfl,h⟩
theorem F9{prog:Program}{w:World}{A:Around}{E:Value->Shared->Prop}{s:Shared}{b c:Bool}{a d:Addr}{xs ys:Array Value}{Q:Value->Shared->Prop}(I:sj s.heap b a xs)(C:sj s.heap c d ys)
  (h:∀h',IsZip h' (s.heap.objs.size+4) (s.heap.objs.size+2) (s.heap.objs.size+3) .none->IsPair h' (s.heap.objs.size+2) (.ref s.heap.objs.size) (.ref (s.heap.objs.size+1))->
   IsPair h' (s.heap.objs.size+3) .none .none->sZ h' b s.heap.objs.size a 0->sZ h' c (s.heap.objs.size+1) d 0->(∀e o,s.heap.get? e=some o->h'.get? e=some o)->Q (.ref (s.heap.objs.size+4)) {s with heap:=h'}):
  wpAny (model prog w) A (call (.type "zip") [.ref a,.ref d]) Q E s:=by
 refine callType_new F.called_zip (by decide) (F.typeCall_zip_2 _ _) (F.newCall_zip_2 _ _) (fun obj=>F.args_object_init_3 obj _ _) F.entry_zip_new (Iz b c a d xs ys) ⟨I,C,?_⟩
 have z1:(zh1 b s.heap a).objs.size=s.heap.objs.size+1:=PJ ..;have z2:(zh2 b c s.heap a d).objs.size=s.heap.objs.size+2:=by rw[PJ,z1]
 have z3:(zh3 b c s.heap a d).objs.size=s.heap.objs.size+3:=by rw[PJ,z2]
 have z4:(zh4 b c s.heap a d).objs.size=s.heap.objs.size+4:=by rw[PJ,z3]
 have J:(zh5 b c s.heap a d).get? (zh4 b c s.heap a d).objs.size=some _:=Ol _ rfl;have g:(zh5 b c s.heap a d).get? (zh3 b c s.heap a d).objs.size=some _:=NU _ (Ol _ rfl);have f:(zh5 b c s.heap a d).get? (zh2 b c s.heap a d).objs.size=some _:=NU _ (NU _ (Ol _ rfl));have U:(zh5 b c s.heap a d).get? (zh1 b s.heap a).objs.size=some _:=NU _ (NU _ (NU _ (Ol _ rfl)));have i:(zh5 b c s.heap a d).get? s.heap.objs.size=some _:=NU _ (NU _ (NU _ (NU _ (Ol _ rfl))));show _/\_
 rw[z2,z3,z4] at J;rw[z1,z2] at f;rw[z3] at g;rw[z1] at U;rw[z4];exact⟨⟨_,J,rfl⟩,h _ J f g (sZ.mk i) (sZ.mk U) fun e o x=>NU _ (NU _ (NU _ (NU _ (NU _ x))))⟩
noncomputable def Itz(K : Frag)(b c : Bool)(a d : Addr) : It :=
  ⟨fun i H => ∃o C x y, Sq K H b a o ∧ Sq K H c d C ∧ o[i]? = some x ∧ C[i]? = some y,
   fun i H v I => ∃p x y, H p = none ∧ v = .ref p ∧ I = upd H p (.tup [x, y]) ∧ (∀o, Sq K H b a o → o[i]? = some x) ∧ ∀C, Sq K H c d C → C[i]? = some y,
   fun i H => ∃o C, Sq K H b a o ∧ Sq K H c d C ∧ (o.length = i ∨ (i<o.length ∧ C.length = i))⟩
def ZAt(z TI TO o C:Addr)(b c:Bool)(a d:Addr)(i:Nat)(h:Heap):Prop:=IsZip h z TI TO .none/\IsPair h TI (.ref o) (.ref C)/\(∃x y,IsPair h TO x y)/\sZ h b o a i/\sZ h c C d i
theorem IP{P:Program}{w:World}{K:Frag}{M:List Expr}{tk:Nat}{tp:Pos}{b c:Bool}{a d z TI TO J U:Addr}(D:ZA z TI TO J U [J,a] [U,d])(ab:a≠J)(R:d≠U):
  Dl P w K (.Tuple M tk tp) (Itz K b c a d) [z,TI,TO,J,U] z (ZAt z TI TO J U b c a d) where
 mem:=by simp
 obj:=fun i h st x j=>by
  obtain⟨g,l,⟨_,_,m⟩,p,r⟩:=st;have au:x=z\/x=TI\/x=TO\/x=J\/x=U:=by simpa using j
  rcases au with rfl | rfl | rfl | rfl | rfl
  .exact⟨_,g,fun v q=>by simp at q⟩
  .exact⟨_,l,fun v q=>by simp at q⟩
  .exact⟨_,m,fun v q=>by simp at q⟩
  .exact p.obj
  .exact r.obj
 keep:=fun i h h' st k=>by
  obtain⟨g,l,⟨u,v,m⟩,p,r⟩:=st;exact⟨k z (by simp) _ g,k TI (by simp) _ l,⟨u,v,k TO (by simp) _ m⟩,p.at fun o e=>k J (by simp) o e,r.at fun o e=>k U (by simp) o e⟩
 item:=by
  intro X hP hw hK hc i W s Z H E I hf st hg;subst hP hw hK;obtain⟨xs,ys,x,y,q1,q2,e1,e2⟩:=hg;obtain⟨g,l,⟨u,v,m⟩,p,r⟩:=st;obtain⟨l1,r1,p1⟩:=I.sq q1;obtain⟨l2,r2,p2⟩:=I.sq q2;have O:X.A.in1.handled=none:=I.ok.hd hc;have D1:=tF (prog:=X.prog) (w:=X.w) O b J a ab l1.toArray;have D2:=tF (prog:=X.prog) (w:=X.w) O c U d R l2.toArray;obtain⟨u1,g1,w1⟩:=r1.get e1;obtain⟨u2,g2,w2⟩:=r2.get e2;have aH:i<l1.toArray.size:=by have:=(mF.mp g1).1;simpa using this
  have aP:i<l2.toArray.size:=by have:=(mF.mp g2).1;simpa using this
  have Y:s.TypeIs (.ref z) "zip":=⟨_,g,rfl⟩;unfold pyNext
  refine gV (wpAny_attempt (OQ (name:=Str.ofString "__next__") Y Qp (Pr Qp Y F.entry_zip_next
   (F1 D1 D2 D g l m ⟨p,p1⟩ ⟨r,p2⟩ aH aP fun x' y' h' G j L a1 a2 a3 a4 a5 kz=>Ob ?_) (F.args_zip_next_1 _))))
  have j:u1=x':=by have j:l1.toArray[i]? =some x':=j;rw[Qd,g1] at j;exact N_ j
  have L:u2=y':=by have L:l2.toArray[i]? =some y':=L;rw[Qd,g2] at L;exact N_ L
  subst j L;refine⟨_,rfl,wpAny_letOwnedTupleGo_zip a1 fun B N f=> ?_⟩
  have f:Heap.SameBut z h' B:=f;have S:z<s.heap.objs.size:=N5 g;have up:∀b o,b≠z->h'.get? b=some o->B.get? b=some o:=fun b o n e=>f.extBut _ _ n e
  have kept:∀b o,b ∉ [z,TI,TO,J,U]->s.heap.get? b=some o->B.get? b=some o:=fun b o n e=>by
   have C:b≠z/\b≠TI/\b≠TO/\b≠J/\b≠U:=by simpa using n
   exact up b o C.1 (kz b o C.1 C.2.2.1 C.2.2.2.1 C.2.2.2.2 e)
  refine⟨.ref s.heap.objs.size,upd H s.heap.objs.size (.tup [x,y]),?_,rfl,⟨_,x,y,I.fresh,rfl,rfl,fun zs hz=>by rw[I.sq_inj hz q1];exact e1,fun zs hz=>by rw[I.sq_inj hz q2];exact e2⟩,?_,fun b n=> ?_⟩
  .refine I.turnedN (t':=G) (ch:=[z,TI,TO,J,U]) kept hf (NW _) ⟨by show 2<=sizeLine;decide,[u1,u2],.cons w1 (.cons w2 .nil),⟨_,up _ _ (Pw S) a5,rfl,_,rfl⟩⟩
  .exact⟨N,up _ _ D.TIz (kz _ _ D.TIz D.TITO D.TIi1 D.TIi2 l),⟨_,_,up _ _ D.TOz a2⟩,a3.1.at fun o e=>up _ _ D.i1z e,a4.1.at fun o e=>up _ _ D.i2z e⟩
  .have h0:=(hf b n).1;rw[aq]
   .exact h0
   .have C:b=z\/b=TI\/b=TO\/b=J\/b=U:=by simpa using n
    rcases C with rfl | rfl | rfl | rfl | rfl
    .exact Om S
    .exact Om (N5 l)
    .exact Om (N5 m)
    .obtain⟨o,e,_⟩:=p.obj;exact Om (N5 e)
    .obtain⟨o,e,_⟩:=r.obj;exact Om (N5 e)
 done:=by
  intro X hP hw hK hc i W s Z H E I hf st hg;subst hP hw hK;obtain⟨xs,ys,q1,q2,aU⟩:=hg;obtain⟨g,l,⟨u,v,m⟩,p,r⟩:=st;obtain⟨l1,r1,p1⟩:=I.sq q1;obtain⟨l2,r2,p2⟩:=I.sq q2;have O:X.A.in1.handled=none:=I.ok.hd hc;have D1:=tF (prog:=X.prog) (w:=X.w) O b J a ab l1.toArray;have D2:=tF (prog:=X.prog) (w:=X.w) O c U d R l2.toArray;have z1:=r1.length;have z2:=r2.length;have he:i=l1.toArray.size\/(i<l1.toArray.size/\i=l2.toArray.size):=by simp only[N1];lia
  have Y:s.TypeIs (.ref z) "zip":=⟨_,g,rfl⟩;unfold pyNext
  refine gV (wpAny_attempt (OQ (name:=Str.ofString "__next__") Y Qp (Pr Qp Y F.entry_zip_next
   (Hj D1 D2 D g l m ⟨p,p1⟩ ⟨r,p2⟩ he fun h' e G kz j=> ?_) (F.args_zip_next_1 _))))
  obtain⟨o,ho,ar⟩:=j;refine gV (wpAny_isInstance (T:="StopIteration") (b:=true) ⟨o,ho,ar⟩ isSubtype_stop ?_)
  refine Ob ⟨rfl,I.turnedL (t':=G) (ch:=[z,TI,TO,J,U]) (fun b o n e=> ?_) hf⟩
  have C:b≠z/\b≠TI/\b≠TO/\b≠J/\b≠U:=by simpa using n
  exact kz b o C.1 C.2.2.1 C.2.2.2.1 C.2.2.2.2 e
 self:=fun A i s Q E st h=>wpAny_pyIter_zip st.1 h
section
variable {X : Cx}
def ND(K:Frag)(U:TA):TI:=fun Z H R=>U Z H fun I o=>∃b c a d,I=[.ref a,.ref d]/\(∃C,Sq K o b a C)/\(∃J,Sq K o c d J)/\R (Itz K b c a d) o
theorem Lp{j C:Expr}{w:TA}{p f T:Pos}{g:List Expr}{F:Nat}(Q:Gl X "zip")(hm:X.mg "zip"=none)(B:PA X [j,C] w)(hs:starEach [j,C] X.env=[(false,eval j X.env),(false,eval C X.env)]:=by rfl)(i:starEach [C] X.env=[(false,eval C X.env)]:=by rfl):
  PI X (.Tuple g F T) (.Call (.Name "zip" p) [j,C] [] f) (ND X.K w):=by
 intro U s Z H R I h;refine Call_ (xc I Q hm Li (O8 (cB (B f U s Z H _ I h) fun us r vs y J S P=> ?_) (by rw[hs,i]) (by rw[i];rfl)))
 obtain⟨b,c,a,d,e,⟨xs,D⟩,⟨ys,M⟩,q⟩:=P;subst e;obtain⟨W,Y,rfl,m,l⟩:=IW S
 cases m
 cases l
 obtain⟨l1,O,u⟩:=J.sq D;obtain⟨l2,G,v⟩:=J.sq M;have L:=u.lt;have A:=v.lt;refine F9 u v fun h' z1 z2 z3 z4 z5 z=>wpAny_pyIter_zip z1 ?_
 generalize x:r.heap.objs.size=n at*;have E:ZA (n+4) (n+2) (n+3) n (n+1) [n,a] [n+1,d]:=by
  refine⟨?_,?_,?_,?_,?_,?_,?_,?_,?_,?_,?_,?_,?_,?_,?_,?_⟩ <;> (try simp only[Od,Oy,O7]) <;> (unfold Addr at *;lia)
 refine⟨n+4,[n+4,n+2,n+3,n,n+1],_,_,y,rfl,J.kept (t':=r.toks) z,IP E (Om L) (Om (Nat.lt_succ_of_lt A)),⟨z1,z2,⟨_,_,z3⟩,z4,z5⟩,fun b N=> ?_,q⟩
 have o:n<=b:=by
  have o:b=n+4\/b=n+2\/b=n+3\/b=n\/b=n+1:=by simpa using N
  unfold Addr at*
  lia
 exact J.fpOk (by rw[x];exact o) (J.hok.fresh (by rw[x];exact o))
end
theorem Jg{K:Frag}{b c:Bool}{a d:Addr}{xs ys:List V}{g:TG}{q:TS}{D:vD}{Z:St}{H:Hp}(o:Nat->St->Hp->Prop)(u:o 0 Z H)(w:∀i Z H,o i Z H->Sq K H b a xs/\Sq K H c d ys)
  (hs:∀i x y p Z H,xs[i]? =some x->ys[i]? =some y->o i Z H->H p=none->g (.ref p) Z (upd H p (.tup [x,y])) fun I J=>q {D with nx:=o (i+1),ct:=o (i+1),bk:=D.nx} I J) (hd:∀Z H,o (min xs.length ys.length) Z H->D.nx Z H):
  ∃W:Nat->Nat->St->Hp->Prop,(∃m,W 0 m Z H)/\∀i m Z H,W i m Z H->
   ((Itz K b c a d).stop i H/\D.nx Z H)\/((Itz K b c a d).go i H/\∃N:St->Hp->Prop,(∀j C,N j C->∃n,n<m/\W (i+1) n j C)/\∀x C,(Itz K b c a d).yld i H x C->g x Z C fun I J=>q {D with nx:=N,ct:=N,bk:=D.nx} I J):=by
 refine⟨fun i m Z H=>m=min xs.length ys.length - i/\i<=min xs.length ys.length/\o i Z H,⟨_,rfl,Ou _,u⟩,?_⟩
 rintro i m Z H ⟨rfl,A,p⟩
 obtain⟨l,f⟩:=w i Z H p
 by_cases U:i<min xs.length ys.length
 .have hx:i<xs.length:=by lia
  have z:i<ys.length:=by lia
  refine .inr ⟨⟨xs,ys,xs[i],ys[i],l,f,by simp [hx],by simp [z]⟩,o (i+1),fun j C s=>⟨_,?_,rfl,U,s⟩,fun v C y=> ?_⟩
  .lia
  .obtain⟨r,x,y,hr,rfl,rfl,e1,e2⟩:=y;exact hs i x y r Z H (e1 xs l) (e2 ys f) p hr
 .have e:i=min xs.length ys.length:=by lia
  refine .inl ⟨⟨xs,ys,l,f,by lia⟩,?_⟩
  subst e;exact hd Z H p
inductive Dt where
 | non | bl (b:Bool) | int (i:Int) | str (x:Str) | tup (l:List Dt) | lst (l:List Dt)
mutual
def Is(K:Frag)(H:Hp):Dt->V->Prop
 | .non,v=>v= .non
 | .bl b,v=>v= .bl b
 | .int i,v=>v= .int i
 | .str x,v=>v= .str x
 | .tup l,v=>∃a o,v= .ref a/\SqT K H a o/\Iss K H l o
 | .lst l,v=>∃a o,v= .ref a/\SqL K H a o/\Iss K H l o
def Iss(K:Frag)(H:Hp):List Dt->List V->Prop
 | [],xs=>xs=[]
 | d::r,xs=>∃x t,xs=x::t/\Is K H d x/\Iss K H r t
end
mutual
noncomputable def Dt.flat:Dt->Bool
 | .tup l=>Dt.flats l
 | .lst _=>false
 | _=>true
noncomputable def Dt.flats:List Dt->Bool
 | []=>true
 | d::r=>d.flat && Dt.flats r
end
theorem aA.tup{K:Frag}{H C:Hp}{a:Addr}{xs:List V}(e:aA H C)(h:SqT K H a xs):SqT K C a xs:=by
 rcases h with(h | ⟨o,h⟩) | h
 .exact .inl (.inl (e _ _ h))
 .exact .inl (.inr ⟨o,e _ _ h⟩)
 .exact .inr h
theorem But.tup{K:Frag}{H C:Hp}{a d:Addr}{xs ys:List V}(e:But d H C)(hd:H d=some (.lst ys))(h:SqT K H a xs):SqT K C a xs:=by
 rcases h with(h | ⟨o,h⟩) | h
 .exact .inl (.inl (e _ _ (eD h hd (by intro z;cases z)) h))
 .exact .inl (.inr ⟨o,e _ _ (eD h hd (by intro z;cases z)) h⟩)
 .exact .inr h
section
variable {K : Frag} {g : TG} {te : TE} {t : Nat} {js : List Nat} {σ : St} {H : Hp} {Q : VK} {p : Addr}
theorem sM{a:Addr}{xs:List V}(C:Nat->List V->Hp->Prop)(f:C 0 [] (upd H p (.lst [])))(j:∀i ys H,C i ys H->SqT K H a xs)
  (hs:∀i x ys H (F:List V->Hp->Prop),(∀o I,C (i+1) o I->F o I)->xs[i]? =some x->C i ys H->g x (blk t js Z) H fun b d=>Wk (blk t js Z) b/\te b d fun y U=>U p=some (.lst ys)/\ys.length<sizeLine/\F (ys++[y]) (upd U p (.lst (ys++[y]))))
  (hd:∀ys H,C xs.length ys H->Q (.ref p) H):
  oW (Itt K a) g te t js Z p H Q:=by
 refine⟨fun i m ys H=>m=xs.length - i/\i<=xs.length/\C i ys H,⟨xs.length,by simp,Ou _,f⟩,?_⟩
 rintro i m ys H ⟨rfl,l,pv⟩
 have q:=j i ys H pv
 by_cases J:i<xs.length
 .refine .inr ⟨⟨xs,xs[i],q,by simp [J]⟩,fun x I y=> ?_⟩
  obtain⟨e,y⟩:=y;subst e;exact hs i x ys _ (fun o I=>∃c,c<xs.length - i/\c=xs.length - (i+1)/\i+1<=xs.length/\C (i+1) o I) (fun o I z=>⟨_,by lia,rfl,J,z⟩) (y xs q) pv
 .have e:i=xs.length:=by lia
  subst e;exact .inl ⟨⟨xs,q,NW _⟩,hd ys H pv⟩
theorem Ac{a:Addr}{xs:List V}(C:Nat->List V->Hp->Prop)(f:C 0 [] (upd H p (.lst [])))(j:∀i ys H,C i ys H->SqL K H a xs)
  (hs:∀i x ys H (F:List V->Hp->Prop),(∀o I,C (i+1) o I->F o I)->xs[i]? =some x->C i ys H->g x (blk t js Z) H fun b d=>Wk (blk t js Z) b/\te b d fun y U=>U p=some (.lst ys)/\ys.length<sizeLine/\F (ys++[y]) (upd U p (.lst (ys++[y]))))
  (hd:∀ys H,C xs.length ys H->Q (.ref p) H):
  oW (Itl K a) g te t js Z p H Q:=by
 refine⟨fun i m ys H=>m=xs.length - i/\i<=xs.length/\C i ys H,⟨xs.length,by simp,Ou _,f⟩,?_⟩
 rintro i m ys H ⟨rfl,l,pv⟩
 have q:=j i ys H pv
 by_cases J:i<xs.length
 .refine .inr ⟨⟨xs,xs[i],q,by simp [J]⟩,fun x I y=> ?_⟩
  obtain⟨e,y⟩:=y;subst e;exact hs i x ys _ (fun o I=>∃c,c<xs.length - i/\c=xs.length - (i+1)/\i+1<=xs.length/\C (i+1) o I) (fun o I z=>⟨_,by lia,rfl,J,z⟩) (y xs q) pv
 .have e:i=xs.length:=by lia
  subst e;exact .inl ⟨⟨xs,q,NW _⟩,hd ys H pv⟩
theorem jL{lo:Int}{n:Nat}(J:Nat->List V->Hp->Prop)(d:J 0 [] (upd H p (.lst [])))
  (hs:∀i ys H (F:List V->Hp->Prop),(∀o I,J (i+1) o I->F o I)->i<n->J i ys H->g (.int (lo+i)) (blk t js Z) H fun a c=>Wk (blk t js Z) a/\te a c fun y U=>U p=some (.lst ys)/\ys.length<sizeLine/\F (ys++[y]) (upd U p (.lst (ys++[y]))))
  (hd:∀ys H,J n ys H->Q (.ref p) H):
  oW (Itr lo n) g te t js Z p H Q:=by
 refine⟨fun i m ys H=>m=n - i/\i<=n/\J i ys H,⟨n,by simp,Ou _,d⟩,?_⟩
 rintro i m ys H ⟨rfl,f,pv⟩
 by_cases C:i<n
 .refine .inr ⟨C,fun x I y=> ?_⟩
  obtain⟨e,y⟩:=y;subst e y;exact hs i ys _ (fun o I=>∃b,b<n - i/\b=n - (i+1)/\i+1<=n/\J (i+1) o I) (fun o I z=>⟨_,by lia,rfl,C,z⟩) C pv
 .have e:i=n:=by lia
  subst e;exact .inl ⟨NW _,hd ys H pv⟩
end
theorem bk{sc0 o:Scope}{N0:List Str}(N:List Str)(t:Nat)(C:List Nat)(b:o.kind= .function:=by rfl)(e:∀y∈o.names,y.2≠NameKind.cell:=by decide +kernel)(U:∀y∈o.names,y.2=NameKind.local->o.names.lookup y.1=some NameKind.local:=by decide +kernel)
  (d:∀y∈o.names,y.2=NameKind.free->sc0.names.lookup y.1=some NameKind.cell:=by decide +kernel) (a:∀x∈N.drop t,o.names.lookup x=some NameKind.free:=by decide +kernel) (c:(N.drop t).map some=C.map fun j=>N0[j]? :=by rfl)
  (J:t<=N.length:=by decide) (I:N.Nodup:=by decide +kernel):qd sc0 o N0 N t C:=⟨b,e,U,d,a,c,J,I⟩
theorem dL{X:Cx}{k:Nat}{x:Str}{sp:Sp}{p C:Pos}(h:Has X.prog X.w X.K X.mg X.base k x [] sp)(J:Room k X.A)(a:Gl X x)(o:(x==("__debug__":Str))=false:=by decide):
  PE X (.Call (.Name x p) [] [] C) (fun Z H Q=>sp [] H Q E0):=by
 obtain⟨f,b,hm,I,U,F⟩:=h.ex;exact HG F J a hm I U .nil Ak o
section
variable {X : Cx}
theorem bU{a b v:Int}{j U:Nat}{p c C:Pos}(e:a^b.toNat=v)(J:0<=b/\b<=1000000/\a.natAbs<2^64:=by decide):PE X (.BinOp (.Constant (.int a) j p) .Pow (.Constant (.int b) U c) C) (tC (.int v)):=fun o s Z H Q I h=>
 aw LT ad ad o s Z H Q I ⟨a,b,rfl,rfl,J,by dsimp only;rw[e];exact h⟩
theorem nz{a v:Int}{j:Nat}{p C:Pos}(e: -a=v):PE X (.UnaryOp .USub (.Constant (.int a) j p) C) (tC (.int v)):=fun o s Z H Q I h=>Mq LU ad o s Z H Q I ⟨a,rfl,by dsimp only;rw[e];exact h⟩
structure az (p:Prop):Prop where
 out:p
theorem aL{st:Stmt}{t:TS}(h:PS X st t):PS X st (fun D Z H=>az (t D Z H)):=fun o s Z H D I C=>h o s Z H D I C.out
end
def gl(K:Frag)(a:Addr)(xs:List V):Prop:=∃(o:Obj) (C:Array Value) (n:Nat),K.lookup a=some o/\o.cls= .type "tuple"/\o.dict=none/\o.data= .seq C n/\C.size<=sizeLine/\bj xs C.toList
theorem gl.sq{K:Frag}{H:Hp}{a:Addr}{xs:List V}(h:gl K a xs):SqT K H a xs:=by
 obtain⟨o,C,n,J,c,_,I,b,U⟩:=h;exact .inr ⟨o,C,n,J,c,I,b,U⟩
theorem gl.ty{K:Frag}{H:Hp}{a:Addr}{xs:List V}(h:gl K a xs):tyV K "tuple" (.ref a) H:=by
 obtain⟨o,C,n,I,J,hd,_⟩:=h;exact .inr (.inl ⟨rfl,o,I,J,hd⟩)
theorem fN{K:Frag}{a:Addr}{xs:List V}{o:Array Value}{n:Nat}{sl:Array (Option Value)}(l:K.lookup a=some ⟨.type "tuple",none,.seq o n,sl⟩)(z:o.size<=sizeLine)(v:bj xs o.toList):gl K a xs:=⟨_,o,n,l,rfl,rfl,rfl,z,v⟩
theorem jx{o:Type}{x:o}{xs:List o}:atI (x::xs) 0=some x:=aQ (j:=0) rfl
theorem lP{o:Type}{x y:o}{xs:List o}:atI (x::y::xs) 1=some y:=aQ (j:=1) rfl
theorem jA{o:Type}{x y z:o}{xs:List o}:atI (x::y::z::xs) 2=some z:=aQ (j:=2) rfl
theorem yE{o:Type}{x y z u:o}{xs:List o}:atI (x::y::z::u::xs) 3=some u:=aQ (j:=3) rfl
section
variable {K : Frag} {H H' : Hp} {a p : Addr} {o o' : HO} {xs : List V} {d : Dt} {v : V}
theorem cG(C:H p=none)(h:H a=some o'):upd H p o a=some o':=by rw[aq (ak h C)];exact h
theorem Nw(C:H p=none)(h:SqT K H a xs):SqT K (upd H p o) a xs:=(ag C o).tup h
theorem cy{C:Hp}(I:H p=none)(h:aA C H):aA C (upd H p o):=h.trans (ag I o)
theorem bI{C:Hp}{d:Addr}(I:H p=none)(h:But d C H):But d C (upd H p o):=h.trans (ag I o).but
theorem cf{C:Hp}(I:C p=none)(h:aA C H):aA C (upd H p o):=fun b u e=>by rw[aq (ak e I)];exact h b u e
end
noncomputable def CL(x:V):List V->Nat->Option Nat
 | [],_=>none
 | y::r,k=>if eqV y x=true then some k else CL x r (k+1)
theorem DG{x:V}:∀{xs:List V}{k j:Nat},CL x xs k=some j->k<=j/\wA x xs (j - k)
 | [],_,_,h=>by cases h
 | y::r,k,j,h=>by
  unfold CL at h
  by_cases e:eqV y x=true
  .rw[NV e] at h
   cases h
   refine⟨NW _,⟨y,by simp,e⟩,fun m z hm=>absurd hm (by lia)⟩
  .rw[fI e] at h;obtain⟨a,⟨z,U,J⟩,C⟩:=DG h;have I:j - k=(j - (k+1))+1:=by lia
   refine⟨by lia,⟨z,by rw[I,OR];exact U,J⟩,fun m z hm o=> ?_⟩
   cases m with
   | zero=>cases o;simpa using e
   | succ m=>exact C m z (by lia) (by simpa using o)
theorem HL{x:V}{xs:List V}{j:Nat}(h:CL x xs 0=some j):wA x xs j:=by
 have q:=(DG h).2
 rwa [Q3] at q
end L2
namespace L2
open PySem
theorem G0{A:Around}{k:Nat}(o:Room k A):A.units+64<cLine:=o.units
end L2
namespace L2
open PySem PySem.Spec PyProof.Rows
@[irreducible] noncomputable def isTy(t T : String) : Option Bool := Nf t T
inductive TyS (K:Frag) (H:Hp):V->String->Prop where
 | non:TyS K H .non "NoneType"
 | bl (x:Bool):TyS K H (.bl x) "bool"
 | int (i:Int):TyS K H (.int i) "int"
 | str (x:Str):TyS K H (.str x) "str"
 | tup {a:Addr}{xs:List V}(e:SqT K H a xs):TyS K H (.ref a) "tuple"
 | lst {a:Addr}{xs:List V}(e:SqL K H a xs):TyS K H (.ref a) "list"
 | dic {a:Addr}(e:vV K H (.ref a) (.type "dict")):TyS K H (.ref a) "dict"
theorem xS{b:Bool}{A B:Prop}(h:b=false)(q:B):if b=true then A else B:=by
 rw[h];exact C3 q
theorem Ky{b:Bool}{A B:Prop}(h:b=true)(q:A):if b=true then A else B:=by
 rw[h];exact BI q
theorem CP{b:Bool}{A B:Prop}(o:b=true->A)(C:b=false->B):if b=true then A else B:=by
 cases b with
 | true=>exact BI (o rfl)
 | false=>exact C3 (C rfl)
noncomputable def AG:Expr->Option V
 | .Constant (.int i) _ _=>some (.int i)
 | .Constant (.str x) _ _=>some (.str x)
 | .Constant .none _ _=>some .non
 | .Constant (.bool b) _ _=>some (.bl b)
 | _=>none
noncomputable def wg:List Expr->Option (List V)
 | []=>some []
 | e::r=>match AG e,wg r with
  | some v,some vs=>some (v::vs)
  | _,_=>none
theorem bD{X:Cx}:∀{J:List Expr}{vs:List V},wg J=some vs->PA X J (fun _ H Q=>Q vs H)
 | [],vs,h=>by
  cases h
  exact dN
 | e::r,vs,h=>by
  unfold wg at h
  cases hv:AG e with
  | none=>rw[hv] at h;cases h
  | some v=>
   cases hr:wg r with
   | none=>rw[hv,hr] at h;cases h
   | some ws=>
    rw[hv,hr] at h;have h:v::ws=vs:=N_ h;subst h;have ih:=bD (X:=X) hr;have U:PE X e (tC v):=by
     unfold AG at hv
     split at hv
     .cases hv;exact ad
     .cases hv;exact ax
     .cases hv;exact eP
     .cases hv;exact vq
     .cases hv
    have hs:starEach (e::r) X.env=(false,eval e X.env)::starEach r X.env:=by
     unfold AG at hv
     split at hv <;> first | rfl | cases hv
    intro C o s Z H Q I q;exact dF U ih hs C o s Z H Q I q
open PySem PySem.Spec PyProof.Rows
end L2
namespace SpM
open PySem PyProof.Rows
def tz:Nat->Nat->Nat
 | 0,_=>0
 | f+1,n=>if n %2=0 then tz f (n / 2)+1 else 0
theorem CN:∀f n:Nat,n<=f->0<n->∃u,n=(2*u+1)*2^tz f n
 | 0,_,h1,h2=>absurd h2 (Nat.not_lt.mpr h1)
 | f+1,n,h1,h2=>by
  rw[tz]
  by_cases h:n %2=0
  .obtain⟨u,e⟩:=CN f (n / 2) (by lia) (by lia)
   rw[NV h];refine⟨u,?_⟩
   rw[Nat.pow_succ, <-Nat.mul_assoc, <-e]
   lia
  .rw[fI h];exact⟨n / 2,by lia⟩
def Zn(v:Int):Nat:=if v=0 then 32 else tz v.natAbs v.natAbs
theorem Zn_zero:Zn 0=32:=rfl
theorem FW{v:Int}(h:v≠0):∃u,v.natAbs=(2*u+1)*2^Zn v:=by
 unfold Zn;rw[fI h];exact CN _ _ (NW _) (by lia)
theorem Zn_case(v:Int):(v=0/\Zn v=32)\/∃u,v.natAbs=(2*u+1)*2^Zn v:=by
 by_cases h:v=0
 .subst h;exact .inl ⟨rfl,Zn_zero⟩
 .exact .inr (FW h)
theorem pp(z:Nat):(0:Int)<2^z:=Int.pow_pos (by decide)
theorem pdvd{a b:Nat}(h:a<=b):(2:Int)^a∣2^b:=by
 obtain⟨c,rfl⟩:=P6 h;rw[PK];exact Qa _ _
theorem ple{a b:Nat}(h:a<=b):(2:Int)^a<=2^b:=Int.le_of_dvd (pp b) (pdvd h)
theorem plt{a b:Nat}(h:a<b):(2:Int)^a<2^b:=by
 have:=ple (show a+1<=b from h);have e:(2:Int)^(a+1)=2^a*2:=Q4 _ _;have:=pp a
 lia
theorem p32:(2:Int)^32=4294967296:=by decide
theorem L6{z:Nat}(h:z<=32):(2:Int)^z<=4294967296:=ple h
theorem IM{z:Nat}(h:z<=32):(2:Int)^z∣4294967296:=pdvd h
theorem Nv{z:Nat}(h:z<=32)(e:(2:Int)^z=4294967296):z=32:=by
 rcases PQ z 32 with c | c
 .have:=plt c;rw[p32] at this
  lia
 .lia
theorem pz(v:Int):(2:Int)^Zn v∣v:=by
 rcases Zn_case v with⟨rfl,_⟩|⟨u,e⟩
 .exact⟨0,by lia⟩
 .have:(2:Int)^Zn v∣(v.natAbs:Int):=by
   rw[e];refine⟨2*(u:Int)+1,?_⟩
   push_cast
   rw[Qw]
  exact Int.dvd_natAbs.mp this
theorem dvd_Zn{v:Int}{t:Nat}(I:v≠0)(h:(2:Int)^t∣v):t<=Zn v:=by
 obtain⟨u,e⟩:=FW I;have o:2^t∣v.natAbs:=by
  have:=Int.natAbs_dvd_natAbs.mpr h
  rwa [Int.natAbs_pow] at this
 rw[e] at o;rcases PQ (Zn v) t with c | c
 .exfalso
  obtain⟨d,rfl⟩:=P6 (show Zn v+1<=t from c);obtain⟨k,C⟩:=o;have:(2*u+1)*2^Zn v=(2*(2^d*k))*2^Zn v:=by
   rw[C,Rn,Nat.pow_succ]
   simp only[Nat.mul_assoc,Nat.mul_comm,Nat.mul_left_comm]
  have:=Nat.eq_of_mul_eq_mul_right (Nat.pow_pos (show 0<2 by decide)) this
  lia
 .exact c
theorem Mj{v:Int}(h:v.natAbs<2^33):Zn v<=32:=by
 rcases Zn_case v with⟨_,e⟩|⟨u,e⟩
 .lia
 .rcases PQ 32 (Zn v) with c | c
  .exfalso
   have:=OI (show 2 >0 by decide) (show 33<=Zn v from c)
   have o:1*2^Zn v<=(2*u+1)*2^Zn v:=PL _ (by lia)
   lia
  .exact c
structure Span where
 lo:Int
 hi:Int
 z:Nat
structure Sv (s:Span):Prop where
 l0:0<=s.lo
 lh:s.lo<=s.hi
 hW:s.hi<4294967296
 zz:s.z<=32
 dl:(2:Int)^s.z∣s.lo
 dh:(2:Int)^s.z∣s.hi
 one:s.lo=s.hi->s.z=Zn s.lo
structure In (v:Int) (s:Span):Prop where
 lo:s.lo<=v
 hi:v<=s.hi
 dv:(2:Int)^s.z∣v
noncomputable def single(v:Int):Span:=⟨v,v,Zn v⟩
noncomputable def settled(lo o:Int)(z:Nat):Span:=if lo=o then single lo else⟨lo,o,z⟩
noncomputable def whole:Span:=⟨0,4294967295,0⟩
noncomputable def all(z:Nat):Span:=⟨0,4294967296 - 2^z,z⟩
noncomputable def kept(lo o:Int)(z:Nat):Span:=if lo<0\/4294967296<=o then all z else settled lo o z
noncomputable def addS(l r:Span):Span:=kept (l.lo+r.lo) (l.hi+r.hi) (min l.z r.z)
noncomputable def subS(l r:Span):Span:=kept (l.lo - r.hi) (l.hi - r.lo) (min l.z r.z)
noncomputable def moreS(s:Span)(n:Int):Span:=kept (s.lo+n) (s.hi+n) (min s.z (Zn n))
noncomputable def andS(l r:Span):Span:=settled 0 (min l.hi r.hi - min l.hi r.hi %2^max l.z r.z) (max l.z r.z)
noncomputable def jst(o C:Int):Nat->Nat->Nat
 | 0,j=>j
 | k+1,j=>if (2:Int)^j<=o\/(2:Int)^j<=C then jst o C k (j+1) else j
noncomputable def jf(o C:Int)(z:Nat):Nat:=jst o C 33 z
noncomputable def orS(l r:Span)(lo:Int):Span:=settled lo (2^jf l.hi r.hi (min l.z r.z) - 2^min l.z r.z) (min l.z r.z)
noncomputable def lessS(l r:Span):Span:=if l.hi<r.lo then single 1 else if r.hi<=l.lo then single 0 else⟨0,1,0⟩
noncomputable def leftS(l r:Span):Span:=if r.lo=r.hi then kept (l.lo*2^(r.lo %32).toNat) (l.hi*2^(r.lo %32).toNat) (min 32 (l.z+(r.lo %32).toNat)) else whole
noncomputable def rightS(l r:Span):Span:=if r.lo=r.hi then settled (l.lo / 2^(r.lo %32).toNat) (l.hi / 2^(r.lo %32).toNat) (l.z - (r.lo %32).toNat) else settled 0 l.hi 0
noncomputable def fitS(k:Nat)(base:Int)(s:Span):Span:=
 if base<=s.lo/\s.hi<base+2^k then s else settled base (base+2^k - 1 - (2^k - 1) %2^min s.z (Zn base)) (min s.z (Zn base))
noncomputable def aimV(m s:Nat)(v:Int):Int:=v %2^m*8*2^s
noncomputable def aimS(m s:Nat)(x:Span):Span:=if x.lo=x.hi then single (aimV m s x.lo) else settled 0 (aimV m s (2^m - 1)) (s+3)
theorem In.nn{v:Int}{s:Span}(h:Sv s)(i:In v s):0<=v:=Int.le_trans h.l0 i.lo
theorem cN{a b:Nat}{v:Int}(h:(2:Int)^a∣v):(2:Int)^min a b∣v:=Po (pdvd (Qq _ _)) h
theorem cR{a b:Nat}{v:Int}(h:(2:Int)^b∣v):(2:Int)^min a b∣v:=Po (pdvd (QU _ _)) h
theorem Sv_single{v:Int}(o:0<=v)(C:v<4294967296):Sv (single v):=
 ⟨o,OX _,C,Mj (by lia),pz v,pz v,fun _=>rfl⟩
theorem In_single(v:Int):In v (single v):=⟨OX _,OX _,pz v⟩
theorem Sv_whole:Sv whole:=⟨by decide,by decide,by decide,by decide,⟨0,by decide⟩,⟨4294967295,by decide⟩,fun h=>by exact absurd h (by decide)⟩
theorem In_whole{v:Int}(o:0<=v)(C:v<4294967296):In v whole:=⟨o,by show v<=4294967295;lia,⟨v,by show v=2^0*v;lia⟩⟩
theorem gk{lo o:Int}{z:Nat}(l0:0<=lo)(U:lo<=o)(I:o<4294967296)(C:z<=32)(dl:(2:Int)^z∣lo)(J:(2:Int)^z∣o):Sv (settled lo o z):=by
 unfold settled
 split
 .exact Sv_single l0 (by lia)
 .rename_i c
  exact⟨l0,U,I,C,dl,J,fun e=>absurd e c⟩
theorem gD{v lo o:Int}{z:Nat}(I:lo<=v)(C:v<=o)(d:(2:Int)^z∣v):In v (settled lo o z):=by
 unfold settled
 split
 .have e:v=lo:=by lia
  subst e;exact In_single v
 .exact⟨I,C,d⟩
theorem Le{z:Nat}(o:z<=32):Sv (all z):=by
 have C:=pp z;have I:=L6 o;refine⟨OX _,?_,?_,o,⟨0,by show(0:Int)=_;lia⟩,Pg (IM o) (R6 _),fun e=> ?_⟩
 .show(0:Int)<=4294967296 - 2^z;lia
 .show(4294967296:Int) - 2^z<_;lia
 .have e':(0:Int)=4294967296 - 2^z:=e;show z=Zn 0
  rw[Zn_zero];exact Nv o (by lia)
theorem xz{z:Nat}{a b:Int}(C:(2:Int)^z∣a)(o:(2:Int)^z∣b)(h:a<b):a<=b - 2^z:=by
 have:=Int.le_of_dvd (show 0<b - a by lia) (Pg o C)
 lia
theorem we{z:Nat}{a b:Int}(C:(2:Int)^z∣a)(h:a<=b):a<=b - b %2^z:=by
 obtain⟨k,rfl⟩:=C;have o:=Qg (pp z) h;rw[QO _ (by have:=pp z;lia)] at o
 have J:=Int.mul_le_mul_of_nonneg_left o (Ph (pp z));have I:=Rc b (2^z)
 lia
theorem D3(z:Nat)(b:Int):(2:Int)^z∣b - b %2^z:=by
 have o:=Rc b (2^z);exact⟨b / 2^z,by lia⟩
theorem LR{x:Int}{z:Nat}(o:z<=32)(d:(2:Int)^z∣x):In (x %4294967296) (all z):=by
 have C:(2:Int)^z∣x %4294967296:=by
  rw[Int.emod_def];exact Pg d (Po (IM o) (Qa _ _))
 refine⟨by show(0:Int)<=_;lia,?_,C⟩
 exact xz C (IM o) (by lia)
theorem wk{lo o:Int}{z:Nat}(J:lo<=o)(C:z<=32)(dl:(2:Int)^z∣lo)(I:(2:Int)^z∣o):Sv (kept lo o z):=by
 unfold kept
 split
 .exact Le C
 .exact gk (by lia) J (by lia) C dl I
theorem wj{x lo o:Int}{z:Nat}(C:z<=32)(J:lo<=x)(I:x<=o)(d:(2:Int)^z∣x):In (x %4294967296) (kept lo o z):=by
 unfold kept
 split
 .exact LR C d
 .rw[PH (by lia) (by lia)]
  exact gD J I d
section
variable {l r : Span} {v w : Int} (hl : Sv l) (hr : Sv r) (iv : In v l) (iw : In w r)
include hl
theorem Lj(hr:Sv r):Sv (addS l r):=
 wk (by have:=hl.lh;have:=hr.lh;lia) (by have:=hl.zz;lia) (Pj (cN hl.dl) (cR hr.dl)) (Pj (cN hl.dh) (cR hr.dh))
theorem La(hr:Sv r):Sv (subS l r):=
 wk (by have:=hl.lh;have:=hr.lh;lia) (by have:=hl.zz;lia) (Pg (cN hl.dl) (cR hr.dh)) (Pg (cN hl.dh) (cR hr.dl))
theorem Sv_more(n:Int):Sv (moreS l n):=
 wk (by have:=hl.lh;lia) (by have:=hl.zz;lia) (Pj (cN hl.dl) (cR (pz n))) (Pj (cN hl.dh) (cR (pz n)))
include iv
theorem K8(iw:In w r):In ((v+w) %4294967296) (addS l r):=
 wj (by have:=hl.zz;lia) (by have:=iv.lo;have:=iw.lo;lia) (by have:=iv.hi;have:=iw.hi;lia) (Pj (cN iv.dv) (cR iw.dv))
theorem Ll(iw:In w r):In ((v - w) %4294967296) (subS l r):=
 wj (by have:=hl.zz;lia) (by have:=iv.lo;have:=iw.hi;lia) (by have:=iv.hi;have:=iw.lo;lia) (Pg (cN iv.dv) (cR iw.dv))
theorem In_more(n:Int):In ((v+n) %4294967296) (moreS l n):=
 wj (by have:=hl.zz;lia) (by have:=iv.lo;lia) (by have:=iv.hi;lia) (Pj (cN iv.dv) (cR (pz n)))
end
theorem Eg{v w:Int}(o:0<=v)(hw:0<=w):0<=Builtin.bitAnd v w/\Builtin.bitAnd v w<=v/\Builtin.bitAnd v w<=w:=by
 rw[bitAnd_pp o hw];have C:= @Nat.and_le_left v.toNat w.toNat;have I:= @Nat.and_le_right v.toNat w.toNat
 lia
theorem uP{v w:Int}{z:Nat}(o:0<=v)(hw:0<=w)(d:(2:Int)^z∣v):(2:Int)^z∣Builtin.bitAnd v w:=by
 rw[bitAnd_pp o hw];have J:v.toNat %2^z=0:=by
  have:(2:Int)^z∣(v.toNat:Int):=by rw[Int.toNat_of_nonneg o];exact d
  have U:((2^z:Nat):Int)∣(v.toNat:Int):=by push_cast;exact this
  exact Nat.mod_eq_zero_of_dvd (Int.ofNat_dvd.mp U)
 have I:(v.toNat &&& w.toNat) %2^z=0:=by rw[Nat.and_mod_two_pow,J,Nat.zero_and]
 have C:=Int.ofNat_dvd.mpr (Nat.dvd_of_mod_eq_zero I)
 push_cast at C ⊢
 exact C
theorem Gw{v w:Int}{z:Nat}(o:0<=v)(hw:0<=w)(d:(2:Int)^z∣w):(2:Int)^z∣Builtin.bitAnd v w:=by
 rw[bitAnd_comm];exact uP hw o d
theorem CA{v w:Int}{a b:Nat}(o:0<=v)(hw:0<=w)(d:(2:Int)^a∣v)(e:(2:Int)^b∣w):(2:Int)^max a b∣Builtin.bitAnd v w:=by
 rcases R7 a b with c | c
 .rw[Nat.max_eq_right c];exact Gw o hw e
 .rw[Nat.max_eq_left c];exact uP o hw d
theorem KB{v w:Int}{j:Nat}(o:0<=v)(hw:0<=w)(I:v<2^j)(U:w<2^j):v+w - Builtin.bitAnd v w<2^j:=by
 rw[bitAnd_pp o hw];have e:((2^j:Nat):Int)=2^j:=by push_cast;rfl
 have C:= @Nat.or_lt_two_pow v.toNat w.toNat j (by lia) (by lia)
 have J:=nat_or_add_and v.toNat w.toNat
 lia
theorem yl(x y:Int):Builtin.bitXor x y=x+y - 2*Builtin.bitAnd x y:=by
 unfold Builtin.bitXor;rw[bitOr_and]
 lia
theorem DI(o C:Int)(a1:o<4294967296)(a2:C<4294967296):∀(k j:Nat),j+k>=32->j<=32->j<=jst o C k j/\jst o C k j<=32/\o<2^jst o C k j/\C<2^jst o C k j
 | 0,j,hk,hj=>by
  have:j=32:=by lia
  subst this;exact⟨NW _,NW _,by show o<2^32;rw[p32];exact a1,by show C<2^32;rw[p32];exact a2⟩
 | k+1,j,hk,hj=>by
  unfold jst
  split
  .rename_i c
   have J:j<32:=by
    rcases PQ j 32 with x | x
    .exact x
    .have:j=32:=by lia
     subst this;rw[p32] at c
     lia
   obtain⟨b,I,a,U⟩:=DI o C a1 a2 k (j+1) (by lia) (by lia)
   exact⟨by lia,I,a,U⟩
  .exact⟨NW _,hj,by lia,by lia⟩
theorem E3{o C:Int}{z:Nat}(a1:o<4294967296)(a2:C<4294967296)(I:z<=32):z<=jf o C z/\jf o C z<=32/\o<2^jf o C z/\C<2^jf o C z:=
 DI o C a1 a2 33 z (by lia) I
section
variable {l r : Span} {v w : Int} (hl : Sv l) (hr : Sv r)
include hl hr
theorem LW:Sv (andS l r):=by
 have U:=hl.l0;have c:=hl.lh;have I:=hr.l0;have b:=hr.lh;have J:=hl.hW;have d:=hl.zz;have C:=hr.zz;have o:=O6 (min l.hi r.hi) (show(2:Int)^max l.z r.z≠0 by have:=pp (max l.z r.z);lia)
 refine gk (OX _) ?_ ?_ (by lia) ⟨0,by lia⟩ (D3 _ _)
 .exact we (z:=max l.z r.z) (a:=0) ⟨0,by lia⟩ (by lia)
 .lia
theorem LY(C:In v l)(o:In w r):In (Builtin.bitAnd v w) (andS l r):=by
 have I:=C.nn hl;have hw:=o.nn hr;obtain⟨a0,a1,a2⟩:=Eg I hw;have d:=CA I hw C.dv o.dv;have:=C.hi;have:=o.hi;exact gD a0 (we d (by lia)) d
theorem KE{lo:Int}(U:0<=lo)(hd:(2:Int)^min l.z r.z∣lo)(I:lo<=l.hi\/lo<=r.hi):Sv (orS l r lo):=by
 have C:min l.z r.z<=32:=by have:=hl.zz;lia
 obtain⟨o,J,d,b⟩:=E3 hl.hW hr.hW C;have c:=pp (min l.z r.z);have a:=L6 J;exact gk U (xz hd (pdvd o) (by lia)) (by lia) C hd (Pg (pdvd o) (R6 _))
theorem Ku{x lo:Int}(C:In v l)(o:In w r)(b:lo<=x)(c:x<=v+w - Builtin.bitAnd v w)(hd:(2:Int)^min l.z r.z∣x):In x (orS l r lo):=by
 have a:min l.z r.z<=32:=by have:=hl.zz;lia
 obtain⟨U,d,J,I⟩:=E3 hl.hW hr.hW a;have e:=KB (C.nn hl) (o.nn hr) (Int.lt_of_le_of_lt C.hi J) (Int.lt_of_le_of_lt o.hi I);exact gD b (xz hd (pdvd U) (by lia)) hd
end
theorem JM(l r:Span):Sv (lessS l r):=by
 unfold lessS
 split
 .exact Sv_single (by decide) (by decide)
 .split
  .exact Sv_single (by decide) (by decide)
  .exact⟨by decide,by decide,by decide,by decide,⟨0,by decide⟩,⟨1,by decide⟩,fun h=>absurd h (by decide)⟩
theorem J7{l r:Span}{v w:Int}(C:In v l)(o:In w r):In (if v<w then 1 else 0) (lessS l r):=by
 have J:=C.lo;have a:=C.hi;have I:=o.lo;have U:=o.hi;unfold lessS
 by_cases c1:l.hi<r.lo
 .rw[NV c1,NV (by lia)];exact In_single 1
 .rw[fI c1]
  by_cases c2:r.hi<=l.lo
  .rw[NV c2,fI (by lia)];exact In_single 0
  .rw[fI c2]
   split
   .exact⟨by decide,by decide,⟨1,by decide⟩⟩
   .exact⟨by decide,by decide,⟨0,by decide⟩⟩
theorem wH{z t:Nat}{v:Int}(h:(2:Int)^z∣v):(2:Int)^min 32 (z+t)∣v*2^t:=by
 refine Po (pdvd (QU 32 (z+t))) ?_
 rw[PK];exact Int.mul_dvd_mul h (R6 _)
theorem Jf{l r:Span}(o:Sv l):Sv (leftS l r):=by
 unfold leftS
 split
 .exact wk (OH o.lh (Ph (pp _))) (Qq _ _) (wH o.dl) (wH o.dh)
 .exact Sv_whole
theorem J1{l r:Span}{v w:Int}(o:In v l)(C:In w r):In (v*2^(w %32).toNat %4294967296) (leftS l r):=by
 unfold leftS
 split
 .have h3:=C.lo;have I:=C.hi;have e:w=r.lo:=by lia
  subst e;exact wj (Qq _ _) (OH o.lo (Ph (pp _))) (OH o.hi (Ph (pp _))) (wH o.dv)
 .exact In_whole (by lia) (by lia)
theorem uI{z t:Nat}{v:Int}(h:(2:Int)^z∣v):(2:Int)^(z - t)∣v / 2^t:=by
 rcases R7 z t with c | c
 .rw[Nat.sub_eq_zero_of_le c];exact⟨v / 2^t,by rw[Q5];lia⟩
 .obtain⟨d,rfl⟩:=P6 c;obtain⟨k,rfl⟩:=h;rw[Nat.add_sub_cancel_left,PK,PV,QO _ (by have:=pp t;lia)]
  exact Qa _ _
theorem D7{v:Int}(t:Nat)(h:0<=v):v / 2^t<=v:=Int.ediv_le_self _ h
theorem Eb{v:Int}(t:Nat)(h:0<=v):0<=v / 2^t:=Int.ediv_nonneg h (Ph (pp t))
theorem Hk{l r:Span}(o:Sv l):Sv (rightS l r):=by
 have I:=o.l0;have J:=o.lh;have C:=o.hW;have U:=o.zz;unfold rightS
 split
 .have h5:=D7 (r.lo %32).toNat (show 0<=l.hi by lia)
  exact gk (Eb _ I) (Qg (pp _) J) (by lia) (by lia) (uI o.dl) (uI o.dh)
 .exact gk (OX _) (by lia) C (by lia) ⟨0,by lia⟩ ⟨l.hi,by rw[Q5];lia⟩
theorem ID{l r:Span}{v w:Int}(J:Sv l)(o:In v l)(C:In w r):In (v / 2^(w %32).toNat) (rightS l r):=by
 have I:=o.nn J;unfold rightS
 split
 .have h3:=C.lo;have U:=C.hi;have e:w=r.lo:=by lia
  subst e;exact gD (Qg (pp _) o.lo) (Qg (pp _) o.hi) (uI o.dv)
 .have:=D7 (w %32).toNat I;have:=o.hi;exact gD (Eb _ I) (by lia) ⟨_,by rw[Q5,PM]⟩
theorem Kg{z k:Nat}{v:Int}(h:(2:Int)^z∣v):(2:Int)^z∣v %2^k:=by
 rcases R7 z k with c | c
 .rw[Int.emod_def];exact Pg h (Po (pdvd c) (Qa _ _))
 .have:v %2^k=0:=Int.emod_eq_zero_of_dvd (Po (pdvd c) h);rw[this];exact⟨0,by lia⟩
structure Room (k:Nat) (base:Int):Prop where
 k20:k<=20
 b0:0<=base
 bd:(2:Int)^k∣base
 bW:base+2^k<=4294967296
theorem J2{k:Nat}{base v:Int}(R:Room k base)(I:base<=v)(J:v<base+2^k):base+v %2^k=v:=by
 obtain⟨c,e⟩:=R.bd;have o:v=(v - base)+2^k*c:=by lia
 have C:v %2^k=(v - base) %2^k:=by
  conv=>lhs;rw[o]
  rw[Int.add_mul_emod_self_left]
 rw[C,PH (by lia) (by lia)]
 lia
theorem fit_in{k:Nat}{base:Int}(v:Int):base<=base+v %2^k/\base+v %2^k<base+2^k:=by
 have o:=O6 v (show(2:Int)^k≠0 by have:=pp k;lia)
 have C:=Py v (pp k)
 lia
theorem Sv_fit{k:Nat}{base:Int}{s:Span}(R:Room k base)(h:Sv s):Sv (fitS k base s):=by
 unfold fitS
 split
 .exact h
 .have h1:=R.b0;have I:=R.bW;have U:=pp k;have b:=h.zz;have C:=D3 (min s.z (Zn base)) (2^k - 1);have c:(0:Int)<=(2^k - 1) - (2^k - 1) %2^min s.z (Zn base):=we (z:=min s.z (Zn base)) (a:=0) ⟨0,by lia⟩ (by lia)
  have J:=O6 ((2:Int)^k - 1) (show(2:Int)^min s.z (Zn base)≠0 by have:=pp (min s.z (Zn base));lia)
  have o:(2:Int)^min s.z (Zn base)∣base:=cR (pz base);have e:base+2^k - 1 - (2^k - 1) %2^min s.z (Zn base)=base+((2^k - 1) - (2^k - 1) %2^min s.z (Zn base)):=by lia
  rw[e];exact gk h1 (by lia) (by lia) (by lia) o (Pj o C)
theorem In_fit{k:Nat}{base v:Int}{s:Span}(R:Room k base)(i:In v s):In (base+v %2^k) (fitS k base s):=by
 unfold fitS
 split
 .rename_i c
  have o:=i.lo;have C:=i.hi;rw[J2 R (by lia) (by lia)]
  exact i
 .have hb:(2:Int)^min s.z (Zn base)∣base:=cR (pz base);have hm:(2:Int)^min s.z (Zn base)∣v %2^k:=Kg (cN i.dv);obtain⟨o,C⟩:=fit_in (k:=k) (base:=base) v;have I:=we hm (show v %2^k<=2^k - 1 by lia)
  exact gD o (by lia) (Pj hb hm)
theorem aim_le{m s:Nat}(h:m+s<=7)(v:Int):0<=aimV m s v/\aimV m s v<=aimV m s (2^m - 1)/\aimV m s v<1024:=by
 have I:=O6 v (show(2:Int)^m≠0 by have:=pp m;lia)
 have o:=Py v (pp m);have e:((2:Int)^m - 1) %2^m=2^m - 1:=PH (by have:=pp m;lia) (by lia)
 have C:(2:Int)^m*2^s<=128:=by rw[<- PK];exact ple h
 unfold aimV;rw[e];have hs:=pp s;refine⟨?_,?_,?_⟩
 .exact Ro (by lia) (by lia)
 .exact OH (by lia) (by lia)
 .have h3:v %2^m*8*2^s<=(2^m - 1)*8*2^s:=OH (by lia) (by lia)
  have J:((2:Int)^m - 1)*8*2^s=8*(2^m*2^s) - 8*2^s:=by
   rw[Qw (2^m - 1) 8,PV,Int.sub_mul,Int.mul_sub]
   lia
  lia
theorem aim_dvd(m s:Nat)(v:Int):(2:Int)^(s+3)∣aimV m s v:=by
 refine⟨v %2^m,?_⟩
 unfold aimV;rw[PK];show _=2^s*8*_
 simp only[PV,Qw,Int.mul_left_comm]
theorem Sv_aim{m s:Nat}(h:m+s<=7)(x:Span):Sv (aimS m s x):=by
 obtain⟨a1,a2,a3⟩:=aim_le h x.lo;obtain⟨o,C,b3⟩:=aim_le h (2^m - 1);unfold aimS
 split
 .exact Sv_single a1 (by lia)
 .exact gk (OX _) o (by lia) (by lia) ⟨0,by lia⟩ (aim_dvd _ _ _)
theorem In_aim{m s:Nat}{x:Span}{v:Int}(h:m+s<=7)(i:In v x):In (aimV m s v) (aimS m s x):=by
 obtain⟨a1,a2,a3⟩:=aim_le h v;unfold aimS
 split
 .have h1:=i.lo;have o:=i.hi;have e:v=x.lo:=by lia
  subst e;exact In_single _
 .exact gD a1 a2 (aim_dvd _ _ _)
inductive Op8 where
 | add | sub | and | or | xor | less | left | right
 deriving DecidableEq
noncomputable def jv:Op8->Int->Int->Int
 | .add,v,w=>(v+w) %4294967296
 | .sub,v,w=>(v - w) %4294967296
 | .and,v,w=>Builtin.bitAnd v w
 | .or,v,w=>Builtin.bitOr v w
 | .xor,v,w=>Builtin.bitXor v w
 | .less,v,w=>if v<w then 1 else 0
 | .left,v,w=>v*2^(w %32).toNat %4294967296
 | .right,v,w=>v / 2^(w %32).toNat
noncomputable def jS0:Op8->Span->Span->Span
 | .add,l,r=>addS l r
 | .sub,l,r=>subS l r
 | .and,l,r=>andS l r
 | .or,l,r=>orS l r (max l.lo r.lo)
 | .xor,l,r=>orS l r 0
 | .less,l,r=>lessS l r
 | .left,l,r=>leftS l r
 | .right,l,r=>rightS l r
noncomputable def jS(o:Op8)(l r:Span):Span:=
 if o≠ .add/\o≠ .sub/\l.lo=l.hi/\r.lo=r.hi then single (jv o l.lo r.lo) else jS0 o l r
theorem jv_in(o:Op8){v w:Int}(C:0<=v/\v<4294967296)(hw:0<=w/\w<4294967296):0<=jv o v w/\jv o v w<4294967296:=by
 obtain⟨a0,a1,a2⟩:=Eg C.1 hw.1;have I:=KB (j:=32) C.1 hw.1 (by rw[p32];lia) (by rw[p32];lia)
 rw[p32] at I
 cases o
 .show 0<=(v+w) %4294967296/\(v+w) %4294967296<_;lia
 .show 0<=(v - w) %4294967296/\(v - w) %4294967296<_;lia
 .show 0<=Builtin.bitAnd v w/\Builtin.bitAnd v w<_;lia
 .show 0<=Builtin.bitOr v w/\Builtin.bitOr v w<_;rw[bitOr_and];lia
 .show 0<=Builtin.bitXor v w/\Builtin.bitXor v w<_;rw[yl];lia
 .show 0<=(if v<w then(1:Int) else 0)/\(if v<w then(1:Int) else 0)<_;split <;> lia
 .show 0<=v*2^(w %32).toNat %4294967296/\v*2^(w %32).toNat %4294967296<_;lia
 .show 0<=v / 2^(w %32).toNat/\v / 2^(w %32).toNat<_
  have:=D7 (w %32).toNat C.1;have:=Eb (w %32).toNat C.1;lia
theorem Sv_j(o:Op8){l r:Span}(C:Sv l)(I:Sv r):Sv (jS o l r):=by
 have l1:=C.l0;have l2:=C.lh;have l3:=C.hW;have J:=I.l0;have a:=I.lh;have U:=I.hW;unfold jS
 split
 .obtain⟨h1,h2⟩:=jv_in o (v:=l.lo) (w:=r.lo) ⟨by lia,by lia⟩ ⟨by lia,by lia⟩
  exact Sv_single h1 h2
 .cases o
  .exact Lj C I
  .exact La C I
  .exact LW C I
  .refine KE C I (by lia) ?_ (by lia)
   rcases Int.le_total l.lo r.lo with c | c
   .rw[Int.max_eq_right c];exact cR I.dl
   .rw[Int.max_eq_left c];exact cN C.dl
  .exact KE C I (OX _) ⟨0,by lia⟩ (by lia)
  .exact JM l r
  .exact Jf C
  .exact Hk C
theorem In_j(o:Op8){l r:Span}{v w:Int}(J:Sv l)(e:Sv r)(C:In v l)(I:In w r):In (jv o v w) (jS o l r):=by
 unfold jS
 split
 .rename_i c
  have i:=C.lo;have n:=C.hi;have j:=I.lo;have p:=I.hi;have m:v=l.lo:=by lia
  have g:w=r.lo:=by lia
  subst m g;exact In_single _
 .have hv:=C.nn J;have hw:=I.nn e;obtain⟨a0,a1,a2⟩:=Eg hv hw;have i:=C.lo;have j:=I.lo;have f:=uP hv hw (cN (b:=r.z) C.dv);have U:=cN (b:=r.z) C.dv;have d:=cR (a:=l.z) I.dv
  cases o
  .exact K8 J C I
  .exact Ll J C I
  .exact LY J e C I
  .show In (Builtin.bitOr v w) _
   rw[bitOr_and];exact Ku J e C I (by lia) (OX _) (Pg (Pj U d) f)
  .show In (Builtin.bitXor v w) _
   rw[yl];exact Ku J e C I (by lia) (by lia) (Pg (Pj U d) (Po f ⟨2,by lia⟩))
  .exact J7 C I
  .exact J1 C I
  .exact ID J C I
end SpM
namespace L2
open PySem PySem.Spec PyProof.Rows PyProof PySem.SeqAt
section
variable {X : Cx}
def KA(K:Frag)(I:Bool):R2:=fun x y H Q=>∃(a b:Addr) (o C:List Int),x= .ref a/\y= .ref b/\SqT K H a (o.map V.int)/\SqT K H b (C.map V.int)/\Q (.bl (if I then !decide (o=C) else decide (o=C))) H
theorem mj(ns:List Int):shaped (.tuple (ns.map PyData.int))=true:=by
 have C:=W.depthAll_ints ns;have o:PyData.depth (.tuple (ns.map PyData.int))<=64:=by simp only[PyData.depth];lia
 show(PyData.canLay0 (.tuple (ns.map PyData.int)) && decide (PyData.depth (.tuple (ns.map PyData.int))<=64))=true
 rw[ON];exact⟨by simp only[PyData.canLay0];exact W.canLayAll0_ints ns,NY o⟩
theorem ol{h:Heap}{a:Addr}{vs:List Value}{ns:List Int}(C:h.IsTuple a vs.toArray)(I:IntsAre vs ns):Reads h (.ref a) (.tuple (ns.map PyData.int)) []:=by
 obtain⟨o,ho,J,n,hd⟩:=C;exact Reads.tuple ho J hd (by simpa using W.readsAll_of_ints I)
theorem u6(i:X.A.units+64<cLine):OpR X (compareOp .Eq) (KA X.K false):=by
 intro J s Z H x y v u Q I g d h;obtain⟨a,b,C,c,rfl,rfl,j,l,q⟩:=h
 cases g
 cases d
 obtain⟨e,r,f,_⟩:=I.tuple j;obtain⟨U,m,o,_⟩:=I.tuple l;exact eq_dataH_same (ol f (rn r)) (ol o (rn m)) (mj C) (mj c) i (by simp only[noMix];exact W.noMix_ints C c) (by simp only[PySem.Spec.same];rw[W.same_ints];exact⟨.bl _,H,I,rfl,q⟩)
theorem C_:kC X (.type "int") (fun xs H Q=>∃k,xs=[.bl k]/\Q (.int (if k then 1 else 0)) H):=by
 intro o s Z H xs C Q I r h;exact GH o s Z H xs C Q I r (Or.inr h)
def Mz(C:TI):TI:=fun Z H R=>C Z H fun J o=>az (R J o)
theorem dG{b o:Expr}{a:TI}(h:PI X b o a):PI X b o (Mz a):=by
 intro C s Z H R I hw;refine thn (h C s Z H _ I hw) fun v p i=>thn i fun u q l=> ?_
 obtain⟨U,n,d,J,f,m,g,e,j,c,r⟩:=l;exact⟨U,n,d,J,f,m,g,e,j,c,r.out⟩
end
end L2
namespace L2
open PySem PySem.Spec PyProof.Rows
section
variable {X : Cx}
structure cx (P:Program) (w:World) (K:Frag) (mg:Str->Option Value) (base:Heap) (k:Nat) (C:Addr) (m:Str) (ps:List Str) (sp:Sp):Prop where
 ex:∃(f:Addr) (fd:FuncData),Cls K C/\Ix K C m f/\jp K fd ps []/\ja P w K mg base CX0 k f fd ps sp
theorem cx.mono{P:Program}{w:World}{K:Frag}{o:Str->Option Value}{base:Heap}{j k:Nat}{C:Addr}{m:Str}{ps:List Str}{sp:Sp}(h:cx P w K o base j C m ps sp)(b:j<=k):cx P w K o base k C m ps sp:=by
 obtain⟨f,I,J,U,a,c⟩:=h.ex;exact⟨f,I,J,U,a,c.mono b⟩
theorem cD{k:Nat}{C:Addr}{m:Str}{ps:List Str}{sp:Sp}{o e:Expr}{U:List Expr}{g:TE}{t:TA}{J I:Pos}{pl:Sem Bool}(h:cx X.prog X.w X.K X.mg X.base k C m ps sp)(j:Room k X.A)(n:PE X o g)(i:PA X (e::U) t)
  (b:starEach (e::U) X.env=(false,eval e X.env)::starEach U X.env:=by rfl) (a:(backTo I (starEach U X.env)).any (·.1)=false:=by rfl)
  (p:eval (.Call (.Attribute o m J) (e::U) [] I) X.env=(do
   let d <-eval o X.env
   standAt J.atName
   let (f,first) <-holding [d] (getMethod d m pl)
   callWith I f first (backTo I (starEach (e::U) X.env)) (backToKw I (keywordEach [] X.env))):=by rfl):
  PE X (.Call (.Attribute o m J) (e::U) [] I) (Fe C m sp [] E0 g t):=by
 obtain⟨f,q,c,hm,l,F⟩:=h.ex;exact Jt (pl:=pl) n c hm F j l .nil Ak i b a p
theorem lK{k:Nat}{C:Addr}{m:Str}{ps:List Str}{sp:Sp}{o:Expr}{a:TE}{I J:Pos}{pl:Sem Bool}(h:cx X.prog X.w X.K X.mg X.base k C m ps sp)(b:Room k X.A)(e:PE X o a)
  (g:eval (.Call (.Attribute o m I) [] [] J) X.env=(do
   let U <-eval o X.env
   standAt I.atName
   let (f,first) <-holding [U] (getMethod U m pl)
   callWith J f first (backTo J (starEach [] X.env)) (backToKw J (keywordEach [] X.env))):=by rfl):
  PE X (.Call (.Attribute o m I) [] [] J) (Fe C m sp [] E0 a xG):=by
 obtain⟨f,i,c,hm,d,F⟩:=h.ex;exact HN (pl:=pl) e c hm F b d .nil Ak g
structure dW (K:Frag) (mg:Str->Option Value) (x:Str) (C:Addr):Prop where
 mg:mg x=some (.ref C)
 cl:Cls K C
 mks:W.makesIn K C=true
 kp:W.keepIn K (.ref C)=true
theorem x_{k:Nat}{C:Addr}{x:Str}{ps:List Str}{sp:Sp}{e:Expr}{I:List Expr}{t:TA}{p o:Pos}(c:dW X.K X.mg x C)(h:cx X.prog X.w X.K X.mg X.base k C "__init__" ps sp)(b:Room (k+1) X.A)(g:Gl X x)
  (a:PA X (e::I) t) (J:(x==("__debug__":Str))=false:=by decide) (i:starEach (e::I) X.env=(false,eval e X.env)::starEach I X.env:=by rfl) (U:(backTo o (starEach I X.env)).any (·.1)=false:=by rfl):
  PE X (.Call (.Name x p) (e::I) [] o) (FB C sp [] E0 t):=by
 obtain⟨f,j,_,hm,d,F⟩:=h.ex;exact JZ ⟨c.mks,hm.at_,hm.fn,c.kp⟩ F b g c.mg d .nil Ak a J i U
structure ku (K:Frag) (C:Addr) (m qual:Str) (st:Stmt) (ps:List Str):Prop where
 ex:∃(f:Addr) (fd:FuncData),Fun K m qual st f fd/\Ix K C m f/\jp K fd ps []
theorem ku.has{P:Program}{w:World}{K:Frag}{a:Str->Option Value}{base:Heap}{k:Nat}{C:Addr}{m I:Str}{st:Stmt}{N ps:List Str}{sp:Sp}(D:ku K C m I st ps)(c:Cls K C)(S:av N ps (ah st))(len:∀vs H Q E,sp vs H Q E->vs.length=ps.length)
  (U:∀(f:Addr) (J:Value) (A:Around) (o:List Env) (s:Shared) (H:Hp) (vs:List V) (Q:VK) (E:XK),Room k (A.deeper (envOfC I (ah st) s.heap.objs.size f J))->sp vs H Q E->
   ∃t,PSs (i6 CX0 P w K a base N I (ah st) f J A o s H E).nox (fH st) t/\t {nx:=fun _ b=>Q .non b,rt:=Q} (start N vs) H):cx P w K a base (k+1) C m ps sp:=by
 obtain⟨f,d,F,hm,g⟩:=D.ex;exact⟨f,d,c,hm,g,F.ok S len fun J A o s H vs Q E e h=>U f J A o s H vs Q E e h⟩
def BdM(x o:Str)(st:Stmt)(ps:List Str):Prop:=∀(kV J U:Value) (a:Option Addr) (C b:Value) (I:List Value),I.length=ps.length->
 bindArgs (W.fnOf x o (jt st) (fH st) (ah st) .none kV J U a C b) ⟨I,[]⟩=pure (ps.zip I)
theorem cK{K:Frag}{x o:Str}{st:Stmt}{ps:List Str}{C f:Addr}{U J:Option Addr}{sl:Array (Option Value)}{I kV d pm cd ct:Value}(b:BdM x o st ps)
  (a:W.findIn K (.ref C) x=some (some (.ref f))) (l:K.lookup f=some ⟨I,U,.func (W.fnOf x o (jt st) (fH st) (ah st) .none kV d pm J cd ct),sl⟩) (c:W.codeIn K cd o=true) (e:W.isFn K (.ref f)=true) (k:W.keepIn K (.ref f)=true):
  ku K C x o st ps:=by
 have F:=El (st:=st) l c k;exact⟨f,_,F,⟨a,e,k⟩,F.binds b⟩
theorem wm{K:Frag}{h:Heap}{o:Str->Option Value}{x:Str}{C:Addr}(X:K.In h)(G:h.Ns mainGlobals o)(a:W.nsIn K mainGlobals x=some (some (.ref C)))
  (pg:W.plainGet K C Str.empty=true) (hd:W.hasDictIn K C=true) (po:W.plainOver K C=true) (sa:W.findIn K (.ref C) "__setattr__"=some (some (.builtin "object.__setattr__")))
  (mk:W.makesIn K C=true) (kp:W.keepIn K (.ref C)=true):dW K o x C:=⟨SJ X G a,⟨pg,hd,po,sa⟩,mk,kp⟩
theorem tV:kC X (.type "dict") (fun xs H Q=>∃a kvs,xs=[V.ref a]/\H a=some (.dK kvs)/\∀p,H p=none->Q (.ref p) (upd H p (.dK kvs))):=by
 intro o s Z H xs d Q I r h;obtain⟨a,kvs,rfl,J,q⟩:=h;obtain⟨u,rfl,U⟩:=qM r
 cases U
 exact Hz I (.inl J) fun p c C b=>⟨.ref p,_,b,rfl,q p C⟩
def JC:V->List V->Hp->VK->Prop:=fun x I H Q=>∃a b C o,x= .ref a/\I=[.ref b]/\H a=some (.dK C)/\H b=some (.dK o)/\a≠b/\C.length+o.length<=sizeLine/\Q .non (upd H a (.dK (eC C o)))
theorem F_:MtM X "dict.update" JC:=by
 intro l s Z H x D v E Q I r y h;obtain⟨a,b,c,J,rfl,rfl,i,A,f,j,q⟩:=h
 cases r
 obtain⟨u,rfl,m⟩:=y.one
 cases m
 obtain⟨z,hd,p,C,dd⟩:=Hl I.hok i;obtain⟨z2,g,e,o,d⟩:=Hl I.hok A;refine R3 QP dd.typeIs PySem.F.entry_dict_update (PySem.F.args_dict_update_2 _ _) (meets_dict_update (bK X.prog X.w) a b f g) ⟨p,e,dd,d,by rw[<- C.length, <-o.length];exact j,fun n U _ hs=> ?_⟩
 have B:∃q,n.get? a=some q:=let ⟨q,_,_,hq,_⟩:=U;⟨q,hq⟩
 refine⟨.non,_,A0 (t':=s.toks) I (by rw[i];exact True.intro) hs B (ES ?_ hd (KV.merge o C) U),rfl,q⟩
 exact Oc (iJ J c) j
theorem Inv.view{J:List (Addr × Obj)}{Z:St}{H:Hp}{s:Shared}{a:Addr}{u U:HO}(I:Inv X J Z H s)(d:H a=some u)(new:cU X.prog X.w (upd H a U) s.heap a U)(n1:∀xs,u≠ .tup xs)(n2:∀y,u≠ .own y)(n3:∀ps,u≠ .tbl ps)
  (n4:∀o v,X.H₀ a=some (.frz o v)->u≠ .frz o v):Inv X J Z (upd H a U) s:=by
 have nn:∀b,H b=none->upd H a U b=none:=fun b C=>by
  rw[aq (fun z=>by rw[z,d] at C;cases C)];exact C
 have keep:∀b v,v≠u->H b=some v->upd H a U b=some v:=fun b v i C=>by
  rw[aq (fun z=>by rw[z,d] at C;exact i (N_ C).symm)];exact C
 refine⟨I.ok,I.os,I.bare,⟨I.base.keep,I.base.slot,fun b o e n g=>nn b (I.base.free b o e n g),I.base.there,fun b xs e=>keep b _ (fun z=>n1 xs z.symm) (I.base.tups b xs e),fun b o v e=> ?_,fun b ps e=> ?_⟩,I.loc,I.cell,nn _ I.free,fun x c e=>nn _ (I.freeC x c e),fun p f=> ?_,fun b v C=> ?_,I.len⟩
 .by_cases z:b=a
  .subst z;have:=I.base.frzs b o v e;rw[d] at this;exact absurd (N_ this) (n4 o v e)
  .rw[aq z];exact I.base.frzs b o v e
 .obtain⟨more,h⟩:=I.base.tbls b ps e;exact⟨more,keep b _ (fun z=>n3 _ z.symm) h⟩
 .obtain⟨p1,p2,p3⟩:=I.pin p f;exact⟨p1,nn _ p2,p3⟩
 .by_cases z:b=a
  .subst z;rw[ae] at C
   cases C
   exact new
  .rw[aq z] at C;exact(I.hok b v C).stay (fun c w _ e=>e) (fun c e=>keep c _ (fun z=>n2 _ z.symm) e) (fun c xs e=>keep c _ (fun z=>n1 _ z.symm) e)
theorem Inv.freeze{C:List (Addr × Obj)}{Z:St}{H:Hp}{s:Shared}{a:Addr}{kvs:List (Key × V)}(I:Inv X C Z H s)(U:H a=some (.dK kvs)):∃o,s.heap.get? a=some o/\Inv X C Z (upd H a (.frz o (.dK kvs))) s:=by
 have ok:cU X.prog X.w H s.heap a (.dK kvs):=I.hok a _ U;obtain⟨z,hd,b,J,o,d,c,ho,r⟩:=id ok;refine⟨o,ho,I.view U ⟨ho,z,hd,b,J,o,d,c,ho,r⟩ (fun _ z=>by cases z) (fun _ z=>by cases z) (fun _ z=>by cases z) (fun o v e z=>by cases z)⟩
theorem Inv.melt{C:List (Addr × Obj)}{Z:St}{H:Hp}{s:Shared}{a:Addr}{o:Obj}{kvs:List (Key × V)}(I:Inv X C Z H s)(b:H a=some (.frz o (.dK kvs)))(d:∀o v,X.H₀ a≠some (.frz o v)):Inv X C Z (upd H a (.dK kvs)) s:=by
 have ok:cU X.prog X.w H s.heap a (.frz o (.dK kvs)):=I.hok a _ b;obtain⟨ho,z,hd,c,U,i,g,f,J,r⟩:=id ok;exact I.view b ⟨z,hd,c,U,i,g,f,J,r⟩ (fun _ z=>by cases z) (fun _ z=>by cases z) (fun _ z=>by cases z) (fun o v e=>absurd e (d o v))
def MQ(X:Cx)(t:TS):TS:=fun D Z H=>t {D with nx:=fun J I=>∃a o C,I a=some (.frz o (.dK C))/\(∀o v,X.H₀ a≠some (.frz o v))/\D.nx J (upd I a (.dK C))} Z H
theorem Kl{st:Stmt}{t:TS}(h:PS X st t):PS X st (MQ X t):=by
 intro C s Z H D I hw;refine thn (h C s Z H _ I hw) fun d f q=> ?_
 cases d with
 | next=>obtain⟨c,g,e,a,o,J,U,b,q⟩:=q;exact⟨c,_,e.melt U b,q⟩
 | _=>exact q
noncomputable def Itd(a:Addr)(o:Obj)(kvs:List (Key × V)):It:=⟨fun i H=>H a=some (.frz o (.dK kvs))/\i<kvs.length,fun i H v C=>C=H/\∃k x,kvs[i]? =some (k,x)/\v=kV k,fun i H=>H a=some (.frz o (.dK kvs))/\kvs.length=i⟩
theorem uO{P:Program}{w:World}{H:Hp}{h:Heap}{a:Addr}{o:Obj}{kvs:List (Key × V)}{b:Array DictEntry}{U:Nat}(x:cU P w H h a (.frz o (.dK kvs)))(hd:o.data= .dict b U):
  (a==sysModules)=false/\∃vs,KV kvs vs/\h.DictAt (bK P w) a vs U:=by
 obtain⟨ho,z,hs,vs,J,f,e,d,C,c,I,r⟩:=x;rw[ho] at C
 cases C
 rw[hd] at I
 cases I
 exact⟨hs,vs,J,o,b,ho,c,hd,r⟩
theorem Ki{k:Key}{v:Value}(h:kE k v=true):bz (kV k) v:=by
 rcases bZ h with⟨i,t,rfl,rfl⟩|⟨x,t,rfl,rfl⟩
 .exact⟨t,rfl⟩
 .exact⟨t,rfl⟩
theorem M5{kvs:List (Key × V)}{vs:List (Key × Value)}(r:KV kvs vs):∀{i:Nat}{k:Key}{x:Value},vs[i]? =some (k,x)->∃y,kvs[i]? =some (k,y):=by
 unfold KV at r
 induction r with
 | nil=>intro i k x h;simp at h
 | @cons p q ps qs h t ih=>
  intro i k x e
  cases i with
  | zero=>
   have o:q=(k,x):=by simpa using e
   exact⟨p.2,by rw[List.getElem?_cons_zero];congr 1;rw[show k=p.1 by rw[h.1,o]]⟩
  | succ i=>
   rw[OR] at e ⊢;exact ih e
theorem GQ{P:Program}{w:World}{K:Frag}{tg:Expr}(q d:Addr)(m:d≠q)(o:Obj)(kvs:List (Key × V))(es:Array DictEntry)(j:Nat)(hd:o.data= .dict es j):Dl P w K tg (Itd d o kvs) [q] q (fun i h=>h.IsKeyIter q d i kvs.length j) where
 mem:=by simp
 obj:=fun i h st b a=>by
  have e:b=q:=by simpa using a
  subst e;obtain⟨o,e,c,d⟩:=st;exact⟨o,e,fun v z=>by rw[d] at z;cases z⟩
 keep:=fun i h p st k=>let ⟨o,e,c,d⟩:=st;⟨o,k q (by simp) o e,c,d⟩
 item:=by
  intro X B U R G i J s Z H E I n st L;subst B U R;obtain⟨f0,f1,f2,f3,f4,f5⟩:=n q (by simp)
  obtain⟨M,F⟩:=L;obtain⟨_,g,C,O⟩:=uO (I.hok d _ M) hd;have l:g.length=kvs.length:=C.length.symm;have N:s.heap.IsKeyIter q d i g.length j:=by rw[l];exact st
  refine(Walks.dictKeys (knd:=bK X.prog X.w) (I.ok.hd G) q d m g j).item i s _ _ (by rw[l];exact F) ⟨N,O⟩ fun v p r hv D u=> ?_
  obtain⟨k,x,Y,hk⟩:=hv;have W:Inv X J Z H {s with heap:=p,toks:=r}:=I.turned (fun b o a e=>u b o (by simpa using a) e) f0 f1 f3 f4 f5
  obtain⟨f,_⟩:=D;rw[l] at f;obtain⟨o2,e,S,T⟩:=id f;obtain⟨y,hy⟩:=M5 C Y;exact⟨_,rfl,Fi (s:={s with heap:=p,toks:=r}) e S T (by decide) ⟨kV k,H,W,Ki hk,⟨rfl,k,y,hy,rfl⟩,f,fun b a=>(n b a).1⟩⟩
 done:=by
  intro X B U R G i J s Z H E I n st L;subst B U R;obtain⟨f0,f1,f2,f3,f4,f5⟩:=n q (by simp)
  obtain⟨M,F⟩:=L;subst F;obtain⟨_,g,C,O⟩:=uO (I.hok d _ M) hd;have l:g.length=kvs.length:=C.length.symm;rw[<- l] at st;exact(Walks.dictKeys (knd:=bK X.prog X.w) (I.ok.hd G) q d m g j).done s _ _ ⟨st,O⟩ fun p r u=>⟨rfl,I.turned (t':=r) (fun b o a e=>u b o (by simpa using a) e) f0 f1 f3 f4 f5⟩
 self:=fun A i s Q E st h=>wpAny_pyIter_keyiter st h
def ME(J:TE):TI:=fun Z H R=>J Z H fun x I=>∃a C,x= .ref a/\I a=some (.dK C)/\∀o,R (Itd a o C) (upd I a (.frz o (.dK C)))
theorem JF{F l:Expr}{A:TE}(E:PE X l A):PI X F l (ME A):=by
 intro c s Z H R I h;refine cB (E c s Z H _ I h) fun v J x u y L K=> ?_
 obtain⟨a,C,e,D,q⟩:=K;subst e
 cases L
 obtain⟨o,ho,m⟩:=y.freeze D;have ok:cU X.prog X.w (upd u a (.frz o (.dK C))) J.heap a (.frz o (.dK C)):=m.hok a _ ae;obtain⟨j,g,hd⟩:∃j g,o.data= .dict j g:=by
  obtain⟨M,z,hs,B,d,P,n,i,U,O,p,r⟩:=id ok;rw[M] at U
  cases U
  exact⟨n,i,p⟩
 obtain⟨hs,B,d,N⟩:=uO ok hd;refine wpAny_pyIter_dict hs N ?_
 have f:a≠J.heap.objs.size:=Om (N5 ho);refine⟨J.heap.objs.size,[J.heap.objs.size],_,Itd a o C,upd u a (.frz o (.dK C)),rfl,m.kept (t':=J.toks) fun b o e=>NU _ e,GQ _ a f o C j g hd,?_,fun b G=> ?_,q o⟩
 .rw[d.length];exact⟨_,Ol _ rfl,rfl,rfl⟩
 .have e:b=J.heap.objs.size:=by simpa using G
  subst e;exact m.fpOk (NW _) (by rw[aq (Ox f)];exact y.hok.fresh (NW _))
theorem HB{a:Addr}{o:Obj}{kvs:List (Key × V)}{g:TG}{f:TS}{D:vD}{Z:St}{H:Hp}(C:Nat->St->Hp->Prop)(n:C 0 Z H)(s:∀i Z H,i<=kvs.length->C i Z H->H a=some (.frz o (.dK kvs)))
  (hs:∀i k x Z H,kvs[i]? =some (k,x)->C i Z H->g (kV k) Z H fun U b=>f {D with nx:=C (i+1),ct:=C (i+1),bk:=D.nx} U b) (hd:∀Z H,C kvs.length Z H->D.nx Z H):
  ∃W:Nat->Nat->St->Hp->Prop,(∃m,W 0 m Z H)/\∀i m Z H,W i m Z H->
   ((Itd a o kvs).stop i H/\D.nx Z H)\/((Itd a o kvs).go i H/\∃N:St->Hp->Prop,(∀c I,N c I->∃d,d<m/\W (i+1) d c I)/\∀x I,(Itd a o kvs).yld i H x I->g x Z I fun U b=>f {D with nx:=N,ct:=N,bk:=D.nx} U b):=by
 refine⟨fun i m Z H=>m=kvs.length - i/\i<=kvs.length/\C i Z H,⟨kvs.length,by simp,Ou _,n⟩,?_⟩
 rintro i m Z H ⟨rfl,u,p⟩
 have q:=s i Z H u p
 by_cases J:i<kvs.length
 .refine .inr ⟨⟨q,J⟩,C (i+1),fun c I j=>⟨kvs.length - (i+1),by lia,rfl,J,j⟩,fun x I y=> ?_⟩
  obtain⟨e,k,z,l,r⟩:=y;subst e r;exact hs i k z Z _ l p
 .have e:i=kvs.length:=by lia
  subst e;exact .inl ⟨⟨q,rfl⟩,hd Z H p⟩
def zw(kvs:List (Key × V)):Prop:=∀o∈kvs, ∃i:Int,o.2= .int i
theorem wT:∀{kvs:List (Key × V)}{k:Key}{v:V},(kvs.map (·.1)).Nodup->(k,v)∈kvs->km kvs k=some v
 | p::r,k,v,hn,hm=>by
  rw[OD,O5] at hn;rcases Od.mp hm with e | hm
  .subst e;exact oi rfl
  .rw[pq (fun e=>hn.1 (by rw[e];exact List.mem_map_of_mem (f:=(·.1)) hm))]
   exact wT hn.2 hm
theorem uM{A:Around}{s:Shared}{kvs:List (Key × V)}{kb:List (Key × Value)}(rb:KV kvs kb)(f:zw kvs)(d:(kvs.map (·.1)).Nodup):∀{l:List (Key × V)}{C:List (Key × Value)},KV l C->(∀x∈l,x∈kvs)->PySem.W.KeqHits A s kb C true:=by
 intro l C r;unfold KV at r
 induction r with
 | nil=>intro _;exact .nil
 | @cons p q ps qs h t ih=>
  intro hm;obtain⟨i,U⟩:=f p (hm p (N3 ..));have g:km kvs p.1=some p.2:=wT d (hm p (N3 ..));have ho:=rb.val p.1;rw[g,U] at ho;obtain⟨c,J⟩:=h;rw[U] at J;obtain⟨o,m⟩:=(show ∃o,q.2=Value.int i o from J)
  cases hb:valueAt kb p.1 with
  | none=>rw[hb] at ho;exact ho.elim
  | some y=>
   rw[hb] at ho;obtain⟨I,j⟩:=(show ∃o,y=Value.int i o from ho)
   have e:=PySem.W.KeqHits.hit (A:=A) (s:=s) (kb:=kb) (k:=q.1) (v:=q.2) (y:=y) (e:=true) (r:=qs) (b:=true) (by rw[<- c];exact hb) (by
    rw[m,j];have:=SeqAt.EqAt.int_int (A:=A) (s:=s) i o i I;rw[OO] at this
    exact this) (ih fun x a=>hm x (N2 _ a))
   exact e
def KJ(b:Bool):R2:=fun x y H Q=>∃(p q:Addr) (o:List (Key × V)),x= .ref p/\y= .ref q/\Rd H p (.dK o)/\Rd H q (.dK o)/\zw o/\Q (.bl b) H
theorem EZ(n:X.A.units+64<cLine):OpR X (compareOp .Eq) (KJ true):=by
 intro a s Z H x y v u Q I g c h;obtain⟨p,q,o,rfl,rfl,d,m,j,k⟩:=h
 cases g
 cases c
 obtain⟨_,e,w,U,l⟩:=nT I.hok d;obtain⟨_,i,z,J,b⟩:=nT I.hok m;have C:(o.map (·.1)).Nodup:=by rw[J.keys];obtain⟨_,_,_,_,_,_,_,_,C⟩:=b;exact C
 refine W.keq_eq (r:=true) e i l b (by lia) (fun _=>uM J j C U fun x f=>f) ?_
 rw[<- U.length, <-J.length,OO,PX];exact⟨.bl true,H,I,rfl,k⟩
theorem Ek(n:X.A.units+64<cLine):OpR X (compareOp .NotEq) (KJ false):=by
 intro a s Z H x y v u Q I g c h;obtain⟨p,q,o,rfl,rfl,d,m,j,k⟩:=h
 cases g
 cases c
 obtain⟨_,e,w,U,l⟩:=nT I.hok d;obtain⟨_,i,z,J,b⟩:=nT I.hok m;have C:(o.map (·.1)).Nodup:=by rw[J.keys];obtain⟨_,_,_,_,_,_,_,_,C⟩:=b;exact C
 refine W.keq_ne (r:=true) e i l b (by lia) (fun _=>uM J j C U fun x f=>f) ?_
 rw[<- U.length, <-J.length,OO,PX];exact⟨.bl false,H,I,rfl,k⟩
theorem de:kC X (.type "tuple") (fun xs H Q=>∃p ys,xs=[V.ref p]/\SqL X.K H p ys/\∀l,H l=none->Q (.ref l) (upd H l (.tup ys))):=by
 intro o s Z H xs J Q I r h;obtain⟨p,ys,e,C,q⟩:=h;exact iN o s Z H xs J Q I r ⟨p,ys,e,.inl ⟨C,q⟩⟩
end
end L2
namespace L2
open PySem PySem.Spec PyProof.Rows
theorem cU.there{P:Program}{w:World}{H:Hp}{h:Heap}{a:Addr}{o:HO}(x:cU P w H h a o):∃I,h.get? a=some I:=by
 cases o with
 | lst xs=>obtain⟨_,_,_,_,q⟩:=x;exact⟨_,q⟩
 | tup xs=>obtain⟨_,_,_,_,q,_⟩:=x;exact⟨_,q⟩
 | dK kvs=>obtain⟨_,_,_,_,_,_,_,q,_⟩:=x;exact⟨_,q⟩
 | dT kvs=>obtain⟨_,_,_,_,_,_,_,q,_⟩:=x;exact⟨_,q⟩
 | set S n=>obtain⟨_,_,_,_,q,_⟩:=x;exact⟨_,q⟩
 | ins C dx fs=>obtain⟨_,_,_,q,_⟩:=x;exact⟨_,q⟩
 | own y=>exact x
 | xd fs=>obtain⟨_,⟨_,_,_,q,_⟩,_⟩:=x;exact⟨_,q⟩
 | rng lo hi=>obtain⟨_,_,_,q⟩:=x;exact⟨_,q⟩
 | frz I u=>obtain⟨q,_⟩:=x;exact⟨_,q⟩
 | tbl ps=>exact⟨_,(show h.get? a=some _ from x)⟩
 | met f y=>exact⟨_,(show h.get? a=some _ from x)⟩
 | ext φ=>obtain⟨_,q,_⟩:=x;exact q
structure yX (P:Program) (w:World) (l:List Env) (H:Hp) (s:Shared) (H':Hp) (B h':Heap):Prop where
 un:Un (frs l) [] H H' s.heap h'
 hok:HOk P w H' h'
 st:B.StaysIn h'
 kb:∀b o,s.heap.get? b=some o->H b=none->b ∉ frs l->B.get? b=some o
 hb:∀a u,H' a=some u->∃o,B.get? a=some o
 ab:∀b o,s.heap.get? b=some o->b ∉ frs l->∃o',B.get? b=some o'
 nf:∀b∈frs l, ∃o,h'.get? b=some o/\∀vs,o.data≠ .fields vs
theorem yX.next{P:Program}{w:World}{l:List Env}{H f:Hp}{s:Shared}{B j g:Heap}(F:yX P w l H s f B j)(st:B.StaysIn g)(us:j.UpToSlots g):yX P w l H s f B g where
 un:=by
  refine⟨fun b o q n C _=>st _ _ (F.kb b o q n C),fun b o q n C i=> ?_,F.un.free,fun b o q i=> ?_,F.un.tups,F.un.frzs,F.un.tbls⟩
  .obtain⟨sl,e⟩:=F.un.slot b o q n C i;obtain⟨c,I,d⟩:=F.nf b C;rw[e] at I
   cases I
   obtain⟨U,J⟩:=us b _ e d;exact⟨U,J⟩
  .by_cases C:b∈frs l
   .obtain⟨c,I,d⟩:=F.nf b C;obtain⟨U,J⟩:=us b _ I d;exact⟨_,J⟩
   .obtain⟨c,I⟩:=F.ab b o q C;exact⟨c,st _ _ I⟩
 hok:=fun a u e=>(F.hok a u e).stay (fun b p C q=>by
  have:∃v,f b=some v:=by
   rcases C with rfl | C
   .exact⟨_,e⟩
   .exact⟨_,C⟩
  obtain⟨v,m⟩:=this;obtain⟨c,I⟩:=F.hb b v m;have J:=F.st _ _ I;rw[q] at J
  cases J
  exact st _ _ I) (fun _ q=>q) fun _ _ q=>q
 st:=st
 kb:=F.kb
 hb:=F.hb
 ab:=F.ab
 nf:=fun b C=>by
  obtain⟨c,I,d⟩:=F.nf b C;obtain⟨U,J⟩:=us b _ I d;exact⟨_,J,d⟩
section
variable {X : Cx} {pins : List (Addr × Obj)} {σ : St} {H H' : Hp} {s : Shared} {B h' : Heap}
theorem yX.start(I:Inv X pins Z H s)(k:∀b o,s.heap.get? b=some o->h'.get? b=some o):yX X.prog X.w X.stack H s H (W.hideAll s.heap (frs X.stack)) h' where
 un:=Un.kept k
 hok:=I.hok.kept k
 st:=fun b o q=>k _ _ (RQ _ q)
 kb:=fun b o q _ C=>QL _ q C
 hb:=fun a u e=>by
  obtain⟨o,q⟩:=(I.hok a u e).there;refine⟨o,QL _ q fun z=> ?_⟩
  rw[I.stkFree a z] at e
  cases e
 ab:=fun b o q C=>⟨o,QL _ q C⟩
 nf:=fun b C=>by
  obtain⟨_,o,ho,d⟩:=I.stack.mem C;exact⟨o,k _ _ ho,d⟩
theorem yX.pop(F:yX X.prog X.w X.stack H s H' B h')(I:Inv X pins Z H s)(hs:X.stack=X.env::X.outer)(a:X.ex=[]):yX X.prog X.w X.outer X.H₀ X.s₀ H' B h':=by
 have J:Inv X pins Z H' {s with heap:=h',gens:=s.gens,drawn:=s.drawn,toks:=s.toks}:=I.call (ch:=[]) F.un F.hok I.bare (fun b z=>absurd z (by simp))
 have U:∀b:Addr,b ∉ X.ex:=fun b z=>by rw[a] at z;exact absurd z (by simp)
 have c:∀b o,X.s₀.heap.get? b=some o->b ∉ frs X.outer->b ∉ frs X.stack:=fun b o q C z=>by
  rcases Od.mp (I.stkSub b z) with e | e
  .have h1:=N5 q;have g:=I.ok.above;rw[e] at h1;exact absurd (N8 h1 g) (O9 _)
  .exact C e
 refine⟨?_,F.hok,F.st,fun b o q n C=> ?_,F.hb,fun b o q C=> ?_,fun b C=> ?_⟩
 .have u:=J.base;rw[a] at u;exact u
 .exact F.kb b o (I.base.keep b o q n C (U b)) (I.base.free b o q n (U b)) (c b o q C)
 .obtain⟨o2,e2⟩:=I.base.there b o q (U b);exact F.ab b o2 e2 (c b o q C)
 .refine F.nf b ?_
  rw[hs];obtain⟨e,f,d⟩:=Px.mp C;exact Px.mpr ⟨e,N2 _ f,d⟩
end
def CXL(P:Program)(w:World):CXT:=fun o H s E e I=>
 ∃x C J B a0,e=Value.ref x/\I.os=s.os/\AllBare I.gens/\yX P w o H s J B I.heap/\Heap.FlyingW B o x C a0 I.heap/\E C none J
abbrev vbm:List Value:=[.type "ValueError",.type "Exception",.type "BaseException",.type "object"]
structure F3 (K:Frag) (C:Addr):Prop where
 ex:W.excIn K C vbm "ValueError.__new__"=true
theorem F3.obj{K:Frag}{C:Addr}{h:Heap}(c:F3 K C)(X:K.In h):∃bm N nm q bs hdct sn sub ab col dd k0 k1 k2 k3 k5 mN,
  h.get? C=some (excClassObj nm q C N bs bm hdct sn sub ab col dd k0 k1 k2 k3 k5 "ValueError.__new__")/\h.Ns N mN/\mN "__init__"=none/\OwnTail h vbm bm:=by
 have q:=c.ex;unfold W.excIn at q
 split at q
 case h_2=>cases q
 case h_1 dd cd sl ho=>
  split at q
  case h_2=>cases q
  case h_1 C' bm k0 k1 k2 k3 n k5 hm hs=>
   rw[ON,ON,ON,ON,ON] at q;obtain⟨⟨⟨⟨⟨m,g⟩,b⟩,j⟩,I⟩,i⟩:=q;have p:=P4.mp m;have a:=P4.mp g;have d:=P4.mp i;subst p a;obtain⟨nm,bs,o,U,f,hd,sn,sub,ab,col,del⟩:=cd;have e:del=false:=by simpa using b
   have l:o= .ref C'::bm:=hm;subst e l;have J:sl= #[k0,k1,k2,k3,some (.builtin "ValueError.__new__"),k5]:=by
    apply Array.ext'
    exact hs
   subst J;exact⟨bm,U,nm,f,bs,hd,sn,sub,ab,col,dd,k0,k1,k2,k3,k5,_,X _ _ ho,Heap.Ns.of_isNs (W.isNs_of_in X I),W.nsMap_none_of_in X I d,W.tail_of_in X j⟩
section
variable {P : Program} {w : World} {K : Frag} {mg : Str → Option Value} {base : Heap} {N : List Str} {qual : Str} {scope : Scope} {f : Addr} {cd : Value} {A : Around} {outer : List Env} {s₀ : Shared} {H₀ : Hp} {E : XK}
def K_(E:XK)(C:Addr):TS:=fun _ _ H=>E (.ref C) none H
theorem Gg{x:Str}{C:Addr}{M g n:Pos}(c:F3 K C)(Q:Gl (i6 (CXL P w) P w K mg base N qual scope f cd A outer s₀ H₀ E) x)(hm:mg x=some (.ref C))(l:(x==("__debug__":Str))=false:=by decide):
  PS (i6 (CXL P w) P w K mg base N qual scope f cd A outer s₀ H₀ E) (.Raise (some (.Call (.Name x M) [] [] g)) none n) (K_ E C):=by
 intro u s Z H D I h;obtain⟨bm,S,r,q,bs,J,p,U,v,d,dd,k0,k1,k2,k3,k5,z,L,X,i,T⟩:=c.obj I.kIn;refine wpAny_Raise_call_subT (C:=C) (nm:=r) (q:=q) (N:=S) (bs:=bs) (bm:=bm) (hdct:=J) (sn:=p) (sub:=U) (ab:=v) (col:=d) (dd:=dd) (k0:=k0) (k1:=k1) (k2:=k2) (k3:=k3) (k5:=k5)
  F.excBase_ValueError (mN:=z) (T.hasType rfl) (I.ok.hd rfl) rfl i (mr I Q hm ⟨rfl,evalArgs_empty ⟨rfl,Ou _,L,X,T,fun Y e m=> ?_⟩⟩ l)
 have G:=yX.start I m.keeps;refine wpAny_leaves_madeW (base:=W.hideAll s.heap (frs (envOfC qual scope s₀.heap.objs.size f cd::outer))) (h:=s.heap) I.ok.frames rfl (fun b o q=>RQ _ q) (W.funFrames_hide I.stack fun j R a B=>Px.mpr ⟨j,R,B⟩) m fun h2 t y _ _ O=> ?_
 exact⟨e,.ref C,H,_,_,rfl,I.os,I.bare,(G.next y.1 O).pop I rfl rfl,y,h⟩
end
def KN(CX:CXT)(X:Cx)(I:St->XK):Prop:=∀(o:List (Addr × Obj)) (Z:St) (H:Hp) (s:Shared) (e:Value) (C:Shared),Inv X o Z H s->CX X.stack H s (I Z) e C->X.xe e C
section
variable {P : Program} {w : World} {K : Frag} {mg : Str → Option Value} {base : Heap} {N : List Str} {qual : Str} {scope : Scope} {f : Addr} {cd : Value} {A : Around} {outer : List Env} {s₀ : Shared} {H₀ : Hp} {E : XK}
theorem xE:KN (CXL P w) (i6 (CXL P w) P w K mg base N qual scope f cd A outer s₀ H₀ E) (fun _=>E):=by
 rintro U Z H s e i I ⟨x,J,a,B,a0,rfl,b,o,F,d,q⟩
 refine wpAny_leaves_onW I.ok.frames rfl d fun g C c=> ?_
 exact⟨x,J,a,B,a0,rfl,b.trans I.os,o,(F.next C.1 c).pop I rfl rfl,C,q⟩
end
structure vR (P:Program) (w:World) (K:Frag) (mg:Str->Option Value) (base:Heap) (k:Nat) (x:Str) (ps:List Str) (sp:Sp):Prop where
 ex:∃(f:Addr) (fd:FuncData),mg x=some (.ref f)/\W.keepIn K (.ref f)=true/\jp K fd ps []/\ja P w K mg base (CXL P w) k f fd ps sp
theorem Def.hasX{P:Program}{w:World}{K:Frag}{J:Str->Option Value}{base:Heap}{k:Nat}{x:Str}{st:Stmt}{N ps:List Str}{sp:Sp}(D:Def K J x st ps)(S:av N ps (ah st))(len:∀vs H Q E,sp vs H Q E->vs.length=ps.length)
  (I:∀(f:Addr) (C:Value) (A:Around) (o:List Env) (s:Shared) (H:Hp) (vs:List V) (Q:VK) (E:XK),Room k (A.deeper (envOfC x (ah st) s.heap.objs.size f C))->sp vs H Q E->
   ∃t,PSs (i6 (CXL P w) P w K J base N x (ah st) f C A o s H E) (fH st) t/\t {nx:=fun _ b=>Q .non b,rt:=Q} (start N vs) H):vR P w K J base (k+1) x ps sp:=by
 obtain⟨f,n,F,hm,e⟩:=D.ex;obtain⟨j,m,kV,g,i,l,C,p,a,rfl,d,U⟩:=F.ex;exact⟨f,_,hm,F.kp,e,Kp d U S len fun A o s H vs Q E c h=>I f C A o s H vs Q E c h⟩
theorem vR.mono{P:Program}{w:World}{K:Frag}{o:Str->Option Value}{base:Heap}{j k:Nat}{x:Str}{ps:List Str}{sp:Sp}(h:vR P w K o base j x ps sp)(C:j<=k):vR P w K o base k x ps sp:=by
 obtain⟨f,I,J,b,U,a⟩:=h.ex;exact⟨f,I,J,b,U,a.mono C⟩
theorem sf{X:Cx}{st:Stmt}{t:TS}(h:PS X.nox st t):PS X st t:=fun o s Z H D I hw=>
 OS (h o s Z H D (I.wish _) hw) (fun _ _ q=>q.unwish) fun _ _ z=>False.elim z
def Lf(sp:Sp)(I:St->XK)(t:TA):TE:=fun Z H Q=>t Z H fun C o=>sp C o Q (I Z)
section
variable {X : Cx}
theorem Cu{k:Nat}{x:Str}{ps:List Str}{sp:Sp}{g:St->XK}{e:Expr}{a:List Expr}{t:TA}{p C:Pos}(h:vR X.prog X.w X.K X.mg X.base k x ps sp)(E:Room k X.A)(M:Gl X x)(G:KN (CXL X.prog X.w) X g)
  (v:PA X (e::a) t) (i:(x==("__debug__":Str))=false:=by decide) (N:starEach (e::a) X.env=(false,eval e X.env)::starEach a X.env:=by rfl) (j:(backTo C (starEach a X.env)).any (·.1)=false:=by rfl):
  PE X (.Call (.Name x p) (e::a) [] C) (Lf sp g t):=by
 obtain⟨f,O,hm,B,L,F⟩:=h.ex;intro o s Z H Q I m;refine OY (mr I M hm ?_ i)
 refine QY (h₀:=X.base) I.ok.mod.kin B (cB (v C o s Z H _ I m) fun c d n l U r q=>⟨U.kIn,?_⟩) N j
 have z:(c++[]).length=ps.length:=by
  rw[Oz, <-r.length];exact F.len _ _ _ _ q
 have J:=L d c U.kIn z;rw[Oz] at J;refine wpAny_call (P8 (F.run X.A X.stack d l ⟨c,[]⟩ c n Q (g Z) E U.env0 J r q) fun D y b=> ?_)
 cases D with
 | error e=>exact G o Z l d e y U b
 | ok fl=>
  cases fl with
  | ret u=>exact U.after b
  | next=>exact False.elim b
  | brk=>exact False.elim b
  | cont=>exact False.elim b
variable {pins : List (Addr × Obj)} {σ : St} {H : Hp} {s : Shared}
end
end L2
namespace L2
open PySem PySem.Spec PyProof.Rows PyProof PySem.SeqAt
theorem BJ:∀{ns:List Int}{o:List Value},bj (ns.map V.int) o->∃ps:List (Int × Tok),o=ps.map (fun p=>Value.int p.1 p.2)/\ps.map (·.1)=ns
 | [],o,r=>by
  cases r
  exact⟨[],rfl,rfl⟩
 | n::ns,o,r=>by
  cases r with
  | cons q r=>
   obtain⟨ps,C,I⟩:=BJ r;obtain⟨t,e⟩:=q;exact⟨(n,t)::ps,by rw[e,C];rfl,by rw[<- I];rfl⟩
theorem uV(ps:List (Int × Tok)):(ps.map (fun p=>Value.int p.1 p.2)).toArray=intItems ps.toArray:=by
 simp [intItems]
section
variable {X : Cx}
theorem IC(l:X.calm=true):kC X (.builtin "sum") (fun xs H Q=>∃(p:Addr) (ns:List Int),xs=[.ref p]/\SqL X.K H p (ns.map V.int)/\(∀j,j<ns.length->InLong (ns.getD j 0)/\InLong (ns.take (j+1)).sum)/\Q (.int ns.sum) H):=by
 intro U s Z H xs z Q I r h;obtain⟨p,ns,rfl,w,b,q⟩:=h;obtain⟨u,rfl,c⟩:=qM r
 cases c
 obtain⟨d,m,g,y⟩:=I.list w;obtain⟨C,v,J⟩:=BJ m;have a:=g.isList;rw[v,uV] at a;have o:C.length=ns.length:=by rw[<- J,be]
 refine sum_intList (I.ok.hd l) a (fun j n=> ?_) fun x i f k=> ?_
 .have hj':j<ns.length:=by simpa [o] using n
  rw[numAt_eq,preSum_eq];have:=b j hj'
  simp only[J]
  exact this
 .rw[preSum_eq];have e:((C.toArray.toList.map (·.1)).take C.toArray.size).sum=ns.sum:=by
   show((C.map (·.1)).take C.length).sum=ns.sum
   rw[J,o,Oi]
  rw[e];exact⟨.int ns.sum,H,I.kept (t':=i) k,⟨_,rfl⟩,q⟩
theorem Gh(A:X.calm=true):kC X (.builtin "max") (fun xs H Q=>∃(p:Addr) (ns:List Int),xs=[.ref p]/\SqL X.K H p (ns.map V.int)/\ns≠[]/\∀m,m∈ns->(∀n∈ns,n<=m)->Q (.int m) H):=by
 intro d s Z H xs M Q I r h;obtain⟨p,ns,rfl,E,a,q⟩:=h;obtain⟨u,rfl,g⟩:=qM r
 cases g
 obtain⟨l,B,w,G⟩:=I.list E;obtain⟨o,D,b⟩:=BJ B;have e:=w.isList;rw[D,uV] at e;have C:o.length=ns.length:=by rw[<- b,be]
 have L:0<ns.length:=List.length_pos_iff.mpr a;refine max_intList (I.ok.hd A) e (by show 0<o.length;lia) fun v F x f k=> ?_
 have z:o.toArray.size=ns.length:=by show o.length=_;exact C
 rw[z] at f;obtain⟨N,c⟩:=argBest_gt (numAt o.toArray) (ns.length - 1);obtain⟨t,rfl⟩:=intItems_at f;have J:∀j,numAt o.toArray j=ns.getD j 0:=fun j=>by rw[numAt_eq];show(o.map (·.1)).getD j 0=_;rw[b]
 rw[J];rw[J] at c;generalize argBest (fun i j=>decide (numAt o.toArray i >numAt o.toArray j)) (ns.length - 1)=k0 at*
 have U:k0<ns.length:=by lia
 refine⟨.int (ns.getD k0 0),H,I.kept (t':=x) k,⟨_,rfl⟩,q _ ?_ fun n y=> ?_⟩
 .simp [List.getD,mC U]
 .obtain⟨j,hj,rfl⟩:=List.mem_iff_getElem.mp y;have:=c j (by lia)
  rw[J] at this
  simpa [List.getD,mC hj] using this
end
theorem zZ{X:Cx}{k:Nat}{C:Addr}{x:Str}{ps:List Str}{sp:Sp}{p I:Pos}(c:dW X.K X.mg x C)(h:cx X.prog X.w X.K X.mg X.base k C "__init__" ps sp)(J:Room (k+1) X.A)(a:Gl X x)
  (o:(x==("__debug__":Str))=false:=by decide):PE X (.Call (.Name x p) [] [] I) (FB C sp [] E0 xG):=by
 obtain⟨f,b,_,hm,U,F⟩:=h.ex;exact Hn ⟨c.mks,hm.at_,hm.fn,c.kp⟩ F J a c.mg U .nil Ak o
noncomputable def Ite(K : Frag)(a : Addr) : It :=
  ⟨fun i H => ∃o x, SqL K H a o ∧ o[i]? = some x,
   fun i H v C => ∃p x, H p = none ∧ v = .ref p ∧ C = upd H p (.tup [.int i, x]) ∧ ∀o, SqL K H a o → o[i]? = some x,
   fun i H => ∃o, SqL K H a o ∧ o.length = i⟩
def EAt(e it a:Addr)(i:Nat)(h:Heap):Prop:=(∃o,IsEnum h e it i o)/\h.IsListIter it a i
theorem F2{P:Program}{w:World}{K:Frag}{r:List Expr}{tk:Nat}{tp:Pos}{a e it:Addr}(g:e≠it)(p:a≠it)(S:a≠e):
  Dl P w K (.Tuple r tk tp) (Ite K a) [e,it] e (EAt e it a) where
 mem:=by simp
 obj:=fun i h st x n=>by
  obtain⟨⟨J,c⟩,m⟩:=st;have l:x=e\/x=it:=by simpa using n
  rcases l with rfl | rfl
  .exact⟨_,c,fun v q=>by cases q⟩
  .obtain⟨o,ho,G,hd⟩:=m;exact⟨o,ho,fun v q=>by rw[hd] at q;cases q⟩
 keep:=fun i h L st k=>by
  obtain⟨⟨J,c⟩,⟨o,ho,N⟩⟩:=st;exact⟨⟨J,k e (by simp) _ c⟩,⟨o,k it (by simp) _ ho,N⟩⟩
 item:=by
  intro X hP hw Y G i y s Z H E I F st R;subst hP hw Y;obtain⟨xs,x,M,e1⟩:=R;obtain⟨⟨J,c⟩,m⟩:=st;obtain⟨l1,W,pl,_⟩:=I.list M;have T:X.A.in1.handled=none:=I.ok.hd G;have O:=Draws.list (prog:=X.prog) (w:=X.w) T it a p l1.toArray;obtain⟨u1,g1,w1⟩:=W.get e1;have ab:i<l1.toArray.size:=by have:=(mF.mp g1).1;simpa using this
  have d:e<s.heap.objs.size:=N5 c;have B:it<s.heap.objs.size:=by obtain⟨o,ho,_⟩:=m;exact N5 ho
  refine wpAny_pyNext_enum_itemD O c ⟨m,pl.isList⟩ ab g (by simp [g,Ox S]) fun x' L u n ho hs hT aH kk=> ?_
  have l:u1=x':=by
   have n:l1.toArray[i]? =some x':=n;rw[Qd,g1] at n;exact N_ n
  subst l;refine⟨_,rfl,wpAny_letOwnedTupleGo_enum ho fun j D U=> ?_⟩
  have U:Heap.SameBut e L j:=U;have up:∀b o,b≠e->L.get? b=some o->j.get? b=some o:=fun b o f z=>U.extBut _ _ f z
  have kept:∀b o,b ∉ [e,it]->s.heap.get? b=some o->j.get? b=some o:=fun b o f z=>by
   have C:b≠e/\b≠it:=by simpa using f
   exact up b o C.1 (kk b o C.1 C.2 z)
  refine⟨.ref s.heap.objs.size,upd H s.heap.objs.size (.tup [.int i,x]),?_,rfl,⟨_,x,I.fresh,rfl,rfl,fun zs hz=>by rw[I.list_inj hz M];exact e1⟩,?_,fun b f=> ?_⟩
  .refine I.turnedN (t':=u+1) (ch:=[e,it]) kept F (NW _) ⟨by show 2<=sizeLine;decide,[.int i u,u1],.cons ⟨_,rfl⟩ (.cons w1 .nil),⟨_,up _ _ (Pw d) hT,rfl,_,rfl⟩⟩
  .refine⟨⟨_,by simpa using D⟩,?_⟩
   obtain⟨o,ar,N⟩:=hs.1;exact⟨o,up _ _ (Ox g) ar,N⟩
  .have h0:=(F b f).1;rw[aq]
   .exact h0
   .have C:b=e\/b=it:=by simpa using f
    rcases C with rfl | rfl
    .exact Om d
    .exact Om B
 done:=by
  intro X hP hw Y G i y s Z H E I F st R;subst hP hw Y;obtain⟨xs,M,au⟩:=R;obtain⟨⟨J,c⟩,m⟩:=st;obtain⟨l1,W,pl,_⟩:=I.list M;have T:X.A.in1.handled=none:=I.ok.hd G;have O:=Draws.list (prog:=X.prog) (w:=X.w) T it a p l1.toArray;have z1:=W.length;have hi:i=l1.toArray.size:=by simp only[N1];lia
  subst hi;refine wpAny_pyNext_enum_endD O c ⟨m,pl.isList⟩ fun L ke=>⟨rfl,I.turnedL (t':=s.toks) (ch:=[e,it]) (fun b o f z=> ?_) F⟩
  have C:b≠e/\b≠it:=by simpa using f
  exact ke _ _ C.2 z
 self:=fun A i s Q E st h=>by
  obtain⟨⟨J,c⟩,_⟩:=st;exact wpAny_pyIter_enum c h
section
variable {X : Cx}
def L9(K:Frag)(J:TA):TI:=fun Z H R=>J Z H fun I o=>∃a,I=[.ref a]/\(∃C,SqL K o a C)/\R (Ite K a) o
theorem Fn{f:Expr}{l:TA}{p U G:Pos}{c:List Expr}{y:Nat}(E:Gl X "enumerate")(hm:X.mg "enumerate"=none)(w:PA X [f] l)(hs:starEach [f] X.env=[(false,eval f X.env)]:=by rfl):
  PI X (.Tuple c y G) (.Call (.Name "enumerate" p) [f] [] U) (L9 X.K l):=by
 intro J s Z H R I h;refine Call_ (xc I E hm AX (O8 (cB (w U J s Z H _ I h) fun P g N u d F D=> ?_) (by rw[hs];rfl) (by rfl)))
 obtain⟨a,e,⟨M,x⟩,q⟩:=D;subst e;obtain⟨L,rfl,i⟩:=qM F
 cases i
 obtain⟨l1,B,j,_⟩:=d.list x;have r:a<g.heap.objs.size:=by obtain⟨o,n,z,_⟩:=j;exact N5 z
 refine call_enumerate_list j.isList fun O z1 z2 _ v=>wpAny_pyIter_enum z1 ?_
 generalize m:g.heap.objs.size=n at*;refine⟨n+1,[n+1,n],_,_,u,rfl,d.kept (t':=g.toks) v,F2 (Nat.succ_ne_self n) (Om r) (Om (Nat.lt_succ_of_lt r)),⟨⟨_,z1⟩,z2⟩,fun b A=> ?_,q⟩
 have C:n<=b:=by
  have C:b=n+1\/b=n:=by simpa using A
  unfold Addr at*
  lia
 exact d.fpOk (by rw[m];exact C) (d.hok.fresh (by rw[m];exact C))
end
theorem Cj{K:Frag}{a:Addr}{xs:List V}{g:TG}{f:TS}{D:vD}{Z:St}{H:Hp}(o:Nat->St->Hp->Prop)(l:o 0 Z H)(n:∀i Z H,o i Z H->SqL K H a xs)
  (hs:∀i x p Z H,xs[i]? =some x->o i Z H->H p=none->g (.ref p) Z (upd H p (.tup [.int i,x])) fun J U=>f {D with nx:=o (i+1),ct:=o (i+1),bk:=D.nx} J U) (hd:∀Z H,o xs.length Z H->D.nx Z H):
  ∃W:Nat->Nat->St->Hp->Prop,(∃m,W 0 m Z H)/\∀i m Z H,W i m Z H->
   ((Ite K a).stop i H/\D.nx Z H)\/((Ite K a).go i H/\∃N:St->Hp->Prop,(∀b C,N b C->∃d,d<m/\W (i+1) d b C)/\∀x C,(Ite K a).yld i H x C->g x Z C fun J U=>f {D with nx:=N,ct:=N,bk:=D.nx} J U):=by
 refine⟨fun i m Z H=>m=xs.length - i/\i<=xs.length/\o i Z H,⟨_,rfl,Ou _,l⟩,?_⟩
 rintro i m Z H ⟨rfl,q,p⟩
 have c:=n i Z H p
 by_cases I:i<xs.length
 .refine .inr ⟨⟨xs,xs[i],c,by simp [I]⟩,o (i+1),fun b C j=>⟨_,?_,rfl,I,j⟩,fun v C y=> ?_⟩
  .lia
  .obtain⟨r,x,hr,rfl,rfl,e1⟩:=y;exact hs i x r Z H (e1 xs c) p hr
 .have e:i=xs.length:=by lia
  refine .inl ⟨⟨xs,c,e.symm⟩,?_⟩
  subst e;exact hd Z H p
open PySem PySem.Spec PyProof.Rows PyProof PySem.SeqAt
def MU(kvs:List (Key × V)):Prop:=∀o∈kvs, ∃i:Int,o.1= .inl i
theorem DJ{P P':Program}{w w':World}{h:Heap}{a:Addr}{vs:List (Key × Value)}(A:∀C∈vs, ∃i:Int,C.1= .inl i)(d:h.DictOf (bK P w) a vs):h.DictOf (bK P' w') a vs:=by
 obtain⟨o,r,y,f,g,z,D,u,v⟩:=d;have c:∀{l:List DictEntry}{m:List (Key × Value)},Pairs (bK P w) l m->(∀C∈m, ∃i:Int,C.1= .inl i)->Pairs (bK P' w') l m/\∀e∈l, ∃i:Int,kE (.inl i) e.key=true:=by
  intro l m q
  induction q with
  | nil=>intro _;exact⟨.nil,fun e U=>nomatch U⟩
  | @cons e C r kvs q1 q2 q3 ih=>
   intro hm;obtain⟨i,n⟩:=hm C (.head _);obtain⟨f,g⟩:=ih fun x I=>hm x (.tail _ I)
   refine⟨.cons q1 q2 f,fun x I=> ?_⟩
   rcases Od.mp I with rfl | I
   .exact⟨i,by rw[<- n];exact q1⟩
   .exact g x I
 obtain⟨k1,k2⟩:=c u A;refine⟨o,r,y,f,g,z,fun e U=> ?_,k1,v⟩
 obtain⟨k,J,b⟩:=D e U;obtain⟨i,n⟩:=k2 e (Array.mem_toList_iff.mpr U);obtain⟨B,t,s,p⟩|⟨x,t,s,p⟩:=bZ J
 .subst s;exact⟨.inl B,J,b⟩
 .obtain⟨j,t2,e3,e4⟩|⟨_,_,e3,_⟩:=bZ n
  .rw[p] at e4;cases e4
  .cases e3
theorem Fc{kvs:List (Key × V)}{vs:List (Key × Value)}(r:KV kvs vs)(h:MU kvs):∀C∈vs, ∃i:Int,C.1= .inl i:=by
 unfold KV at r
 induction r with
 | nil=>intro C o;exact nomatch o
 | @cons p q ps qs hq t ih=>
  intro C o;rcases Od.mp o with rfl | o
  .obtain⟨i,hi⟩:=h p (.head _);exact⟨i,by rw[<- hq.1];exact hi⟩
  .exact ih (fun x I=>h x (.tail _ I)) C o
inductive qG (K:Frag) (H:Hp):Nat->V->V->Prop where
 | int {n:Nat}(i:Int):qG K H n (.int i) (.int i)
 | str {n:Nat}(x:Str):qG K H n (.str x) (.str x)
 | tup {n:Nat}{a b:Addr}{xs ys:List V}:SqT K H a xs->SqT K H b ys->xs.length=ys.length->(∀(j:Nat) (x y:V),xs[j]? =some x->ys[j]? =some y->qG K H n x y)->qG K H (n+1) (.ref a) (.ref b)
 | lst {n:Nat}{a b:Addr}{xs ys:List V}:SqL K H a xs->SqL K H b ys->xs.length=ys.length->(∀(j:Nat) (x y:V),xs[j]? =some x->ys[j]? =some y->qG K H n x y)->qG K H (n+1) (.ref a) (.ref b)
 | dct {n:Nat}{p q:Addr}{kvs:List (Key × V)}:Rd H p (.dK kvs)->Rd H q (.dK kvs)->zw kvs->MU kvs->qG K H (n+1) (.ref p) (.ref q)
theorem pZ:∀n:Nat,(List.range n).all (fun _=>true)=true:=fun n=>by rw[List.all_eq_true];intro _ _;rfl
section
variable {X : Cx} {pins : List (Addr × Obj)} {σ : St} {H : Hp} {s : Shared}
theorem oo{xs ys:List V}{us vs:List Value}{R:V->V->Prop}{E:Value->Value->Prop}(U:bj xs us)(J:bj ys vs)(l:xs.length=ys.length)(h:∀(j:Nat) (x y:V),xs[j]? =some x->ys[j]? =some y->R x y)
  (t:∀x y u v,R x y->bz x u->bz y v->E u v):∀(j:Nat) (o:j<us.toArray.size) (d:j<vs.toArray.size),E us.toArray[j] vs.toArray[j]:=by
 intro j o d;have l1:=U.length;have l2:=J.length;have C:j<xs.length:=by simpa [l1] using o
 have I:j<ys.length:=by lia
 obtain⟨u,a,b⟩:=U.get (i:=j) (x:=xs[j]) (mC C);obtain⟨v,g,e⟩:=J.get (i:=j) (x:=ys[j]) (mC I);have f:us.toArray[j]=u:=by
  have:=(mF.mp a).2
  simpa using this
 have c:vs.toArray[j]=v:=by
  have:=(mF.mp g).2
  simpa using this
 rw[f,c];exact t _ _ _ _ (h j _ _ (mC C) (mC I)) b e
theorem qG.eqAt(I:Inv X pins Z H s){n:Nat}{x y:V}(h:qG X.K H n x y):∀{A:Around}{u v:Value},A.units+n<cLine->bz x u->bz y v->EqAt A s u v true:=by
 induction h with
 | int i=>
  rintro A u v g ⟨t,rfl⟩ ⟨m,rfl⟩
  have:=EqAt.int_int (A:=A) (s:=s) i t i m
  rwa [OO] at this
 | str x=>
  rintro A u v g ⟨t,rfl⟩ ⟨m,rfl⟩
  have:=EqAt.str_str (A:=A) (s:=s) x t x m
  rwa [OO] at this
 | @tup n a b xs ys U c hl _ ih=>
  intro A u v g o C
  cases o
  cases C
  by_cases e:a=b
  .subst e;exact Qy _
  obtain⟨N,f,D,_⟩:=I.tuple U;obtain⟨B,d,G,_⟩:=I.tuple c;refine Qx e ?_
  have:=RcAt.tuples (A:=A) (e:=fun _=>true) D G (by lia) (oo (E:=fun u v=>EqAt A.in1 s u v true) f d hl (fun j x y U c=>(⟨j,U,c⟩:∃j,xs[j]? =some x/\ys[j]? =some y)) fun x y u v ⟨j,O,L⟩ o C=>ih j x y O L (by show A.units+1+n<cLine;lia) o C)
  have z:N.toArray.size=B.toArray.size:=by simp only[N1];rw[<- f.length, <-d.length];exact hl
  rw[pZ,PX,z,OO] at this;exact this
 | @lst n a b xs ys U c hl _ ih=>
  intro A u v g o C
  cases o
  cases C
  by_cases e:a=b
  .subst e;exact Qy _
  obtain⟨N,f,D,_⟩:=I.list U;obtain⟨B,d,G,_⟩:=I.list c;refine Qx e ?_
  have z:N.toArray.size=B.toArray.size:=by simp only[N1];rw[<- f.length, <-d.length];exact hl
  have:=RcAt.lists (A:=A) (e:=fun _=>true) D.isList G.isList z (by lia) (oo (E:=fun u v=>EqAt A.in1 s u v true) f d hl (fun j x y U c=>(⟨j,U,c⟩:∃j,xs[j]? =some x/\ys[j]? =some y)) fun x y u v ⟨j,O,L⟩ o C=>ih j x y O L (by show A.units+1+n<cLine;lia) o C)
  rw[pZ] at this;exact this
 | @dct n p q kvs hp hq hi hk=>
  intro A u v g o C
  cases o
  cases C
  by_cases e:p=q
  .subst e;exact Qy _
  obtain⟨_,R,ka,F,Y⟩:=nT I.hok hp;obtain⟨_,T,kb,l,P⟩:=nT I.hok hq;have M:(kvs.map (·.1)).Nodup:=by rw[l.keys];obtain⟨_,_,_,_,_,_,_,_,M⟩:=P;exact M
  refine Qx e fun J w E Q h=> ?_
  refine W.keq_eq (r:=true) R T (DJ (P':=J) (w':=w) (Fc F hk) Y) (DJ (P':=J) (w':=w) (Fc l hk) P) (by lia) (fun _=>uM l hi M F fun x S=>S) ?_
  rw[<- F.length, <-l.length,OO,PX];exact h
end
open PySem PySem.Spec PyProof.Rows PyProof PySem.SeqAt
section
variable {prog : Program} {w : World} {A : Around} {E : Value → Shared → Prop} {s : Shared}
theorem tD{t sl:Addr}{o:Array Value}{d c:Value}{lo J:Option Int}{Q:Value->Shared->Prop}(C:IsTup s.heap t o)(hs:s.heap.IsSliceOf sl d c .none)(pl:IsPart d lo)(e:IsPart c J)
  (hw:HT.sIx o.size 0 lo=0/\HT.sIx o.size o.size J=o.size) (h:Q (.ref t) s):wpAny (model prog w) A (getItem (.ref t) (.ref sl)) Q E s:=by
 obtain⟨f,b,U,g⟩:=id hs;have a:s.TypeIs (.ref sl) "slice":=⟨f,b,U⟩;unfold getItem
 try with_reducible refine Qh ?_
 first | refine gV (Ob ?_) | skip
 refine gV (wpAny_sequenceKey C.typeIs (by decide) ?_)
 refine gV (OQ (name:=Str.ofString "__getitem__") C.typeIs OF
  (Pr OF C.typeIs entry_tuple_getitem ?_ (args_tuple_getitem _ _)))
 show wpAny _ _ (Builtin.Tuple.tupleItemsOf (.ref t) >>= _) _ _ s
 refine gV (tupleItemsOf_ C ?_)
 refine gV (RX a ?_)
 rw[NV (by decide)]
 refine gV (HT.sliceApplied_gen hs pl e ?_)
 have I:(((HT.sIx o.size 0 lo:Nat):Int)==0 && (1:Int)==1 && (HT.sIx o.size o.size J - HT.sIx o.size 0 lo)==o.size)=true:=by
  rw[hw.1,hw.2]
  simp
 show wpAny _ _ (if (((HT.sIx o.size 0 lo:Nat):Int)==0 && (1:Int)==1 && (HT.sIx o.size o.size J - HT.sIx o.size 0 lo)==o.size)=true then _ else _) _ _ s
 rw[NV I];refine gV ?_
 unfold Builtin.Tuple.tupleIsExact;refine gV (RX C.typeIs (Ob ?_))
 rw[NV (by decide)]
 exact gV (RL (Ob ⟨_,rfl,Ob h⟩))
end
def Ma(K:Frag):V->Option Int->Option Int->Hp->VK->Prop:=fun x J I H Q=>∃a C,x= .ref a/\SqT K H a C/\∀t o,aA H o->SqT K o t (gw C J I)->Q (.ref t) o
theorem Gy{xs:List V}{lo o:Option Int}(h:HT.sIx xs.length 0 lo=0/\HT.sIx xs.length xs.length o=xs.length):gw xs lo o=xs:=by
 unfold gw;rw[h.1,h.2,Rq,Q3,Oi]
theorem Jo{X:Cx}:SlR X (Ma X.K):=by
 intro C s Z H x v m j d g sl Q I e hs c f h;obtain⟨a,o,rfl,b,q⟩:=h
 by_cases hw:HT.sIx o.length 0 d=0/\HT.sIx o.length o.length g=o.length
 .cases e
  obtain⟨U,r,i,n⟩:=I.tuple b;have J:U.toArray.size=o.length:=by rw[N1];exact r.length.symm
  refine⟨"tuple",_,OF.lookup,i.typeIs,?_⟩
  refine tD i hs c f (by rw[J];exact hw) ?_
  exact⟨.ref a,_,I,rfl,q a H (aA.refl _) (by rw[Gy hw];exact b)⟩
 .exact nh C s Z H (.ref a) v m j d g sl Q I e hs c f ⟨a,o,rfl,b,hw,fun p l=>q p _ (ag l _) (SqT.of ae)⟩
open PySem PySem.Spec PyProof.Rows PyProof PySem.SeqAt
open PySem PySem.Spec PyProof.Rows PyProof PySem.SeqAt
theorem EK(l b:Addr)(o C:Array Value)(n n2:Nat)(dd I:Option Addr)(sl U:Array (Option Value))(p:o.isEmpty=true):
  Meets (Builtin.«tuple.__add__» ⟨[.ref l,.ref b],[]⟩) (fun _ R s=>s.heap.get? l=some {cls:= .type "tuple",dict:=dd,data:= .seq o n,slots:=sl}/\s.heap.get? b=some {cls:= .type "tuple",dict:=I,data:= .seq C n2,slots:=U}/\R (.ok (.ret (Value.ref b))) s):=
 .of_wp fun r u m i c J=>by
  obtain⟨f,g,d,j,q⟩:=c;obtain⟨a,e,J⟩:=J;have f2:=AutoSeq1.sub_tuple_tuple
  wp_walk using wpAny_loadPart' a,wpAny_loadPart' e
  exact⟨_,rfl,J⟩
section
variable {X : Cx}
def MM(K:Frag):R2:=fun x y H Q=>∃a b C I,x= .ref a/\y= .ref b/\SqT K H a C/\SqT K H b I/\C.length+I.length<=sizeLine/\∀t o,aA H o->SqT K o t (C++I)->Q (.ref t) o
theorem v_:OpR X (binaryOp .Add) (MM X.K):=by
 intro J s Z H x y v u Q I z m h;obtain⟨a,b,r,F,rfl,rfl,f,l,G,q⟩:=h
 by_cases w:r=[]
 .cases z
  cases m
  subst w;obtain⟨o,O,L,_⟩:=I.tuple f;obtain⟨U,R,M,_⟩:=I.tuple l;obtain⟨⟨N,dd,D,sl⟩,ho,B,n,hd⟩:=id L;obtain⟨⟨A,g,i,j⟩,C,c,n2,d⟩:=id M
  simp only at B hd c d
  subst B hd c d;have P:o=[]:=by cases O;rfl
  refine RV ⟨_,ho,rfl⟩ ⟨_,C,rfl⟩ QT RB P9 P5 (PU _ _) (EK a b o.toArray U.toArray n n2 dd g sl j (by simp [P])) ⟨ho,C,?_⟩
  exact⟨.ref b,H,I,rfl,q b H (aA.refl _) l⟩
 .refine Fl J s Z H (.ref a) (.ref b) v u Q I z m ⟨a,b,r,F,rfl,rfl,f,l,w,G,fun e=> ?_,fun _ p E=>q p _ (ag E _) (SqT.of ae)⟩
  subst e;exact q a H (aA.refl _) (by rw[Oz];exact f)
end
end L2
namespace L2
open PySem PySem.Spec PyProof.Rows PyProof PySem.SeqAt
inductive jG (K:Frag) (H:Hp):Nat->V->V->Prop where
 | base {n:Nat}{x y:V}:qG K H n x y->jG K H n x y
 | non {n:Nat}:jG K H n .non .non
 | bl {n:Nat}(b:Bool):jG K H n (.bl b) (.bl b)
 | tup {n:Nat}{a b:Addr}{xs ys:List V}:SqT K H a xs->SqT K H b ys->xs.length=ys.length->(∀(j:Nat) (x y:V),xs[j]? =some x->ys[j]? =some y->jG K H n x y)->jG K H (n+1) (.ref a) (.ref b)
 | lst {n:Nat}{a b:Addr}{xs ys:List V}:SqL K H a xs->SqL K H b ys->xs.length=ys.length->(∀(j:Nat) (x y:V),xs[j]? =some x->ys[j]? =some y->jG K H n x y)->jG K H (n+1) (.ref a) (.ref b)
section
variable {X : Cx} {pins : List (Addr × Obj)} {σ : St} {H : Hp} {s : Shared}
theorem jG.eqAt(I:Inv X pins Z H s){n:Nat}{x y:V}(h:jG X.K H n x y):∀{A:Around}{u v:Value},A.units+n<cLine->bz x u->bz y v->EqAt A s u v true:=by
 induction h with
 | base h=>exact fun c o C=>h.eqAt I c o C
 | non=>
  intro A u v c o C
  cases o
  cases C
  exact Qy _
 | bl b=>
  intro A u v c o C
  cases o
  cases C
  exact Qy _
 | @tup n a b xs ys J U hl _ ih=>
  intro A u v c o C
  cases o
  cases C
  by_cases e:a=b
  .subst e;exact Qy _
  obtain⟨p,f,i,_⟩:=I.tuple J;obtain⟨g,d,l,_⟩:=I.tuple U;refine Qx e ?_
  have:=RcAt.tuples (A:=A) (e:=fun _=>true) i l (by lia) (oo (E:=fun u v=>EqAt A.in1 s u v true) f d hl (fun j x y J U=>(⟨j,J,U⟩:∃j,xs[j]? =some x/\ys[j]? =some y)) fun x y u v ⟨j,q,m⟩ o C=>ih j x y q m (by show A.units+1+n<cLine;lia) o C)
  have z:p.toArray.size=g.toArray.size:=by simp only[N1];rw[<- f.length, <-d.length];exact hl
  rw[pZ,PX,z,OO] at this;exact this
 | @lst n a b xs ys J U hl _ ih=>
  intro A u v c o C
  cases o
  cases C
  by_cases e:a=b
  .subst e;exact Qy _
  obtain⟨p,f,i,_⟩:=I.list J;obtain⟨g,d,l,_⟩:=I.list U;refine Qx e ?_
  have z:p.toArray.size=g.toArray.size:=by simp only[N1];rw[<- f.length, <-d.length];exact hl
  have:=RcAt.lists (A:=A) (e:=fun _=>true) i.isList l.isList z (by lia) (oo (E:=fun u v=>EqAt A.in1 s u v true) f d hl (fun j x y J U=>(⟨j,J,U⟩:∃j,xs[j]? =some x/\ys[j]? =some y)) fun x y u v ⟨j,q,m⟩ o C=>ih j x y q m (by show A.units+1+n<cLine;lia) o C)
  rw[pZ] at this;exact this
def Lz(K:Frag)(r:Bool):R2:=fun x y H Q=>∃(a b:Addr) (o C:List V),x= .ref a/\y= .ref b/\SqL K H a o/\SqL K H b C/\o.length=C.length/\(∀(j:Nat) (x y:V),o[j]? =some x->C[j]? =some y->jG K H 32 x y)/\Q (.bl r) H
theorem DZ(w:X.A.units+64<cLine):OpR X (compareOp .NotEq) (Lz X.K false):=by
 intro pins s Z H x y v u Q I g U h;obtain⟨a,b,p,r,rfl,rfl,j,l,o,hs,q⟩:=h
 cases g
 cases U
 obtain⟨m,J,f,_⟩:=I.list j;obtain⟨d,C,i,_⟩:=I.list l;have z:m.toArray.size=d.toArray.size:=by simp only[N1];rw[<- J.length, <-C.length];exact o
 have:=RcNeAt.lists (A:=X.A) (e:=fun _=>true) f.isList i.isList z (by lia) (oo (E:=fun u v=>EqAt X.A.in1 s u v true) J C o (R:=jG X.K H 32) hs fun x y u v h c n=>h.eqAt I (by show X.A.units+1+32<cLine;lia) c n)
 rw[pZ] at this;exact this _ _ _ _ ⟨.bl false,H,I,rfl,q⟩
end
end L2
namespace L2
open PySem PySem.Spec PyProof.Rows
theorem vR.has{P:Program}{w:World}{K:Frag}{I:Str->Option Value}{base:Heap}{k:Nat}{x:Str}{ps:List Str}{sp sp':Sp}(h:vR P w K I base k x ps sp)(J:∀vs H Q E,sp' vs H Q E->sp vs H Q E0):Has P w K I base k x ps sp':=by
 obtain⟨f,U,a,b,d,F⟩:=h.ex;refine⟨f,U,a,b,d,fun vs H Q E q=>F.len vs H Q E0 (J _ _ _ _ q),fun A o s H C i vs Q E g l j c hs=> ?_⟩
 refine P8 (F.run A o s H C i vs Q E0 g l j c (J _ _ _ _ hs)) fun r m q=> ?_
 cases r with
 | ok fl=>cases fl <;> exact q
 | error e=>
  obtain⟨_,_,_,_,_,_,_,_,_,_,z⟩:=q;exact z
end L2
namespace L2
open PySem PySem.Spec PyProof.Rows
section
variable {P : Program} {w : World} {H H1 : Hp} {h h1 : Heap} {C e dx d : Addr} {od : Option Addr} {cls : Value} {fl : List (Str × V)} {o : HO} {fs ex : List Addr}
noncomputable def del(H:Hp)(a:Addr):Hp:=fun b=>if b=a then none else H b
end
end L2
namespace L2
open PySem PySem.Spec PyProof.Rows PyProof PySem.SeqAt
open PySem PySem.Spec PyProof.Rows PyProof PySem.SeqAt
open PySem PySem.Spec PyProof.Rows PyProof PySem.SeqAt
section
variable {X : Cx}
def Mo(K:Frag)(o:Bool):R2:=fun x y H Q=>(x= .non/\∃(b:Addr) (C:List Int),y= .ref b/\SqT K H b (C.map V.int)/\Q (.bl o) H)\/KA K o x y H Q
theorem HI(a:X.A.units+64<cLine):OpR X (compareOp .Eq) (Mo X.K false):=by
 intro o s Z H x y v u Q I U J h;rcases h with⟨rfl,b,f,rfl,d,q⟩ | h
 .cases U
  cases J
  obtain⟨c,e,C,_⟩:=I.tuple d;exact eq_dataH_same (Reads.none (h:=s.heap)) (ol C (rn e)) rfl (mj f) a (by simp only[noMix]) (by simp only[PySem.Spec.same];exact⟨.bl _,H,I,rfl,q⟩)
 .exact u6 a o s Z H x y v u Q I U J h
end
open PySem PySem.Spec PyProof.Rows PyProof PySem.SeqAt
theorem ex0{o:Type}:∀us:List o,us.length=0->us=[]
 | [],_=>rfl
theorem exS{o:Type}{n:Nat}:∀us:List o,us.length=n+1->∃a r,us=a::r/\r.length=n
 | a::r,h=>⟨a,r,rfl,Nat.succ.inj h⟩
theorem ex1{o:Type}:∀us:List o,us.length=1->∃a,us=[a]:=by
 intro us h;obtain⟨a,r,rfl,C⟩:=exS us h;exact⟨a,by rw[ex0 r C]⟩
theorem ex2{o:Type}:∀us:List o,us.length=2->∃a b,us=[a,b]:=by
 intro us h;obtain⟨a,r,rfl,C⟩:=exS us h;obtain⟨b,rfl⟩:=ex1 r C;exact⟨a,b,rfl⟩
theorem ex3{o:Type}:∀us:List o,us.length=3->∃a b c,us=[a,b,c]:=by
 intro us h;obtain⟨a,r,rfl,C⟩:=exS us h;obtain⟨b,c,rfl⟩:=ex2 r C;exact⟨a,b,c,rfl⟩
theorem ex4{o:Type}:∀us:List o,us.length=4->∃a b c d,us=[a,b,c,d]:=by
 intro us h;obtain⟨a,r,rfl,C⟩:=exS us h;obtain⟨b,c,d,rfl⟩:=ex3 r C;exact⟨a,b,c,d,rfl⟩
theorem ex5{o:Type}:∀us:List o,us.length=5->∃a b c d e,us=[a,b,c,d,e]:=by
 intro us h;obtain⟨a,r,rfl,C⟩:=exS us h;obtain⟨b,c,d,e,rfl⟩:=ex4 r C;exact⟨a,b,c,d,e,rfl⟩
theorem ex6{o:Type}:∀us:List o,us.length=6->∃a b c d e f,us=[a,b,c,d,e,f]:=by
 intro us h;obtain⟨a,r,rfl,C⟩:=exS us h;obtain⟨b,c,d,e,f,rfl⟩:=ex5 r C;exact⟨a,b,c,d,e,f,rfl⟩
open PySem PySem.Spec PyProof.Rows PyProof PySem.SeqAt
end L2
namespace L2
open PySem
theorem NF{a b:Sort _}{P:a->b->Prop}(k l)(h:P k l):∃k l,P k l:=⟨k,l,h⟩
theorem Ng{a b c:Sort _}{P:a->b->c->Prop}(k l m)(h:P k l m):∃k l m,P k l m:=⟨k,l,m,h⟩
theorem Nc{a b c d:Sort _}{P:a->b->c->d->Prop}(k l m n)(h:P k l m n):∃k l m n,P k l m n:=⟨k,l,m,n,h⟩
theorem Nq{a b c d e:Sort _}{P:a->b->c->d->e->Prop}(k l m n o)(h:P k l m n o):∃k l m n o,P k l m n o:=⟨k,l,m,n,o,h⟩
theorem NE{a b c d e f:Sort _}{P:a->b->c->d->e->f->Prop}(k l m n o p)(h:P k l m n o p):∃k l m n o p,P k l m n o p:=⟨k,l,m,n,o,p,h⟩
theorem NG{a b c d e f g:Sort _}{P:a->b->c->d->e->f->g->Prop}(k l m n o p q)(h:P k l m n o p q):∃k l m n o p q,P k l m n o p q:=⟨k,l,m,n,o,p,q,h⟩
theorem NO{a b c d e f g h:Sort _}{P:a->b->c->d->e->f->g->h->Prop}(k l m n o p q r)(h:P k l m n o p q r):∃k l m n o p q r,P k l m n o p q r:=⟨k,l,m,n,o,p,q,r,h⟩
theorem Nm{a b c d e f g h i:Sort _}{P:a->b->c->d->e->f->g->h->i->Prop}(k l m n o p q r s)(h:P k l m n o p q r s):∃k l m n o p q r s,P k l m n o p q r s:=⟨k,l,m,n,o,p,q,r,s,h⟩
theorem MR{a b c d e f g h i j:Sort _}{P:a->b->c->d->e->f->g->h->i->j->Prop}(k l m n o p q r s t)(h:P k l m n o p q r s t):∃k l m n o p q r s t,P k l m n o p q r s t:=⟨k,l,m,n,o,p,q,r,s,t,h⟩
theorem e11{a:Sort _}{A B:a->Prop}(x)(h:A x)(q:B x):∃x,A x/\B x:=⟨x,h,q⟩
theorem e22{a b:Sort _}{A C B:a->b->Prop}(x y)(h:A x y)(i:C x y)(q:B x y):∃x y,A x y/\C x y/\B x y:=⟨x,y,h,i,q⟩
theorem e44{a b c d:Sort _}{A C D E B:a->b->c->d->Prop}(x y z w)(h:A x y z w)(i:C x y z w)(j:D x y z w)(k:E x y z w)(q:B x y z w):∃x y z w,A x y z w/\C x y z w/\D x y z w/\E x y z w/\B x y z w:=⟨x,y,z,w,h,i,j,k,q⟩
theorem Lv{i:Nat}{Z:St}{H:Hp}{Q:VK}{v:V}(h:Z[i]? =some (some v))(q:Q v H):LL i Z H Q:=⟨v,h,q⟩
theorem br{A:Prop}(h:∀G:Prop,(A->G)->G):A:=h A id
@[irreducible] def Nx(X : St → Hp → Prop) : St → Hp → Prop := X
structure NxH (A X:St->Hp->Prop):Prop where
 out:∀Z H,A Z H->Nx X Z H
theorem MD{t u:TS}{D:vD}{Z:St}{H:Hp}(h:∀X:St->Hp->Prop,NxH (u D) X->t ⟨Nx X,D.rt,D.bk,D.ct⟩ Z H):Mm t u D Z H:=by
 have e:Nx (u D)=u D:=by unfold Nx;rfl
 have:=h (u D) ⟨fun _ _ h=>by rw[e];exact h⟩
 rw[e] at this;exact this
theorem NxH.st{A X:St->Hp->Prop}{Z:St}{H:Hp}(r:NxH A X)(h:A Z H):Nx X Z H:=r.out _ _ h
theorem aT{P:Program}{w:World}{K:Frag}{I:Str->Option Value}{base:Heap}{N:List Str}{q:Str}{C:Scope}{f:Addr}{cd:Value}{A:Around}{o:List Env}{s:Shared}{H:Hp}{E:XK}:(i6 CX0 P w K I base N q C f cd A o s H E).nox.K=K:=rfl
theorem Ln{P:Program}{w:World}{K:Frag}{I:Str->Option Value}{base:Heap}{N:List Str}{q:Str}{C:Scope}{f:Addr}{cd:Value}{A:Around}{o:List Env}{s:Shared}{H:Hp}{E:XK}{CX:CXT}:(i6 CX P w K I base N q C f cd A o s H E).K=K:=rfl
theorem aI{N P:List Str}{o:Scope}(h:N.Nodup/\(∀x∈P,o.names.lookup x=some .local\/o.names.lookup x=some .cell)/\∀y∈o.names,y.2≠ .free:=by decide +kernel)(a:o.kind= .function:=by rfl)(b:o.isCoroutine=false:=by rfl)(c:o.isGenerator=false:=by rfl)(d:N.take P.length=P:=by rfl):av N P o:=⟨a,b,c,h.1,d,h.2.1,h.2.2⟩
section
variable {X : Cx}
theorem psS(i:Nat){x:Str}{e:Expr}{I:TE}{C o:Pos}(c:X.N.Nodup)(b:PE X e I)(a:X.N[i]? =some x:=by rfl)(J:Loc X.env.scope x:=by first | (left;rfl) | (right;rfl))(hs:swapsWith e (some (.Name x o)) C.line X.env=pure false:=by rfl)(U:X.fn x=true\/X.env.scope.names.lookup x=some .local:=by first | exact .inl rfl | exact .inr rfl | assumption):PS X (.Assign [.Name x o] e C) (JY I (D4 i)):=LB c a J b hs U
theorem pcH{j k:Nat}{x:Str}{ps:List Str}{sp:Sp}{e:Expr}{C:List Expr}{t:TA}{p o:Pos}(h:Has X.prog X.w X.K X.mg X.base j x ps sp)(c:Room k X.A)(b:PA X (e::C) t)(U:j<=k:=by omega)(a:Gl X x:=by rfl)(J:(x==("__debug__":Str))=false:=by decide)(d:starEach (e::C) X.env=(false,eval e X.env)::starEach C X.env:=by rfl)(I:(backTo o (starEach C X.env)).any (·.1)=false:=by rfl):PE X (.Call (.Name x p) (e::C) [] o) (FQ sp [] E0 t):=IT (h.mono U) c a b J d I
theorem pX{a b:Expr}{I C:TE}{o:Pos}{r:R2}(U:IxR X r)(c:PE X a I)(J:PE X b C)(hs:E9 b:=by intro _ _;rfl):PE X (.Subscript a b o) (tOp r I C):=HP U c J hs
theorem pcE{a b:Expr}{J I:TE}{o:Pos}{C:CmpOp}{r:R2}(ho:OpR X (compareOp C) r)(c:PE X a J)(U:PE X b I)(hm:behindInMarks C b=false:=by exact EB _):PE X (.Compare a [C] [b] o) (tOp r J I):=FJ ho c U hm
theorem pcT{a b:Expr}{J I:TE}{o:Pos}{C:CmpOp}{r:R2}(ho:OpR X (compareOp C) r)(c:PE X a J)(U:PE X b I)(hm:behindInMarks C b=false:=by exact EB _):PT X (.Compare a [C] [b] o) (IV (tOp r J I)):=gR ho c U hm
theorem pa1{o:Expr}{C:TE}(I:PE X o C)(J:starEach [o] X.env=(false,eval o X.env)::starEach [] X.env:=by rfl):PA X [o] (jm C xG):=dF I dN J
theorem pa2{C o:Expr}{J I:TE}(U:PE X C J)(a:PE X o I)(c:starEach [C,o] X.env=(false,eval C X.env)::starEach [o] X.env:=by rfl)(b:starEach [o] X.env=(false,eval o X.env)::starEach [] X.env:=by rfl):PA X [C,o] (jm J (jm I xG)):=dF U (dF a dN b) c
theorem pa3{I C o:Expr}{a J U:TE}(c:PE X I a)(d:PE X C J)(f:PE X o U)(g:starEach [I,C,o] X.env=(false,eval I X.env)::starEach [C,o] X.env:=by rfl)(e:starEach [C,o] X.env=(false,eval C X.env)::starEach [o] X.env:=by rfl)(b:starEach [o] X.env=(false,eval o X.env)::starEach [] X.env:=by rfl):PA X [I,C,o] (jm a (jm J (jm U xG))):=dF c (dF d (dF f dN b) e) g
theorem pa4{J I C o:Expr}{c U a b:TE}(f:PE X J c)(i:PE X I U)(l:PE X C a)(g:PE X o b)(m:starEach [J,I,C,o] X.env=(false,eval J X.env)::starEach [I,C,o] X.env:=by rfl)(j:starEach [I,C,o] X.env=(false,eval I X.env)::starEach [C,o] X.env:=by rfl)(e:starEach [C,o] X.env=(false,eval C X.env)::starEach [o] X.env:=by rfl)(d:starEach [o] X.env=(false,eval o X.env)::starEach [] X.env:=by rfl):PA X [J,I,C,o] (jm c (jm U (jm a (jm b xG)))):=dF f (dF i (dF l (dF g dN d) e) j) m
theorem pa5{U J I C o:Expr}{b e d a c:TE}(g:PE X U b)(j:PE X J e)(l:PE X I d)(m:PE X C a)(r:PE X o c)(p:starEach [U,J,I,C,o] X.env=(false,eval U X.env)::starEach [J,I,C,o] X.env:=by rfl)(f:starEach [J,I,C,o] X.env=(false,eval J X.env)::starEach [I,C,o] X.env:=by rfl)(i:starEach [I,C,o] X.env=(false,eval I X.env)::starEach [C,o] X.env:=by rfl)(n:starEach [C,o] X.env=(false,eval C X.env)::starEach [o] X.env:=by rfl)(q:starEach [o] X.env=(false,eval o X.env)::starEach [] X.env:=by rfl):PA X [U,J,I,C,o] (jm b (jm e (jm d (jm a (jm c xG))))):=dF g (dF j (dF l (dF m (dF r dN q) n) i) f) p
end
end L2
set_option compiler.extract_closed false
namespace My
open PySem L2
local macro_rules | `(tactic| walk_at"sq") => `(tactic| first | assumption | exact ae | exact SqT.of ae | exact SqL.of ae | exact SqT.of (by assumption) | exact SqL.of (by assumption) | exact gl.sq (by assumption) | exact gl.ty (by assumption) | (apply cG; (focus assumption); walk_at"sq") | (apply Nw; (focus assumption); walk_at"sq") | (apply cy; (focus assumption); walk_at"sq") | (apply aA.tup; (focus assumption); walk_at"sq") | (apply aA.seq; (focus assumption); walk_at"sq") | (apply aA.is; (focus assumption); walk_at"sq"))
local macro_rules | `(tactic| walk_at"c") => `(tactic| first | exact rfl | assumption | exact jx | exact lP | exact jA | exact yE | exact Wk.none Wk.refl | walk_at"ty" | exact Nat.le_of_ble_eq_true rfl | decide | ((fail_if_success intro _); lia) | omega | exact And.intro (by decide) (by decide) | exact Or.inl ⟨by decide, by decide⟩ | exact Or.inr ⟨by decide, by decide⟩ | exact Or.inl ⟨by omega, by omega⟩ | exact Or.inr ⟨by omega, by omega⟩ | exact ⟨by omega, by omega, by first | decide | omega⟩ | exact ⟨by omega, by omega⟩ | walk_at"sq" | (apply Exists.intro; walk_at"sq"; done) | (apply Or.inl; walk_at"sq"; done) | (apply Or.inr; walk_at"sq"; done))
local macro_rules | `(tactic| walk_at"g") => `(tactic| first | ((with_reducible apply MD); intro _ _; walk_at"g") | (apply Lv; (focus (exact rfl)); walk_at"g") | (apply e44; (focus (walk_at"c"; done)); (focus (walk_at"c"; done)); (focus (walk_at"c"; done)); (focus (walk_at"c"; done)); walk_at"g") | (apply e22; (focus (walk_at"c"; done)); (focus (walk_at"c"; done)); walk_at"g") | (apply e11; (focus (walk_at"c"; done)); walk_at"g") | (apply MR; walk_at"g") | (apply Nm; walk_at"g") | (apply NO; walk_at"g") | (apply NG; walk_at"g") | (apply NE; walk_at"g") | (apply Nq; walk_at"g") | (apply Nc; walk_at"g") | (apply Ng; walk_at"g") | (apply NF; walk_at"g") | (apply Exists.intro; walk_at"g") | (apply And.intro; (focus (walk_at"c"; done)); walk_at"g") | (apply NxH.st; (focus assumption); walk_at"g") | skip)
local macro_rules | `(tactic| walk_at"ty") => `(tactic| first | exact TyS.int _ | exact TyS.str _ | exact TyS.non | exact TyS.bl _ | (apply TyS.tup; walk_at"sq"; done) | (apply TyS.lst; walk_at"sq"; done))
local macro_rules | `(tactic| walk_at"wd") => `(tactic| repeat (first | (apply bN; (focus (decide)); walk_at"g") | (apply Dg; (focus (decide)); walk_at"g")))
local macro_rules | `(tactic| walk_at"n") => `(tactic| first | (apply NxH.st; (focus assumption)) | skip)
section
variable {P : Program} {w : World} {K : Frag} {mg : Str → Option Value} {base : Heap}
noncomputable abbrev mB:List Str:=["bits"]
noncomputable abbrev lW:List Str:=["v","bits"]
noncomputable abbrev ph:List Str:=["v"]
noncomputable abbrev HW:List Str:=["field","number"]
noncomputable abbrev IY:List Str:=["field","word"]
noncomputable abbrev cV:List Str:=["instruction"]
noncomputable abbrev IS:List Str:=["word"]
noncomputable abbrev Gj:List Str:=["code","at"]
noncomputable abbrev GE:List Str:=["sort","b","c"]
noncomputable abbrev yt:List Str:=["plan","b"]
noncomputable abbrev CY:List Str:=["plan","instruction","boxes"]
noncomputable abbrev DH:List Str:=["z"]
noncomputable abbrev uU:List Str:=["span"]
noncomputable abbrev hU:List Str:=["lo","hi","z"]
noncomputable abbrev di:List Str:=["left","right"]
noncomputable abbrev CH:List Str:=["left","right","lo"]
noncomputable abbrev Aj:List Str:=["sort","left","right"]
noncomputable abbrev Ag:List Str:=["span","n"]
noncomputable abbrev nR:List Str:=["plan","span"]
noncomputable abbrev iX:List Str:=["plan","instruction","spans"]
noncomputable abbrev Dn:List Str:=["place","count"]
noncomputable abbrev BT:List Str:=["span","count"]
noncomputable abbrev DK:List Str:=["instruction","at"]
noncomputable abbrev C7:List Str:=["plan","count","instruction","spans"]
noncomputable abbrev Cz:List Str:=["plan","code","at","spans"]
noncomputable abbrev sN:List Str:=["plan","code"]
noncomputable abbrev CK:List Str:=["plan","place"]
noncomputable abbrev DT:List Str:=["self","plan","gates","boxes","memory","replies"]
noncomputable abbrev cY:List Str:=["self","instruction"]
noncomputable abbrev C0:List Str:=["self","n"]
noncomputable abbrev BX:List Str:=["self","code","place","holding"]
noncomputable abbrev Co:List Str:=["self","most"]
noncomputable abbrev C5:List Str:=["plan","code","stand","replies","most"]
noncomputable abbrev fA:List Str:=["self"]
noncomputable abbrev nK:List Str:=["self","group"]
noncomputable abbrev pU:List Str:=["count"]
noncomputable abbrev qT:List Str:=["block"]
noncomputable abbrev Db:List Str:=["instruction","size"]
noncomputable abbrev BY:List Str:=["block","size"]
noncomputable abbrev DP:List Str:=["blocks","size"]
noncomputable abbrev zB:List Str:=["blocks","room","gates"]
noncomputable abbrev vm:List Str:=["guest","room","gates"]
noncomputable abbrev Cn:List Str:=["self","room"]
noncomputable abbrev BQ:List Str:=["self","instruction","group"]
noncomputable abbrev Do:List Str:=["self","member"]
noncomputable abbrev DD:List Str:=["block","room"]
noncomputable abbrev Cv:List Str:=["_law_script","_law_k"]
noncomputable abbrev iU:List Str:=["_law_deal_here","_law_many"]
noncomputable abbrev Ib:List Str:=["_law_deal_here","_law_room","_law_blocks_here"]
noncomputable abbrev qL:List Str:=["_law_deal_here"]
noncomputable abbrev Hh:List Str:=["_law_deal_here","_law_room","_law_blocks_here","_law_gates"]
noncomputable abbrev HX:List Str:=["_law_deal_here","_law_blocks_here"]
noncomputable abbrev lG:List Str:=["_law_deal_here","_law_plan"]
noncomputable abbrev CM:List Str:=["_law_deal_here","_law_plan","_law_total"]
noncomputable abbrev Ab:List Str:=["_law_instruction"]
noncomputable abbrev Cq:List Str:=["_law_plan","_law_spans","_law_instruction"]
noncomputable abbrev Ck:List Str:=["_law_plan","_law_spans","_law_instruction","_law_total"]
noncomputable abbrev CI:List Str:=["_law_instruction","_law_why_here"]
noncomputable abbrev E2:List Str:=["_law_script","_law_room","_law_gates"]
noncomputable abbrev IA:List Str:=["_law_deal_here","_law_plan","_law_wide"]
noncomputable abbrev HK:List Str:=["_law_plan","_law_memory_here"]
noncomputable abbrev Ih:List Str:=["_law_deal_here","_law_codes","_law_told"]
noncomputable abbrev GY:List Str:=["_law_deal_here","_law_plan","_law_code"]
noncomputable abbrev KF:List Str:=["_law_script"]
noncomputable def top(i:Nat):Stmt:=PySem.Challenge.pw_fencemask_k96_whole_bundles_put_together.main.body.getD i (.Pass ⟨0,0,0,0⟩)
noncomputable abbrev jF:Stmt:=top 1
theorem ge:av ["bits","power","step"] mB (ah jF):=aI
theorem vJ:Bd "power_of_two" jF mB:=by intro _ _ _ _ _ _ u l;obtain⟨_,rfl⟩:=ex1 u l;rfl
noncomputable abbrev ER:Stmt:=top 2
theorem JQ:av ["v","bits"] lW (ah ER):=aI
theorem J6:Bd "rest" ER lW:=by intro _ _ _ _ _ _ u l;obtain⟨_,_,rfl⟩:=ex2 u l;rfl
noncomputable abbrev Ap:Stmt:=top 3
theorem pE:av ["v","count","left"] ph (ah Ap):=aI
theorem GX:Bd "zeros" Ap ph:=by intro _ _ _ _ _ _ u l;obtain⟨_,rfl⟩:=ex1 u l;rfl
noncomputable abbrev xF:Stmt:=top 4
theorem F5:av ["v","bits"] lW (ah xF):=aI
theorem Gi:Bd "signed" xF lW:=by intro _ _ _ _ _ _ u l;obtain⟨_,_,rfl⟩:=ex2 u l;rfl
noncomputable abbrev mW:Stmt:=top 12
theorem zb:av ["field","number"] HW (ah mW):=aI
theorem zd:Bd "field_bits" mW HW:=by intro _ _ _ _ _ _ u l;obtain⟨_,_,rfl⟩:=ex2 u l;rfl
noncomputable abbrev ki:Stmt:=top 13
theorem vY:av ["field","word"] IY (ah ki):=aI
theorem vH:Bd "field_number" ki IY:=by intro _ _ _ _ _ _ u l;obtain⟨_,_,rfl⟩:=ex2 u l;rfl
noncomputable abbrev nk:Stmt:=top 14
theorem eJ:av ["instruction","sort","word","field","number"] cV (ah nk):=aI
theorem yI:Bd "first_word" nk cV:=by intro _ _ _ _ _ _ u l;obtain⟨_,rfl⟩:=ex1 u l;rfl
noncomputable abbrev sg:Stmt:=top 15
theorem CF:av ["instruction"] cV (ah sg):=aI
theorem DU:Bd "words_of" sg cV:=by intro _ _ _ _ _ _ u l;obtain⟨_,rfl⟩:=ex1 u l;rfl
noncomputable abbrev oH:Stmt:=top 16
theorem Be:av ["instruction"] cV (ah oH):=aI
theorem Bh:Bd "length_of" oH cV:=by intro _ _ _ _ _ _ u l;obtain⟨_,rfl⟩:=ex1 u l;rfl
noncomputable abbrev cL:Stmt:=top 17
theorem bO:av ["word","number","sort","numbers","instruction"] IS (ah cL):=aI
theorem lT:Bd "one_word_instruction" cL IS:=by intro _ _ _ _ _ _ u l;obtain⟨_,rfl⟩:=ex1 u l;rfl
noncomputable abbrev ic:Stmt:=top 18
theorem kB:av ["code","at","instruction"] Gj (ah ic):=aI
theorem sV:Bd "instruction_at" ic Gj:=by intro _ _ _ _ _ _ u l;obtain⟨_,_,rfl⟩:=ex2 u l;rfl
noncomputable abbrev rg:Stmt:=top 22
theorem Ca:av ["instruction"] cV (ah rg):=aI
theorem Cb:Bd "made_box" rg cV:=by intro _ _ _ _ _ _ u l;obtain⟨_,rfl⟩:=ex1 u l;rfl
noncomputable abbrev kh:Stmt:=top 23
theorem nO:av ["sort","b","c","power"] GE (ah kh):=aI
theorem vB:Bd "joined_value" kh GE:=by intro _ _ _ _ _ _ u l;obtain⟨_,_,_,rfl⟩:=ex3 u l;rfl
noncomputable abbrev oX:Stmt:=top 24
theorem AC:av ["plan","b"] yt (ah oX):=aI
theorem AJ:Bd "fit_value" oX yt:=by intro _ _ _ _ _ _ u l;obtain⟨_,_,rfl⟩:=ex2 u l;rfl
noncomputable abbrev pI:Stmt:=top 25
theorem At:av ["plan","b"] yt (ah pI):=aI
theorem Bt:Bd "aim_value" pI yt:=by intro _ _ _ _ _ _ u l;obtain⟨_,_,rfl⟩:=ex2 u l;rfl
noncomputable abbrev mO:Stmt:=top 26
theorem kS:av ["plan","instruction","boxes","sort","b"] CY (ah mO):=aI
theorem yT:Bd "made_value" mO CY:=by intro _ _ _ _ _ _ u l;obtain⟨_,_,_,rfl⟩:=ex3 u l;rfl
noncomputable abbrev nr:Stmt:=top 28
theorem yO:av [] [] (ah nr):=aI
theorem yW:Bd "whole_span" nr []:=by intro _ _ _ _ _ _ u l;obtain rfl:=ex0 u l;rfl
noncomputable abbrev iF:Stmt:=top 29
theorem sS:av ["z"] DH (ah iF):=aI
theorem uc:Bd "multiples_span" iF DH:=by intro _ _ _ _ _ _ u l;obtain⟨_,rfl⟩:=ex1 u l;rfl
noncomputable abbrev yx:Stmt:=top 30
theorem Gp:av ["v"] ph (ah yx):=aI
theorem Gc:Bd "single" yx ph:=by intro _ _ _ _ _ _ u l;obtain⟨_,rfl⟩:=ex1 u l;rfl
noncomputable abbrev oq:Stmt:=top 31
theorem Br:av ["span"] uU (ah oq):=aI
theorem A7:Bd "is_single" oq uU:=by intro _ _ _ _ _ _ u l;obtain⟨_,rfl⟩:=ex1 u l;rfl
noncomputable abbrev j6:Stmt:=top 32
theorem vF:av ["lo","hi","z"] hU (ah j6):=aI
theorem vN:Bd "settled_span" j6 hU:=by intro _ _ _ _ _ _ u l;obtain⟨_,_,_,rfl⟩:=ex3 u l;rfl
noncomputable abbrev pK:Stmt:=top 33
theorem BG:av ["lo","hi","z"] hU (ah pK):=aI
theorem Ar:Bd "kept_span" pK hU:=by intro _ _ _ _ _ _ u l;obtain⟨_,_,_,rfl⟩:=ex3 u l;rfl
noncomputable abbrev rD:Stmt:=top 34
theorem Cl:av ["left","right"] di (ah rD):=aI
theorem CC:Bd "add_span" rD di:=by intro _ _ _ _ _ _ u l;obtain⟨_,_,rfl⟩:=ex2 u l;rfl
noncomputable abbrev rS:Stmt:=top 35
theorem Dh:av ["left","right"] di (ah rS):=aI
theorem Df:Bd "sub_span" rS di:=by intro _ _ _ _ _ _ u l;obtain⟨_,_,rfl⟩:=ex2 u l;rfl
noncomputable abbrev sk:Stmt:=top 36
theorem oz:av ["left","right","z","hi"] di (ah sk):=aI
theorem B0:Bd "and_span" sk di:=by intro _ _ _ _ _ _ u l;obtain⟨_,_,rfl⟩:=ex2 u l;rfl
noncomputable abbrev uj:Stmt:=top 37
theorem nq:av ["left","right","lo","z","power"] CH (ah uj):=aI
theorem EW:Bd "or_span" uj CH:=by intro _ _ _ _ _ _ u l;obtain⟨_,_,_,rfl⟩:=ex3 u l;rfl
noncomputable abbrev oJ:Stmt:=top 38
theorem AH:av ["left","right"] di (ah oJ):=aI
theorem Ba:Bd "less_span" oJ di:=by intro _ _ _ _ _ _ u l;obtain⟨_,_,rfl⟩:=ex2 u l;rfl
noncomputable abbrev oN:Stmt:=top 39
theorem mn:av ["left","right","t","power"] di (ah oN):=aI
theorem Bn:Bd "left_span" oN di:=by intro _ _ _ _ _ _ u l;obtain⟨_,_,rfl⟩:=ex2 u l;rfl
noncomputable abbrev mq:Stmt:=top 40
theorem lA:av ["left","right","t","power"] di (ah mq):=aI
theorem yH:Bd "right_span" mq di:=by intro _ _ _ _ _ _ u l;obtain⟨_,_,rfl⟩:=ex2 u l;rfl
noncomputable abbrev ly:Stmt:=top 41
theorem w6:av ["sort","left","right"] Aj (ah ly):=aI
theorem xP:Bd "joined_span" ly Aj:=by intro _ _ _ _ _ _ u l;obtain⟨_,_,_,rfl⟩:=ex3 u l;rfl
noncomputable abbrev pB:Stmt:=top 42
theorem Av:av ["span","n"] Ag (ah pB):=aI
theorem BA:Bd "more_span" pB Ag:=by intro _ _ _ _ _ _ u l;obtain⟨_,_,rfl⟩:=ex2 u l;rfl
noncomputable abbrev rL:Stmt:=top 43
theorem kF:av ["plan","span","base","size","z"] nR (ah rL):=aI
theorem DW:Bd "fit_span" rL nR:=by intro _ _ _ _ _ _ u l;obtain⟨_,_,rfl⟩:=ex2 u l;rfl
noncomputable abbrev rW:Stmt:=top 44
theorem u7:av ["plan","span","last_block"] nR (ah rW):=aI
theorem DC:Bd "aim_span" rW nR:=by intro _ _ _ _ _ _ u l;obtain⟨_,_,rfl⟩:=ex2 u l;rfl
noncomputable abbrev kT:Stmt:=top 46
theorem yy:av [] [] (ah kT):=aI
theorem yw:Bd "first_spans" kT []:=by intro _ _ _ _ _ _ u l;obtain rfl:=ex0 u l;rfl
noncomputable abbrev pV:Stmt:=top 47
theorem mi:av ["plan","instruction","spans","sort","b"] iX (ah pV):=aI
theorem A5:Bd "made_span" pV iX:=by intro _ _ _ _ _ _ u l;obtain⟨_,_,_,rfl⟩:=ex3 u l;rfl
noncomputable abbrev jY:Stmt:=top 48
theorem nL:av ["plan","instruction","spans","box"] iX (ah jY):=aI
theorem vA:Bd "spans_behind" jY iX:=by intro _ _ _ _ _ _ u l;obtain⟨_,_,_,rfl⟩:=ex3 u l;rfl
noncomputable abbrev i_:Stmt:=top 49
theorem fC:av ["plan","instruction","spans","span","n","base"] iX (ah i_):=aI
theorem uN:Bd "may_reach_out" i_ iX:=by intro _ _ _ _ _ _ u l;obtain⟨_,_,_,rfl⟩:=ex3 u l;rfl
noncomputable abbrev jQ:Stmt:=top 50
theorem vQ:av ["place","count"] Dn (ah jQ):=aI
theorem vE:Bd "is_no_target" jQ Dn:=by intro _ _ _ _ _ _ u l;obtain⟨_,_,rfl⟩:=ex2 u l;rfl
noncomputable abbrev pF:Stmt:=top 51
theorem BF:av ["span","count"] BT (ah pF):=aI
theorem Bw:Bd "is_no_way" pF BT:=by intro _ _ _ _ _ _ u l;obtain⟨_,_,rfl⟩:=ex2 u l;rfl
noncomputable abbrev l_:Stmt:=top 52
theorem yG:av ["instruction","at"] DK (ah l_):=aI
theorem yN:Bd "is_no_word" l_ DK:=by intro _ _ _ _ _ _ u l;obtain⟨_,_,rfl⟩:=ex2 u l;rfl
noncomputable abbrev rA:Stmt:=top 53
theorem vj:av ["plan","count","instruction","spans","sort"] C7 (ah rA):=aI
theorem DA:Bd "fault_of" rA C7:=by intro _ _ _ _ _ _ u l;obtain⟨_,_,_,_,rfl⟩:=ex4 u l;rfl
noncomputable abbrev fq:Stmt:=top 54
theorem eV:av ["plan","code","at","spans","instruction","why"] Cz (ah fq):=aI
theorem nV:Bd "instruction_let_by" fq Cz:=by intro _ _ _ _ _ _ u l;obtain⟨_,_,_,_,rfl⟩:=ex4 u l;rfl
noncomputable abbrev lg:Stmt:=top 55
theorem cw:av ["plan","code","told","spans","sort","instruction"] sN (ah lg):=aI
theorem xt:Bd "spans_ahead" lg sN:=by intro _ _ _ _ _ _ u l;obtain⟨_,_,rfl⟩:=ex2 u l;rfl
noncomputable abbrev An:Stmt:=top 56
theorem HS:av ["plan","code"] sN (ah An):=aI
theorem Hx:Bd "check" An sN:=by intro _ _ _ _ _ _ u l;obtain⟨_,_,rfl⟩:=ex2 u l;rfl
noncomputable abbrev uH:Stmt:=top 58
theorem EI:av ["plan","place"] CK (ah uH):=aI
theorem Ez:Bd "in_room" uH CK:=by intro _ _ _ _ _ _ u l;obtain⟨_,_,rfl⟩:=ex2 u l;rfl
noncomputable abbrev gx:Stmt:=cI (top 59) 0
theorem ql:av ["self","plan","gates","boxes","memory","replies"] DT (ah gx):=aI
theorem qo:BdM "__init__" "Holding.__init__" gx DT:=by intro _ _ _ _ _ _ u l;obtain⟨_,_,_,_,_,_,rfl⟩:=ex6 u l;rfl
abbrev gj(K:Frag)(C:Addr):Prop:=ku K C "__init__" "Holding.__init__" gx DT
noncomputable abbrev fY:Stmt:=cI (top 59) 1
theorem iR:av ["self","instruction","sort"] cY (ah fY):=aI
theorem pJ:BdM "carry_out" "Holding.carry_out" fY cY:=by intro _ _ _ _ _ _ u l;obtain⟨_,_,rfl⟩:=ex2 u l;rfl
abbrev fT(K:Frag)(C:Addr):Prop:=ku K C "carry_out" "Holding.carry_out" fY cY
noncomputable abbrev jb:Stmt:=cI (top 59) 2
theorem iE:av ["self","instruction","a","reached"] cY (ah jb):=aI
theorem ur:BdM "reach" "Holding.reach" jb cY:=by intro _ _ _ _ _ _ u l;obtain⟨_,_,rfl⟩:=ex2 u l;rfl
abbrev jd(K:Frag)(C:Addr):Prop:=ku K C "reach" "Holding.reach" jb cY
noncomputable abbrev kN:Stmt:=cI (top 59) 3
theorem jP:av ["self","n","used","reply"] C0 (ah kN):=aI
theorem yu:BdM "ask" "Holding.ask" kN C0:=by intro _ _ _ _ _ _ u l;obtain⟨_,_,rfl⟩:=ex2 u l;rfl
abbrev kQ(K:Frag)(C:Addr):Prop:=ku K C "ask" "Holding.ask" kN C0
noncomputable abbrev gn:Stmt:=cI (top 60) 0
theorem qp:av ["self","code","place","holding"] BX (ah gn):=aI
theorem qr:BdM "__init__" "Machine.__init__" gn BX:=by intro _ _ _ _ _ _ u l;obtain⟨_,_,_,_,rfl⟩:=ex4 u l;rfl
abbrev gm(K:Frag)(C:Addr):Prop:=ku K C "__init__" "Machine.__init__" gn BX
noncomputable abbrev hZ:Stmt:=cI (top 60) 1
theorem ff:av ["self","most","end","instruction"] Co (ah hZ):=aI
theorem sC:BdM "run_on" "Machine.run_on" hZ Co:=by intro _ _ _ _ _ _ u l;obtain⟨_,_,rfl⟩:=ex2 u l;rfl
abbrev ix(K:Frag)(C:Addr):Prop:=ku K C "run_on" "Machine.run_on" hZ Co
noncomputable abbrev mt:Stmt:=cI (top 60) 2
theorem lz:av ["self","instruction","sort","end"] cY (ah mt):=aI
theorem zf:BdM "do" "Machine.do" mt cY:=by intro _ _ _ _ _ _ u l;obtain⟨_,_,rfl⟩:=ex2 u l;rfl
abbrev lX(K:Frag)(C:Addr):Prop:=ku K C "do" "Machine.do" mt cY
noncomputable abbrev eY:Stmt:=cI (top 60) 3
theorem gP:av ["self","instruction","held"] cY (ah eY):=aI
theorem lY:BdM "place_ahead" "Machine.place_ahead" eY cY:=by intro _ _ _ _ _ _ u l;obtain⟨_,_,rfl⟩:=ex2 u l;rfl
abbrev eM(K:Frag)(C:Addr):Prop:=ku K C "place_ahead" "Machine.place_ahead" eY cY
noncomputable abbrev HH:Stmt:=top 61
theorem wG:av ["plan","code","stand","replies","most","holding","machine","end","behind"] C5 (ah HH):=aI
theorem LG:Bd "run" HH C5:=by intro _ _ _ _ _ _ u l;obtain⟨_,_,_,_,_,rfl⟩:=ex5 u l;rfl
noncomputable abbrev fr:Stmt:=cI (top 63) 0
theorem nW:av ["self"] fA (ah fr):=aI
theorem nZ:BdM "__init__" "LaidBlock.__init__" fr fA:=by intro _ _ _ _ _ _ u l;obtain⟨_,rfl⟩:=ex1 u l;rfl
abbrev fz(K:Frag)(C:Addr):Prop:=ku K C "__init__" "LaidBlock.__init__" fr fA
noncomputable abbrev dB:Stmt:=cI (top 63) 1
theorem kx:av ["self"] fA (ah dB):=aI
theorem kr:BdM "is_at_bundle" "LaidBlock.is_at_bundle" dB fA:=by intro _ _ _ _ _ _ u l;obtain⟨_,rfl⟩:=ex1 u l;rfl
abbrev dD(K:Frag)(C:Addr):Prop:=ku K C "is_at_bundle" "LaidBlock.is_at_bundle" dB fA
noncomputable abbrev df:Stmt:=cI (top 63) 2
theorem nF:av ["self","group"] nK (ah df):=aI
theorem nG:BdM "has_space" "LaidBlock.has_space" df nK:=by intro _ _ _ _ _ _ u l;obtain⟨_,_,rfl⟩:=ex2 u l;rfl
abbrev eO(K:Frag)(C:Addr):Prop:=ku K C "has_space" "LaidBlock.has_space" df nK
noncomputable abbrev ij:Stmt:=cI (top 63) 3
theorem tQ:av ["self","instruction"] cY (ah ij):=aI
theorem sO:BdM "take" "LaidBlock.take" ij cY:=by intro _ _ _ _ _ _ u l;obtain⟨_,_,rfl⟩:=ex2 u l;rfl
abbrev il(K:Frag)(C:Addr):Prop:=ku K C "take" "LaidBlock.take" ij cY
noncomputable abbrev eA:Stmt:=cI (top 63) 4
theorem gI:av ["self","group","instruction"] nK (ah eA):=aI
theorem lQ:BdM "take_group" "LaidBlock.take_group" eA nK:=by intro _ _ _ _ _ _ u l;obtain⟨_,_,rfl⟩:=ex2 u l;rfl
abbrev eo(K:Frag)(C:Addr):Prop:=ku K C "take_group" "LaidBlock.take_group" eA nK
noncomputable abbrev dQ:Stmt:=cI (top 63) 5
theorem kK:av ["self"] fA (ah dQ):=aI
theorem lB:BdM "fill_bundle" "LaidBlock.fill_bundle" dQ fA:=by intro _ _ _ _ _ _ u l;obtain⟨_,rfl⟩:=ex1 u l;rfl
abbrev dO(K:Frag)(C:Addr):Prop:=ku K C "fill_bundle" "LaidBlock.fill_bundle" dQ fA
noncomputable abbrev mD:Stmt:=top 64
theorem kX:av ["count","bits"] pU (ah mD):=aI
theorem yA:Bd "least_bits" mD pU:=by intro _ _ _ _ _ _ u l;obtain⟨_,rfl⟩:=ex1 u l;rfl
noncomputable abbrev mE:Stmt:=top 65
theorem zl:av ["block"] qT (ah mE):=aI
theorem yP:Bd "bundles_of" mE qT:=by intro _ _ _ _ _ _ u l;obtain⟨_,rfl⟩:=ex1 u l;rfl
noncomputable abbrev yp:Stmt:=top 66
theorem Gz:av ["instruction","size"] Db (ah yp):=aI
theorem GK:Bd "placed" yp Db:=by intro _ _ _ _ _ _ u l;obtain⟨_,_,rfl⟩:=ex2 u l;rfl
noncomputable abbrev Bp:Stmt:=top 67
theorem IK:av ["count"] pU (ah Bp):=aI
theorem IB:Bd "stops" Bp pU:=by intro _ _ _ _ _ _ u l;obtain⟨_,rfl⟩:=ex1 u l;rfl
noncomputable abbrev lC:Stmt:=top 68
theorem jW:av ["block","size","words","instruction"] BY (ah lC):=aI
theorem yj:Bd "block_words" lC BY:=by intro _ _ _ _ _ _ u l;obtain⟨_,_,rfl⟩:=ex2 u l;rfl
noncomputable abbrev oR:Stmt:=top 69
theorem fE:av ["blocks","size","places","number","block","at","begin"] DP (ah oR):=aI
theorem AS:Bd "places_of" oR DP:=by intro _ _ _ _ _ _ u l;obtain⟨_,_,rfl⟩:=ex2 u l;rfl
noncomputable abbrev fG:Stmt:=top 70
theorem cA:av ["blocks","room","gates","m","s","size","code","block"] zB (ah fG):=aI
theorem sy:Bd "code_of_blocks" fG zB:=by intro _ _ _ _ _ _ u l;obtain⟨_,_,_,rfl⟩:=ex3 u l;rfl
noncomputable abbrev kA:Stmt:=top 72
theorem AV:av ["instruction"] cV (ah kA):=aI
theorem By:Bd "is_access" kA cV:=by intro _ _ _ _ _ _ u l;obtain⟨_,rfl⟩:=ex1 u l;rfl
noncomputable abbrev fK:Stmt:=top 73
theorem sY:av ["instruction"] cV (ah fK):=aI
theorem tM:Bd "access_by_mask" fK cV:=by intro _ _ _ _ _ _ u l;obtain⟨_,rfl⟩:=ex1 u l;rfl
noncomputable abbrev cX:Stmt:=top 74
theorem bJ:av ["instruction","b","n"] cV (ah cX):=aI
theorem vO:Bd "masked_group" cX cV:=by intro _ _ _ _ _ _ u l;obtain⟨_,rfl⟩:=ex1 u l;rfl
noncomputable abbrev j5:Stmt:=top 75
theorem gd:av ["block","laid","instruction","group"] qT (ah j5):=aI
theorem vU:Bd "masked_block" j5 qT:=by intro _ _ _ _ _ _ u l;obtain⟨_,rfl⟩:=ex1 u l;rfl
noncomputable abbrev Bz:Stmt:=top 76
theorem Jq:av ["guest","room","gates"] vm (ah Bz):=aI
theorem J_:Bd "make" Bz vm:=by intro _ _ _ _ _ _ u l;obtain⟨_,_,_,rfl⟩:=ex3 u l;rfl
noncomputable abbrev iG:Stmt:=cI (top 78) 0
theorem tZ:av ["self","room"] Cn (ah iG):=aI
theorem tL:BdM "__init__" "Known.__init__" iG Cn:=by intro _ _ _ _ _ _ u l;obtain⟨_,_,rfl⟩:=ex2 u l;rfl
abbrev ig(K:Frag)(C:Addr):Prop:=ku K C "__init__" "Known.__init__" iG Cn
noncomputable abbrev jK:Stmt:=cI (top 78) 1
theorem vI:av ["self"] fA (ah jK):=aI
theorem vL:BdM "forget" "Known.forget" jK fA:=by intro _ _ _ _ _ _ u l;obtain⟨_,rfl⟩:=ex1 u l;rfl
abbrev jJ(K:Frag)(C:Addr):Prop:=ku K C "forget" "Known.forget" jK fA
noncomputable abbrev gh:Stmt:=cI (top 78) 2
theorem qC:av ["self","instruction"] cY (ah gh):=aI
theorem qm:BdM "thin_group" "Known.thin_group" gh cY:=by intro _ _ _ _ _ _ u l;obtain⟨_,_,rfl⟩:=ex2 u l;rfl
abbrev gg(K:Frag)(C:Addr):Prop:=ku K C "thin_group" "Known.thin_group" gh cY
noncomputable abbrev fQ:Stmt:=cI (top 78) 3
theorem i4:av ["self","instruction","group","member"] BQ (ah fQ):=aI
theorem pf:BdM "learn_group" "Known.learn_group" fQ BQ:=by intro _ _ _ _ _ _ u l;obtain⟨_,_,_,rfl⟩:=ex3 u l;rfl
abbrev fR(K:Frag)(C:Addr):Prop:=ku K C "learn_group" "Known.learn_group" fQ BQ
noncomputable abbrev gy:Stmt:=cI (top 78) 4
theorem jn:av ["self","member","box"] Do (ah gy):=aI
theorem qk:BdM "is_lost_by" "Known.is_lost_by" gy Do:=by intro _ _ _ _ _ _ u l;obtain⟨_,_,rfl⟩:=ex2 u l;rfl
abbrev gC(K:Frag)(C:Addr):Prop:=ku K C "is_lost_by" "Known.is_lost_by" gy Do
noncomputable abbrev ji:Stmt:=top 79
theorem dU:av ["block","room","laid","known","instruction","group"] DD (ah ji):=aI
theorem uE:Bd "thinned_block" ji DD:=by intro _ _ _ _ _ _ u l;obtain⟨_,_,rfl⟩:=ex2 u l;rfl
noncomputable abbrev AO:Stmt:=top 80
theorem Ji:av ["guest","room","gates"] vm (ah AO):=aI
theorem Km:Bd "thin" AO vm:=by intro _ _ _ _ _ _ u l;obtain⟨_,_,_,rfl⟩:=ex3 u l;rfl
noncomputable abbrev pG:Stmt:=top 82
theorem gN:av ["_law_script","_law_k","_law_seed","_law_number_here"] Cv (ah pG):=aI
theorem Ax:Bd "_law_deal" pG Cv:=by intro _ _ _ _ _ _ u l;obtain⟨_,_,rfl⟩:=ex2 u l;rfl
noncomputable abbrev om:Stmt:=top 83
theorem g0:av ["_law_deal_here","_law_many","_law_number_here","_law_high","_law_low"] iU (ah om):=aI
theorem Bf:Bd "_law_draw" om iU:=by intro _ _ _ _ _ _ u l;obtain⟨_,_,rfl⟩:=ex2 u l;rfl
noncomputable abbrev jB:Stmt:=top 84
theorem qH:av ["_law_deal_here","_law_room","_law_blocks_here","_law_form"] Ib (ah jB):=aI
theorem yF:Bd "_law_handy" jB Ib:=by intro _ _ _ _ _ _ u l;obtain⟨_,_,_,rfl⟩:=ex3 u l;rfl
noncomputable abbrev oI:Stmt:=top 85
theorem tP:av ["_law_deal_here","_law_form"] qL (ah oI):=aI
theorem Bx:Bd "_law_near" oI qL:=by intro _ _ _ _ _ _ u l;obtain⟨_,rfl⟩:=ex1 u l;rfl
noncomputable abbrev fg:Stmt:=top 86
theorem cn:av ["_law_deal_here","_law_room","_law_blocks_here","_law_gates","_law_words","_law_sort","_law_a","_law_b"] Hh (ah fg):=aI
theorem rj:Bd "_law_guests_own" fg Hh:=by intro _ _ _ _ _ _ u l;obtain⟨_,_,_,_,rfl⟩:=ex4 u l;rfl
noncomputable abbrev mS:Stmt:=top 87
theorem qS:av ["_law_deal_here","_law_blocks_here","_law_form"] HX (ah mS):=aI
theorem y9:Bd "_law_ender" mS HX:=by intro _ _ _ _ _ _ u l;obtain⟨_,_,rfl⟩:=ex2 u l;rfl
noncomputable abbrev iI:Stmt:=top 88
theorem oM:av ["_law_deal_here","_law_plan","_law_form"] lG (ah iI):=aI
theorem wF:Bd "_law_number" iI lG:=by intro _ _ _ _ _ _ u l;obtain⟨_,_,rfl⟩:=ex2 u l;rfl
noncomputable abbrev kH:Stmt:=top 89
theorem tG:av ["_law_deal_here","_law_form"] qL (ah kH):=aI
theorem A3:Bd "_law_part" kH qL:=by intro _ _ _ _ _ _ u l;obtain⟨_,rfl⟩:=ex1 u l;rfl
noncomputable abbrev ni:Stmt:=top 90
theorem i8:av ["_law_deal_here","_law_plan","_law_total","_law_sort","_law_a","_law_b","_law_place"] CM (ah ni):=aI
theorem Cp:Bd "_law_any" ni CM:=by intro _ _ _ _ _ _ u l;obtain⟨_,_,_,rfl⟩:=ex3 u l;rfl
noncomputable abbrev mT:Stmt:=top 91
theorem zq:av ["_law_instruction"] Ab (ah mT):=aI
theorem yL:Bd "_law_makes" mT Ab:=by intro _ _ _ _ _ _ u l;obtain⟨_,rfl⟩:=ex1 u l;rfl
noncomputable abbrev iP:Stmt:=top 92
theorem gY:av ["_law_plan","_law_spans","_law_instruction","_law_found","_law_sort","_law_a"] Cq (ah iP):=aI
theorem xO:Bd "_law_behind" iP Cq:=by intro _ _ _ _ _ _ u l;obtain⟨_,_,_,rfl⟩:=ex3 u l;rfl
noncomputable abbrev sw:Stmt:=top 93
theorem iV:av ["_law_plan","_law_spans","_law_instruction","_law_total","_law_sort","_law_low","_law_high","_law_z"] Ck (ah sw):=aI
theorem Dw:Bd "_law_why" sw Ck:=by intro _ _ _ _ _ _ u l;obtain⟨_,_,_,_,rfl⟩:=ex4 u l;rfl
noncomputable abbrev iL:Stmt:=top 94
theorem o4:av ["_law_instruction","_law_why_here","_law_sort"] CI (ah iL):=aI
theorem xw:Bd "_law_mended" iL CI:=by intro _ _ _ _ _ _ u l;obtain⟨_,_,rfl⟩:=ex2 u l;rfl
noncomputable abbrev jw:Stmt:=top 95
theorem aZ:av ["_law_deal_here","_law_plan","_law_total","_law_code","_law_places","_law_told","_law_spans","_law_instruction","_law_k","_law_why_here"] lG (ah jw):=aI
theorem yV:Bd "_law_built" jw lG:=by intro _ _ _ _ _ _ u l;obtain⟨_,_,rfl⟩:=ex2 u l;rfl
noncomputable abbrev iM:Stmt:=top 96
theorem cT:av ["_law_script","_law_room","_law_gates","_law_deal_here","_law_many","_law_guest","_law_number_here","_law_block"] E2 (ah iM):=aI
theorem x6:Bd "_law_blocks" iM E2:=by intro _ _ _ _ _ _ u l;obtain⟨_,_,_,rfl⟩:=ex3 u l;rfl
noncomputable abbrev lj:Stmt:=top 97
theorem fk:av ["_law_deal_here","_law_plan","_law_wide","_law_memory_here","_law_k","_law_place"] IA (ah lj):=aI
theorem xA:Bd "_law_memory" lj IA:=by intro _ _ _ _ _ _ u l;obtain⟨_,_,_,rfl⟩:=ex3 u l;rfl
noncomputable abbrev lf:Stmt:=top 98
theorem jX:av ["_law_plan","_law_memory_here","_law_some","_law_place"] HK (ah lf):=aI
theorem wO:Bd "_law_beyond" lf HK:=by intro _ _ _ _ _ _ u l;obtain⟨_,_,rfl⟩:=ex2 u l;rfl
noncomputable abbrev gZ:Stmt:=top 99
theorem gf:av ["_law_deal_here","_law_plan","_law_replies_here","_law_k","_law_boxes"] lG (ah gZ):=aI
theorem vZ:Bd "_law_replies" gZ lG:=by intro _ _ _ _ _ _ u l;obtain⟨_,_,rfl⟩:=ex2 u l;rfl
noncomputable abbrev f6:Stmt:=top 100
theorem aW:av ["_law_deal_here","_law_codes","_law_told","_law_total","_law_words","_law_spans","_law_bundle","_law_which","_law_at"] Ih (ah f6):=aI
theorem ou:Bd "_law_put_together" f6 Ih:=by intro _ _ _ _ _ _ u l;obtain⟨_,_,_,rfl⟩:=ex3 u l;rfl
noncomputable abbrev dI:Stmt:=top 101
theorem a9:av ["_law_deal_here","_law_plan","_law_code","_law_boxes","_law_memory_here","_law_place","_law_end","_law_stand","_law_rows","_law_turns","_law_row"] GY (ah dI):=aI
theorem oA:Bd "_law_keeps_within" dI GY:=by intro _ _ _ _ _ _ u l;obtain⟨_,_,_,rfl⟩:=ex3 u l;rfl
noncomputable abbrev FA:Stmt:=top 102
theorem gq:av ["_law_script","_law_deal_here","_law_power","_law_room","_law_gates","_law_guest","_law_plan","_law_code","_law_places","_law_codes","_law_thinned","_law_told","_law_words","_law_spans","_law_k"] KF (ah FA):=aI
theorem LS:Bd "law" FA KF:=by intro _ _ _ _ _ _ u l;obtain⟨_,rfl⟩:=ex1 u l;rfl
structure fD (K:Frag) (C:Addr):Prop where
 plan:W.findIn K (.ref C) "plan"=some none
 gates:W.findIn K (.ref C) "gates"=some none
 boxes:W.findIn K (.ref C) "boxes"=some none
 memory:W.findIn K (.ref C) "memory"=some none
 replies:W.findIn K (.ref C) "replies"=some none
 rows:W.findIn K (.ref C) "rows"=some none
structure hX (K:Frag) (C:Addr):Prop where
 code:W.findIn K (.ref C) "code"=some none
 place:W.findIn K (.ref C) "place"=some none
 holding:W.findIn K (.ref C) "holding"=some none
 turns:W.findIn K (.ref C) "turns"=some none
structure cr (K:Frag) (C:Addr):Prop where
 instructions:W.findIn K (.ref C) "instructions"=some none
 begins:W.findIn K (.ref C) "begins"=some none
 length:W.findIn K (.ref C) "length"=some none
structure nI (K:Frag) (C:Addr):Prop where
 plan:W.findIn K (.ref C) "plan"=some none
 spans:W.findIn K (.ref C) "spans"=some none
 fitted:W.findIn K (.ref C) "fitted"=some none
section
variable (K) (mg)
abbrev oT:=Def K mg "power_of_two" jF mB
abbrev HZ:=Def K mg "rest" ER lW
abbrev FS:=Def K mg "zeros" Ap ph
abbrev C6:=Def K mg "signed" xF lW
abbrev tU:=Def K mg "field_bits" mW HW
abbrev pN:=Def K mg "field_number" ki IY
abbrev sJ:=Def K mg "first_word" nk cV
abbrev xf:=Def K mg "words_of" sg cV
abbrev vg:=Def K mg "length_of" oH cV
abbrev gQ:=Def K mg "one_word_instruction" cL IS
abbrev lO:=Def K mg "instruction_at" ic Gj
abbrev yf:=Def K mg "made_box" rg cV
abbrev oh:=Def K mg "joined_value" kh GE
abbrev u3:=Def K mg "fit_value" oX yt
abbrev uT:=Def K mg "aim_value" pI yt
abbrev sW:=Def K mg "made_value" mO CY
abbrev sE:=Def K mg "whole_span" nr []
abbrev lR:=Def K mg "multiples_span" iF DH
abbrev DL:=Def K mg "single" yx ph
abbrev uY:=Def K mg "is_single" oq uU
abbrev pQ:=Def K mg "settled_span" j6 hU
abbrev vp:=Def K mg "kept_span" pK hU
abbrev wL:=Def K mg "add_span" rD di
abbrev yn:=Def K mg "sub_span" rS di
abbrev xx:=Def K mg "and_span" sk di
abbrev zK:=Def K mg "or_span" uj CH
abbrev uX:=Def K mg "less_span" oJ di
abbrev vk:=Def K mg "left_span" oN di
abbrev ud:=Def K mg "right_span" mq di
abbrev qY:=Def K mg "joined_span" ly Aj
abbrev u8:=Def K mg "more_span" pB Ag
abbrev x8:=Def K mg "fit_span" rL nR
abbrev xD:=Def K mg "aim_span" rW nR
abbrev qO:=Def K mg "first_spans" kT []
abbrev uW:=Def K mg "made_span" pV iX
abbrev o3:=Def K mg "spans_behind" jY iX
abbrev nP:=Def K mg "may_reach_out" i_ iX
abbrev pT:=Def K mg "is_no_target" jQ Dn
abbrev vd:=Def K mg "is_no_way" pF BT
abbrev sF:=Def K mg "is_no_word" l_ DK
abbrev xv:=Def K mg "fault_of" rA C7
abbrev iY:=Def K mg "instruction_let_by" fq Cz
abbrev qX:=Def K mg "spans_ahead" lg sN
abbrev Fs:=Def K mg "check" An sN
abbrev zV:=Def K mg "in_room" uH CK
abbrev KL:=Def K mg "run" HH C5
abbrev t_:=Def K mg "least_bits" mD pU
abbrev tK:=Def K mg "bundles_of" mE qT
abbrev CO:=Def K mg "placed" yp Db
abbrev Fy:=Def K mg "stops" Bp pU
abbrev qP:=Def K mg "block_words" lC BY
abbrev vi:=Def K mg "places_of" oR DP
abbrev lH:=Def K mg "code_of_blocks" fG zB
abbrev ve:=Def K mg "is_access" kA cV
abbrev lJ:=Def K mg "access_by_mask" fK cV
abbrev pO:=Def K mg "masked_group" cX cV
abbrev oO:=Def K mg "masked_block" j5 qT
abbrev Ij:=Def K mg "make" Bz vm
abbrev nU:=Def K mg "thinned_block" ji DD
abbrev IN:=Def K mg "thin" AO vm
abbrev uZ:=Def K mg "_law_deal" pG Cv
abbrev uR:=Def K mg "_law_draw" om iU
abbrev tj:=Def K mg "_law_handy" jB Ib
abbrev vf:=Def K mg "_law_near" oI qL
abbrev kG:=Def K mg "_law_guests_own" fg Hh
abbrev sK:=Def K mg "_law_ender" mS HX
abbrev qV:=Def K mg "_law_number" iI lG
abbrev u5:=Def K mg "_law_part" kH qL
abbrev xJ:=Def K mg "_law_any" ni CM
abbrev sP:=Def K mg "_law_makes" mT Ab
abbrev qZ:=Def K mg "_law_behind" iP Cq
abbrev yo:=Def K mg "_law_why" sw Ck
abbrev qW:=Def K mg "_law_mended" iL CI
abbrev ue:=Def K mg "_law_built" jw lG
abbrev qI:=Def K mg "_law_blocks" iM E2
abbrev qR:=Def K mg "_law_memory" lj IA
abbrev qN:=Def K mg "_law_beyond" lf HK
abbrev oP:=Def K mg "_law_replies" gZ lG
abbrev jl:=Def K mg "_law_put_together" f6 Ih
abbrev jq:=Def K mg "_law_keeps_within" dI GY
end
def jo:Sp:=fun o H Q _=>∃n:Nat,o=[.int n]/\n<=64/\Q (.int (2^n)) H
def jg:Sp:=fun o H Q _=>∃(v:Int) (n:Nat),o=[.int v,.int n]/\n<=64/\Q (.int (v %2^n)) H
def DN:Sp:=fun o H Q _=>∃(v:Int) (n:Nat),o=[.int v,.int ((n:Int)+1)]/\n<=63/\Q (.int (if v<2^n then v else v - 2^(n+1))) H
theorem vy(B:Bi mg)(D:oT K mg):Has P w K mg base 1 "power_of_two" mB jo:=by
 refine D.has ge (fun I H Q E h=> ?_) (fun f J A C s H I Q E a h=> ?_)
 .obtain⟨n,rfl,_⟩:=h
  rfl
 obtain⟨n,rfl,U,q⟩:=h
 refine⟨_,(aa (psS 1 ge.nd ad)
   (aa (aL (eQ Oj (by rfl) (dt (by rfl) B.range (pa1 (pv 0))) (aR (i:=2) ge.nd (by rfl) (by left;rfl)) (af (psS 1 ge.nd (aw bH (pv 1) ad)))))
   (af (ai (pv 1))))),?_⟩
 try dsimp only[aT]
 refine⟨_,rfl,n,rfl,by lia,by lia,h_ (fun i Z o=>o=H/\∃st,Z=[some (.int n),some (.int (2^i)),st]) ⟨rfl,none,rfl⟩ ?_ ?_⟩
 .rintro i Z o hi ⟨rfl,st,rfl⟩
  exact⟨_,rfl,_,_,rfl,rfl,.inr ⟨by decide,by decide⟩,rfl,_,rfl⟩
 .rintro Z o ⟨rfl,st,rfl⟩
  exact⟨_,rfl,q⟩
theorem Jx(B:Bi mg)(D:HZ K mg)(J:Has P w K mg base 1 "power_of_two" mB jo):Has P w K mg base 2 "rest" lW jg:=by
 refine D.has JQ (fun C H Q E h=> ?_) (fun f I A o s H C Q E a h=> ?_)
 .obtain⟨v,n,rfl,_⟩:=h
  rfl
 obtain⟨v,n,rfl,U,q⟩:=h;refine⟨_,(af (ai (aw cW (pv 0) (pcH J a (pa1 (pv 1)))))),?_⟩
 try dsimp only[aT]
 exact⟨_,rfl,_,rfl,n,rfl,U,_,_,rfl,rfl,Int.pow_pos (by decide),q⟩
theorem F4(B:Bi mg)(D:C6 K mg)(C:Has P w K mg base 1 "power_of_two" mB jo):Has P w K mg base 2 "signed" lW DN:=by
 refine D.has F5 (fun J H Q E h=> ?_) (fun f U A o s H J Q E I h=> ?_)
 .obtain⟨v,n,rfl,_⟩:=h
  rfl
 obtain⟨v,n,rfl,a,q⟩:=h
 refine⟨_,(aa (ay (pcT fL (pv 0) (pcH C I (pa1 (aw cC (pv 1) ad)))) (af (ai (pv 0))) al)
   (af (ai (aw cC (pv 0) (pcH C I (pa1 (pv 1))))))),?_⟩
 try dsimp only[aT]
 refine⟨_,rfl,_,rfl,_,_,rfl,rfl,n,(by show[V.int ((n:Int)+1 - 1)]=[V.int n];rw[Int.add_sub_cancel]),by lia,_,_,rfl,rfl,_,rfl,?_⟩
 refine bc (fun c=> ?_) (fun c=> ?_)
 .rw[NV c] at q;exact⟨_,rfl,q⟩
 .rw[fI c] at q;exact⟨_,rfl,_,rfl,n+1,rfl,by lia,_,_,rfl,rfl,q⟩
def wB:Sp:=fun o H Q _=>∃v:Int,o=[.int v]/\Q (.int (SpM.Zn v:Nat)) H
theorem Hb(B:Bi mg)(D:FS K mg):Has P w K mg base 1 "zeros" ph wB:=by
 refine D.has pE (fun a H Q E h=> ?_) (fun f b A I s H a Q E j h=> ?_)
 .obtain⟨v,rfl,_⟩:=h
  rfl
 obtain⟨v,rfl,q⟩:=h;have C:=SpM.Zn_case v;generalize SpM.Zn v=t at q C
 refine⟨_,(aa (ay (pcT aE (pv 0) ad) (af (ai ad)) al)
   (aa (psS 1 pE.nd ad)
   (aa (psS 2 pE.nd (aM Hi (by rfl) B.abs KZ (pa1 (pv 0))))
   (aa (aL (kc Oj (pcT aE (aw cW (pv 2) ad) ad) (aa (psS 2 pE.nd (aw cE (pv 2) ad))
   (af (psS 1 pE.nd (aw aS (pv 1) ad))))))
   (af (ai (pv 1))))))),?_⟩
 try dsimp only[aT]
 refine⟨_,rfl,rfl,_,rfl,?_⟩
 refine bc (fun c=> ?_) (fun c=> ?_)
 .have c':v=0:=by injection c
  rcases C with⟨_,rfl⟩|⟨u,e⟩
  .exact q
  .rw[c'] at e;have:=Nat.mul_pos (show 0<2*u+1 by lia) (Nat.pow_pos (n:=t) (show 0<2 by decide))
   simp only[Int.natAbs_zero] at e
   lia
 .have c':v≠0:=fun z=>c (by rw[z])
  rcases C with⟨e,_⟩|⟨u,e⟩
  .exact absurd e c'
  refine⟨_,rfl,v,rfl,?_⟩
  refine⟨fun m Z o=>o=H/\m<=t/\Z=[some (.int v),some (.int ((t:Int) - m)),some (.int ((2*u+1)*2^m))],⟨t,rfl,NW t,?_⟩,?_⟩
  .have e1:(if v<0 then -v else v)=(2*(u:Int)+1)*2^t:=by
    have:((v.natAbs:Nat):Int)=(2*(u:Int)+1)*2^t:=by rw[e];push_cast;rfl
    rw[<- this]
    split <;> lia
   show[some (V.int v),some (.int 0),some (.int (if v<0 then -v else v))]=_
   rw[e1,Int.sub_self]
  .rintro m Z o ⟨rfl,hm,rfl⟩
   refine⟨_,rfl,_,_,rfl,rfl,(by decide:(0:Int)<2),rfl,_,rfl,?_⟩
   refine bc (fun c=> ?_) (fun c=> ?_)
   .have c1:((2*(u:Int)+1)*2^m) %2=0:=by injection c
    cases m with
    | zero=>rw[Q5,Int.mul_one] at c1;lia
    | succ m=>
     walk_at"n";refine⟨fun U J=>J=o/\U=[some (.int v),some (.int ((t:Int) - m)),some (.int ((2*u+1)*2^m))],fun U J h=>⟨m,Qe m,h.1,by lia,h.2⟩,?_⟩
     refine⟨_,rfl,_,_,rfl,rfl,⟨by decide,by decide⟩,_,rfl,_,_,rfl,rfl,rfl,?_⟩
     have d:(2*(u:Int)+1)*2^(m+1) / 2=(2*u+1)*2^m:=by
      rw[Q4, <-PV,Int.mul_ediv_cancel _ (by decide)]
     have g:(t:Int) - ((m+1:Nat):Int)+1=t - m:=by lia
     show[some (V.int v),some (.int ((t:Int) - ((m+1:Nat):Int)+1)),some (.int ((2*(u:Int)+1)*2^(m+1) / 2))]=_
     rw[d,g]
   .cases m with
    | zero=>
     refine⟨_,rfl,?_⟩
     have i:(t:Int) - ((0:Nat):Int)=t:=by lia
     rw[i];exact q
    | succ m=>
     exfalso
     apply c
     show V.int (((2*(u:Int)+1)*2^(m+1)) %2)=V.int 0
     rw[Q4, <-PV,Int.mul_emod_left]
noncomputable def uG:List Str:=["stop","put","add","sub","and","or","xor","less","left","right","more","load","store","jump","jumpif","through","fit","aim","gate"]
noncomputable def Jk:List (List Str):=[[],["a"],["a","b","c"],["a","b","c"],["a","b","c"],["a","b","c"],["a","b","c"],["a","b","c"],["a","b","c"],["a","b","c"],["a","b","move"],["a","b","move"],["a","b","move"],["n"],["a","n"],["b"],["a","b"],["a","b"],["n"]]
noncomputable def aN(k:Nat):Str:=uG.getD k ""
noncomputable def aX(k:Nat):List Str:=Jk.getD k []
noncomputable def Fr(f:Str)(n:Int):Int:=if f="a" then n*16777216 else if f="b" then n*2097152 else if f="c" then n*262144 else n %262144
noncomputable def gM(f:Str)(w:Int):Int:=if f="a" then w / 16777216 %8 else if f="b" then w / 2097152 %8 else if f="c" then w / 262144 %8 else if f="move" then(if w %262144<131072 then w %262144 else w %262144 - 262144) else w %262144
noncomputable def Kb(acc:Int)(p:Str × Int):Int:=acc+Fr p.1 p.2
noncomputable def cM(k:Nat)(ns:List Int):Int:=((aX k).zip ns).foldl Kb (k*134217728)
noncomputable def aD(k:Nat)(ns:List Int):List V:= .str (aN k)::ns.map V.int
structure Tb (K:Frag) (mg:Str->Option Value) (prm:Params):Prop where
 sorts:∃a,mg "SORTS"=some (.ref a)/\gl K a (uG.map V.str)
 fields:∃a kvs,mg "FIELDS"=some (.ref a)/\SqD prm K a kvs/\∀k,k<19->∃b,kvs.lookup (aN k)=some (.ref b)/\gl K b ((aX k).map V.str)
def MW:Sp:=fun o H Q _=>∃(f:Str) (n:Int),o=[.str f,.int n]/\Q (.int (Fr f n)) H
def L8:Sp:=fun o H Q _=>∃(f:Str) (n:Int),o=[.str f,.int n]/\Q (.int (gM f n)) H
def LM(K:Frag):Sp:=fun I H Q _=>∃(a:Addr) (k:Nat) (C:List Int),I=[.ref a]/\k<19/\SqT K H a (aD k C)/\∀o,aA H o->Q (.int (cM k C)) o
theorem zm(B:Bi mg)(D:tU K mg)(a:Has P w K mg base 2 "rest" lW jg):Has P w K mg base 3 "field_bits" HW MW:=by
 refine D.has zb (fun J H Q E h=> ?_) (fun f U A I s H J Q E b h=> ?_)
 .obtain⟨f,n,rfl,_⟩:=h
  rfl
 obtain⟨C,n,rfl,q⟩:=h;unfold Fr at q
 refine⟨_,(aa (ay (pcT aE (pv 0) ax) (af (ai (aw bH (pv 1) (bU (v:=16777216) (by rfl))))) al)
   (aa (ay (pcT aE (pv 0) ax) (af (ai (aw bH (pv 1) (bU (v:=2097152) (by rfl))))) al)
   (aa (ay (pcT aE (pv 0) ax) (af (ai (aw bH (pv 1) (bU (v:=262144) (by rfl))))) al)
   (af (ai (pcH a b (pa2 (pv 1) ad))))))),?_⟩
 try dsimp only[aT]
 walk_at"g";refine bc (fun c=> ?_) (fun c=> ?_)
 .have o:C="a":=by injection c
  rw[NV o] at q;walk_at"g";exact q
 have o:¬C="a":=fun z=>c (by rw[z])
 rw[fI o] at q;walk_at"g";refine bc (fun c=> ?_) (fun c=> ?_)
 .have o:C="b":=by injection c
  rw[NV o] at q;walk_at"g";exact q
 have o:¬C="b":=fun z=>c (by rw[z])
 rw[fI o] at q;walk_at"g";refine bc (fun c=> ?_) (fun c=> ?_)
 .have o:C="c":=by injection c
  rw[NV o] at q;walk_at"g";exact q
 have o:¬C="c":=fun z=>c (by rw[z])
 rw[fI o] at q;walk_at"g";exact q
theorem vM(B:Bi mg)(D:pN K mg)(J:Has P w K mg base 2 "rest" lW jg)(d:Has P w K mg base 2 "signed" lW DN):Has P w K mg base 3 "field_number" IY L8:=by
 refine D.has vY (fun a H Q E h=> ?_) (fun f b A U s H a Q E I h=> ?_)
 .obtain⟨f,n,rfl,_⟩:=h
  rfl
 obtain⟨C,n,rfl,q⟩:=h;unfold gM at q
 refine⟨_,(aa (ay (pcT aE (pv 0) ax) (af (ai (pcH J I (pa2 (aw cE (pv 1) (bU (v:=16777216) (by rfl))) ad)))) al)
   (aa (ay (pcT aE (pv 0) ax) (af (ai (pcH J I (pa2 (aw cE (pv 1) (bU (v:=2097152) (by rfl))) ad)))) al)
   (aa (ay (pcT aE (pv 0) ax) (af (ai (pcH J I (pa2 (aw cE (pv 1) (bU (v:=262144) (by rfl))) ad)))) al)
   (aa (ay (pcT aE (pv 0) ax) (af (ai (pcH d I (pa2 (pcH J I (pa2 (pv 1) ad)) ad)))) al)
   (af (ai (pcH J I (pa2 (pv 1) ad)))))))),?_⟩
 try dsimp only[aT]
 walk_at"g";refine bc (fun c=> ?_) (fun c=> ?_)
 .have o:C="a":=by injection c
  rw[NV o] at q;walk_at"g";exact q
 have o:¬C="a":=fun z=>c (by rw[z])
 rw[fI o] at q;walk_at"g";refine bc (fun c=> ?_) (fun c=> ?_)
 .have o:C="b":=by injection c
  rw[NV o] at q;walk_at"g";exact q
 have o:¬C="b":=fun z=>c (by rw[z])
 rw[fI o] at q;walk_at"g";refine bc (fun c=> ?_) (fun c=> ?_)
 .have o:C="c":=by injection c
  rw[NV o] at q;walk_at"g";exact q
 have o:¬C="c":=fun z=>c (by rw[z])
 rw[fI o] at q;walk_at"g";refine bc (fun c=> ?_) (fun c=> ?_)
 .have o:C="move":=by injection c
  rw[NV o] at q;walk_at"g";exact q
 have o:¬C="move":=fun z=>c (by rw[z])
 rw[fI o] at q;walk_at"g";exact q
theorem Gs{fs:List Str}{ns:List Int}{i:Nat}{f:Str}{n a:Int}(o:fs[i]? =some f)(C:ns[i]? =some n):((fs.zip ns).take (i+1)).foldl Kb a=((fs.zip ns).take i).foldl Kb a+Fr f n:=by
 have e:(fs.zip ns)[i]? =some (f,n):=by rw[List.getElem?_zip_eq_some];exact⟨o,C⟩
 rw[PN,e,O4]
 rfl
theorem dw{C o:Type}{g:C->o}{l:List C}{i:Nat}{y:o}(h:(l.map g)[i]? =some y):∃x,l[i]? =some x/\g x=y:=by
 rw[OB] at h
 cases e:l[i]? with
 | none=>rw[e] at h;cases h
 | some x=>rw[e] at h;exact⟨x,rfl,by cases h;rfl⟩
theorem Ec:∀k,k<19->CL (.str (aN k)) (uG.map V.str) 0=some k:=by decide +kernel
theorem Nl(x:V)(xs:List V):gw (x::xs) (some 1) none=xs:=by
 unfold gw
 simp [HT.sIx]
theorem LV{x:V}{xs:List V}{B:Prop}:¬(HT.sIx (x::xs).length 0 (some 1)=0/\B):=by
 rintro⟨h,_⟩
 simp [HT.sIx] at h
theorem zp(B:Bi mg)(T:Tb K mg w.params)(D:sJ K mg)(R:Has P w K mg base 3 "field_bits" HW MW):Has P w K mg base 4 "first_word" cV (LM K):=by
 obtain⟨M,z,JB⟩:=T.sorts;obtain⟨m,d,l,X,J⟩:=T.fields;refine D.has eJ (fun g H Q E h=> ?_) (fun f j A U s H g Q E N h=> ?_)
 .obtain⟨a,k,o,rfl,_⟩:=h
  rfl
 obtain⟨a,k,o,rfl,c,Y,q⟩:=h;obtain⟨b,W,C⟩:=J k c
 refine⟨_,(aa (psS 1 eJ.nd (pX aj (pv 0) ad))
   (aa (psS 2 eJ.nd (aw bH (jk PySem.F.plainAttrs_tuple PySem.F.slot_tuple_index PySem.F.type_tuple_index GO (nC (v:= .ref M) (by rfl) z (by rfl)) (pa1 (pv 1))) (bU (v:=134217728) (by rfl))))
   (aa (aL (eQ Oj (by rfl) (Lp (by rfl) B.zip (pa2 (HP Ko (nC (v:= .ref m) (by rfl) l (by rfl)) (pv 1) (by intro _ _;rfl)) (dR nh (pv 0) (d6 ad) gS))) (rN (n:=2) (by rfl) (cj (aR (i:=3) eJ.nd (by rfl) (by left;rfl)) (cj (aR (i:=4) eJ.nd (by rfl) (by left;rfl)) nJ))) (af (psS 2 eJ.nd (aw aS (pv 2) (pcH R N (pa2 (pv 3) (pv 4))))))))
   (af (ai (pv 2)))))),?_⟩
 try dsimp only[aT]
 walk_at"g";refine⟨HL (Ec k c),?_⟩
 walk_at"g";refine⟨?_⟩
 walk_at"g";refine⟨LV,fun p e=> ?_⟩
 have O:gw (aD k o) (some 1) none=o.map V.int:=Nl _ _;refine⟨false,false,b,p,rfl,⟨_,C.sq⟩,⟨_,SqT.of ae⟩,?_⟩
 rw[O];refine Jg (xs:=(aX k).map V.str) (ys:=o.map V.int) (fun i Z I=>az (aA (upd H p (.tup (o.map V.int))) I/\∃x y,Z=[some (.ref a),some (.str (aN k)),some (.int ((((aX k).zip o).take i).foldl Kb (k*134217728))),x,y])) ⟨aA.refl _,_,_,rfl⟩ ?_ ?_ ?_
 .rintro i Z I ⟨hs,x,y,rfl⟩
  exact⟨C.sq,hs.tup (SqT.of ae)⟩
 .rintro i x y r Z I hx hy ⟨hs,u,v,rfl⟩ hr'
  obtain⟨fx,S,rfl⟩:=dw hx;obtain⟨ny,G,rfl⟩:=dw hy;walk_at"g";rw[Gs S G];exact⟨cy hr' hs,_,_,rfl⟩
 .rintro Z I ⟨hs,x,y,rfl⟩
  walk_at"g";have L:((aX k).zip o).take (min ((aX k).map V.str).length (o.map V.int).length)=(aX k).zip o:=by
   rw[be,be, <-List.length_zip,Oi]
  rw[L];exact q _ ((ag e _).trans hs)
noncomputable def c_(k:Nat)(ns:List Int):List Int:=if k=1 then[cM k ns,ns.getD 1 0] else[cM k ns]
theorem lL:∀k,k<19->(V.str (aN k)=V.str "put"↔k=1):=by decide +kernel
theorem M0{k:Nat}{ns:List Int}(h:2<=ns.length):atI (aD k ns) 2=some (.int (ns.getD 1 0)):=by
 match ns,h with
 | x::y::r,_=>exact jA
 | [_],h=>exact absurd h (by simp)
 | [],h=>exact absurd h (by simp)
def J4(K:Frag):Sp:=fun I H Q _=>∃(a:Addr) (k:Nat) (C:List Int),I=[.ref a]/\k<19/\(k=1->2<=C.length)/\SqT K H a (aD k C)/\∀p o,H p=none->o p=some (.lst ((c_ k C).map V.int))->aA H o->Q (.ref p) o
def Ga(K:Frag):Sp:=fun C H Q _=>∃(a:Addr) (k:Nat) (o:List Int),C=[.ref a]/\k<19/\SqT K H a (aD k o)/\Q (.int (if k=1 then 2 else 1)) H
theorem CW(B:Bi mg)(D:xf K mg)(b:Has P w K mg base 4 "first_word" cV (LM K)):Has P w K mg base 5 "words_of" cV (J4 K):=by
 refine D.has CF (fun g H Q E h=> ?_) (fun f i A I s H g Q E U h=> ?_)
 .obtain⟨a,k,e,rfl,_⟩:=h
  rfl
 obtain⟨a,k,e,rfl,J,j,l,q⟩:=h;unfold c_ at q
 refine⟨_,(aa (ay (pcT aE (pX aj (pv 0) ad) ax) (af (ai (bo (pa2 (pcH b U (pa1 (pv 0))) (pX aj (pv 0) ad))))) al)
   (af (ai (bo (pa1 (pcH b U (pa1 (pv 0)))))))),?_⟩
 try dsimp only[aT]
 walk_at"g";refine bc (fun c=> ?_) (fun c=> ?_)
 .have c':=(lL k J).mp c;rw[NV c'] at q;walk_at"g";intro d C;walk_at"g";refine⟨M0 (j c'),?_⟩
  walk_at"g";intro p o;exact q p _ (C.free o) ae (cy o C)
 .have c':¬k=1:=fun z=>c ((lL k J).mpr z)
  rw[fI c'] at q;walk_at"g";intro d C;walk_at"g";intro p o;exact q p _ (C.free o) ae (cy o C)
theorem As(B:Bi mg)(D:vg K mg):Has P w K mg base 1 "length_of" cV (Ga K):=by
 refine D.has Be (fun J H Q E h=> ?_) (fun f U A o s H J Q E d h=> ?_)
 .obtain⟨a,k,I,rfl,_⟩:=h
  rfl
 obtain⟨a,k,I,rfl,C,b,q⟩:=h;refine⟨_,(af (ai (wC (pcT aE (pX aj (pv 0) ad) ax) ad ad))),?_⟩
 try dsimp only[aT]
 walk_at"g";refine bc (fun c=> ?_) (fun c=> ?_)
 .rw[NV ((lL k C).mp c)] at q;exact q
 .rw[fI fun z=>c ((lL k C).mpr z)] at q
  exact q
noncomputable def owi(o:Int):Option (Nat × List Int):=
 if 19<=o / 134217728 then none else if cM (o / 134217728).toNat ((aX (o / 134217728).toNat).map fun f=>gM f o)=o then some ((o / 134217728).toNat,(aX (o / 134217728).toNat).map fun f=>gM f o) else none
def KG(K:Frag)(H:Hp):Option (Nat × List Int)->V->Prop
 | none,v=>v= .non
 | some (k,ns),v=>∃a,v= .ref a/\SqT K H a (aD k ns)
def KC(K:Frag):Sp:=fun I H Q _=>∃C:Int,I=[.int C]/\0<=C/\∀v o,aA H o->KG K o (owi C) v->Q v o
theorem JG{k:Nat}(o:k<19):atI (uG.map V.str) (k:Int)=some (.str (aN k)):=by
 refine aQ ?_
 have:∀k,k<19->(uG.map V.str)[k]? =some (.str (aN k)):=by decide +kernel
 exact this k o
theorem zo{o C:Type}{g:o->C}{l:List o}{i:Nat}{x:o}(h:l[i]? =some x):(l.take (i+1)).map g=(l.take i).map g++[g x]:=by
 rw[PN,h,NZ]
 rfl
theorem xX(k:Nat):(aX k).length<=3:=by
 by_cases o:k<19
 .have:∀k,k<19->(aX k).length<=3:=by decide +kernel
  exact this k o
 .unfold aX;rw[N9,PD (by show 19<=k;lia)]
  exact Ou _
theorem lU(B:Bi mg)(T:Tb K mg w.params)(D:gQ K mg)(d9:Has P w K mg base 4 "first_word" cV (LM K))(jU:Has P w K mg base 3 "field_number" IY L8):
  Has P w K mg base 5 "one_word_instruction" IS (KC K):=by
 obtain⟨O,L,JB⟩:=T.sorts;obtain⟨xC,ab,wD,IZ,j⟩:=T.fields;refine D.has bO (fun vs H Q E h=> ?_) (fun f au A n s H vs Q E S h=> ?_)
 .obtain⟨o,rfl,_⟩:=h
  rfl
 obtain⟨o,rfl,h0,q⟩:=h
 refine⟨_,(aa (psS 1 bO.nd (aw cE (pv 0) (bU (v:=134217728) (by rfl))))
   (aa (aL (a_ (ay (PW.pt (iS (pcT fL (pv 1) ad) (fP (pcT iT (pv 1) (aM aG (by rfl) B.len bS (pa1 (nC (v:= .ref O) (by rfl) L (by rfl)))))))) (af (ai eP)) al)))
   (aa (psS 2 bO.nd (pX aj (nC (v:= .ref O) (by rfl) L (by rfl)) (pv 1)))
   (aa (wc (i:=3) (by rfl) (by rfl) (by rfl) (bk (sc0:=ah cL) (N0:=["word","number","sort","numbers","instruction"]) ["field","word"] 1 [0]) bO.nd (by rfl) (by left;rfl) (o7 (HP Ko (nC (v:= .ref xC) (by rfl) wD (by rfl)) (pv 2) (by intro _ _;rfl))) (fun _ _ _ _=>(aR (i:=0) (show List.Nodup (["field","word"]:List Str) by decide) (by rfl) (by left;rfl))) (fun _ _ _ _=>(pcH jU S (pa2 (pv 0) (pv 1)))))
   (aa (psS 4 bO.nd (bX iN (by rfl) B.tuple f8 (pa1 (aw lE (bo (pa1 (pv 2))) (pv 3)))))
   (aa (ay (pcT vb (pcH d9 S (pa1 (pv 4))) (pv 0)) (af (ai eP)) al)
   (af (ai (pv 4))))))))),?_⟩
 try dsimp only[aT]
 unfold owi at q;walk_at"g";refine⟨fun Z' d=>az (d=H/\o / 134217728<19/\Z'=[some (.int o),some (.int (o / 134217728)),none,none,none]),?_,?_⟩
 .walk_at"g";refine bN (by lia) ?_
  walk_at"g";refine bc (fun c=> ?_) (fun c=> ?_)
  .have C:19<=o / 134217728:=c;rw[NV C] at q;exact q _ _ (aA.refl H) rfl
  .exact⟨rfl,by have C:¬19<=o / 134217728:=c;lia,rfl⟩
 rintro Z1 u ⟨rfl,Z,rfl⟩
 rw[fI (by lia)] at q
 obtain⟨k,M⟩:∃k:Nat,o / 134217728=k:=⟨(o / 134217728).toNat,by lia⟩
 rw[M,Os] at q;rw[M];have R:k<19:=by lia
 obtain⟨b,aP,I⟩:=j k R;walk_at"g";refine⟨JG R,?_⟩
 walk_at"g"
 first | refine⟨⟨_,I.sq⟩,?_⟩ | skip
 intro p G;refine sM (xs:=(aX k).map V.str) (fun i a d=>az (i<=3/\a=((aX k).take i).map (fun f=>V.int (gM f o))/\d p=some (.lst a)/\aA u d)) ⟨by lia,rfl,ae,ag G _⟩ (fun _ _ _ _=>I.sq) ?_ ?_
 .rintro i x a y F hF hx ⟨hi,rfl,J,e⟩
  obtain⟨fx,X,rfl⟩:=dw hx;have aH:i<(aX k).length:=(mF.mp X).1;have ar:=xX k;walk_at"g";refine⟨?_,hF _ _ ⟨by lia,?_,ae,cf G e⟩⟩
  .rw[be,Oh];exact Of (Qq _ _) (Of hi (by decide))
  .rw[zo X]
 rintro a y ⟨_,rfl,J,e⟩
 rw[be,Oi] at J;walk_at"g";intro l hl;walk_at"g";have U:[V.str (aN k)].length+((aX k).map fun f=>V.int (gM f o)).length<=sizeLine:=by
  have:=xX k;rw[be];exact Oc (show 1+(aX k).length<=4 by lia) (by decide)
 refine⟨U,fun r g=> ?_⟩
 refine⟨_,_,rfl,.inl ⟨SqL.of ae,fun t Y=> ?_⟩⟩
 have N:[V.str (aN k)]++(aX k).map (fun f=>V.int (gM f o))=aD k ((aX k).map fun f=>gM f o):=by
  unfold aD;rw[R_]
  rfl
 rw[N];rw[N] at Y;have W:aA u (upd (upd (upd y l (.lst [V.str (aN k)])) r (.lst (aD k ((aX k).map fun f=>gM f o)))) t (.tup (aD k ((aX k).map fun f=>gM f o)))):=cy Y (cy g (cy hl e))
 walk_at"g";intro H3 m;walk_at"g";refine Mg (fun c=> ?_) (fun c=> ?_)
 .have C:¬cM k ((aX k).map fun f=>gM f o)=o:=fun z=>by rw[z] at c;simp at c
  rw[fI C] at q;exact q _ _ (W.trans m) rfl
 .have C:cM k ((aX k).map fun f=>gM f o)=o:=by simpa using c
  rw[NV C] at q;walk_at"g";exact q _ _ (W.trans m) ⟨t,rfl,m.tup (SqT.of ae)⟩
noncomputable def lI(ws:List Int)(i:Int):Option (Nat × List Int):=
 if i<0 then none else match ws[i.toNat]? with
  | none=>none
  | some wd=>match owi wd with
   | none=>none
   | some (k,ns)=>if k=1 then(match ws[i.toNat+1]? with | none=>none | some v=>some (1,[ns.getD 0 0,v])) else some (k,ns)
def LH(K:Frag):Sp:=fun I H Q _=>∃(a:Addr) (C:List Int) (i:Int),I=[.ref a,.int i]/\SqL K H a (C.map V.int)/\(∀x∈C,0<=x)/\∀v o,aA H o->KG K o (lI C i) v->Q v o
theorem J0{C:Int}{ns:List Int}(h:owi C=some (1,ns)):∃x,ns=[x]:=by
 unfold owi at h
 split at h
 .cases h
 .split at h
  .have h:=N_ h;have I:(C / 134217728).toNat=1:=congrArg Prod.fst h;have o:=congrArg Prod.snd h;dsimp only at o;rw[I] at o;exact⟨_,o.symm⟩
  .cases h
theorem G1{o:Int}{k:Nat}{ns:List Int}(I:0<=o)(h:owi o=some (k,ns)):k<19:=by
 unfold owi at h
 split at h
 .cases h
 .split at h
  .have h:=N_ h;have C:(o / 134217728).toNat=k:=congrArg Prod.fst h
   lia
  .cases h
theorem sI(B:Bi mg)(D:lO K mg)(M:Has P w K mg base 5 "one_word_instruction" IS (KC K)):Has P w K mg base 6 "instruction_at" Gj (LH K):=by
 refine D.has kB (fun F H Q E h=> ?_) (fun f G A m s H F Q E N h=> ?_)
 .obtain⟨a,o,i,rfl,_⟩:=h
  rfl
 obtain⟨a,o,i,rfl,Y,hw,q⟩:=h
 refine⟨_,(aa (aL (a_ (ay (PW.pt (iS (pcT fL (pv 1) ad) (fP (pcT iT (pv 1) (aM aG (by rfl) B.len bS (pa1 (pv 0))))))) (af (ai eP)) al)))
   (aa (psS 2 kB.nd (pcH M N (pa1 (pX ba (pv 0) (pv 1)))))
   (aa (aL (a_ (ay (PW.pt (iS (pY (ut (pv 2))) (fP (pcT vb (pX aj (pv 2) ad) ax)))) (af (ai (pv 2))) al)))
   (aa (ay (pcT aE (aw aS (pv 1) ad) (aM aG (by rfl) B.len bS (pa1 (pv 0)))) (af (ai eP)) al)
   (af (ai (aB (pa3 ax (pX aj (pv 2) ad) (pX ba (pv 0) (aw aS (pv 1) ad)))))))))),?_⟩
 try dsimp only[aT]
 unfold lI at q;walk_at"n";refine⟨fun g b=>az (b=H/\0<=i/\i<o.length/\g=[some (.ref a),some (.int i),none]),?_,?_⟩
 .walk_at"g";refine bc (fun c=> ?_) (fun c=> ?_)
  .have C:i<0:=c;rw[NV C] at q;exact BI (q _ _ (aA.refl H) rfl)
  have C:¬i<0:=c;rw[fI C] at q;walk_at"g";refine bc (fun c=> ?_) (fun c=> ?_)
  .have c2:(((o.map V.int).length:Nat):Int)<=i:=c;rw[be] at c2;rw[PD (by lia)] at q
   exact q _ _ (aA.refl H) rfl
  .have c2:¬(((o.map V.int).length:Nat):Int)<=i:=c;rw[be] at c2;exact⟨rfl,by lia,by lia,rfl⟩
 rintro Z1 W ⟨rfl,L,R,rfl⟩
 rw[fI (by lia)] at q
 obtain⟨j,rfl⟩:∃j:Nat,i=j:=OE (by first | assumption | lia)
 rw[Os] at q;have l:j<o.length:=by lia
 rw[mC l] at q;dsimp only at q;have Z:atI (o.map V.int) (j:Int)=some (.int o[j]):=aQ (by rw[OB,mC l];rfl)
 have e:=hw _ (O0 l);walk_at"g";intro v u J U
 cases ho:owi o[j] with
 | none=>
  rw[ho] at q U
  cases U
  walk_at"g";refine⟨fun _ _=>az False,?_,fun _ _ z=>z.out.elim⟩
  walk_at"g";exact q _ _ J rfl
 | some kn=>
  obtain⟨k,X⟩:=kn;rw[ho] at q U;have n:=G1 e ho;obtain⟨p,rfl,y⟩:=U;dsimp only at q;walk_at"g";refine⟨fun g b=>az (b=u/\k=1/\g=[some (.ref a),some (.int j),some (.ref p)]),?_,?_⟩
  .walk_at"g";refine Mg (fun c=> ?_) (fun c=> ?_)
   .have C:¬k=1:=fun z=>by rw[NY ((lL k n).mpr z)] at c;cases c
    rw[fI C] at q;walk_at"g";exact q _ _ J ⟨p,rfl,y⟩
   .have C:k=1:=(lL k n).mp (by simpa using c)
    exact⟨rfl,C,rfl⟩
  rintro T S ⟨rfl,rfl,rfl⟩
  obtain⟨x,rfl⟩:=J0 ho;rw[NV rfl] at q;walk_at"g";refine bc (fun c=> ?_) (fun c=> ?_)
  .have C:(j:Int)+1=(((o.map V.int).length:Nat):Int):=by injection c
   rw[be] at C;rw[PD (by lia)] at q
   exact q _ _ J rfl
  .have C:¬(j:Int)+1=(((o.map V.int).length:Nat):Int):=fun z=>c (congrArg V.int z)
   rw[be] at C;have I:j+1<o.length:=by lia
   rw[mC I] at q;have O:atI (o.map V.int) ((j:Int)+1)=some (.int o[j+1]):=aQ (j:=j+1) (by rw[OB,mC I];rfl)
   walk_at"g";intro r d;exact q _ _ (cy d J) ⟨r,rfl,SqT.of ae⟩
def aC(bx o:Int)(k:Nat)(ns:List Int):Prop:=
 (k=0/\ns=[])\/(k=1/\∃a v,ns=[a,v]/\0<=a/\a<bx/\0<=v/\v<4294967296)\/(2<=k/\k<=9/\∃a b c,ns=[a,b,c]/\0<=a/\a<bx/\0<=b/\b<bx/\0<=c/\c<bx)\/
 (10<=k/\k<=12/\∃a b n,ns=[a,b,n]/\0<=a/\a<bx/\0<=b/\b<bx/\ -131072<=n/\n<131072)\/((k=13\/k=18)/\∃n,ns=[n]/\0<=n/\n<o)\/(k=14/\∃a n,ns=[a,n]/\0<=a/\a<bx/\0<=n/\n<o)\/
 (k=15/\∃b,ns=[b]/\0<=b/\b<bx)\/((k=16\/k=17)/\∃a b,ns=[a,b]/\0<=a/\a<bx/\0<=b/\b<bx)
theorem FL:∀k,k<19->∀j,j<19->k≠j->¬V.str (aN k)=V.str (aN j):=by decide +kernel
theorem NI(w:Int):0<=gM "a" w/\gM "a" w<8:=by
 have e:gM "a" w=w / 16777216 %8:=rfl
 lia
theorem Nk(w:Int):0<=gM "b" w/\gM "b" w<8:=by
 have e:gM "b" w=w / 2097152 %8:=rfl
 lia
theorem M9(w:Int):0<=gM "c" w/\gM "c" w<8:=by
 have e:gM "c" w=w / 262144 %8:=rfl
 lia
theorem Nr(w:Int):0<=gM "n" w/\gM "n" w<262144:=by
 have e:gM "n" w=w %262144:=rfl
 lia
theorem Nn(w:Int): -131072<=gM "move" w/\gM "move" w<131072:=by
 have e:gM "move" w=if w %262144<131072 then w %262144 else w %262144 - 262144:=rfl
 rw[e]
 split <;> lia
theorem uS{ws:List Int}{i:Int}{k:Nat}{ns:List Int}(hw:∀x∈ws,0<=x/\x<4294967296)(h:lI ws i=some (k,ns)):aC 8 262144 k ns:=by
 unfold lI at h
 split at h
 .cases h
 .split at h
  .cases h
  .rename_i wd hwd
   split at h
   .cases h
   .rename_i k' ns' ho
    have g:=(hw wd (N4 hwd)).1;have j:=G1 g ho;have o:ns'=(aX k').map fun f=>gM f wd:=by
     unfold owi at ho
     split at ho
     .cases ho
     .split at ho
      .have e:=N_ ho;have d:=congrArg Prod.fst e;have a:=congrArg Prod.snd e;dsimp only at d a;rw[<- d, <-a]
      .cases ho
    have C:=NI wd;have I:=Nk wd;have c:=M9 wd;have J:=Nr wd;have b:=Nn wd
    by_cases U:k'=1
    .rw[NV U] at h;subst U
     split at h
     .cases h
     .rename_i v hv
      cases h
      have e:ns'=[gM "a" wd]:=o;have v2:=hw v (N4 hv);exact .inr (.inl ⟨rfl,_,_,rfl,by rw[e];exact C.1,by rw[e];exact C.2,v2.1,v2.2⟩)
    .rw[fI U] at h
     cases h
     obtain rfl | rfl | rfl | rfl | rfl | rfl | rfl | rfl | rfl | rfl | rfl | rfl | rfl | rfl | rfl | rfl | rfl | rfl:k=0\/k=2\/k=3\/k=4\/k=5\/k=6\/k=7\/k=8\/k=9\/k=10\/k=11\/k=12\/k=13\/k=14\/k=15\/k=16\/k=17\/k=18:=(show ∀k<19, ¬k=1->k=0\/k=2\/k=3\/k=4\/k=5\/k=6\/k=7\/k=8\/k=9\/k=10\/k=11\/k=12\/k=13\/k=14\/k=15\/k=16\/k=17\/k=18 by set_option synthInstance.maxSize 4000 in decide) k j (by assumption)
     .exact .inl ⟨rfl,o⟩
     iterate 8 exact .inr (.inr (.inl ⟨by decide,by decide,_,_,_,o,C.1,C.2,I.1,I.2,c.1,c.2⟩))
     iterate 3 exact .inr (.inr (.inr (.inl ⟨by decide,by decide,_,_,_,o,C.1,C.2,I.1,I.2,b.1,b.2⟩)))
     .exact .inr (.inr (.inr (.inr (.inl ⟨.inl rfl,_,o,J.1,J.2⟩))))
     .exact .inr (.inr (.inr (.inr (.inr (.inl ⟨rfl,_,_,o,C.1,C.2,J.1,J.2⟩)))))
     .exact .inr (.inr (.inr (.inr (.inr (.inr (.inl ⟨rfl,_,o,I.1,I.2⟩))))))
     .exact .inr (.inr (.inr (.inr (.inr (.inr (.inr ⟨.inl rfl,_,_,o,C.1,C.2,I.1,I.2⟩))))))
     .exact .inr (.inr (.inr (.inr (.inr (.inr (.inr ⟨.inr rfl,_,_,o,C.1,C.2,I.1,I.2⟩))))))
     .exact .inr (.inr (.inr (.inr (.inl ⟨.inr rfl,_,o,J.1,J.2⟩))))
theorem aC.acc{bx I:Int}{k:Nat}{ns:List Int}(h:aC bx I k ns)(o:k=11\/k=12):∃a b n,ns=[a,b,n]/\0<=a/\a<bx/\0<=b/\b<bx/\ -131072<=n/\n<131072:=by
 rcases h with⟨e,_⟩|⟨e,_⟩|⟨_,C,_⟩|⟨J,C,r⟩|⟨e,_⟩|⟨e,_⟩|⟨e,_⟩|⟨e,_⟩
 .subst e;exact absurd o (by decide)
 .subst e;exact absurd o (by decide)
 .rcases o with rfl | rfl <;> exact absurd C (by decide)
 .exact r
 .rcases e with rfl | rfl <;> exact absurd o (by decide)
 .subst e;exact absurd o (by decide)
 .subst e;exact absurd o (by decide)
 .rcases e with rfl | rfl <;> exact absurd o (by decide)
theorem aC.thr{bx o:Int}{k:Nat}{ns:List Int}(h:aC bx o k ns)(C:k=15):∃b,ns=[b]/\0<=b/\b<bx:=by
 subst C;rcases h with⟨e,_⟩|⟨e,_⟩|⟨_,e,_⟩|⟨_,e,_⟩|⟨e,_⟩|⟨e,_⟩|⟨_,r⟩|⟨e,_⟩
 all_goals first | exact r | exact absurd e (by decide)
theorem aC.jmp{bx o:Int}{k:Nat}{ns:List Int}(h:aC bx o k ns)(C:k=13):∃n,ns=[n]/\0<=n/\n<o:=by
 subst C;rcases h with⟨e,_⟩|⟨e,_⟩|⟨_,e,_⟩|⟨_,e,_⟩|⟨_,r⟩|⟨e,_⟩|⟨e,_⟩|⟨e,_⟩
 all_goals first | exact r | exact absurd e (by decide)
theorem aC.jif{bx o:Int}{k:Nat}{ns:List Int}(h:aC bx o k ns)(C:k=14):∃a n,ns=[a,n]/\0<=a/\a<bx/\0<=n/\n<o:=by
 subst C;rcases h with⟨e,_⟩|⟨e,_⟩|⟨_,e,_⟩|⟨_,e,_⟩|⟨e,_⟩|⟨_,r⟩|⟨e,_⟩|⟨e,_⟩
 all_goals first | exact r | exact absurd e (by decide)
theorem aC.gat{bx o:Int}{k:Nat}{ns:List Int}(h:aC bx o k ns)(C:k=18):∃n,ns=[n]/\0<=n/\n<o:=by
 subst C;rcases h with⟨e,_⟩|⟨e,_⟩|⟨_,e,_⟩|⟨_,e,_⟩|⟨_,r⟩|⟨e,_⟩|⟨e,_⟩|⟨e,_⟩
 all_goals first | exact r | exact absurd e (by decide)
theorem aC.put{bx o:Int}{k:Nat}{ns:List Int}(h:aC bx o k ns)(C:k=1):∃a v,ns=[a,v]/\0<=a/\a<bx/\0<=v/\v<4294967296:=by
 subst C;rcases h with⟨e,_⟩|⟨_,r⟩|⟨e,_⟩|⟨e,_⟩|⟨e,_⟩|⟨e,_⟩|⟨e,_⟩|⟨e,_⟩
 all_goals first | exact r | exact absurd e (by decide)
theorem aC.lt{o C:Int}{k:Nat}{ns:List Int}(h:aC o C k ns):k<19:=by
 rcases h with⟨e,_⟩|⟨e,_⟩|⟨_,e,_⟩|⟨_,e,_⟩|⟨e,_⟩|⟨e,_⟩|⟨e,_⟩|⟨e,_⟩
 .subst e;decide
 .subst e;decide
 .exact Of e (by decide)
 .exact Of e (by decide)
 .rcases e with rfl | rfl <;> decide
 .subst e;decide
 .subst e;decide
 .rcases e with rfl | rfl <;> decide
theorem aC.hd{bx J:Int}{k:Nat}{ns:List Int}(h:aC bx J k ns)(I:k≠0/\k≠13/\k≠18):∃x r,ns=x::r/\0<=x/\x<bx:=by
 rcases h with⟨e,_⟩|⟨_,x,v,rfl,C,o,_⟩|⟨_,_,x,y,z,rfl,C,o,_⟩|⟨_,_,x,y,z,rfl,C,o,_⟩|⟨e,_⟩|⟨_,x,z,rfl,C,o,_⟩|⟨_,x,rfl,C,o⟩|⟨_,x,y,rfl,C,o,_⟩
 .exact absurd e I.1
 .exact⟨_,_,rfl,C,o⟩
 .exact⟨_,_,rfl,C,o⟩
 .exact⟨_,_,rfl,C,o⟩
 .rcases e with e | e
  .exact absurd e I.2.1
  .exact absurd e I.2.2
 .exact⟨_,_,rfl,C,o⟩
 .exact⟨_,_,rfl,C,o⟩
 .exact⟨_,_,rfl,C,o⟩
def aO(H:Hp)(d:Addr):Prop:=∃n o:Int,H d=some (.lst [.int n,.int o])
def Ik(K:Frag):Sp:=fun I H Q _=>∃(a:Addr) (C:List Int) (k:Int),I=[.ref a,.int k]/\SqL K H a (C.map V.int)/\0<=k/\k<=1000000/\∀(d:Addr) (o:Hp),H d=none->aO o d->aA H o->Q (.ref d) o
def g_:Sp:=fun C H Q _=>∃(d:Addr) (m:Int),C=[.ref d,.int m]/\aO H d/\0<m/\m<=2^100/\∀(r:Int) (o:Hp),0<=r->r<m->aO o d->But d H o->Q (.int r) o
theorem jC{H C:Hp}{d:Addr}(s:aA H C)(h:aO H d):aO C d:=by
 obtain⟨f,o,h⟩:=h;exact⟨f,o,s _ _ h⟩
theorem Bo(B:Bi mg)(D:uZ K mg):Has P w K mg base 1 "_law_deal" Cv (Ik K):=by
 refine D.has gN (fun e H Q E h=> ?_) (fun f g A d s H e Q E O h=> ?_)
 .obtain⟨a,o,k,rfl,_⟩:=h
  rfl
 obtain⟨a,o,k,rfl,G,j,L,q⟩:=h;have I:(o.map V.int).length=o.length:=be _;have C:∀i:Int,0<=i->i<o.length->∃v:Int,atI (o.map V.int) i=some (.int v):=fun i F M=>by
  have m:i.toNat<o.length:=by lia
  have l:i=((i.toNat:Nat):Int):=by lia
  have q:atI (o.map V.int) ((i.toNat:Nat):Int)=some (.int o[i.toNat]):=aQ (by rw[OB,mC m] <;> rfl)
  rw[<- l] at q;exact⟨_,q⟩
 refine⟨_,(aa (psS 2 gN.nd (aw aS (aw bH ad (pv 1)) ad))
   (aa (psS 3 gN.nd ad)
   (aa (aL (a_ (ay (pcT zX (aM aG (by rfl) B.len bS (pa1 (pv 0))) ad) (af (psS 2 gN.nd (aw aS (aw aS (aw bH (pX ba (pv 0) (aw cW (pv 1) (aM aG (by rfl) B.len bS (pa1 (pv 0))))) ad) (aw bH (aw bH ad (pv 1)) (pv 1))) (aM aG (by rfl) B.len bS (pa1 (pv 0)))))) al)))
   (aa (aL (a_ (ay (PW.pt (fZ (pcT fL (pv 1) (aM aG (by rfl) B.len bS (pa1 (pv 0)))) (dH (pcT aE (aw cW (pX ba (pv 0) ad) ad) ad)))) (af (psS 3 gN.nd (pX ba (pv 0) (pv 1)))) al)))
   (af (ai (bo (pa2 (pv 3) (aw cW (pv 2) ad))))))))),?_⟩
 try dsimp only[aT]
 walk_at"g";refine⟨fun b U=>az (H=U/\∃x y:Int,b=[some (.ref a),some (.int k),some (.int x),some (.int y)]),?_,?_⟩
 .walk_at"g";refine bc (fun c=> ?_) (fun c=> ?_)
  .have c':(0:Int)<((o.map V.int).length:Nat):=c;have J:0<o.length:=by rw[I] at c';lia
   obtain⟨v1,n⟩:=C (k %(((o.map V.int).length:Nat):Int)) (O6 _ (by rw[I];lia)) (by rw[I];exact Py _ (by lia))
   walk_at"g";exact⟨rfl,_,_,rfl⟩
  .exact⟨rfl,_,_,rfl⟩
 rintro S u ⟨rfl,x,y,rfl⟩
 walk_at"n";refine⟨fun b U=>az (H=U/\∃x y:Int,b=[some (.ref a),some (.int k),some (.int x),some (.int y)]),?_,?_⟩
 .walk_at"g";refine bc (fun c=> ?_) (fun c=> ?_)
  .have c':k<(((o.map V.int).length:Nat):Int):=c;obtain⟨v1,n⟩:=C k j (by rw[I] at c';exact c')
   obtain⟨v0,R⟩:=C 0 (OX 0) (by rw[I] at c';lia)
   walk_at"g";refine bc (fun c=> ?_) (fun c=> ?_)
   .walk_at"g";exact⟨rfl,_,_,rfl⟩
   .exact⟨rfl,_,_,rfl⟩
  .exact C3 ⟨rfl,_,_,rfl⟩
 rintro N r ⟨rfl,z,z2,rfl⟩
 walk_at"g";intro p J;exact q p _ J ⟨_,_,ae⟩ (ag J _)
theorem AN(B:Bi mg)(D:uR K mg):Has P w K mg base 1 "_law_draw" iU g_:=by
 refine D.has g0 (fun b H Q E h=> ?_) (fun f e A U s H b Q E l h=> ?_)
 .obtain⟨d,m,rfl,_⟩:=h
  rfl
 obtain⟨d,m,rfl,⟨n,o,hd⟩,C,J,q⟩:=h
 refine⟨_,(aa (ay (gR ju (pX ba (pv 0) ad) (bo (pa2 ad (nz (v:= -1) (by rfl)))) (by rfl)) (aa (psS 2 g0.nd (pX ba (pv 0) ad))
   (aa (gX (aw cE (pv 2) (pv 1)) (kJ (pv 0) ad f_))
   (af (ai (aw cW (pv 2) (pv 1)))))) al)
   (aa (psS 2 g0.nd (aw cW (aw aS (aw bH (pX ba (pv 0) ad) ad) ad) ad))
   (aa (gX (aw cW (aw aS (aw bH (pv 2) ad) ad) ad) (kJ (pv 0) ad f_))
   (aa (psS 3 g0.nd (aw cW (aw bH (pv 2) (pv 2)) ad))
   (aa (psS 4 g0.nd (aw cW (aw bH (pX ba (pv 0) ad) (pX ba (pv 0) ad)) ad))
   (af (ai (aw cW (aw aS (aw bH (pv 3) ad) (pv 4)) (pv 1))))))))),?_⟩
 try dsimp only[aT]
 walk_at"g";intro p a;walk_at"g";have I:d≠p:=ak hd a;have i:tJ n m:=⟨C,J⟩;have g:upd H p (.lst [.int 0,.int (-1)]) d=some (.lst [.int n,.int o]):=by rw[aq I];exact hd
 have sm:aA H (upd H p (.lst [.int 0,.int (-1)])):=ag a _;generalize upd H p (.lst [.int 0,.int (-1)])=j at*;refine CP (fun c=> ?_) (fun c=> ?_)
 .walk_at"g";exact q _ _ (O6 _ (by lia)) (Py _ C) ⟨_,_,ae⟩ (sm.but.trans But.upd)
 .walk_at"g";exact q _ _ (O6 _ (by lia)) (Py _ C) ⟨_,_,ae⟩ (sm.but.trans But.upd)
abbrev Tr(H:Hp)(a:Addr)(s:SpM.Span):Prop:=H a=some (.tup [.int s.lo,.int s.hi,.int s.z])
def rc:Sp:=fun J H Q _=>∃(I C:Int) (z:Nat),J=[.int I,.int C,.int z]/\∀p o,aA H o->Tr o p (SpM.settled I C z)->Q (.ref p) o
theorem EH{lo o:Int}{z:Nat}(h:lo=o):SpM.settled lo o z=SpM.single lo:=NV h
theorem EO{lo o:Int}{z:Nat}(h:lo≠o):SpM.settled lo o z=⟨lo,o,z⟩:=fI h
theorem tW(a b:Nat):(if (b:Int)<(a:Int) then(b:Int) else(a:Int))=((min a b:Nat):Int):=by split <;> lia
theorem Js(a b:Nat):(if (b:Int) >(a:Int) then(b:Int) else(a:Int))=((max a b:Nat):Int):=by split <;> lia
theorem Ju(a b:Int):(if b<a then b else a)=min a b:=by split <;> lia
theorem JJ(a b:Int):(if b >a then b else a)=max a b:=by split <;> lia
theorem HF(l:List Int){r:Int}(J:0<=r)(I:r<l.length):∃i,i∈l/\atI (l.map V.int) r=some (.int i):=by
 have o:r.toNat<l.length:=by lia
 have C:r=((r.toNat:Nat):Int):=by lia
 have q:atI (l.map V.int) ((r.toNat:Nat):Int)=some (.int l[r.toNat]):=aQ (by rw[OB,mC o] <;> rfl)
 rw[<- C] at q;exact⟨_,O0 o,q⟩
theorem aO.up{H:Hp}{d p:Addr}{o:HO}(h:aO H d)(C:H p=none):aO (upd H p o) d:=jC (ag C _) h
theorem DQ{lo o:Int}{z:Nat}(h:lo<0\/4294967296<=o):SpM.kept lo o z=SpM.all z:=NV h
theorem Jn{lo o:Int}{z:Nat}(h:¬(lo<0\/4294967296<=o)):SpM.kept lo o z=SpM.settled lo o z:=fI h
def m_:Sp:=fun C H Q _=>C=[]/\∀p o,aA H o->Tr o p SpM.whole->Q (.ref p) o
def IJ:Sp:=fun C H Q _=>∃z:Nat,C=[.int z]/\z<=32/\∀p o,aA H o->Tr o p (SpM.all z)->Q (.ref p) o
def jN:Sp:=fun C H Q _=>∃v:Int,C=[.int v]/\∀p o,aA H o->Tr o p (SpM.single v)->Q (.ref p) o
def Ct(K:Frag):Sp:=fun o H Q _=>∃(a:Addr) (s:SpM.Span),o=[.ref a]/\Tr H a s/\Q (.bl (decide (s.lo=s.hi))) H
def wI:Sp:=fun J H Q _=>∃(I C:Int) (z:Nat),J=[.int I,.int C,.int z]/\z<=32/\∀p o,aA H o->Tr o p (SpM.kept I C z)->Q (.ref p) o
def nN(g:SpM.Span->SpM.Span->SpM.Span):Sp:=fun C H Q _=>∃(a b:Addr) (l r:SpM.Span),C=[.ref a,.ref b]/\Tr H a l/\Tr H b r/\SpM.Sv l/\SpM.Sv r/\∀p o,aA H o->Tr o p (g l r)->Q (.ref p) o
theorem zc(B:Bi mg)(D:sE K mg):Has P w K mg base 1 "whole_span" [] m_:=by
 refine D.has yO (fun I H Q E h=> ?_) (fun f J A o s H I Q E U h=> ?_)
 .obtain⟨rfl,_⟩:=h
  rfl
 obtain⟨rfl,q⟩:=h;refine⟨_,(af (ai (aB (pa3 ad (aw cC (bU (v:=4294967296) (by rfl)) ad) ad)))),?_⟩
 try dsimp only[aT]
 walk_at"g";intro p C;exact q p _ (ag C _) ae
theorem sR(B:Bi mg)(D:lR K mg)(U:Has P w K mg base 1 "power_of_two" mB jo):Has P w K mg base 2 "multiples_span" DH IJ:=by
 refine D.has sS (fun I H Q E h=> ?_) (fun f J A o s H I Q E a h=> ?_)
 .obtain⟨z,rfl,_⟩:=h
  rfl
 obtain⟨z,rfl,b,q⟩:=h;refine⟨_,(af (ai (aB (pa3 ad (aw cC (bU (v:=4294967296) (by rfl)) (pcH U a (pa1 (pv 0)))) (pv 0))))),?_⟩
 try dsimp only[aT]
 walk_at"g";intro p C;exact q p _ (ag C _) ae
theorem F7(B:Bi mg)(D:DL K mg)(U:Has P w K mg base 1 "zeros" ph wB):Has P w K mg base 2 "single" ph jN:=by
 refine D.has Gp (fun I H Q E h=> ?_) (fun f J A o s H I Q E a h=> ?_)
 .obtain⟨v,rfl,_⟩:=h
  rfl
 obtain⟨v,rfl,q⟩:=h;refine⟨_,(af (ai (aB (pa3 (pv 0) (pv 0) (pcH U a (pa1 (pv 0))))))),?_⟩
 try dsimp only[aT]
 walk_at"g";intro p C;exact q p _ (ag C _) ae
theorem AR(B:Bi mg)(D:uY K mg):Has P w K mg base 1 "is_single" uU (Ct K):=by
 refine D.has Br (fun I H Q E h=> ?_) (fun f J A C s H I Q E U h=> ?_)
 .obtain⟨a,o,rfl,_⟩:=h
  rfl
 obtain⟨a,o,rfl,b,q⟩:=h;refine⟨_,(af (ai (pcE aE (pX aj (pv 0) ad) (pX aj (pv 0) ad)))),?_⟩
 try dsimp only[aT]
 walk_at"g";have e:decide (V.int o.lo=V.int o.hi)=decide (o.lo=o.hi):=by
  by_cases h:o.lo=o.hi
  .rw[NY h,h,NY rfl]
  .rw[NX h,NX (fun z=>h (by injection z))]
 rw[<- e] at q;exact q
theorem vG(B:Bi mg)(D:pQ K mg)(b:Has P w K mg base 2 "single" ph jN):Has P w K mg base 3 "settled_span" hU rc:=by
 refine D.has vF (fun U H Q E h=> ?_) (fun f a A I s H U Q E e h=> ?_)
 .obtain⟨o,C,z,rfl,_⟩:=h
  rfl
 obtain⟨o,C,z,rfl,q⟩:=h
 refine⟨_,(aa (ay (pcT aE (pv 0) (pv 1)) (af (ai (pcH b e (pa1 (pv 0))))) al)
   (af (ai (aB (pa3 (pv 0) (pv 1) (pv 2)))))),?_⟩
 try dsimp only[aT]
 walk_at"g";refine bc (fun c=> ?_) (fun c=> ?_)
 .have c':o=C:=by injection c
  walk_at"g";intro p i d g;exact q p _ d (by rw[EH c'];exact g)
 .have c':o≠C:=fun z=>c (by rw[z])
  walk_at"g";intro p J;exact q p _ (ag J _) (by rw[EO c'];exact ae)
theorem A1(B:Bi mg)(D:vp K mg)(g:Has P w K mg base 2 "multiples_span" DH IJ)(j:Has P w K mg base 3 "settled_span" hU rc):Has P w K mg base 4 "kept_span" hU wI:=by
 refine D.has BG (fun c H Q E h=> ?_) (fun f d A U s H c Q E b h=> ?_)
 .obtain⟨I,J,z,rfl,_⟩:=h
  rfl
 obtain⟨I,J,z,rfl,m,q⟩:=h
 refine⟨_,(aa (aL (a_ (ay (PW.pt (iS (pcT fL (pv 0) ad) (fP (pcT iT (pv 1) (bU (v:=4294967296) (by rfl)))))) (af (ai (pcH g b (pa1 (pv 2))))) al)))
   (af (ai (pcH j b (pa3 (pv 0) (pv 1) (pv 2)))))),?_⟩
 try dsimp only[aT]
 walk_at"n";refine⟨fun i e=>az (e=H/\i=[some (.int I),some (.int J),some (.int z)]/\¬(I<0\/4294967296<=J)),?_,?_⟩
 .walk_at"g";refine bc (fun c1=> ?_) (fun c1=> ?_)
  .apply BI
   walk_at"g";intro p a o C;exact q p _ o (by rw[DQ (Or.inl c1)];exact C)
  .walk_at"g";refine bc (fun c2=> ?_) (fun c2=> ?_)
   .walk_at"g";intro p a o C;exact q p _ o (by rw[DQ (Or.inr c2)];exact C)
   .exact⟨rfl,rfl,fun h=>h.elim c1 c2⟩
 .rintro Z1 a ⟨rfl,rfl,hc⟩
  walk_at"g";intro p l o C;exact q p _ o (by rw[Jn hc];exact C)
theorem Dx(B:Bi mg)(D:wL K mg)(U:Has P w K mg base 4 "kept_span" hU wI):Has P w K mg base 5 "add_span" di (nN SpM.addS):=by
 refine D.has Cl (fun C H Q E h=> ?_) (fun f I A o s H C Q E c h=> ?_)
 .obtain⟨a,b,l,r,rfl,_⟩:=h
  rfl
 obtain⟨a,b,l,r,rfl,d,i,J,g,q⟩:=h;refine⟨_,(af (ai (pcH U c (pa3 (aw aS (pX aj (pv 0) ad) (pX aj (pv 1) ad)) (aw aS (pX aj (pv 0) ad) (pX aj (pv 1) ad)) (aM (iq (by rfl)) (by rfl) B.min rK (pa2 (pX aj (pv 0) ad) (pX aj (pv 1) ad))))))),?_⟩
 try dsimp only[aT]
 have e:min l.z r.z<=32:=by have:=J.zz;lia
 walk_at"g";dsimp only;rw[tW];walk_at"g";exact q
theorem DM(B:Bi mg)(D:yn K mg)(U:Has P w K mg base 4 "kept_span" hU wI):Has P w K mg base 5 "sub_span" di (nN SpM.subS):=by
 refine D.has Dh (fun C H Q E h=> ?_) (fun f I A o s H C Q E c h=> ?_)
 .obtain⟨a,b,l,r,rfl,_⟩:=h
  rfl
 obtain⟨a,b,l,r,rfl,d,i,J,g,q⟩:=h;refine⟨_,(af (ai (pcH U c (pa3 (aw cC (pX aj (pv 0) ad) (pX aj (pv 1) ad)) (aw cC (pX aj (pv 0) ad) (pX aj (pv 1) ad)) (aM (iq (by rfl)) (by rfl) B.min rK (pa2 (pX aj (pv 0) ad) (pX aj (pv 1) ad))))))),?_⟩
 try dsimp only[aT]
 have e:min l.z r.z<=32:=by have:=J.zz;lia
 walk_at"g";dsimp only;rw[tW];walk_at"g";exact q
theorem t5(x:Int):x %2^5=(((x %32).toNat:Nat):Int):=by show x %32=_;lia
theorem Cw(x:Int):(x %32).toNat<=64:=by lia
theorem KK(x:Int):(x %32).toNat<=31:=by lia
theorem wU{t:Nat}(h:t<=31): -(2^64)<(2:Int)^t/\(2:Int)^t<2^64:=by
 have C:=SpM.pp t;have o:=SpM.ple (show t<=32 by lia)
 rw[SpM.p32] at o
 lia
theorem Fv{t:Nat}(h:t<=64):tJ 0 ((2:Int)^t):=⟨SpM.pp t,SpM.ple (by lia)⟩
noncomputable def nm8:SpM.Op8->Str
 | .add=>"add" | .sub=>"sub" | .and=>"and" | .or=>"or" | .xor=>"xor" | .less=>"less" | .left=>"left" | .right=>"right"
def LZ:Sp:=fun C H Q _=>∃(o:SpM.Op8) (b c:Int),C=[.str (nm8 o),.int b,.int c]/\Q (.int (SpM.jv o b c)) H
def Mc:Sp:=fun I H Q _=>∃(a b:Addr) (C:Int) (l r:SpM.Span),I=[.ref a,.ref b,.int C]/\Tr H a l/\Tr H b r/\SpM.Sv l/\SpM.Sv r/\∀p o,aA H o->Tr o p (SpM.orS l r C)->Q (.ref p) o
def Lh:Sp:=fun I H Q _=>∃(o:SpM.Op8) (a b:Addr) (l r:SpM.Span),I=[.str (nm8 o),.ref a,.ref b]/\Tr H a l/\Tr H b r/\SpM.Sv l/\SpM.Sv r/\∀p C,aA H C->Tr C p (SpM.jS o l r)->Q (.ref p) C
def EQ:Sp:=fun C H Q _=>∃(a:Addr) (n:Int) (l:SpM.Span),C=[.ref a,.int n]/\Tr H a l/\SpM.Sv l/\∀p o,aA H o->Tr o p (SpM.moreS l n)->Q (.ref p) o
theorem vS(B:Bi mg)(D:oh K mg)(g:Has P w K mg base 1 "power_of_two" mB jo)(I:Has P w K mg base 2 "rest" lW jg):Has P w K mg base 3 "joined_value" GE LZ:=by
 refine D.has nO (fun a H Q E h=> ?_) (fun f d A U s H a Q E C h=> ?_)
 .obtain⟨o,b,c,rfl,_⟩:=h
  rfl
 obtain⟨o,b,c,rfl,q⟩:=h
 refine⟨_,(aa (ay (pcT aE (pv 0) ax) (af (ai (pcH I C (pa2 (aw aS (pv 1) (pv 2)) ad)))) al)
   (aa (ay (pcT aE (pv 0) ax) (af (ai (pcH I C (pa2 (aw cC (pv 1) (pv 2)) ad)))) al)
   (aa (ay (pcT aE (pv 0) ax) (af (ai (aw K2 (pv 1) (pv 2)))) al)
   (aa (ay (pcT aE (pv 0) ax) (af (ai (aw MT (pv 1) (pv 2)))) al)
   (aa (ay (pcT aE (pv 0) ax) (af (ai (aw Lu (pv 1) (pv 2)))) al)
   (aa (ay (pcT aE (pv 0) ax) (af (ai (wC (pcT fL (pv 1) (pv 2)) ad ad))) al)
   (aa (psS 3 nO.nd (pcH g C (pa1 (pcH I C (pa2 (pv 2) ad)))))
   (aa (ay (pcT aE (pv 0) ax) (af (ai (pcH I C (pa2 (aw bH (pv 1) (pv 3)) ad)))) al)
   (af (ai (aw cE (pv 1) (pv 3)))))))))))),?_⟩
 try dsimp only[aT]
 have i:=wU (KK c);have hd:=Fv (Cw c);have j:=Cw c
 cases o
 all_goals dsimp only[nm8]
 .walk_at"g";walk_at"wd";exact q
 .walk_at"g";walk_at"wd";exact q
 .walk_at"g";walk_at"wd";exact q
 .walk_at"g";walk_at"wd";exact q
 .walk_at"g";walk_at"wd";exact q
 .walk_at"g";walk_at"wd";refine bc (fun J=> ?_) (fun J=> ?_)
  .have e:SpM.jv .less b c=1:=NV J;rw[e] at q;exact q
  .have e:SpM.jv .less b c=0:=fI J;rw[e] at q;exact q
 .walk_at"g";walk_at"wd";rw[t5];walk_at"g";walk_at"wd";exact q
 .walk_at"g";walk_at"wd";rw[t5];walk_at"g";walk_at"wd";exact q
theorem Ce(B:Bi mg)(D:xx K mg)(c:Has P w K mg base 2 "rest" lW jg)(e:Has P w K mg base 3 "settled_span" hU rc):Has P w K mg base 4 "and_span" di (nN SpM.andS):=by
 refine D.has oz (fun I H Q E h=> ?_) (fun f J A o s H I Q E C h=> ?_)
 .obtain⟨a,b,l,r,rfl,_⟩:=h
  rfl
 obtain⟨a,b,l,r,rfl,g,j,d,U,q⟩:=h
 refine⟨_,(aa (psS 2 oz.nd (aM (uJ (by rfl)) (by rfl) B.max AA (pa2 (pX aj (pv 0) ad) (pX aj (pv 1) ad))))
   (aa (psS 3 oz.nd (aM (iq (by rfl)) (by rfl) B.min rK (pa2 (pX aj (pv 0) ad) (pX aj (pv 1) ad))))
   (af (ai (pcH e C (pa3 ad (aw cC (pv 3) (pcH c C (pa2 (pv 3) (pv 2)))) (pv 2))))))),?_⟩
 try dsimp only[aT]
 have i:max l.z r.z<=64:=by have:=d.zz;have:=U.zz;lia
 walk_at"g";rw[Js,Ju];walk_at"g";exact q
theorem Ea(B:Bi mg)(D:zK K mg)(v:Has P w K mg base 1 "power_of_two" mB jo)(L:Has P w K mg base 3 "settled_span" hU rc):Has P w K mg base 4 "or_span" CH Mc:=by
 refine D.has nq (fun x H Q E h=> ?_) (fun f y A n s H x Q E i h=> ?_)
 .obtain⟨a,b,c,l,r,rfl,_⟩:=h
  rfl
 obtain⟨a,b,c,l,r,rfl,M,S,g,G,q⟩:=h
 refine⟨_,(aa (psS 3 nq.nd (aM (iq (by rfl)) (by rfl) B.min rK (pa2 (pX aj (pv 0) ad) (pX aj (pv 1) ad))))
   (aa (psS 4 nq.nd (pcH v i (pa1 (pv 3))))
   (aa (aL (kc Oj (PW.pt (iS (pcT iT (pX aj (pv 0) ad) (pv 4)) (fP (pcT iT (pX aj (pv 1) ad) (pv 4))))) (af (psS 4 nq.nd (aw bH (pv 4) ad)))))
   (af (ai (pcH L i (pa3 (pv 2) (aw cC (pv 4) (pcH v i (pa1 (pv 3)))) (pv 3)))))))),?_⟩
 try dsimp only[aT]
 have N:min l.z r.z<=64:=by have:=g.zz;lia
 have F:min l.z r.z<=32:=by have:=g.zz;lia
 have R:=g.hW;have O:=G.hW;walk_at"g";rw[tW];walk_at"g";refine⟨fun m Z d=>d=H/\∃j,j+m=min l.z r.z+33/\SpM.jf l.hi r.hi (min l.z r.z)=SpM.jst l.hi r.hi m j/\Z=[some (.ref a),some (.ref b),some (.int c),some (.int (min l.z r.z:Nat)),some (.int (2^j))],⟨33,rfl,_,rfl,rfl,rfl⟩,?_⟩
 rintro m Z d ⟨rfl,j,T,p,rfl⟩
 have big:m=0->(4294967296:Int)<2^j:=fun h=>by
  have:=SpM.plt (show 32<j by lia)
  rw[SpM.p32] at this;exact this
 have next:((2:Int)^j<=l.hi\/(2:Int)^j<=r.hi)->∃o,m=o+1/\SpM.jf l.hi r.hi (min l.z r.z)=SpM.jst l.hi r.hi o (j+1):=fun J=>by
  cases m with
  | zero=>have:=big rfl;lia
  | succ o=>
   refine⟨o,rfl,?_⟩
   rw[p];show(if _ then _ else _)=_
   rw[NV J]
 have I:¬((2:Int)^j<=l.hi\/(2:Int)^j<=r.hi)->SpM.jf l.hi r.hi (min l.z r.z)=j:=fun J=>by
  rw[p]
  cases m with
  | zero=>rfl
  | succ o=>
   show(if _ then _ else _)=_
   rw[fI J]
 have turn:((2:Int)^j<=l.hi\/(2:Int)^j<=r.hi)->∃o,o<m/\(o=m - 1)/\SpM.jf l.hi r.hi (min l.z r.z)=SpM.jst l.hi r.hi o (j+1):=fun J=>by
  obtain⟨o,e,h⟩:=next J;exact⟨o,by lia,by lia,h⟩
 have u:(2:Int)^j*2=2^(j+1):=(Q4 _ _).symm;walk_at"g";refine bc (fun c1=> ?_) (fun c1=> ?_)
 .obtain⟨o,h1,h2,h3⟩:=turn (Or.inl c1);apply BI
  walk_at"n";refine⟨fun U C=>az (C=d/\U=[some (.ref a),some (.ref b),some (.int c),some (.int (min l.z r.z:Nat)),some (.int (2^(j+1)))]),fun U C h=>⟨o,h1,h.out.1,j+1,by lia,h3,h.out.2⟩,?_⟩
  walk_at"g";dsimp only;rw[u];exact⟨rfl,rfl⟩
 .walk_at"g";refine bc (fun c2=> ?_) (fun c2=> ?_)
  .obtain⟨o,h1,h2,h3⟩:=turn (Or.inr c2);walk_at"n";refine⟨fun U C=>az (C=d/\U=[some (.ref a),some (.ref b),some (.int c),some (.int (min l.z r.z:Nat)),some (.int (2^(j+1)))]),fun U C h=>⟨o,h1,h.out.1,j+1,by lia,h3,h.out.2⟩,?_⟩
   walk_at"g";dsimp only;rw[u];exact⟨rfl,rfl⟩
  .have e3:=I (fun h=>h.elim c1 c2)
   walk_at"g";unfold SpM.orS at q;rw[e3] at q;exact q
theorem AZ(B:Bi mg)(D:uX K mg)(C:Has P w K mg base 2 "single" ph jN):Has P w K mg base 3 "less_span" di (nN SpM.lessS):=by
 refine D.has AH (fun U H Q E h=> ?_) (fun f c A o s H U Q E I h=> ?_)
 .obtain⟨a,b,l,r,rfl,_⟩:=h
  rfl
 obtain⟨a,b,l,r,rfl,d,i,g,e,q⟩:=h
 refine⟨_,(aa (ay (pcT fL (pX aj (pv 0) ad) (pX aj (pv 1) ad)) (af (ai (pcH C I (pa1 ad)))) al)
   (aa (ay (pcT iT (pX aj (pv 0) ad) (pX aj (pv 1) ad)) (af (ai (pcH C I (pa1 ad)))) al)
   (af (ai (aB (bD (by rfl))))))),?_⟩
 try dsimp only[aT]
 unfold SpM.lessS at q;walk_at"g";refine bc (fun c1=> ?_) (fun c1=> ?_)
 .rw[NV c1] at q;walk_at"g";exact q
 .rw[fI c1] at q;walk_at"g";refine bc (fun c2=> ?_) (fun c2=> ?_)
  .rw[NV c2] at q;walk_at"g";exact q
  .rw[fI c2] at q;walk_at"g";intro p J;exact q p _ (ag J _) ae
theorem AY(B:Bi mg)(D:vk K mg)(U:Has P w K mg base 1 "is_single" uU (Ct K))(i:Has P w K mg base 1 "whole_span" [] m_)(d:Has P w K mg base 2 "rest" lW jg)(g:Has P w K mg base 1 "power_of_two" mB jo)
  (j:Has P w K mg base 4 "kept_span" hU wI):Has P w K mg base 5 "left_span" di (nN SpM.leftS):=by
 refine D.has mn (fun I H Q E h=> ?_) (fun f J A C s H I Q E o h=> ?_)
 .obtain⟨a,b,l,r,rfl,_⟩:=h
  rfl
 obtain⟨a,b,l,r,rfl,p,y,x,v,q⟩:=h
 refine⟨_,(aa (ay (gA (cJ (pcH U o (pa1 (pv 1))))) (af (ai (dL (i.mono (by omega)) o (by rfl)))) al)
   (aa (psS 2 mn.nd (pcH d o (pa2 (pX aj (pv 1) ad) ad)))
   (aa (psS 3 mn.nd (pcH g o (pa1 (pv 2))))
   (af (ai (pcH j o (pa3 (aw bH (pX aj (pv 0) ad) (pv 3)) (aw bH (pX aj (pv 0) ad) (pv 3)) (aM (iq (by rfl)) (by rfl) B.min rK (pa2 ad (aw aS (pX aj (pv 0) ad) (pv 2))))))))))),?_⟩
 try dsimp only[aT]
 have m:=wU (KK r.lo);have n:=Cw r.lo;have u:min 32 (l.z+(r.lo %32).toNat)<=32:=by lia
 unfold SpM.leftS at q;walk_at"g"
 by_cases c:r.lo=r.hi
 .rw[NV c] at q;rw[NY c];walk_at"g";rw[t5];walk_at"g";have e:(if ((l.z:Int)+((r.lo %32).toNat:Nat))<32 then((l.z:Int)+((r.lo %32).toNat:Nat)) else 32)=((min 32 (l.z+(r.lo %32).toNat):Nat):Int):=by split <;> lia
  rw[e];walk_at"g";exact q
 .rw[fI c] at q;rw[NX c];walk_at"g";exact q
theorem yY(B:Bi mg)(D:ud K mg)(d:Has P w K mg base 1 "is_single" uU (Ct K))(g:Has P w K mg base 2 "rest" lW jg)(i:Has P w K mg base 1 "power_of_two" mB jo)
  (I:Has P w K mg base 3 "settled_span" hU rc):Has P w K mg base 4 "right_span" di (nN SpM.rightS):=by
 refine D.has lA (fun J H Q E h=> ?_) (fun f U A C s H J Q E o h=> ?_)
 .obtain⟨a,b,l,r,rfl,_⟩:=h
  rfl
 obtain⟨a,b,l,r,rfl,m,u,p,n,q⟩:=h
 refine⟨_,(aa (ay (gA (cJ (pcH d o (pa1 (pv 1))))) (af (ai (pcH I o (pa3 ad (pX aj (pv 0) ad) ad)))) al)
   (aa (psS 2 lA.nd (pcH g o (pa2 (pX aj (pv 1) ad) ad)))
   (aa (psS 3 lA.nd (pcH i o (pa1 (pv 2))))
   (af (ai (pcH I o (pa3 (aw cE (pX aj (pv 0) ad) (pv 3)) (aw cE (pX aj (pv 0) ad) (pv 3)) (aM (uJ (by rfl)) (by rfl) B.max AA (pa2 ad (aw cC (pX aj (pv 0) ad) (pv 2))))))))))),?_⟩
 try dsimp only[aT]
 have hd:=Fv (Cw r.lo);have j:=Cw r.lo;unfold SpM.rightS at q;walk_at"g"
 by_cases c:r.lo=r.hi
 .rw[NV c] at q;rw[NY c];walk_at"g";rw[t5];walk_at"g";have e:(if ((l.z:Int) - ((r.lo %32).toNat:Nat)) >0 then((l.z:Int) - ((r.lo %32).toNat:Nat)) else 0)=((l.z - (r.lo %32).toNat:Nat):Int):=by split <;> lia
  rw[e];walk_at"g";exact q
 .rw[fI c] at q;rw[NX c];walk_at"g";exact q
theorem yh(B:Bi mg)(D:qY K mg)(j:Has P w K mg base 2 "single" ph jN)(c:Has P w K mg base 1 "is_single" uU (Ct K))(x:Has P w K mg base 3 "joined_value" GE LZ)
  (m:Has P w K mg base 5 "add_span" di (nN SpM.addS)) (u:Has P w K mg base 5 "sub_span" di (nN SpM.subS)) (F:Has P w K mg base 4 "and_span" di (nN SpM.andS)) (d:Has P w K mg base 4 "or_span" CH Mc)
  (y:Has P w K mg base 3 "less_span" di (nN SpM.lessS)) (z:Has P w K mg base 5 "left_span" di (nN SpM.leftS)) (n:Has P w K mg base 4 "right_span" di (nN SpM.rightS)):Has P w K mg base 6 "joined_span" Aj Lh:=by
 refine D.has w6 (fun g H Q E h=> ?_) (fun f i A U s H g Q E C h=> ?_)
 .obtain⟨o,a,b,l,r,rfl,_⟩:=h
  rfl
 obtain⟨o,a,b,l,r,rfl,L,O,N,M,q⟩:=h
 refine⟨_,(aa (ay (pcT aE (pv 0) ax) (af (ai (pcH m C (pa2 (pv 1) (pv 2))))) al)
   (aa (ay (pcT aE (pv 0) ax) (af (ai (pcH u C (pa2 (pv 1) (pv 2))))) al)
   (aa (aL (a_ (ay (PW.pt (fZ (cJ (pcH c C (pa1 (pv 1)))) (dH (cJ (pcH c C (pa1 (pv 2))))))) (af (ai (pcH j C (pa1 (pcH x C (pa3 (pv 0) (pX aj (pv 1) ad) (pX aj (pv 2) ad))))))) al)))
   (aa (ay (pcT aE (pv 0) ax) (af (ai (pcH F C (pa2 (pv 1) (pv 2))))) al)
   (aa (ay (pcT aE (pv 0) ax) (af (ai (pcH d C (pa3 (pv 1) (pv 2) (aM (uJ (by rfl)) (by rfl) B.max AA (pa2 (pX aj (pv 1) ad) (pX aj (pv 2) ad))))))) al)
   (aa (ay (pcT aE (pv 0) ax) (af (ai (pcH d C (pa3 (pv 1) (pv 2) ad)))) al)
   (aa (ay (pcT aE (pv 0) ax) (af (ai (pcH y C (pa2 (pv 1) (pv 2))))) al)
   (aa (ay (pcT aE (pv 0) ax) (af (ai (pcH z C (pa2 (pv 1) (pv 2))))) al)
   (af (ai (pcH n C (pa2 (pv 1) (pv 2))))))))))))),?_⟩
 try dsimp only[aT]
 by_cases I:o= .add
 .subst I;have e:SpM.jS .add l r=SpM.addS l r:=fI (fun h=>h.1 rfl)
  rw[e] at q;dsimp only[nm8];walk_at"g";walk_at"wd";exact q
 by_cases J:o= .sub
 .subst J;have e:SpM.jS .sub l r=SpM.subS l r:=fI (fun h=>h.2.1 rfl)
  rw[e] at q;dsimp only[nm8];walk_at"g";walk_at"wd";exact q
 have n1:V.str (nm8 o)≠V.str "add":=by cases o <;> first | exact absurd rfl I | (dsimp only[nm8];decide)
 have n2:V.str (nm8 o)≠V.str "sub":=by cases o <;> first | exact absurd rfl J | (dsimp only[nm8];decide)
 walk_at"g";refine bN n1 ?_
 walk_at"g";refine bN n2 ?_
 walk_at"n";refine⟨fun v p=>az (p=H/\v=[some (.str (nm8 o)),some (.ref a),some (.ref b)]/\SpM.jS o l r=SpM.jS0 o l r),?_,?_⟩
 .walk_at"g";refine bc (fun c1=> ?_) (fun c1=> ?_)
  .walk_at"g";refine bc (fun c2=> ?_) (fun c2=> ?_)
   .have e:SpM.jS o l r=SpM.single (SpM.jv o l.lo r.lo):=NV ⟨I,J,c1,c2⟩;rw[e] at q;walk_at"g";exact q
   .exact⟨rfl,rfl,fI (fun h=>c2 h.2.2.2)⟩
  .exact C3 ⟨rfl,rfl,fI (fun h=>c1 h.2.2.1)⟩
 rintro R G ⟨rfl,rfl,e⟩
 rw[e] at q;clear n1 n2 e
 cases o
 .exact absurd rfl I
 .exact absurd rfl J
 all_goals dsimp only[nm8]
 all_goals walk_at"g"
 all_goals walk_at"wd"
 .exact q
 .rw[JJ];walk_at"g";exact q
 .exact q
 .exact q
 .exact q
 .exact q
theorem AM(B:Bi mg)(D:u8 K mg)(U:Has P w K mg base 1 "zeros" ph wB)(b:Has P w K mg base 4 "kept_span" hU wI):Has P w K mg base 5 "more_span" Ag EQ:=by
 refine D.has Av (fun I H Q E h=> ?_) (fun f J A o s H I Q E C h=> ?_)
 .obtain⟨a,n,l,rfl,_⟩:=h
  rfl
 obtain⟨a,n,l,rfl,d,c,q⟩:=h;refine⟨_,(af (ai (pcH b C (pa3 (aw aS (pX aj (pv 0) ad) (pv 1)) (aw aS (pX aj (pv 0) ad) (pv 1)) (aM (iq (by rfl)) (by rfl) B.min rK (pa2 (pX aj (pv 0) ad) (pcH U C (pa1 (pv 1))))))))),?_⟩
 try dsimp only[aT]
 have e:min l.z (SpM.Zn n)<=32:=by have:=c.zz;lia
 walk_at"g";rw[tW];walk_at"g";exact q
structure Pl (H:Hp) (a:Addr) (k:Nat) (b:Int) (m s:Nat) (g:Int):Prop where
 at_:H a=some (.tup [.int k,.int b,.int m,.int s,.int g])
 room:SpM.Room k b
 ms:m+s<=7
def Eh:Sp:=fun o H Q _=>∃(a:Addr) (k:Nat) (b:Int) (m s:Nat) (g v:Int),o=[.ref a,.int v]/\Pl H a k b m s g/\Q (.int (SpM.aimV m s v)) H
def HU:Sp:=fun C H Q _=>∃(a:Addr) (k:Nat) (b:Int) (m s:Nat) (g:Int) (c:Addr) (l:SpM.Span),C=[.ref a,.ref c]/\Pl H a k b m s g/\Tr H c l/\SpM.Sv l/\∀p o,aA H o->Tr o p (SpM.fitS k b l)->Q (.ref p) o
def Hs:Sp:=fun C H Q _=>∃(a:Addr) (k:Nat) (b:Int) (m s:Nat) (g:Int) (c:Addr) (l:SpM.Span),C=[.ref a,.ref c]/\Pl H a k b m s g/\Tr H c l/\SpM.Sv l/\∀p o,aA H o->Tr o p (SpM.aimS m s l)->Q (.ref p) o
theorem Pl.mv{H o:Hp}{a:Addr}{k:Nat}{b:Int}{m s:Nat}{g:Int}(p:Pl H a k b m s g)(e:aA H o):Pl o a k b m s g:=⟨e _ _ p.at_,p.room,p.ms⟩
theorem Pl.but{H o:Hp}{a d:Addr}{k:Nat}{b:Int}{m s:Nat}{g:Int}{xs:List V}(p:Pl H a k b m s g)(e:But d H o)(hd:H d=some (.lst xs)):Pl o a k b m s g:=
 ⟨e _ _ (by rintro rfl;rw[p.at_] at hd;cases hd) p.at_,p.room,p.ms⟩
theorem BK(B:Bi mg)(D:uT K mg)(j:Has P w K mg base 1 "power_of_two" mB jo)(i:Has P w K mg base 2 "rest" lW jg):Has P w K mg base 3 "aim_value" yt Eh:=by
 refine D.has At (fun J H Q E h=> ?_) (fun f U A o s H J Q E I h=> ?_)
 .obtain⟨a,k,b,m,s,g,v,rfl,_⟩:=h
  rfl
 obtain⟨a,k,b,m,e,g,v,rfl,C,q⟩:=h;have d:=C.at_;have c:=C.ms;have l:=wU (t:=e) (by lia)
 refine⟨_,(af (ai (aw bH (aw bH (pcH i I (pa2 (pv 1) (pX aj (pv 0) ad))) ad) (pcH j I (pa1 (pX aj (pv 0) ad)))))),?_⟩
 try dsimp only[aT]
 walk_at"g";exact q
theorem CG(B:Bi mg)(D:x8 K mg)(p:Has P w K mg base 1 "power_of_two" mB jo)(n:Has P w K mg base 2 "rest" lW jg)(j:Has P w K mg base 1 "zeros" ph wB)
  (x:Has P w K mg base 3 "settled_span" hU rc):Has P w K mg base 4 "fit_span" nR HU:=by
 refine D.has kF (fun J H Q E h=> ?_) (fun f U A C s H J Q E o h=> ?_)
 .obtain⟨a,k,b,m,s,g,c,l,rfl,_⟩:=h
  rfl
 obtain⟨a,k,b,m,G,g,c,l,rfl,I,u,r,q⟩:=h;have i:=I.at_;have L:=I.room.k20;have F:min l.z (SpM.Zn b)<=64:=by have:=r.zz;lia
 refine⟨_,(aa (psS 2 kF.nd (pX aj (pv 0) ad))
   (aa (psS 3 kF.nd (pcH p o (pa1 (pX aj (pv 0) ad))))
   (aa (aL (a_ (ay (PW.pt (fZ (pcT Ft (pv 2) (pX aj (pv 1) ad)) (dH (pcT fL (pX aj (pv 1) ad) (aw aS (pv 2) (pv 3)))))) (af (ai (pv 1))) al)))
   (aa (psS 4 kF.nd (aM (iq (by rfl)) (by rfl) B.min rK (pa2 (pX aj (pv 1) ad) (pcH j o (pa1 (pv 2))))))
   (af (ai (pcH x o (pa3 (pv 2) (aw cC (aw cC (aw aS (pv 2) (pv 3)) ad) (pcH n o (pa2 (aw cC (pv 3) ad) (pv 4)))) (pv 4))))))))),?_⟩
 try dsimp only[aT]
 unfold SpM.fitS at q;walk_at"g";refine⟨fun v d=>az (d=H/\v=[some (.ref a),some (.ref c),some (.int b),some (.int (2^k)),none]/\¬(b<=l.lo/\l.hi<b+2^k)),?_,?_⟩
 .walk_at"g";refine bc (fun c1=> ?_) (fun c1=> ?_)
  .walk_at"g";refine bc (fun c2=> ?_) (fun c2=> ?_)
   .rw[NV ⟨c1,c2⟩] at q;walk_at"g";exact q _ _ (aA.refl _) u
   .exact⟨rfl,rfl,fun h=>c2 h.2⟩
  .exact C3 ⟨rfl,rfl,fun h=>c1 h.1⟩
 rintro M y ⟨rfl,rfl,e⟩
 rw[fI e] at q;walk_at"g";rw[tW];walk_at"g";exact q
theorem BZ(B:Bi mg)(D:xD K mg)(p:Has P w K mg base 1 "power_of_two" mB jo)(e:Has P w K mg base 2 "single" ph jN)(j:Has P w K mg base 1 "is_single" uU (Ct K))(J:Has P w K mg base 3 "aim_value" yt Eh)
  (r:Has P w K mg base 3 "settled_span" hU rc):Has P w K mg base 4 "aim_span" nR Hs:=by
 refine D.has u7 (fun U H Q E h=> ?_) (fun f d A C s H U Q E o h=> ?_)
 .obtain⟨a,k,b,m,s,g,c,l,rfl,_⟩:=h
  rfl
 obtain⟨a,k,b,m,u,g,c,l,rfl,I,x,v,q⟩:=h;have n:=I.at_;have i:=I.ms;have hm:m<=64:=by lia
 refine⟨_,(aa (ay (cJ (pcH j o (pa1 (pv 1)))) (af (ai (pcH e o (pa1 (pcH J o (pa2 (pv 0) (pX aj (pv 1) ad))))))) al)
   (aa (psS 2 u7.nd (aw cC (pcH p o (pa1 (pX aj (pv 0) ad))) ad))
   (af (ai (pcH r o (pa3 ad (pcH J o (pa2 (pv 0) (pv 2))) (aw aS (pX aj (pv 0) ad) ad))))))),?_⟩
 try dsimp only[aT]
 unfold SpM.aimS at q;walk_at"g";refine bc (fun c1=> ?_) (fun c1=> ?_)
 .rw[NV c1] at q;walk_at"g";exact q
 .rw[fI c1] at q;walk_at"g";exact q
def SpA(H:Hp):List Addr->List SpM.Span->Prop
 | [],[]=>True
 | a::as,s::ss=>Tr H a s/\SpA H as ss
 | _,_=>False
theorem SpA.mono{H o:Hp}(I:∀a xs,H a=some (.tup xs)->o a=some (.tup xs)):∀{as:List Addr}{C:List SpM.Span},SpA H as C->SpA o as C
 | [],[],_=>True.intro
 | _::_,_::_,h=>⟨I _ _ h.1,SpA.mono I h.2⟩
 | [],_::_,h=>h.elim
 | _::_,[],h=>h.elim
theorem SpA.same{H o:Hp}(e:aA H o){as:List Addr}{C:List SpM.Span}(h:SpA H as C):SpA o as C:=h.mono (fun _ _ z=>e _ _ z)
theorem SpA.len{H:Hp}:∀{as:List Addr}{o:List SpM.Span},SpA H as o->as.length=o.length
 | [],[],_=>rfl
 | _::_,_::_,h=>congrArg (· +1) (SpA.len h.2)
 | [],_::_,h=>h.elim
 | _::_,[],h=>h.elim
theorem SpA.app{H:Hp}{bs:List Addr}{C:List SpM.Span}(o:SpA H bs C):∀{as:List Addr}{I:List SpM.Span},SpA H as I->SpA H (as++bs) (I++C)
 | [],[],_=>o
 | _::_,_::_,h=>⟨h.1,SpA.app o h.2⟩
 | [],_::_,h=>h.elim
 | _::_,[],h=>h.elim
theorem SpA.take{H:Hp}:∀(n:Nat) {as:List Addr}{o:List SpM.Span},SpA H as o->SpA H (as.take n) (o.take n)
 | 0,_,_,_=>True.intro
 | n+1,[],[],_=>True.intro
 | n+1,_::_,_::_,h=>⟨h.1,SpA.take n h.2⟩
 | n+1,[],_::_,h=>h.elim
 | n+1,_::_,[],h=>h.elim
theorem SpA.drop{H:Hp}:∀(n:Nat) {as:List Addr}{o:List SpM.Span},SpA H as o->SpA H (as.drop n) (o.drop n)
 | 0,_,_,h=>h
 | n+1,[],[],_=>True.intro
 | n+1,_::_,_::_,h=>SpA.drop n h.2
 | n+1,[],_::_,h=>h.elim
 | n+1,_::_,[],h=>h.elim
theorem SpA.get{H:Hp}:∀{as:List Addr}{C:List SpM.Span},SpA H as C->∀(j:Nat) s,C[j]? =some s->∃a,as[j]? =some a/\Tr H a s
 | [],[],_=>fun j o e=>by cases j <;> cases e
 | t::_,p::_,h=>fun j o e=>by
  cases j with
  | zero=>
   have I:p=o:=N_ e;subst I;exact⟨t,rfl,h.1⟩
  | succ j=>exact SpA.get h.2 j o e
 | [],_::_,h=>h.elim
 | _::_,[],h=>h.elim
theorem SpA.rep{H:Hp}{a:Addr}{s:SpM.Span}(h:Tr H a s):∀n,SpA H (List.replicate n a) (List.replicate n s)
 | 0=>True.intro
 | n+1=>by
  rw[OG,OG];exact⟨h,SpA.rep h n⟩
structure Sp8 (sp:List SpM.Span):Prop where
 len:sp.length=8
 sv:∀s∈sp,SpM.Sv s
noncomputable def spG(sp:List SpM.Span)(i:Int):SpM.Span:=sp.getD i.toNat SpM.whole
theorem Sp8.at{sp:List SpM.Span}(h:Sp8 sp){i:Int}(I:0<=i)(C:i<8):sp[i.toNat]? =some (spG sp i)/\SpM.Sv (spG sp i):=by
 have o:i.toNat<sp.length:=by rw[h.len];lia
 have e:spG sp i=sp[i.toNat]:=by unfold spG;rw[N9,mC o];rfl
 rw[e];exact⟨mC o,h.sv _ (O0 o)⟩
def SpT(K:Frag)(H:Hp)(a:Addr)(sp:List SpM.Span):Prop:=∃o,SqT K H a (o.map V.ref)/\SpA H o sp
theorem SpT.same{H o:Hp}(e:aA H o){a:Addr}{sp:List SpM.Span}(h:SpT K H a sp):SpT K o a sp:=let ⟨as,h1,h2⟩:=h;⟨as,e.tup h1,h2.same e⟩
theorem SpT.at{H:Hp}{a:Addr}{sp:List SpM.Span}{as:List Addr}(h:SpA H as sp)(d:Sp8 sp){i:Int}(e:0<=i)(c:i<8):∃b,atI (as.map V.ref) i=some (.ref b)/\Tr H b (spG sp i)/\SpM.Sv (spG sp i):=by
 obtain⟨I,C⟩:=d.at e c;obtain⟨b,J,U⟩:=h.get _ _ I;refine⟨b,?_,U,C⟩
 have o:i=((i.toNat:Nat):Int):=by lia
 have q:atI (as.map V.ref) ((i.toNat:Nat):Int)=some (.ref b):=aQ (by rw[OB,J];rfl)
 rw[<- o] at q;exact q
def mk8(k:Nat):Prop:=(1<=k/\k<=11)\/k=16\/k=17
noncomputable instance {k:Nat}:Decidable (mk8 k):=inferInstanceAs (Decidable (_\/_))
noncomputable def EU:Nat->SpM.Op8
 | 2=> .add | 3=> .sub | 4=> .and | 5=> .or | 6=> .xor | 7=> .less | 8=> .left | _=> .right
theorem Io:∀k,2<=k->k<=9->aN k=nm8 (EU k):=by
 intro k o C;obtain rfl | rfl | rfl | rfl | rfl | rfl | rfl | rfl:k=2\/k=3\/k=4\/k=5\/k=6\/k=7\/k=8\/k=9:=by lia
 all_goals rfl
noncomputable def dk(pk:Nat)(o:Int)(pm ps:Nat)(k:Nat)(ns:List Int)(sp:List SpM.Span):SpM.Span:=
 if k=1 then SpM.single (ns.getD 1 0) else if k=11 then SpM.whole else if k=10 then SpM.moreS (spG sp (ns.getD 1 0)) (ns.getD 2 0) else if k=16 then SpM.fitS pk o (spG sp (ns.getD 1 0)) else if k=17 then SpM.aimS pm ps (spG sp (ns.getD 1 0))
 else SpM.jS (EU k) (spG sp (ns.getD 1 0)) (spG sp (ns.getD 2 0))
noncomputable def ck(pk:Nat)(o:Int)(pm ps:Nat)(k:Nat)(ns:List Int)(sp:List SpM.Span):List SpM.Span:=
 if k=18 then List.replicate 7 SpM.whole++[spG sp 7] else if mk8 k then sp.set (ns.getD 0 0).toNat (dk pk o pm ps k ns sp) else sp
def lN(pk:Nat)(o:Int)(ns:List Int)(sp:List SpM.Span):Prop:=(spG sp (ns.getD 1 0)).lo+ns.getD 2 0<o\/o+2^pk<=(spG sp (ns.getD 1 0)).hi+ns.getD 2 0
noncomputable instance {pk:Nat}{pb:Int}{ns:List Int}{sp:List SpM.Span}:Decidable (lN pk pb ns sp):=inferInstanceAs (Decidable (_\/_))
noncomputable def tgt(k:Nat)(ns:List Int):Int:=if k=13 then ns.getD 0 0 else ns.getD 1 0
noncomputable def aK(pk:Nat)(C pg:Int)(o:Int)(k:Nat)(ns:List Int)(sp:List SpM.Span):Option Str:=
 if mk8 k/\ns.getD 0 0=7 then some "host" else if (k=11\/k=12)/\lN pk C ns sp then some "beyond" else if (k=13\/k=14)/\(tgt k ns %8≠0\/o<=tgt k ns) then some "target"
 else if k=15/\(o<=(spG sp (ns.getD 0 0)).hi\/(spG sp (ns.getD 0 0)).z<3) then some "way" else if k=18/\pg<=ns.getD 0 0 then some "gate" else none
theorem sne{k j:Nat}(C:k<19)(o:j<19)(h:k≠j):V.str (aN k)≠V.str (aN j):=FL k C j o h
theorem seq{k j:Nat}(C:k<19)(o:j<19)(h:V.str (aN k)=V.str (aN j)):k=j:=by
 by_cases e:k=j
 .exact e
 .exact absurd h (FL k C j o e)
theorem Gm{pk:Nat}{b:Int}{pm ps k:Nat}{ns:List Int}{sp:List SpM.Span}(e:SpM.Room pk b)(a:pm+ps<=7)(g:aC 8 262144 k ns)(hm:mk8 k)(I:Sp8 sp):SpM.Sv (dk pk b pm ps k ns sp):=by
 unfold mk8 at hm;unfold dk;rcases g with⟨rfl,rfl⟩|⟨rfl,x,v,rfl,J,U,v0,v1⟩|⟨d,f,x,y,z,rfl,J,U,o,C,z0,z1⟩|⟨d,f,x,y,z,rfl,J,U,o,C,z0,z1⟩|⟨c,z,rfl,z0,z1⟩|⟨rfl,x,z,rfl,J,U,z0,z1⟩|⟨rfl,y,rfl,o,C⟩|⟨c,x,y,rfl,J,U,o,C⟩
 .lia
 .exact SpM.Sv_single v0 v1
 .rw[fI (by lia),fI (by lia),fI (by lia),fI (by lia),fI (by lia)]
  exact SpM.Sv_j _ (I.at o C).2 (I.at z0 z1).2
 .obtain rfl | rfl:k=10\/k=11:=by lia
  .exact SpM.Sv_more (I.at o C).2 _
  .exact SpM.Sv_whole
 .lia
 .lia
 .lia
 .rcases c with rfl | rfl
  .exact SpM.Sv_fit e (I.at o C).2
  .exact SpM.Sv_aim a _
theorem Sp8.set{sp:List SpM.Span}(h:Sp8 sp){i:Nat}{s:SpM.Span}(hs:SpM.Sv s):Sp8 (sp.set i s):=
 ⟨by rw[P0];exact h.len,fun x o=>by
  rcases QH o with o | o
  .exact h.sv x o
  .subst o;exact hs⟩
theorem se{pk:Nat}{I:Int}{pm ps k:Nat}{ns:List Int}{sp:List SpM.Span}(U:SpM.Room pk I)(C:pm+ps<=7)(J:aC 8 262144 k ns)(o:Sp8 sp):Sp8 (ck pk I pm ps k ns sp):=by
 unfold ck
 split
 .refine⟨rfl,fun s hs=> ?_⟩
  rcases Ot.mp hs with hs | hs
  .rw[QQ hs];exact SpM.Sv_whole
  .have:s=spG sp 7:=by simpa using hs
   rw[this];exact(o.at (by decide) (by decide)).2
 .split
  .exact o.set (Gm U C J (by assumption) o)
  .exact o
theorem Ir{xs:List V}{n:Nat}:gw xs none (some (n:Int))=xs.take n:=by
 unfold gw;have o:HT.sIx xs.length 0 none=0:=rfl;rw[o,HT.sIx_nat]
 simp only[Rq,Q3]
 rw[<- List.take_eq_take_min]
theorem sQ{xs:List V}{n:Nat}:gw xs (some (n:Int)) none=xs.drop n:=by
 unfold gw;have o:HT.sIx xs.length xs.length none=xs.length:=rfl;rw[o,HT.sIx_nat]
 by_cases h:n<=xs.length
 .rw[P3 h];exact Q6 (by rw[OZ];exact NW _)
 .rw[Nat.min_eq_right (by lia),Pz (NW _),Pz (by lia)]
  exact List.take_nil
structure Tb2 (K:Frag) (mg:Str->Option Value):Prop where
 none_:∃a,mg "MAKING_NONE"=some (.ref a)/\gl K a [.str "stop",.str "store",.str "jump",.str "jumpif",.str "through",.str "gate"]
 last:∃a,mg "LAST_SORTS"=some (.ref a)/\gl K a [.str "stop",.str "jump",.str "through"]
theorem Bj:∀k,k<19->inV (.str (aN k)) [.str "stop",.str "store",.str "jump",.str "jumpif",.str "through",.str "gate"]=decide (¬ mk8 k):=by decide +kernel
theorem Ke:∀k,k<19->inV (.str (aN k)) [.str "stop",.str "jump",.str "through"]=decide (k=0\/k=13\/k=15):=by decide +kernel
theorem gG{k:Nat}{ns:List Int}(h:aC 8 262144 k ns)(hm:mk8 k):∃x r,ns=x::r/\0<=x/\x<8:=by
 exact h.hd (by unfold mk8 at hm;lia)
def JO(K:Frag):Sp:=fun C H Q _=>∃(a:Addr) (k:Nat) (o:List Int),C=[.ref a]/\aC 8 262144 k o/\SqT K H a (aD k o)/\(mk8 k->Q (.int (o.getD 0 0)) H)/\(¬ mk8 k->Q .non H)
theorem Dc(B:Bi mg)(d:Tb2 K mg)(D:yf K mg):Has P w K mg base 1 "made_box" cV (JO K):=by
 obtain⟨e,i,l⟩:=d.none_;refine D.has Ca (fun U H Q E h=> ?_) (fun f b A o s H U Q E q h=> ?_)
 .obtain⟨a,k,C,rfl,_⟩:=h
  rfl
 obtain⟨a,k,C,rfl,I,n,j,g⟩:=h;have J:=I.lt;have m:atI (aD k C) 0=some (.str (aN k)):=jx
 refine⟨_,(aa (ay (gR iu (pX aj (pv 0) ad) (nC (v:= .ref e) (by rfl) i (by rfl)) (by rfl)) (af (ai eP)) al)
   (af (ai (pX aj (pv 0) ad)))),?_⟩
 try dsimp only[aT]
 walk_at"g";refine CP (fun c=> ?_) (fun c=> ?_)
 .have hm:¬mk8 k:=Pk ((Bj k J).symm.trans c);walk_at"g";exact g hm
 .have hm:mk8 k:=by
   have:=of_decide_eq_false ((Bj k J).symm.trans c);exact Classical.not_not.mp this
  obtain⟨x,r,rfl,_⟩:=gG I hm;have p:atI (aD k (x::r)) 1=some (.int x):=lP;walk_at"g";exact j hm
def J5(K:Frag):Sp:=fun C H Q _=>C=[]/\∀p o,aA H o->SpT K o p (List.replicate 8 SpM.whole)->Q (.ref p) o
theorem yz(B:Bi mg)(D:qO K mg)(m:Has P w K mg base 1 "whole_span" [] m_):Has P w K mg base 2 "first_spans" [] (J5 K):=by
 refine D.has yy (fun g H Q E h=> ?_) (fun f i A d s H g Q E p h=> ?_)
 .obtain⟨rfl,_⟩:=h
  rfl
 obtain⟨rfl,q⟩:=h;refine⟨_,(af (ai (bX iN (by rfl) B.tuple f8 (pa1 (aw Ej (bo (pa1 (dL (m.mono (by omega)) p (by rfl)))) ad))))),?_⟩
 try dsimp only[aT]
 walk_at"g";intro o b j v;walk_at"g";intro U J;have l:=j.trans (ag J (.lst [.ref o]));have l2:upd b U (.lst [.ref o]) U=some (.lst [.ref o]):=ae;have n:Tr (upd b U (.lst [.ref o])) o SpM.whole:=cG J v;generalize upd b U (.lst [.ref o])=c at*;walk_at"g";intro a C;have e:(List.replicate (8:Int).toNat [V.ref o]).flatten=(List.replicate 8 o).map V.ref:=rfl;rw[e];have r:=l.trans (ag C (.lst ((List.replicate 8 o).map V.ref)));have l3:upd c a (.lst ((List.replicate 8 o).map V.ref)) a=some (.lst ((List.replicate 8 o).map V.ref)):=ae;have x:Tr (upd c a (.lst ((List.replicate 8 o).map V.ref))) o SpM.whole:=cG C n;generalize upd c a (.lst ((List.replicate 8 o).map V.ref))=y at*;walk_at"g";refine .inl ⟨SqL.of l3,fun u I=> ?_⟩
 exact q u _ (r.trans (ag I _)) ⟨_,SqT.of ae,SpA.rep (cG I x) 8⟩
def Mr(K:Frag):Sp:=fun d H Q _=>∃(b a sa:Addr) (k:Nat) (C:List Int) (I:List SpM.Span) (pk:Nat) (J:Int) (U c:Nat) (pg:Int),d=[.ref b,.ref a,.ref sa]/\Pl H b pk J U c pg/\aC 8 262144 k C/\mk8 k/\SqT K H a (aD k C)/\SpT K H sa I/\Sp8 I/\
 ∀p o,aA H o->Tr o p (dk pk J U c k C I)->Q (.ref p) o
theorem A2(B:Bi mg)(D:uW K mg)(R:Has P w K mg base 2 "single" ph jN)(aU:Has P w K mg base 1 "whole_span" [] m_)(W:Has P w K mg base 5 "more_span" Ag EQ)(Z:Has P w K mg base 4 "fit_span" nR HU)
  (X:Has P w K mg base 4 "aim_span" nR Hs) (eL:Has P w K mg base 6 "joined_span" Aj Lh):Has P w K mg base 7 "made_span" iX (Mr K):=by
 refine D.has mi (fun M H Q E h=> ?_) (fun f N A l s H M Q E U h=> ?_)
 .obtain⟨O,a,sa,k,m,b,pk,F,n,L,pg,rfl,_⟩:=h
  rfl
 obtain⟨O,a,sa,k,m,b,pk,F,n,L,pg,rfl,ab,u,hm,ha,⟨as,T,C⟩,c,q⟩:=h;have i0:atI (aD k m) 0=some (.str (aN k)):=jx;have o:=u.lt
 refine⟨_,(aa (psS 3 mi.nd (pX aj (pv 1) ad))
   (aa (ay (pcT aE (pv 3) ax) (af (ai (pcH R U (pa1 (pX aj (pv 1) ad))))) al)
   (aa (ay (pcT aE (pv 3) ax) (af (ai (dL (aU.mono (by omega)) U (by rfl)))) al)
   (aa (psS 4 mi.nd (pX aj (pv 2) (pX aj (pv 1) ad)))
   (aa (ay (pcT aE (pv 3) ax) (af (ai (pcH W U (pa2 (pv 4) (pX aj (pv 1) ad))))) al)
   (aa (ay (pcT aE (pv 3) ax) (af (ai (pcH Z U (pa2 (pv 0) (pv 4))))) al)
   (aa (ay (pcT aE (pv 3) ax) (af (ai (pcH X U (pa2 (pv 0) (pv 4))))) al)
   (af (ai (pcH eL U (pa3 (pv 3) (pv 4) (pX aj (pv 2) (pX aj (pv 1) ad))))))))))))),?_⟩
 try dsimp only[aT]
 unfold mk8 at hm;rcases u with⟨rfl,rfl⟩|⟨rfl,x,v,rfl,g,i,v0,v1⟩|⟨p,r,x,y,z,rfl,g,i,I,J,z0,z1⟩|⟨p,r,x,y,z,rfl,g,i,I,J,z0,z1⟩|⟨G,z,rfl,z0,z1⟩|⟨rfl,x,z,rfl,g,i,z0,z1⟩|⟨rfl,y,rfl,I,J⟩|⟨G,x,y,rfl,g,i,I,J⟩
 .lia
 .have d:atI (aD 1 [x,v]) 2=some (.int v):=jA;walk_at"g";walk_at"wd";exact q
 .obtain⟨b1,e1,t1,v1⟩:=SpT.at (a:=sa) C c I J;obtain⟨b2,e2,t2,v2⟩:=SpT.at (a:=sa) C c z0 z1;have d:atI (aD k [x,y,z]) 2=some (.int y):=jA;have S:atI (aD k [x,y,z]) 3=some (.int z):=yE;have e:dk pk F n L k [x,y,z] b=SpM.jS (EU k) (spG b y) (spG b z):=by
   unfold dk;rw[fI (by lia),fI (by lia),fI (by lia),fI (by lia),fI (by lia)]
   rfl
  rw[e] at q;have Y:=Io k p r;walk_at"g";refine bN (sne o (j:=1) (by decide) (by lia)) ?_
  walk_at"g";refine bN (sne o (j:=11) (by decide) (by lia)) ?_
  walk_at"g";refine bN (sne o (j:=10) (by decide) (by lia)) ?_
  walk_at"g";refine bN (sne o (j:=16) (by decide) (by lia)) ?_
  walk_at"g";refine bN (sne o (j:=17) (by decide) (by lia)) ?_
  walk_at"g";rw[Y];walk_at"g";exact q
 .obtain⟨b1,e1,t1,v1⟩:=SpT.at (a:=sa) C c I J;obtain rfl | rfl:k=10\/k=11:=by lia
  .have d:atI (aD 10 [x,y,z]) 2=some (.int y):=jA;have S:atI (aD 10 [x,y,z]) 3=some (.int z):=yE;walk_at"g";walk_at"wd";exact q
  .walk_at"g";walk_at"wd";exact q
 .lia
 .lia
 .lia
 .obtain⟨b1,e1,t1,v1⟩:=SpT.at (a:=sa) C c I J;rcases G with rfl | rfl
  .have d:atI (aD 16 [x,y]) 2=some (.int y):=jA;walk_at"g";walk_at"wd";exact q
  .have d:atI (aD 17 [x,y]) 2=some (.int y):=jA;walk_at"g";walk_at"wd";exact q
def LX(K:Frag):Sp:=fun d H Q _=>∃(b a sa:Addr) (k:Nat) (C:List Int) (I:List SpM.Span) (pk:Nat) (J:Int) (U c:Nat) (pg:Int),d=[.ref b,.ref a,.ref sa]/\Pl H b pk J U c pg/\aC 8 262144 k C/\SqT K H a (aD k C)/\SpT K H sa I/\Sp8 I/\
 ∀p o,aA H o->SpT K o p (ck pk J U c k C I)->Q (.ref p) o
theorem ll{o:Type}{xs:List o}{i:Nat}{x:o}(h:i<xs.length):xs.take i++[x]++xs.drop (i+1)=xs.set i x:=by
 rw[List.set_eq_take_append_cons_drop,NV h,On]
 rfl
theorem vP(B:Bi mg)(D:o3 K mg)(aU:Has P w K mg base 1 "whole_span" [] m_)(eh:Has P w K mg base 1 "made_box" cV (JO K))(oG:Has P w K mg base 7 "made_span" iX (Mr K)):
  Has P w K mg base 8 "spans_behind" iX (LX K):=by
 refine D.has nL (fun vs H Q E h=> ?_) (fun f bx A a7 s H vs Q E hr h=> ?_)
 .obtain⟨pl,a,sa,k,l,c,pk,O,N,R,pg,rfl,_⟩:=h
  rfl
 obtain⟨pl,a,sa,k,l,c,pk,O,N,R,pg,rfl,aH,hv,ha,M,h8,q⟩:=h;obtain⟨J,v,d⟩:=M;have i0:atI (aD k l) 0=some (.str (aN k)):=jx;have ab:=hv.lt;have Z:J.length=8:=by rw[d.len];exact h8.len
 refine⟨_,(aa (ay (pcT aE (pX aj (pv 1) ad) ax) (af (ai (bX iN (by rfl) B.tuple f8 (pa1 (aw lE (aw Ej (bo (pa1 (dL (aU.mono (by omega)) hr (by rfl)))) ad) (bo (pa1 (pX aj (pv 2) ad)))))))) al)
   (aa (psS 3 nL.nd (pcH eh hr (pa1 (pv 1))))
   (aa (ay (pY (ut (pv 3))) (af (ai (pv 2))) al)
   (af (ai (aw v_ (aw v_ (dR nh (pv 2) gS (d6 (pv 3))) (aB (pa1 (pcH oG hr (pa3 (pv 0) (pv 1) (pv 2)))))) (dR nh (pv 2) (d6 (aw aS (pv 3) ad)) gS))))))),?_⟩
 try dsimp only[aT]
 walk_at"g";refine bc (fun c1=> ?_) (fun c1=> ?_)
 .obtain rfl:=seq ab (j:=18) (by decide) c1
  have X:ck pk O N R 18 l c=List.replicate 7 SpM.whole++[spG c 7]:=NV rfl;rw[X] at q;walk_at"g";intro C H1 W t1;walk_at"g";intro b ar;have s2:=W.trans (ag ar (.lst [.ref C]));have l2:upd H1 b (.lst [.ref C]) b=some (.lst [.ref C]):=ae;have t2:Tr (upd H1 b (.lst [.ref C])) C SpM.whole:=cG ar t1;generalize upd H1 b (.lst [.ref C])=T at*;walk_at"g";intro y u;have e7:(List.replicate (7:Int).toNat [V.ref C]).flatten=(List.replicate 7 C).map V.ref:=rfl;rw[e7];have F:=s2.trans (ag u (.lst ((List.replicate 7 C).map V.ref)));have l3:upd T y (.lst ((List.replicate 7 C).map V.ref)) y=some (.lst ((List.replicate 7 C).map V.ref)):=ae;have t3:Tr (upd T y (.lst ((List.replicate 7 C).map V.ref))) C SpM.whole:=cG u t2;generalize upd T y (.lst ((List.replicate 7 C).map V.ref))=H3 at*;have bl:=F.tup v;obtain⟨U,bG,t7,_⟩:=SpT.at (a:=sa) (d.same F) h8 (i:=7) (by decide) (by decide)
  walk_at"g";intro S m;have s4:=F.trans (ag m (.lst [.ref U]));have l4:upd H3 S (.lst [.ref U]) S=some (.lst [.ref U]):=ae;have bh:=cG (o:= .lst [.ref U]) m l3;have t4:Tr (upd H3 S (.lst [.ref U])) C SpM.whole:=cG m t3;have au:Tr (upd H3 S (.lst [.ref U])) U (spG c 7):=cG m t7;generalize upd H3 S (.lst [.ref U])=G at*;have bb:((List.replicate 7 C).map V.ref).length+[V.ref U].length<=sizeLine:=Oc (show 8<=100 by decide) (by decide)
  walk_at"g";intro p g;have e5:(List.replicate 7 C).map V.ref++[V.ref U]=(List.replicate 7 C++[U]).map V.ref:=by rw[NZ];rfl
  rw[e5];have s5:=s4.trans (ag g (.lst ((List.replicate 7 C++[U]).map V.ref)));have l5:upd G p (.lst ((List.replicate 7 C++[U]).map V.ref)) p=some (.lst ((List.replicate 7 C++[U]).map V.ref)):=ae;have t5:Tr (upd G p (.lst ((List.replicate 7 C++[U]).map V.ref))) C SpM.whole:=cG g t4;have a6:Tr (upd G p (.lst ((List.replicate 7 C++[U]).map V.ref))) U (spG c 7):=cG g au;generalize upd G p (.lst ((List.replicate 7 C++[U]).map V.ref))=H5 at*;walk_at"g";refine .inl ⟨SqL.of l5,fun p6 L=> ?_⟩
  exact q p6 _ (s5.trans (ag L _)) ⟨_,SqT.of ae,SpA.app (show SpA _ [U] [spG c 7] from⟨cG L a6,True.intro⟩) (SpA.rep (cG L t5) 7)⟩
 have Y:k≠18:=fun e=>c1 (by rw[e];rfl)
 by_cases hm:mk8 k
 .have X:ck pk O N R k l c=c.set (l.getD 0 0).toNat (dk pk O N R k l c):=by
   unfold ck;rw[fI Y,NV hm]
  rw[X] at q;obtain⟨x,r,aY,x0,x1⟩:=gG hv hm;have ex:l.getD 0 0=x:=by rw[aY];rfl
  have M:SpT K H sa c:=⟨J,v,d⟩;walk_at"g";refine⟨fun _=> ?_,fun z=>absurd hm z⟩
  rw[ex] at q ⊢;obtain⟨I,rfl⟩:∃n:Nat,x=n:=OE (by first | assumption | lia)
  rw[Os] at q;walk_at"g";refine⟨(fun z=>by have:=z.2;rw[be,Z,HT.sIx_nat] at this;lia),fun C aP=> ?_⟩
  have ec:gw (J.map V.ref) none (some (I:Int))=(J.take I).map V.ref:=by rw[Ir,QR]
  rw[ec];have W:=ag aP (.tup ((J.take I).map V.ref));have t1:SqT K (upd H C (.tup ((J.take I).map V.ref))) C ((J.take I).map V.ref):=SqT.of ae;generalize upd H C (.tup ((J.take I).map V.ref))=H1 at*;have a':=aH.mv W;have bp:=W.tup ha;have bt:=M.same W;walk_at"g";intro b T s2 t2;walk_at"g";intro y u;have F:=ag u (.tup [.ref b]);have t3:SqT K (upd T y (.tup [.ref b])) y [.ref b]:=SqT.of ae;generalize upd T y (.tup [.ref b])=H3 at*;have bF:=F.tup (s2.tup t1);have bA:((J.take I).map V.ref).length+[V.ref b].length<=sizeLine:=Oc (show _<=100 by rw[be,Oh];simp only[N6,OM];lia) (by decide)
  walk_at"g";intro S G s4 t4;have S4:=((W.trans s2).trans F).trans s4;have bw:=S4.tup v;walk_at"g";refine⟨(fun z=>by have:=z.1;rw[be,Z] at this;have e:HT.sIx 8 0 (some ((I:Int)+1))=min (I+1) 8:=HT.sIx_nat 8 0 (I+1);rw[e] at this;lia),fun p g=> ?_⟩
  have ed:gw (J.map V.ref) (some ((I:Int)+1)) none=(J.drop (I+1)).map V.ref:=by
   have:=sQ (xs:=J.map V.ref) (n:=I+1);rw[<- QS] at this;exact this
  rw[ed];have s5:=ag g (.tup ((J.drop (I+1)).map V.ref));have t5:SqT K (upd G p (.tup ((J.drop (I+1)).map V.ref))) p ((J.drop (I+1)).map V.ref):=SqT.of ae;generalize upd G p (.tup ((J.drop (I+1)).map V.ref))=H5 at*;have bu:=s5.tup t4;have bC:((J.take I).map V.ref++[V.ref b]).length+((J.drop (I+1)).map V.ref).length<=sizeLine:=Oc (show _<=100 by rw[NT,be,Oh,be,OZ];simp only[N6,OM];lia) (by decide)
  walk_at"g";intro p6 H6 s6 t6;have S6:=(S4.trans s5).trans s6;refine q p6 H6 S6 ⟨J.set I b,?_,?_⟩
  .have e:(J.take I).map V.ref++[V.ref b]++(J.drop (I+1)).map V.ref=(J.set I b).map V.ref:=by
    rw[<- ll (x:=b) (show I<J.length by lia),NZ,NZ]
    rfl
   rw[e] at t6;exact t6
  .rw[<- ll (x:=b) (show I<J.length by lia), <-ll (x:=dk pk O N R k l c) (show I<c.length by rw[h8.len];lia)]
   exact SpA.app (SpA.drop _ (d.same S6)) (SpA.app (show SpA H6 [b] [dk pk O N R k l c] from⟨((F.trans s4).trans (s5.trans s6)) _ _ t2,True.intro⟩) (SpA.take _ (d.same S6)))
 .have X:ck pk O N R k l c=c:=by
   unfold ck;rw[fI Y,fI hm]
  rw[X] at q;walk_at"g";refine⟨fun z=>absurd z hm,fun _=> ?_⟩
  walk_at"g";exact q sa H (aA.refl _) ⟨J,v,d⟩
def IR(K:Frag):Sp:=fun b H Q _=>∃(J a sa:Addr) (k:Nat) (o:List Int) (C:List SpM.Span) (pk:Nat) (I:Int) (U c:Nat) (pg:Int),b=[.ref J,.ref a,.ref sa]/\Pl H J pk I U c pg/\aC 8 262144 k o/\(k=11\/k=12)/\SqT K H a (aD k o)/\SpT K H sa C/\Sp8 C/\Q (.bl (decide (lN pk I o C))) H
theorem uv(B:Bi mg)(D:nP K mg)(M:Has P w K mg base 1 "power_of_two" mB jo):Has P w K mg base 2 "may_reach_out" iX (IR K):=by
 refine D.has fC (fun m H Q E h=> ?_) (fun f n A d s H m Q E O h=> ?_)
 .obtain⟨r,a,sa,k,g,o,pk,C,J,b,pg,rfl,_⟩:=h
  rfl
 obtain⟨r,a,sa,k,g,o,pk,C,J,b,pg,rfl,I,N,hk,R,⟨as,F,U⟩,u,q⟩:=h;obtain⟨x,y,z,rfl,x0,x1,v,L,z0,z1⟩:∃x y z,g=[x,y,z]/\0<=x/\x<8/\0<=y/\y<8/\ -131072<=z/\z<131072:=aC.acc N (by first | assumption | lia)
 obtain⟨b1,e1,t1,v1⟩:=SpT.at (a:=sa) U u v L;have G:=I.at_;have i:=I.room.k20;have W:atI [V.int pk,V.int C,V.int J,V.int b,V.int pg] 0=some (.int pk):=aQ (j:=0) rfl;have T:atI [V.int pk,V.int C,V.int J,V.int b,V.int pg] 1=some (.int C):=aQ (j:=1) rfl;have Y:atI (aD k [x,y,z]) 2=some (.int y):=jA;have S:atI (aD k [x,y,z]) 3=some (.int z):=yE;have X:atI [V.int (spG o y).lo,V.int (spG o y).hi,V.int (spG o y).z] 0=some (.int (spG o y).lo):=jx;have Z:atI [V.int (spG o y).lo,V.int (spG o y).hi,V.int (spG o y).z] 1=some (.int (spG o y).hi):=lP;have l:Q (.bl (decide ((spG o y).lo+z<C\/C+2^pk<=(spG o y).hi+z))) H:=q;clear q;have q:=l;clear l
 refine⟨_,(aa (psS 3 fC.nd (pX aj (pv 2) (pX aj (pv 1) ad)))
   (aa (psS 4 fC.nd (pX aj (pv 1) ad))
   (aa (psS 5 fC.nd (pX aj (pv 0) ad))
   (af (ai (ya (pcE fL (aw aS (pX aj (pv 3) ad) (pv 4)) (pv 5)) (oU (pcE iT (aw aS (pX aj (pv 3) ad) (pv 4)) (aw aS (pv 5) (pcH M O (pa1 (pX aj (pv 0) ad)))))))))))),?_⟩
 try dsimp only[aT]
 walk_at"g"
 by_cases c:(spG o y).lo+z<C
 .rw[NY (p:=(spG o y).lo+z<C\/_) (.inl c)] at q;rw[NY c];walk_at"g";exact q
 .have e:decide ((spG o y).lo+z<C\/C+2^pk<=(spG o y).hi+z)=decide (C+2^pk<=(spG o y).hi+z):=O1.mpr ⟨fun h=>h.resolve_left c,.inr⟩
  rw[e] at q;rw[NX c];walk_at"g";exact q
def Ms:Sp:=fun o H Q _=>∃p c:Int,o=[.int p,.int c]/\Q (.bl (decide (p %8≠0\/c<=p))) H
theorem vv(B:Bi mg)(D:pT K mg):Has P w K mg base 1 "is_no_target" Dn Ms:=by
 refine D.has vQ (fun I H Q E h=> ?_) (fun f J A C s H I Q E U h=> ?_)
 .obtain⟨p,c,rfl,_⟩:=h
  rfl
 obtain⟨p,c,rfl,q⟩:=h;refine⟨_,(af (ai (ya (pcE vb (aw cW (pv 0) ad) ad) (oU (pcE iT (pv 0) (pv 1)))))),?_⟩
 try dsimp only[aT]
 walk_at"g"
 by_cases h:p %8=0
 .have e:decide (p %8≠0\/c<=p)=decide (c<=p):=O1.mpr ⟨fun z=>z.resolve_left (fun n=>n h),.inr⟩
  rw[e] at q;have o:(!decide (V.int (p %8)=V.int 0))=false:=by rw[h];rfl
  rw[o];walk_at"g";exact q
 .rw[NY (p:=p %8≠0\/c<=p) (.inl h)] at q;have o:(!decide (V.int (p %8)=V.int 0))=true:=by rw[NX (fun z=>h (by injection z))];rfl
  rw[o];walk_at"g";exact q
def Mx:Sp:=fun o H Q _=>∃(a:Addr) (s:SpM.Span) (c:Int),o=[.ref a,.int c]/\Tr H a s/\Q (.bl (decide (c<=s.hi\/s.z<3))) H
theorem AB(B:Bi mg)(D:vd K mg):Has P w K mg base 1 "is_no_way" BT Mx:=by
 refine D.has BF (fun I H Q E h=> ?_) (fun f J A C s H I Q E d h=> ?_)
 .obtain⟨a,s,c,rfl,_⟩:=h
  rfl
 obtain⟨a,o,c,rfl,g,q⟩:=h;have U:atI [V.int o.lo,V.int o.hi,V.int o.z] 1=some (.int o.hi):=lP;have b:atI [V.int o.lo,V.int o.hi,V.int o.z] 2=some (.int o.z):=jA;refine⟨_,(af (ai (ya (pcE iT (pX aj (pv 0) ad) (pv 1)) (oU (pcE fL (pX aj (pv 0) ad) ad))))),?_⟩
 try dsimp only[aT]
 walk_at"g"
 by_cases h:c<=o.hi
 .rw[NY (p:=c<=o.hi\/o.z<3) (.inl h)] at q;rw[NY h];walk_at"g";exact q
 .have e:decide (c<=o.hi\/o.z<3)=decide ((o.z:Int)<3):=O1.mpr ⟨fun z=>by have:=z.resolve_left h;lia,fun z=> .inr (by lia)⟩
  rw[e] at q;rw[NX h];walk_at"g";exact q
def KM(K:Frag):Sp:=fun I H Q _=>∃(a:Addr) (k:Nat) (C:List Int) (o:Int),I=[.ref a,.int o]/\k<19/\SqT K H a (aD k C)/\Q (.bl (decide (8<o %8+(if k=1 then 2 else 1)))) H
theorem yM(B:Bi mg)(D:sF K mg)(b:Has P w K mg base 1 "length_of" cV (Ga K)):Has P w K mg base 2 "is_no_word" DK (KM K):=by
 refine D.has yG (fun J H Q E h=> ?_) (fun f U A C s H J Q E c h=> ?_)
 .obtain⟨a,k,I,o,rfl,_⟩:=h
  rfl
 obtain⟨a,k,I,o,rfl,e,d,q⟩:=h;refine⟨_,(af (ai (ya (Hw (ut (pv 0))) (oU (pcE zX (aw aS (aw cW (pv 1) ad) (pcH b c (pa1 (pv 0)))) ad))))),?_⟩
 try dsimp only[aT]
 walk_at"g";exact q
noncomputable def fV:Option Str->V
 | none=> .non
 | some x=> .str x
def Fw(K:Frag):Sp:=fun b H Q _=>∃(J a sa:Addr) (c:Int) (k:Nat) (o:List Int) (C:List SpM.Span) (pk:Nat) (I:Int) (U d:Nat) (pg:Int),b=[.ref J,.int c,.ref a,.ref sa]/\Pl H J pk I U d pg/\aC 8 262144 k o/\SqT K H a (aD k o)/\SpT K H sa C/\Sp8 C/\Q (fV (aK pk I pg c k o C)) H
theorem Cg(B:Bi mg)(D:xv K mg)(eh:Has P w K mg base 1 "made_box" cV (JO K))(dq:Has P w K mg base 2 "may_reach_out" iX (IR K))(jZ:Has P w K mg base 1 "is_no_target" Dn Ms)
  (pA:Has P w K mg base 1 "is_no_way" BT Mx):Has P w K mg base 3 "fault_of" C7 (Fw K):=by
 refine D.has vj (fun vs H Q E h=> ?_) (fun f aH A Y s H vs Q E M h=> ?_)
 .obtain⟨r,a,sa,c,k,o,C,pk,U,Z,ps,pg,rfl,_⟩:=h
  rfl
 obtain⟨r,a,sa,c,k,o,C,pk,U,Z,ps,pg,rfl,R,O,ha,T,h8,q⟩:=h;obtain⟨as,au,W⟩:=id T;have i0:atI (aD k o) 0=some (.str (aN k)):=jx;have I:=O.lt
 refine⟨_,(aa (psS 4 vj.nd (pX aj (pv 2) ad))
   (aa (aL (a_ (ay (pcT aE (pcH eh M (pa1 (pv 2))) ad) (af (ai ax)) al)))
   (aa (aL (a_ (ay (PW.pt (fZ (PW.pt (iS (pcT aE (pv 4) ax) (fP (pcT aE (pv 4) ax)))) (dH (cJ (pcH dq M (pa3 (pv 0) (pv 2) (pv 3))))))) (af (ai ax)) al)))
   (aa (aL (a_ (ay (PW.pt (fZ (PW.pt (iS (pcT aE (pv 4) ax) (fP (pcT aE (pv 4) ax)))) (dH (cJ (pcH jZ M (pa2 (pX aj (pv 2) (nz (v:= -1) (by rfl))) (pv 1))))))) (af (ai ax)) al)))
   (aa (aL (a_ (ay (PW.pt (fZ (pcT aE (pv 4) ax) (dH (cJ (pcH pA M (pa2 (pX aj (pv 3) (pX aj (pv 2) ad)) (pv 1))))))) (af (ai ax)) al)))
   (aa (aL (a_ (ay (PW.pt (fZ (pcT aE (pv 4) ax) (dH (pcT iT (pX aj (pv 2) ad) (pX aj (pv 0) ad))))) (af (ai ax)) al)))
   (af (ai eP)))))))),?_⟩
 try dsimp only[aT]
 walk_at"g";refine⟨fun m l=>az (H=l/\m=[some (.ref r),some (.int c),some (.ref a),some (.ref sa),some (.str (aN k))]/\¬(mk8 k/\o.getD 0 0=7)),?_,?_⟩
 .walk_at"g";refine⟨fun hm=> ?_,fun hm=> ?_⟩
  .walk_at"g";refine bc (fun S=> ?_) (fun S=> ?_)
   .have e:aK pk U pg c k o C=some ("host":Str):=NV ⟨hm,by injection S⟩
    rw[e] at q;walk_at"g";exact q
   .exact az.mk ⟨rfl,rfl,fun z=>S (by rw[z.2])⟩
  .walk_at"g";refine bN (fun z=>by cases z) ?_
   exact az.mk ⟨rfl,rfl,fun z=>hm z.1⟩
 rintro Z1 H1 ⟨rfl,rfl,n1⟩
 walk_at"n";refine⟨fun m l=>az (H=l/\m=[some (.ref r),some (.int c),some (.ref a),some (.ref sa),some (.str (aN k))]/\¬((k=11\/k=12)/\lN pk U o C)),?_,?_⟩
 .by_cases k11:k=11\/k=12
  .have ho:∀b:Bool,b=decide (lN pk U o C)->b=true->Q (.str "beyond") H:=fun b g i=>by
    have F:lN pk U o C:=Pk (g.symm.trans i);have e:aK pk U pg c k o C=some ("beyond":Str):=by
     unfold aK;rw[fI n1,NV ⟨k11,F⟩]
    rw[e] at q;exact q
   have n:∀b:Bool,b=decide (lN pk U o C)->¬b=true->¬((k=11\/k=12)/\lN pk U o C):=fun b g i z=>i (g.trans (NY z.2))
   generalize p:decide (lN pk U o C)=d at*;have ab:=k11;rcases k11 with rfl | rfl
   .walk_at"g";walk_at"wd";rw[p];refine CP (fun J=> ?_) (fun J=> ?_)
    .walk_at"g";exact ho d rfl J
    .exact az.mk ⟨rfl,rfl,n d rfl (by rw[J];decide)⟩
   .walk_at"g";walk_at"wd";rw[p];refine CP (fun J=> ?_) (fun J=> ?_)
    .walk_at"g";exact ho d rfl J
    .exact az.mk ⟨rfl,rfl,n d rfl (by rw[J];decide)⟩
  .walk_at"g";refine bN (sne I (j:=11) (by decide) (fun e=>k11 (.inl e))) ?_
   walk_at"g";refine bN (sne I (j:=12) (by decide) (fun e=>k11 (.inr e))) ?_
   exact az.mk ⟨rfl,rfl,fun z=>k11 z.1⟩
 rintro Z2 H2 ⟨rfl,rfl,n2⟩
 walk_at"n";refine⟨fun m l=>az (H=l/\m=[some (.ref r),some (.int c),some (.ref a),some (.ref sa),some (.str (aN k))]/\¬((k=13\/k=14)/\(tgt k o %8≠0\/c<=tgt k o))),?_,?_⟩
 .by_cases kj:k=13\/k=14
  .have ho:∀b:Bool,b=decide (tgt k o %8≠0\/c<=tgt k o)->b=true->Q (.str "target") H:=fun b g i=>by
    have F:=Pk (g.symm.trans i);have e:aK pk U pg c k o C=some ("target":Str):=by
     unfold aK;rw[fI n1,fI n2,NV ⟨kj,F⟩]
    rw[e] at q;exact q
   have n:∀b:Bool,b=decide (tgt k o %8≠0\/c<=tgt k o)->¬b=true->¬((k=13\/k=14)/\(tgt k o %8≠0\/c<=tgt k o)):=fun b g i z=>i (g.trans (NY z.2))
   have hl:atI (aD k o) (-1)=some (.int (tgt k o)):=by
    rcases O with⟨rfl,rfl⟩|⟨rfl,x,v,rfl,L,N,v0,v1⟩|⟨h1,h2,x,y,z,rfl,L,N,u,G,z0,z1⟩|⟨h1,h2,x,y,z,rfl,L,N,u,G,z0,z1⟩|⟨hk,z,rfl,z0,z1⟩|⟨rfl,x,z,rfl,L,N,z0,z1⟩|⟨rfl,y,rfl,u,G⟩|⟨hk,x,y,rfl,L,N,u,G⟩
    .lia
    .lia
    .lia
    .lia
    .obtain rfl:k=13:=by lia
     rfl
    .rfl
    .lia
    .lia
   generalize p:decide (tgt k o %8≠0\/c<=tgt k o)=d at*;rcases kj with rfl | rfl
   .walk_at"g";walk_at"wd";rw[p];refine CP (fun J=> ?_) (fun J=> ?_)
    .walk_at"g";exact ho d rfl J
    .exact az.mk ⟨rfl,rfl,n d rfl (by rw[J];decide)⟩
   .walk_at"g";walk_at"wd";rw[p];refine CP (fun J=> ?_) (fun J=> ?_)
    .walk_at"g";exact ho d rfl J
    .exact az.mk ⟨rfl,rfl,n d rfl (by rw[J];decide)⟩
  .walk_at"g";refine bN (sne I (j:=13) (by decide) (fun e=>kj (.inl e))) ?_
   walk_at"g";refine bN (sne I (j:=14) (by decide) (fun e=>kj (.inr e))) ?_
   exact az.mk ⟨rfl,rfl,fun z=>kj z.1⟩
 rintro Z3 H3 ⟨rfl,rfl,n3⟩
 walk_at"n";refine⟨fun m l=>az (H=l/\m=[some (.ref r),some (.int c),some (.ref a),some (.ref sa),some (.str (aN k))]/\¬(k=15/\(c<=(spG C (o.getD 0 0)).hi\/(spG C (o.getD 0 0)).z<3))),?_,?_⟩
 .by_cases kt:k=15
  .subst kt;obtain⟨y,rfl,u,G⟩:∃y,o=[y]/\0<=y/\y<8:=aC.thr O (by first | rfl | assumption)
   have ho:∀b:Bool,b=decide (c<=(spG C y).hi\/(spG C y).z<3)->b=true->Q (.str "way") H:=fun b g i=>by
    have F:=Pk (g.symm.trans i);have e:aK pk U pg c 15 [y] C=some ("way":Str):=by
     unfold aK;rw[fI n1,fI n2,fI n3,NV ⟨rfl,F⟩]
    rw[e] at q;exact q
   have n:∀b:Bool,b=decide (c<=(spG C y).hi\/(spG C y).z<3)->¬b=true->¬((15:Nat)=15/\(c<=(spG C ([y].getD 0 0)).hi\/(spG C ([y].getD 0 0)).z<3)):=fun b g i z=>i (g.trans (NY z.2))
   obtain⟨b1,g,t1,v1⟩:=SpT.at (a:=sa) W h8 u G;have i1:atI (aD 15 [y]) 1=some (.int y):=lP;generalize p:decide (c<=(spG C y).hi\/(spG C y).z<3)=d at*;walk_at"g";walk_at"wd";rw[p];refine CP (fun J=> ?_) (fun J=> ?_)
   .walk_at"g";exact ho d rfl J
   .exact az.mk ⟨rfl,rfl,n d rfl (by rw[J];decide)⟩
  .walk_at"g";refine bN (sne I (j:=15) (by decide) kt) ?_
   exact az.mk ⟨rfl,rfl,fun z=>kt z.1⟩
 rintro Z4 H4 ⟨rfl,rfl,n4⟩
 walk_at"n";refine⟨fun m l=>az (H=l/\m=[some (.ref r),some (.int c),some (.ref a),some (.ref sa),some (.str (aN k))]/\¬(k=18/\pg<=o.getD 0 0)),?_,?_⟩
 .by_cases kg:k=18
  .subst kg;obtain⟨y,rfl⟩:∃y,o=[y]:=(aC.gat O rfl).imp fun _ h=>h.1
   have i1:atI (aD 18 [y]) 1=some (.int y):=lP;have ar:=R.at_;have p4:atI [V.int pk,V.int U,V.int Z,V.int ps,V.int pg] 4=some (.int pg):=aQ (j:=4) rfl;walk_at"g";walk_at"wd";refine bc (fun X=> ?_) (fun X=> ?_)
   .have e:aK pk U pg c 18 [y] C=some ("gate":Str):=by
     unfold aK;rw[fI n1,fI n2,fI n3,fI n4,NV ⟨rfl,X⟩]
    rw[e] at q;walk_at"g";exact q
   .exact az.mk ⟨rfl,rfl,fun z=>X z.2⟩
  .walk_at"g";refine bN (sne I (j:=18) (by decide) kg) ?_
   exact az.mk ⟨rfl,rfl,fun z=>kg z.1⟩
 rintro Z5 H5 ⟨rfl,rfl,n5⟩
 have e:aK pk U pg c k o C=none:=by
  unfold aK;rw[fI n1,fI n2,fI n3,fI n4,fI n5]
 rw[e] at q;walk_at"g";exact q
def KR(K:Frag):Sp:=fun d H Q _=>∃(a cd sa:Addr) (o:Int) (k:Nat) (I C:List Int) (J:List SpM.Span) (pk:Nat) (b:Int) (c e:Nat) (pg:Int),d=[.ref a,.ref cd,.int o,.ref sa]/\Pl H a pk b c e pg/\SqL K H cd (C.map V.int)/\(∀y∈C,0<=y/\y<4294967296)/\lI C o=some (k,I)/\o %8+(if k=1 then 2 else 1)<=8/\SpT K H sa J/\Sp8 J/\aK pk b pg C.length k I J=none/\
 ∀p U,aA H U->SqT K U p (aD k I)->Q (.ref p) U
theorem nX(B:Bi mg)(D:iY K mg)(G:Has P w K mg base 6 "instruction_at" Gj (LH K))(O:Has P w K mg base 2 "is_no_word" DK (KM K))(X:Has P w K mg base 3 "fault_of" C7 (Fw K)):
  Has P w K mg base 7 "instruction_let_by" Cz (KR K):=by
 refine D.has eV (fun z H Q E h=> ?_) (fun f F A i s H z Q E e h=> ?_)
 .obtain⟨L,cd,sa,g,k,r,J,u,pk,S,x,Y,pg,rfl,_⟩:=h
  rfl
 obtain⟨L,cd,sa,g,k,r,J,u,pk,S,x,Y,pg,rfl,c,b,I,o,m,d,h8,n,q⟩:=h;have T:∀y∈J,0<=y:=fun y W=>(I y W).1
 have C:=uS I o;have l:=C.lt
 refine⟨_,(aa (psS 4 eV.nd (pcH G e (pa2 (pv 1) (pv 2))))
   (aa (ay (cJ (pcH O e (pa2 (pv 4) (pv 2)))) (af sT) al)
   (aa (psS 5 eV.nd (pcH X e (pa4 (pv 0) (aM aG (by rfl) B.len bS (pa1 (pv 1))) (pv 4) (pv 3))))
   (aa (ay (pY (wq (pv 5))) (af sT) al)
   (af (ai (pv 4))))))),?_⟩
 try dsimp only[aT]
 walk_at"g";intro v p U j;rw[o] at j;obtain⟨N,rfl,a⟩:=j;have M:=c.mv U;have R:=U.seq b;have Z:=d.same U;walk_at"g";refine xS (NX (by lia)) ?_
 walk_at"g";have el:(((J.map V.int).length:Nat):Int)=((J.length:Nat):Int):=by rw[be]
 rw[el,n];walk_at"g";exact q N p U a
theorem Jc:∀k,k<19->2<=k->k<=9->aX k=(["a","b","c"]:List Str):=by decide +kernel
theorem GU:∀k,k<19->10<=k->k<=12->aX k=(["a","b","move"]:List Str):=by decide +kernel
theorem Kr:∀k,k<19->16<=k->k<=17->aX k=(["a","b"]:List Str):=by decide +kernel
theorem Hq{k:Nat}{a b c:Int}(o:2<=k)(C:k<=9):cM k [a,b,c]=k*134217728+a*16777216+b*2097152+c*262144:=by
 unfold cM;rw[Jc k (by lia) o C]
 rfl
theorem GZ{k:Nat}{a b n:Int}(o:10<=k)(C:k<=12):cM k [a,b,n]=k*134217728+a*16777216+b*2097152+n %262144:=by
 unfold cM;rw[GU k (by lia) o C]
 rfl
theorem Kw{k:Nat}{a b:Int}(o:16<=k)(C:k<=17):cM k [a,b]=k*134217728+a*16777216+b*2097152:=by
 unfold cM;rw[Kr k (by lia) o C]
 rfl
theorem oB{o:Int}{k:Nat}{ns:List Int}(J:o / 134217728=k)(C:k<19)(I:(aX k).map (fun x=>gM x o)=ns)(hw:cM k ns=o):owi o=some (k,ns):=by
 unfold owi;rw[J,fI (by lia),Os,I,NV hw]
theorem zI{k:Nat}{ns:List Int}(h:aC 8 262144 k ns):0<=cM k ns/\owi (cM k ns)=some (k,if k=1 then ns.take 1 else ns):=by
 rcases h with⟨rfl,rfl⟩|⟨rfl,a,v,rfl,a0,a1,v0,v1⟩|⟨o,C,a,b,c,rfl,a0,a1,I,U,c0,c1⟩|⟨o,C,a,b,n,rfl,a0,a1,I,U,n0,n1⟩|⟨J,n,rfl,n0,n1⟩|⟨rfl,a,n,rfl,a0,a1,n0,n1⟩|⟨rfl,b,rfl,I,U⟩|⟨J,a,b,rfl,a0,a1,I,U⟩
 .exact⟨by decide,oB (k:=0) (by decide) (by decide) rfl rfl⟩
 .have e:cM 1 [a,v]=134217728+a*16777216:=rfl;rw[e,NV rfl];clear e;refine⟨by lia,oB (k:=1) (by lia) (by decide) ?_ rfl⟩
  show[(134217728+a*16777216) / 16777216 %8]=[a]
  rw[show(134217728+a*16777216) / 16777216 %8=a by lia]
 .have e:=Hq (a:=a) (b:=b) (c:=c) o C;rw[fI (by lia)]
  refine⟨by rw[e];clear e;lia,oB (by rw[e];clear e;lia) (by lia) ?_ rfl⟩
  rw[Jc k (by lia) o C,e]
  clear e;show[(k*134217728+a*16777216+b*2097152+c*262144) / 16777216 %8,(k*134217728+a*16777216+b*2097152+c*262144) / 2097152 %8,(k*134217728+a*16777216+b*2097152+c*262144) / 262144 %8]=[a,b,c]
  rw[show(k*134217728+a*16777216+b*2097152+c*262144) / 16777216 %8=a by lia,show(k*134217728+a*16777216+b*2097152+c*262144) / 2097152 %8=b by lia,show(k*134217728+a*16777216+b*2097152+c*262144) / 262144 %8=c by lia]
 .have e:=GZ (a:=a) (b:=b) (n:=n) o C;rw[fI (by lia)]
  refine⟨by rw[e];clear e;lia,oB (by rw[e];clear e;lia) (by lia) ?_ rfl⟩
  rw[GU k (by lia) o C,e]
  clear e;generalize g:(k:Int)*134217728+a*16777216+b*2097152+n %262144=x;show[x / 16777216 %8,x / 2097152 %8,if x %262144<131072 then x %262144 else x %262144 - 262144]=[a,b,n]
  have f:(if x %262144<131072 then x %262144 else x %262144 - 262144)=n:=by split <;> lia
  rw[f,show x / 16777216 %8=a by lia,show x / 2097152 %8=b by lia]
 .have e:cM k [n]=k*134217728+n %262144:=by rcases J with rfl | rfl <;> rfl
  rw[fI (by lia)]
  refine⟨by rw[e];clear e;lia,oB (by rw[e];clear e;lia) (by lia) ?_ rfl⟩
  have d:aX k=(["n"]:List Str):=by rcases J with rfl | rfl <;> rfl
  rw[d,e];clear e;show[(k*134217728+n %262144) %262144]=[n]
  rw[show(k*134217728+n %262144) %262144=n by lia]
 .have e:cM 14 [a,n]=14*134217728+a*16777216+n %262144:=rfl;rw[fI (by lia)]
  refine⟨by rw[e];clear e;lia,oB (by rw[e];clear e;lia) (by lia) ?_ rfl⟩
  rw[e];clear e;show[(14*134217728+a*16777216+n %262144) / 16777216 %8,(14*134217728+a*16777216+n %262144) %262144]=[a,n]
  rw[show(14*134217728+a*16777216+n %262144) / 16777216 %8=a by lia,show(14*134217728+a*16777216+n %262144) %262144=n by lia]
 .have e:cM 15 [b]=15*134217728+b*2097152:=rfl;rw[fI (by lia)]
  refine⟨by rw[e];clear e;lia,oB (by rw[e];clear e;lia) (by lia) ?_ rfl⟩
  rw[e];clear e;show[(15*134217728+b*2097152) / 2097152 %8]=[b]
  rw[show(15*134217728+b*2097152) / 2097152 %8=b by lia]
 .have e:=Kw (k:=k) (a:=a) (b:=b) (by lia) (by lia)
  rw[fI (by lia)]
  refine⟨by rw[e];clear e;lia,oB (by rw[e];clear e;lia) (by lia) ?_ rfl⟩
  rw[Kr k (by lia) (by lia) (by lia),e]
  clear e;show[(k*134217728+a*16777216+b*2097152) / 16777216 %8,(k*134217728+a*16777216+b*2097152) / 2097152 %8]=[a,b]
  rw[show(k*134217728+a*16777216+b*2097152) / 16777216 %8=a by lia,show(k*134217728+a*16777216+b*2097152) / 2097152 %8=b by lia]
theorem zG{A Bs:List Int}{k:Nat}{ns:List Int}(h:aC 8 262144 k ns):lI (A++c_ k ns++Bs) (A.length:Nat)=some (k,ns):=by
 obtain⟨J,ho⟩:=zI h;have hw:c_ k ns=if k=1 then[cM k ns,ns.getD 1 0] else[cM k ns]:=rfl
 unfold lI;rw[fI (by lia),Os]
 by_cases k1:k=1
 .subst k1;rw[hw,NV rfl];have o:(A++[cM 1 ns,ns.getD 1 0]++Bs)[A.length]? =some (cM 1 ns):=by
   rw[On,Oe (NW _),Pm]
   rfl
  have I:(A++[cM 1 ns,ns.getD 1 0]++Bs)[A.length+1]? =some (ns.getD 1 0):=by
   rw[On,Oe (by lia)]
   have:A.length+1 - A.length=1:=by lia
   rw[this]
   rfl
  rw[o];dsimp only;rw[ho,NV rfl];obtain⟨a,v,rfl⟩:∃a v,ns=[a,v]:=by
   obtain⟨a,v,C,_⟩:=aC.put h (by first | rfl | assumption)
   exact⟨a,v,C⟩
  dsimp only;rw[NV rfl,I]
  rfl
 .rw[hw,fI k1];have o:(A++[cM k ns]++Bs)[A.length]? =some (cM k ns):=by
   rw[On,Oe (NW _),Pm]
   rfl
  rw[o];dsimp only;rw[ho,fI k1];dsimp only;rw[fI k1]
noncomputable def a8(k:Nat):Nat:=if k=1 then 2 else 1
noncomputable def ao(is:List (Nat × List Int)):List Int:=is.flatMap (fun o=>c_ o.1 o.2)
theorem gp(k:Nat)(ns:List Int):(c_ k ns).length=a8 k:=by
 unfold c_ a8
 split <;> rfl
theorem Gv{k:Nat}{ns:List Int}(h:aC 8 262144 k ns):∀y∈c_ k ns,0<=y/\y<4294967296:=by
 have one:cM k ns<4294967296/\(k=1->0<=ns.getD 1 0/\ns.getD 1 0<4294967296):=by
  rcases h with⟨rfl,rfl⟩|⟨rfl,x,v,rfl,C,I,v0,v1⟩|⟨U,b,x,y,z,rfl,C,I,J,a,z0,z1⟩|⟨U,b,x,y,z,rfl,C,I,J,a,z0,z1⟩|⟨d,z,rfl,z0,z1⟩|⟨rfl,x,z,rfl,C,I,z0,z1⟩|⟨rfl,y,rfl,J,a⟩|⟨d,x,y,rfl,C,I,J,a⟩
  .exact⟨by decide,fun z=>by lia⟩
  .refine⟨?_,fun _=>⟨v0,v1⟩⟩
   have e:cM 1 [x,v]=134217728+x*16777216:=rfl;rw[e]
   lia
  .rw[Hq U b];exact⟨by lia,fun z=>by lia⟩
  .rw[GZ U b];exact⟨by lia,fun z=>by lia⟩
  .rcases d with rfl | rfl
   .have e:cM 13 [z]=13*134217728+z %262144:=rfl;rw[e];exact⟨by lia,fun z=>by lia⟩
   .have e:cM 18 [z]=18*134217728+z %262144:=rfl;rw[e];exact⟨by lia,fun z=>by lia⟩
  .have e:cM 14 [x,z]=14*134217728+x*16777216+z %262144:=rfl;rw[e];exact⟨by lia,fun z=>by lia⟩
  .have e:cM 15 [y]=15*134217728+y*2097152:=rfl;rw[e];exact⟨by lia,fun z=>by lia⟩
  .rw[Kw (by lia) (by lia)]
   exact⟨by lia,fun z=>by lia⟩
 have c:=(zI h).1;intro y o;unfold c_ at o
 split at o
 .rename_i k1
  simp only[Od,Oy,O7] at o
  rcases o with rfl | rfl
  .exact⟨c,one.1⟩
  .exact one.2 k1
 .simp only[Od,Oy,O7] at o
  subst o;exact⟨c,one.1⟩
noncomputable def w8:List SpM.Span:=List.replicate 8 SpM.whole
theorem yJ:Sp8 w8:=⟨rfl,fun s hs=>by rw[QQ hs];exact SpM.Sv_whole⟩
noncomputable def aJ(at_:Nat)(sp:List SpM.Span):List SpM.Span:=if at_ %8=0 then w8 else sp
theorem gU{at_:Nat}{sp:List SpM.Span}(h:Sp8 sp):Sp8 (aJ at_ sp):=by
 unfold aJ
 split
 .exact yJ
 .exact h
structure Pn where
 pk:Nat
 pb:Int
 pm:Nat
 ps:Nat
 pg:Int
noncomputable def bB(x:Pn):Nat->List SpM.Span->List (Nat × List Int)->List (Option (List SpM.Span))
 | _,_,[]=>[]
 | at_,sp,kn::r=>some (aJ at_ sp)::((if kn.1=1 then[none] else[])++bB x (at_+a8 kn.1) (ck x.pk x.pb x.pm x.ps kn.1 kn.2 (aJ at_ sp)) r)
def okC(x:Pn)(o:Int):Nat->List SpM.Span->List (Nat × List Int)->Prop
 | _,_,[]=>True
 | at_,sp,kn::r=>aC 8 262144 kn.1 kn.2/\at_ %8+a8 kn.1<=8/\aK x.pk x.pb x.pg o kn.1 kn.2 (aJ at_ sp)=none/\okC x o (at_+a8 kn.1) (ck x.pk x.pb x.pm x.ps kn.1 kn.2 (aJ at_ sp)) r
def TdA(K:Frag)(H:Hp):List V->List (Option (List SpM.Span))->Prop
 | [],[]=>True
 | v::vs,none::r=>v= .non/\TdA K H vs r
 | v::vs,some sp::r=>(∃a,v= .ref a/\SpT K H a sp)/\TdA K H vs r
 | _,_=>False
theorem TdA.same{H o:Hp}(e:aA H o):∀{vs:List V}{r:List (Option (List SpM.Span))},TdA K H vs r->TdA K o vs r
 | [],[],_=>True.intro
 | _::_,none::_,h=>⟨h.1,TdA.same e h.2⟩
 | _::_,some _::_,h=>⟨let ⟨a,h1,h2⟩:=h.1;⟨a,h1,h2.same e⟩,TdA.same e h.2⟩
 | [],none::_,h=>h.elim
 | [],some _::_,h=>h.elim
 | _::_,[],h=>h.elim
theorem TdA.len{H:Hp}:∀{vs:List V}{r:List (Option (List SpM.Span))},TdA K H vs r->vs.length=r.length
 | [],[],_=>rfl
 | _::_,none::_,h=>congrArg (· +1) (TdA.len h.2)
 | _::_,some _::_,h=>congrArg (· +1) (TdA.len h.2)
 | [],none::_,h=>h.elim
 | [],some _::_,h=>h.elim
 | _::_,[],h=>h.elim
theorem TdA.app{H:Hp}{us:List V}{t:List (Option (List SpM.Span))}(o:TdA K H us t):∀{vs:List V}{r:List (Option (List SpM.Span))},TdA K H vs r->TdA K H (vs++us) (r++t)
 | [],[],_=>o
 | _::_,none::_,h=>⟨h.1,TdA.app o h.2⟩
 | _::_,some _::_,h=>⟨h.1,TdA.app o h.2⟩
 | [],none::_,h=>h.elim
 | [],some _::_,h=>h.elim
 | _::_,[],h=>h.elim
theorem SpT.wr{H:Hp}{a b:Addr}{J:List V}{o:HO}{sp:List SpM.Span}(I:H b=some (.lst J))(h:SpT K H a sp):SpT K (upd H b o) a sp:=by
 obtain⟨U,C,c⟩:=h;refine⟨U,?_,c.mono (fun d f e=>by rw[aq (fun z=>by rw[z,I] at e;cases e)];exact e)⟩
 unfold SqT at C ⊢;rcases C with C | C
 .refine .inl ?_
  rcases C with C | ⟨ob,C⟩
  .exact .inl (by rw[aq (fun z=>by rw[z,I] at C;cases C)];exact C)
  .exact .inr ⟨ob,by rw[aq (fun z=>by rw[z,I] at C;cases C)];exact C⟩
 .exact .inr C
theorem TdA.wr{H:Hp}{b:Addr}{I:List V}{o:HO}(C:H b=some (.lst I)):∀{vs:List V}{r:List (Option (List SpM.Span))},TdA K H vs r->TdA K (upd H b o) vs r
 | [],[],_=>True.intro
 | _::_,none::_,h=>⟨h.1,TdA.wr C h.2⟩
 | _::_,some _::_,h=>⟨let ⟨a,h1,h2⟩:=h.1;⟨a,h1,h2.wr C⟩,TdA.wr C h.2⟩
 | [],none::_,h=>h.elim
 | [],some _::_,h=>h.elim
 | _::_,[],h=>h.elim
theorem qi{x:Pn}:∀{is:List (Nat × List Int)}{at_:Nat}{sp:List SpM.Span},(bB x at_ sp is).length=(ao is).length
 | [],_,_=>rfl
 | kn::r,at_,sp=>by
  have ih:=qi (x:=x) (is:=r) (at_:=at_+a8 kn.1) (sp:=ck x.pk x.pb x.pm x.ps kn.1 kn.2 (aJ at_ sp));show(some (aJ at_ sp)::((if kn.1=1 then[none] else[])++bB x _ _ r)).length=(c_ kn.1 kn.2++ao r).length
  rw[N6,NT,NT,ih,gp];unfold a8
  split <;> simp only[N6,OM] <;> lia
theorem xW{x:Pn}{o:Int}:∀{is:List (Nat × List Int)}{at_:Nat}{sp:List SpM.Span},okC x o at_ sp is->∀y∈ao is,0<=y/\y<4294967296
 | [],_,_,_,y,hy=>by cases hy
 | j::r,at_,sp,h,y,hy=>by
  rcases Ot.mp (show y∈c_ j.1 j.2++ao r from hy) with hy | hy
  .exact Gv h.1 y hy
  .exact xW (is:=r) h.2.2.2 y hy
noncomputable def dM(x:Pn):Nat->List SpM.Span->List (Nat × List Int)->List SpM.Span
 | _,sp,[]=>sp
 | at_,sp,kn::r=>dM x (at_+a8 kn.1) (ck x.pk x.pb x.pm x.ps kn.1 kn.2 (aJ at_ sp)) r
theorem wQ{kn:Nat × List Int}{r:List (Nat × List Int)}:(ao (kn::r)).length=a8 kn.1+(ao r).length:=by
 show(c_ kn.1 kn.2++ao r).length=_
 rw[NT,gp]
structure eZ (x:Pn) (is:List (Nat × List Int)):Prop where
 len:(ao is).length=8*2^(x.pm+x.ps)
 ok:okC x (ao is).length 0 w8 is
 last:∃pre kn,is=pre++[kn]/\(kn.1=0\/kn.1=13\/kn.1=15)
 rng:∀y∈ao is,0<=y/\y<4294967296
def Mn(K:Frag):Sp:=fun C H Q _=>∃(J cd:Addr) (I:List (Nat × List Int)) (x:Pn),C=[.ref J,.ref cd]/\Pl H J x.pk x.pb x.pm x.ps x.pg/\SqL K H cd ((ao I).map V.int)/\eZ x I/\∀p C o,aA H o->H p=none->o p=some (.lst C)->TdA K o C (bB x 0 w8 I)->Q (.ref p) o
theorem wJ(B:Bi mg)(T2:Tb2 K mg)(D:qX K mg)(au:Has P w K mg base 1 "power_of_two" mB jo)(bT:Has P w K mg base 2 "first_spans" [] (J5 K))(fo:Has P w K mg base 7 "instruction_let_by" Cz (KR K))
  (dS:Has P w K mg base 8 "spans_behind" iX (LX K)) (bC:Has P w K mg base 1 "length_of" cV (Ga K)):Has P w K mg base 9 "spans_ahead" sN (Mn K):=by
 obtain⟨AW,Ay,Jl⟩:=T2.last;refine D.has cw (fun a H Q E h=> ?_) (fun f dm A cv s H a Q E hr h=> ?_)
 .obtain⟨pl,cd,l,x,rfl,_⟩:=h
  rfl
 obtain⟨pl,cd,l,x,rfl,G,b6,co,q⟩:=h;have c7:=G.at_;have aP:=G.ms;have p2:atI [V.int x.pk,V.int x.pb,V.int x.pm,V.int x.ps,V.int x.pg] 2=some (.int x.pm):=aQ (j:=2) rfl;have p3:atI [V.int x.pk,V.int x.pb,V.int x.pm,V.int x.ps,V.int x.pg] 3=some (.int x.ps):=aQ (j:=3) rfl
 refine⟨_,(aa (ay (pcT vb (aM aG (by rfl) B.len bS (pa1 (pv 1))) (aw bH ad (pcH au hr (pa1 (aw aS (pX aj (pv 0) ad) (pX aj (pv 0) ad)))))) (af sT) al)
   (aa (psS 2 cw.nd (bo dN))
   (aa (psS 3 cw.nd (dL (bT.mono (by omega)) hr (by rfl)))
   (aa (psS 4 cw.nd ax)
   (aa (aL (kc Oj (pcT fL (aM aG (by rfl) B.len bS (pa1 (pv 2))) (aM aG (by rfl) B.len bS (pa1 (pv 1)))) (aa (aL (a_ (ay (pcT aE (aw cW (aM aG (by rfl) B.len bS (pa1 (pv 2))) ad) ad) (af (psS 3 cw.nd (dL (bT.mono (by omega)) hr (by rfl)))) al)))
   (aa (psS 5 cw.nd (pcH fo hr (pa4 (pv 0) (pv 1) (aM aG (by rfl) B.len bS (pa1 (pv 2))) (pv 3))))
   (aa (psS 4 cw.nd (pX aj (pv 5) ad))
   (aa (bP (jk Oq Ov Ow du (pv 2) (pa1 (pv 3))))
   (aa (psS 3 cw.nd (pcH dS hr (pa3 (pv 0) (pv 5) (pv 3))))
   (af (aL (a_ (ay (pcT aE (pcH bC hr (pa1 (pv 5))) ad) (af (bP (jk Oq Ov Ow du (pv 2) (pa1 eP)))) al)))))))))))
   (aa (ay (gR ju (pv 4) (nC (v:= .ref AW) (by rfl) Ay (by rfl)) (by rfl)) (af sT) al)
   (af (ai (pv 2))))))))),?_⟩
 try dsimp only[aT]
 walk_at"g";refine xS ?_ ?_
 .have e:(((ao l).map V.int).length:Int)=8*2^(x.pm+x.ps):=by
   rw[be,co.len,Int.natCast_mul,Int.natCast_pow]
   rfl
  rw[e,NY rfl]
  rfl
 walk_at"g";intro d a6;have W:H d=none:=a6;have s1:=ag a6 (.lst []);have l1:upd H d (.lst []) d=some (.lst []):=ae;generalize upd H d (.lst [])=H1 at*;walk_at"g";intro sa H2 s2 t2;have l2:=s2 _ _ l1;have S2:=s1.trans s2;walk_at"g"
 refine⟨fun m Z u=>∃(b r:List (Nat × List Int)) (C:Nat) (i:List SpM.Span) (a:List V) (I:List (Option (List SpM.Span))) (sa:Addr) (J:Str) (i5:Option V),m=r.length/\l=b++r/\C=(ao b).length/\I.length=C/\I++bB x C i r=bB x 0 w8 l/\okC x (ao l).length C i r/\Sp8 i/\SpT K u sa i/\TdA K u a I/\u d=some (.lst a)/\aA H u/\
  (∀p∈b.getLast?,J=aN p.1)/\Z=[some (.ref pl),some (.ref cd),some (.ref d),some (.ref sa),some (.str J),i5],⟨l.length,[],l,0,w8,[],[],sa,"",none,rfl,rfl,rfl,rfl,rfl,co.ok,yJ,t2,True.intro,l2,S2,(fun p hk=>by cases hk),rfl⟩,?_⟩
 intro m Z H3 X;refine br fun G_ g=> ?_
 obtain⟨b,r,C,i,a,I,sa,J,i5,rfl,N,aH,bb,a7,cg,h8,cc,y,aY,S3,bM,rfl⟩:=X;refine g ?_
 have b':=S3.seq b6;have b0:=G.mv S3;have L:a.length=C:=by rw[y.len];exact bb
 have bx:(ao l).length=C+(ao r).length:=by
  rw[N,aH];unfold ao;rw[OW,NT]
 have bp:(((a.length:Nat):Int)<(((ao l).map V.int).length:Nat))↔r≠[]:=by
  rw[be,L,bx]
  cases r with
  | nil=>simp [ao]
  | cons p R=>
   have:0<(ao (p::R)).length:=by
    show 0<(c_ p.1 p.2++ao R).length
    rw[NT,gp];unfold a8
    split <;> lia
   constructor
   .intro _ z;cases z
   .intro _;lia
 walk_at"g";refine bc (fun c=> ?_) (fun c=> ?_)
 .have hr':=bp.mp c;refine br fun G_ g=> ?_
  obtain⟨⟨k,M⟩,R,rfl⟩:=List.exists_cons_of_ne_nil hr';refine g ?_
  refine br fun G_ g=> ?_
  obtain⟨hv,ab,cq,S⟩:=cg;refine g ?_
  dsimp only at hv ab cq S;walk_at"n"
  refine⟨fun Z' u=>az (∃(b r:List (Nat × List Int)) (C:Nat) (i:List SpM.Span) (a:List V) (I:List (Option (List SpM.Span))) (sa:Addr) (J:Str) (i5:Option V),r.length<R.length+1/\l=b++r/\C=(ao b).length/\I.length=C/\I++bB x C i r=bB x 0 w8 l/\okC x (ao l).length C i r/\Sp8 i/\SpT K u sa i/\TdA K u a I/\u d=some (.lst a)/\aA H u/\
  (∀p∈b.getLast?,J=aN p.1)/\Z'=[some (.ref pl),some (.ref cd),some (.ref d),some (.ref sa),some (.str J),i5]),fun Z' u h=> ?_,?_⟩
  .refine br fun G_ g=> ?_
   obtain⟨aU,r2,bY,bL,bV,bw,ar,cp,bG,z1,z2⟩:=h.out;refine g ?_
   exact⟨r2.length,z1,aU,r2,bY,bL,bV,bw,ar,cp,bG,rfl,z2⟩
  walk_at"n";refine⟨fun Z' u=>az (∃bl:Addr,SpT K u bl (aJ C i)/\aA H3 u/\Z'=[some (.ref pl),some (.ref cd),some (.ref d),some (.ref bl),some (.str J),i5]),?_,?_⟩
  .walk_at"g";refine bc (fun c8=> ?_) (fun c8=> ?_)
   .have e8:aJ C i=w8:=NV (by rw[L] at c8;have h:((C:Nat):Int) %8=0:=V.int.inj c8;lia)
    walk_at"g";intro ar H4 Y t4;exact az.mk ⟨ar,by rw[e8];exact t4,Y,rfl⟩
   .have e8:aJ C i=i:=fI (fun z=>c8 (by rw[L];show V.int (((C:Nat):Int) %8)=V.int 0;rw[show((C:Nat):Int) %8=0 by lia]))
    exact az.mk ⟨sa,by rw[e8];exact cc,aA.refl _,rfl⟩
  intro Z4 H4 X;refine br fun G_ g=> ?_
  obtain⟨U,t4,Y,rfl⟩:=X;refine g ?_
  have b7:=gU (at_:=C) h8;have bu:I++(some (aJ C i)::((if k=1 then[none] else[])++bB x (C+a8 k) (ck x.pk x.pb x.pm x.ps k M (aJ C i)) R))=bB x 0 w8 l:=a7
  generalize aJ C i=O at*;have l4:=Y _ _ aY;have S4:=S3.trans Y;have dn:=Y.seq b';have b9:=b0.mv Y;have b1:=y.same Y;have cb:ao l=ao b++c_ k M++ao R:=by
   rw[N];unfold ao;rw[OW,On]
   rfl
  have cz:lI (ao l) ((a.length:Nat):Int)=some (k,M):=by
   rw[L,aH,cb];exact zG hv
  have dh:((a.length:Nat):Int) %8+(if k=1 then 2 else 1)<=8:=by
   rw[L];unfold a8 at ab
   split at ab <;> (rename_i z;simp only[z,Qu,QV];lia)
  have cZ:=co.rng;walk_at"g";intro ia H5 s5 a';have i0:atI (aD k M) 0=some (.str (aN k)):=jx;have l5:=s5 _ _ l4;have t5:=t4.same s5;have bF:=b1.same s5;have dc:=b9.mv s5;have S5:=S4.trans s5;have c':tyV K "list" (.ref d) H5:= .inl ⟨rfl,_,SqL.of l5⟩
  have da:a.length<sizeLine:=Of (show a.length<=8*2^7 by
   have n:(2:Nat)^(x.pm+x.ps)<=2^7:=OI (by decide) aP
   have h2:=co.len
   lia) (by decide)
  have S6:aA H (upd H5 d (.lst (a++[.ref U]))):=cf W S5;have l6:upd H5 d (.lst (a++[.ref U])) d=some (.lst (a++[.ref U])):=ae;have t6:SpT K (upd H5 d (.lst (a++[.ref U]))) U O:=t5.wr l5;have b2:TdA K (upd H5 d (.lst (a++[.ref U]))) (a++[.ref U]) (I++[some O]):=TdA.app (show TdA K _ [V.ref U] [some O] from⟨⟨U,rfl,t6⟩,True.intro⟩) (bF.wr l5);have b4:SqT K (upd H5 d (.lst (a++[.ref U]))) ia (aD k M):=by
   unfold SqT at a' ⊢;rcases a' with n | n
   .refine .inl ?_
    rcases n with n | ⟨ob,n⟩
    .exact .inl (by rw[aq (fun z=>by rw[z,l5] at n;cases n)];exact n)
    .exact .inr ⟨ob,by rw[aq (fun z=>by rw[z,l5] at n;cases n)];exact n⟩
   .exact .inr n
  have c9:=G.mv S6;walk_at"g";generalize upd H5 d (.lst (a++[.ref U]))=H6 at*;intro T H7 s7 t7;have l7:=s7 _ _ l6;have bt:=b2.same s7;have c6:=s7.tup b4;have S7:=S6.trans s7;have cO:=hv.lt;have cm:Sp8 (ck x.pk x.pb x.pm x.ps k M O):=se G.room aP hv b7;have fin:∀(F:Hp) (us:List V),aA H7 F\/(∃zs o,H7 d=some (.lst zs)/\F=upd H7 d o)->aA H F->F d=some (.lst (a++[.ref U]++us))->us=(if k=1 then[.non] else[])->
    ∃(b r:List (Nat × List Int)) (C:Nat) (i:List SpM.Span) (a:List V) (I:List (Option (List SpM.Span))) (sa:Addr) (J:Str) (i5:Option V),r.length<R.length+1/\l=b++r/\C=(ao b).length/\I.length=C/\I++bB x C i r=bB x 0 w8 l/\okC x (ao l).length C i r/\Sp8 i/\SpT K F sa i/\TdA K F a I/\F d=some (.lst a)/\aA H F/\
     (∀p∈b.getLast?,J=aN p.1)/\[some (.ref pl),some (.ref cd),some (.ref d),some (.ref T),some (.str (aN k)),some (.ref ia)]=[some (.ref pl),some (.ref cd),some (.ref d),some (.ref sa),some (.str J),i5]:=by
   intro F us bA S8 l8 bW;have t8:SpT K F T (ck x.pk x.pb x.pm x.ps k M O):=by
    rcases bA with h | ⟨zs,o,n,rfl⟩
    .exact t7.same h
    .exact t7.wr n
   have b8:TdA K F (a++[.ref U]) (I++[some O]):=by
    rcases bA with h | ⟨zs,o,n,rfl⟩
    .exact bt.same h
    .exact bt.wr n
   have b5:TdA K F us (if k=1 then[none] else[]):=by
    rw[bW]
    split
    .exact⟨rfl,True.intro⟩
    .exact True.intro
   refine⟨b++[(k,M)],R,C+a8 k,ck x.pk x.pb x.pm x.ps k M O,a++[.ref U]++us,I++[some O]++(if k=1 then[none] else[]),T,aN k,some (.ref ia),Qe _,by rw[N,On];rfl,?_,?_,?_,S,cm,t8,TdA.app b5 b8,l8,S8,?_,rfl⟩
   .rw[aH];unfold ao;rw[OW,NT];show _=_+(c_ k M++[]).length
    rw[Oz,gp]
   .rw[NT,NT,bb];unfold a8
    split <;> rfl
   .rw[<- bu,On,On]
    rfl
   .intro p hk;have:(k,M)=p:=by simpa using hk
    rw[<- this]
  have cH:tyV K "list" (.ref d) H7:= .inl ⟨rfl,_,SqL.of l7⟩
  have cQ:(a++[V.ref U]).length<sizeLine:=Of (show(a++[V.ref U]).length<=8*2^7+1 by
   rw[NT];have n:(2:Nat)^(x.pm+x.ps)<=2^7:=OI (by decide) aP
   have h2:=co.len
   simp only[N6,OM]
   lia) (by decide)
  walk_at"n";refine⟨_,?_,fun Z' u h=>h⟩
  walk_at"g"
  by_cases k1:k=1
  .refine Dg (by rw[NV k1]) ?_
   walk_at"g";exact az.mk (fin _ [.non] (.inr ⟨_,_,l7,rfl⟩) (cf W S7) ae (by rw[NV k1]))
  .refine bN (fun z=>by rw[fI k1] at z;have:=V.int.inj z;lia) ?_
   exact az.mk (fin H7 [] (.inl (aA.refl _)) S7 (by rw[Oz];exact l7) (by rw[fI k1]))
 .have hr':r=[]:=Classical.not_not.mp (fun z=>c (bp.mpr z))
  subst hr';rw[Oz] at N;subst N;refine br fun G_ g=> ?_
  obtain⟨cS,p,e1,e2⟩:=co.last;refine g ?_
  have es:J=aN p.1:=bM p (by rw[e1];simp)
  have hk:p.1<19:=by lia
  have bh:I=bB x 0 w8 l:=by
   rw[<- a7];exact(Oz I).symm
  rw[bh] at y;subst es;have ct:=Ke p.1 hk;walk_at"g";rw[NV rfl,ct,NY e2];walk_at"g";exact q d a H3 S3 W aY y
def JI(K:Frag):Sp:=fun J H Q _=>∃(I cd:Addr) (C:List (Nat × List Int)) (x:Pn),J=[.ref I,.ref cd]/\Pl H I x.pk x.pb x.pm x.ps x.pg/\SqL K H cd ((ao C).map V.int)/\eZ x C/\∀o,aA H o->Q .non o
theorem Dd(B:Bi mg)(D:Fs K mg)(e:Has P w K mg base 9 "spans_ahead" sN (Mn K)):Has P w K mg base 10 "check" sN (JI K):=by
 refine D.has HS (fun J H Q E h=> ?_) (fun f c A I s H J Q E g h=> ?_)
 .obtain⟨U,cd,a,x,rfl,_⟩:=h
  rfl
 obtain⟨U,cd,a,x,rfl,C,o,i,q⟩:=h;refine⟨_,(af (bP (pcH e g (pa2 (pv 0) (pv 1))))),?_⟩
 try dsimp only[aT]
 refine⟨_,rfl,_,rfl,U,cd,a,x,rfl,C,o,i,fun p J b d _ _ _=> ?_⟩
 walk_at"g";exact q b d
abbrev Ins:=Nat × List Int
noncomputable def lnW(is:List Ins):Nat:=(is.map fun o=>a8 o.1).sum
theorem dg(a b:List Ins):lnW (a++b)=lnW a+lnW b:=by unfold lnW;rw[NZ,List.sum_append]
theorem bg(a:Ins)(b:List Ins):lnW (a::b)=a8 a.1+lnW b:=by unfold lnW;rw[OD,List.sum_cons]
theorem iQ(a:Ins):lnW [a]=a8 a.1:=by rw[bg];rfl
theorem bq:∀is:List Ins,(ao is).length=lnW is
 | []=>rfl
 | kn::r=>by
  rw[bg, <-bq r, <-gp kn.1 kn.2, <-NT]
  rfl
theorem j_(a b:List Ins):ao (a++b)=ao a++ao b:=by unfold ao;rw[OW]
theorem vc(a:Ins)(b:List Ins):ao (a::b)=c_ a.1 a.2++ao b:=rfl
theorem iK(k:Nat):1<=a8 k/\a8 k<=2:=by unfold a8;split <;> lia
theorem EX:∀is:List Ins,is.length<=lnW is
 | []=>NW _
 | kn::r=>by rw[bg,N6];have:=EX r;have:=iK kn.1;lia
theorem Hf:∀is:List Ins,lnW is<=2*is.length
 | []=>NW _
 | kn::r=>by rw[bg,N6];have:=Hf r;have:=iK kn.1;lia
theorem xL{is:List Ins}(h:∀kn∈is,kn.1≠1):lnW is=is.length:=by
 induction is with
 | nil=>rfl
 | cons kn r ih=>
  rw[bg,N6,ih (fun x o=>h x (N2 _ o))]
  have:a8 kn.1=1:=by unfold a8;rw[fI (h kn N3)]
  lia
noncomputable def grp(kn:Ins):List Ins:=
 if kn.1=15 then[(17,[6,kn.2.getD 0 0]),(15,[6])]
 else if kn.1=11\/kn.1=12 then
  if kn.2.getD 2 0=0 then[(16,[6,kn.2.getD 1 0]),(kn.1,[kn.2.getD 0 0,6,0])]
  else[(10,[6,kn.2.getD 1 0,kn.2.getD 2 0]),(16,[6,6]),(kn.1,[kn.2.getD 0 0,6,0])]
 else[kn]
noncomputable def nop:Ins:=(10,[0,0,0])
noncomputable def ug(n:Nat):List Ins:=List.replicate ((8 - n %8) %8) nop
noncomputable def cP(is g:List Ins):List Ins:=if lnW is %8+lnW g<=8 then is else is++ug (lnW is)
abbrev Bk:=List Ins × List Nat
noncomputable def LA(st:Bk)(g:List Ins):Bk:=(cP st.1 g++g,st.2++[lnW (cP st.1 g)])
noncomputable def dj(b:List Ins):Bk:=b.foldl (fun st o=>LA st (grp o)) ([],[])
theorem wP(n:Nat):lnW (ug n)=(8 - n %8) %8:=by
 unfold ug;rw[xL (fun C o=>by rw[(QE.mp o).2];decide),OA]
theorem Dj(m:Nat):lnW (List.replicate m nop)=m:=by
 rw[xL (is:=List.replicate m nop) (fun C o=>by rw[(QE.mp o).2];decide),OA]
theorem qb{b:List Ins}{j:Nat}{kn:Ins}(h:b[j]? =some kn):dj (b.take (j+1))=LA (dj (b.take j)) (grp kn):=by
 unfold dj;rw[PN,h,O4]
 rfl
noncomputable def plc(n:Nat)(kn:Ins):Ins:=if kn.1=13 then(13,[kn.2.getD 0 0*n]) else if kn.1=14 then(14,[kn.2.getD 0 0,kn.2.getD 1 0*n]) else kn
theorem Du(n:Nat)(kn:Ins):(plc n kn).1=kn.1:=by
 unfold plc
 split
 .rename_i h;exact h.symm
 .split
  .rename_i h;exact h.symm
  .rfl
noncomputable def f9(n:Nat)(is:List Ins):List Ins:=is.map (plc n)++List.replicate (n - lnW is) (0,[])
noncomputable def iW(n o:Nat)(bs:List Bk):List Ins:=bs.flatMap (fun b=>f9 n b.1)++List.replicate (o - bs.length*n) (0,[])
theorem qc(n:Nat):∀is:List Ins,lnW (is.map (plc n))=lnW is
 | []=>rfl
 | kn::r=>by rw[OD,bg,bg,qc n r,Du]
theorem qe(n:Nat):lnW (List.replicate n ((0,[]):Ins))=n:=by
 rw[xL (fun C o=>by rw[(QE.mp o).2];decide),OA]
theorem um{n:Nat}{is:List Ins}(h:lnW is<=n):lnW (f9 n is)=n:=by
 unfold f9;rw[dg,qc,qe]
 lia
theorem sB{n:Nat}:∀{bs:List Bk},(∀b∈bs,lnW b.1<=n)->lnW (bs.flatMap fun b=>f9 n b.1)=bs.length*n
 | [],_=>by simp [lnW]
 | b::r,h=>by
  rw[Qb,dg,um (h b N3),sB (fun x o=>h x (N2 _ o)),N6,Nat.succ_mul]
  lia
theorem zH{n o:Nat}{bs:List Bk}(h:∀b∈bs,lnW b.1<=n)(C:bs.length*n<=o):lnW (iW n o bs)=o:=by
 unfold iW;rw[dg,sB h,qe]
 lia
theorem uQ{kn:Ins}(h:aC 8 262144 kn.1 kn.2):∀g∈grp kn,aC 8 262144 g.1 g.2:=by
 obtain⟨k,J⟩:=kn;dsimp only at h;intro g o;unfold grp at o;dsimp only at o
 split at o
 .rename_i k15
  subst k15;obtain⟨b,rfl,C,I⟩:∃b,J=[b]/\0<=b/\b<8:=aC.thr h (by first | rfl | assumption)
  simp only[Od,Oy,O7] at o
  rcases o with rfl | rfl
  .exact .inr (.inr (.inr (.inr (.inr (.inr (.inr ⟨.inr rfl,6,b,rfl,by decide,by decide,C,I⟩))))))
  .exact .inr (.inr (.inr (.inr (.inr (.inr (.inl ⟨rfl,6,rfl,by decide,by decide⟩))))))
 .split at o
  .rename_i hk
   obtain⟨a,b,n,rfl,a0,a1,C,I,n0,n1⟩:∃a b n,J=[a,b,n]/\0<=a/\a<8/\0<=b/\b<8/\ -131072<=n/\n<131072:=aC.acc h (by first | assumption | lia)
   split at o
   .simp only[Od,Oy,O7] at o
    rcases o with rfl | rfl
    .exact .inr (.inr (.inr (.inr (.inr (.inr (.inr ⟨.inl rfl,6,b,rfl,by decide,by decide,C,I⟩))))))
    .exact .inr (.inr (.inr (.inl ⟨by show 10<=k;lia,by show k<=12;lia,a,6,0,rfl,a0,a1,by decide,by decide,by decide,by decide⟩)))
   .simp only[Od,Oy,O7] at o
    rcases o with rfl | rfl | rfl
    .exact .inr (.inr (.inr (.inl ⟨by show 10<=10;decide,by show 10<=12;decide,6,b,n,rfl,by decide,by decide,C,I,n0,n1⟩)))
    .exact .inr (.inr (.inr (.inr (.inr (.inr (.inr ⟨.inl rfl,6,6,rfl,by decide,by decide,by decide,by decide⟩))))))
    .exact .inr (.inr (.inr (.inl ⟨by show 10<=k;lia,by show k<=12;lia,a,6,0,rfl,a0,a1,by decide,by decide,by decide,by decide⟩)))
  .rw[Og.mp o];exact h
theorem wf(kn:Ins):1<=lnW (grp kn)/\lnW (grp kn)<=3:=by
 unfold grp
 split
 .simp only[bg]
  exact⟨by show 1<=1+(1+0);decide,by show 1+(1+0)<=3;decide⟩
 .split
  .rename_i h
   have e:a8 kn.1=1:=by unfold a8;rw[fI (by lia)]
   split
   .simp only[bg,e];exact⟨by show 1<=1+(1+0);decide,by show 1+(1+0)<=3;decide⟩
   .simp only[bg,e];exact⟨by show 1<=1+(1+(1+0));decide,by show 1+(1+(1+0))<=3;decide⟩
  .rw[iQ];have:=iK kn.1
   lia
theorem Fz(kn:Ins):(grp kn).length<=3:=by
 unfold grp
 split
 .simp
 .split
  .split <;> simp
  .simp
theorem zy:aC 8 262144 nop.1 nop.2:= .inr (.inr (.inr (.inl ⟨by decide,by decide,0,0,0,rfl,by decide,by decide,by decide,by decide,by decide,by decide⟩)))
theorem CD(is g:List Ins):lnW is<=lnW (cP is g)/\(lnW (cP is g)=lnW is\/(8<lnW is %8+lnW g/\lnW (cP is g)=lnW is+(8 - lnW is %8) %8)):=by
 unfold cP
 split
 .exact⟨NW _,.inl rfl⟩
 .rw[dg,wP];exact⟨by lia,.inr ⟨by lia,rfl⟩⟩
theorem qh(b:List Ins):∀j,j<=b.length->lnW (dj (b.take j)).1<=if j %2=0 then 4*j else 4*(j - 1)+3
 | 0,_=>by simp [dj,lnW]
 | j+1,h=>by
  have ih:=qh b j (by lia)
  have e:b[j]? =some b[j]:=mC (by lia)
  rw[qb e];show lnW (cP _ _++grp b[j])<=_
  rw[dg];have o:=(CD (dj (b.take j)).1 (grp b[j])).2;have C:=wf b[j];generalize lnW (cP (dj (b.take j)).1 (grp b[j]))=x at*;generalize lnW (dj (b.take j)).1=y at*
  by_cases c:j %2=0
  .rw[NV c] at ih;rw[fI (by lia)]
   lia
  .rw[fI c] at ih;rw[NV (by lia)]
   lia
theorem J9(b:List Ins):lnW (dj b).1<=4*b.length+3:=by
 have:=qh b b.length (NW _);rw[Oi] at this
 split at this <;> lia
theorem Bv(b:List Ins):∀j,j<=b.length->(dj (b.take j)).2.length=j
 | 0,_=>by simp [dj]
 | j+1,h=>by
  have e:b[j]? =some b[j]:=mC (by lia)
  rw[qb e];show((dj (b.take j)).2++[_]).length=_
  rw[NT,Bv b j (by lia)]
  rfl
def eE(K:Frag)(H:Hp):List Addr->List Ins->Prop
 | [],[]=>True
 | t::ts,kn::is=>SqT K H t (aD kn.1 kn.2)/\eE K H ts is
 | _,_=>False
theorem eE.mono{K:Frag}{H o:Hp}(f:∀t xs,SqT K H t xs->SqT K o t xs):∀{C:List Addr}{is:List Ins},eE K H C is->eE K o C is
 | [],[],_=>True.intro
 | _::_,_::_,h=>⟨f _ _ h.1,eE.mono f h.2⟩
 | [],_::_,h=>h.elim
 | _::_,[],h=>h.elim
theorem eE.same{K:Frag}{H o:Hp}(s:aA H o){C:List Addr}{is:List Ins}(h:eE K H C is):eE K o C is:=h.mono fun _ _ z=>s.tup z
theorem eE.len{K:Frag}{H:Hp}:∀{o:List Addr}{is:List Ins},eE K H o is->o.length=is.length
 | [],[],_=>rfl
 | _::_,_::_,h=>congrArg (· +1) (eE.len h.2)
 | [],_::_,h=>h.elim
 | _::_,[],h=>h.elim
theorem eE.app{K:Frag}{H:Hp}{us:List Addr}{I:List Ins}(C:eE K H us I):∀{o:List Addr}{is:List Ins},eE K H o is->eE K H (o++us) (is++I)
 | [],[],_=>C
 | _::_,_::_,h=>⟨h.1,eE.app C h.2⟩
 | [],_::_,h=>h.elim
 | _::_,[],h=>h.elim
theorem eE.get{K:Frag}{H:Hp}:∀{o:List Addr}{is:List Ins}{j:Nat}{t:Addr},eE K H o is->o[j]? =some t->∃kn,is[j]? =some kn/\SqT K H t (aD kn.1 kn.2)
 | _::_,kn::_,0,_,h,e=>by cases e;exact⟨kn,rfl,h.1⟩
 | _::_,_::_,j+1,_,h,e=>eE.get (j:=j) h.2 e
 | [],[],_,_,_,e=>by simp at e
 | [],_::_,_,_,h,_=>h.elim
 | _::_,[],_,_,h,_=>h.elim
theorem aC.lt19{bx o:Int}{k:Nat}{ns:List Int}(h:aC bx o k ns):k<19:=h.lt
theorem aC.put2{bx o:Int}{k:Nat}{ns:List Int}(h:aC bx o k ns)(k1:k=1):2<=ns.length:=by
 obtain⟨a,v,rfl,_⟩:=h.put k1;exact NW _
abbrev VI(kn:Ins):Prop:=aC 8 262144 kn.1 kn.2
noncomputable abbrev lfs(i b:Addr)(n:Int):List (Str × V):=[("instructions",.ref i),("begins",.ref b),("length",.int n)]
noncomputable abbrev vn(n:Nat):V:= .int (n:Int)
def B3(x i b:Addr)(H C:Hp):Prop:=∀a o,a≠x->a≠i->a≠b->H a=some o->C a=some o
theorem B3.refl{x i b:Addr}(H:Hp):B3 x i b H H:=fun _ _ _ _ _ h=>h
theorem B3.trans{x i b:Addr}{H C I:Hp}(p:B3 x i b H C)(q:B3 x i b C I):B3 x i b H I:=fun a o U c J h=>q a o U c J (p a o U c J h)
theorem B3.of{x i b:Addr}{H C:Hp}(s:aA H C):B3 x i b H C:=fun a o _ _ _ h=>s a o h
theorem B3.ux{x i b:Addr}{H C:Hp}{o:HO}(p:B3 x i b H C):B3 x i b H (upd C x o):=fun a u I U J h=>by rw[aq I];exact p a u I U J h
theorem B3.ui{x i b:Addr}{H C:Hp}{o:HO}(p:B3 x i b H C):B3 x i b H (upd C i o):=fun a u U I J h=>by rw[aq I];exact p a u U I J h
theorem B3.ub{x i b:Addr}{H C:Hp}{o:HO}(p:B3 x i b H C):B3 x i b H (upd C b o):=fun a u J U I h=>by rw[aq I];exact p a u J U I h
theorem B3.same{x i b:Addr}{H C I:Hp}(s:aA H C)(U:H x=none)(c:H i=none)(J:H b=none)(p:B3 x i b C I):aA H I:=fun a o h=>
 p a o (ak h U) (ak h c) (ak h J) (s a o h)
structure bf (K:Frag) (C:Addr) (H:Hp) (x dx i b:Addr) (js:List Addr) (is:List Ins) (bs:List Nat):Prop where
 at_:H x=some (.ins C dx (lfs i b (lnW is:Nat)))
 li:H i=some (.lst (js.map V.ref))
 lb:H b=some (.lst (bs.map vn))
 ib:i≠b
 ow:eE K H js is
 va:∀kn∈is,VI kn
theorem bf.xi{K:Frag}{C:Addr}{H:Hp}{x o i b:Addr}{I:List Addr}{is:List Ins}{bs:List Nat}(l:bf K C H x o i b I is bs):x≠i:=eD l.at_ l.li (by intro z;cases z)
theorem bf.xb{K:Frag}{C:Addr}{H:Hp}{x o i b:Addr}{I:List Addr}{is:List Ins}{bs:List Nat}(l:bf K C H x o i b I is bs):x≠b:=eD l.at_ l.lb (by intro z;cases z)
theorem bf.same{K:Frag}{C:Addr}{H o:Hp}{x I i b:Addr}{J:List Addr}{is:List Ins}{bs:List Nat}(s:aA H o)(l:bf K C H x I i b J is bs):bf K C o x I i b J is bs:=
 ⟨s _ _ l.at_,s _ _ l.li,s _ _ l.lb,l.ib,l.ow.same s,l.va⟩
theorem B3.tup{K:Frag}{C:Addr}{H I:Hp}{x J i b t:Addr}{U:List Addr}{is:List Ins}{bs:List Nat}{xs:List V}(l:bf K C H x J i b U is bs)(p:B3 x i b H I)(h:SqT K H t xs):SqT K I t xs:=by
 rcases h with(h | ⟨o,h⟩) | h
 .exact .inl (.inl (p _ _ (eD h l.at_ (by intro z;cases z)) (eD h l.li (by intro z;cases z)) (eD h l.lb (by intro z;cases z)) h))
 .exact .inl (.inr ⟨o,p _ _ (eD h l.at_ (by intro z;cases z)) (eD h l.li (by intro z;cases z)) (eD h l.lb (by intro z;cases z)) h⟩)
 .exact .inr h
theorem eE.b3{K:Frag}{C:Addr}{H o:Hp}{x U i b:Addr}{a I:List Addr}{is J:List Ins}{bs:List Nat}(l:bf K C H x U i b a is bs)(p:B3 x i b H o)(h:eE K H I J):eE K o I J:=h.mono fun _ _ z=>p.tup l z
def AT(K:Frag)(C:Addr):Sp:=fun U H Q _=>∃(o:Hp) (x J:Addr),U=[.ref x]/\H x=some (.ins C J [])/\o x=none/\aA o H/\
 ∀I i b,o i=none->o b=none->aA o I->bf K C I x J i b [] [] []->Q .non I
def I_(K:Frag)(C:Addr):Sp:=fun I H Q _=>∃(x J i b:Addr) (U:List Addr) (o:List Ins) (bs:List Nat),I=[.ref x]/\bf K C H x J i b U o bs/\Q (.bl (decide (lnW o %8=0))) H
def A_(K:Frag)(C:Addr):Sp:=fun a H Q _=>∃(x c i b g:Addr) (d U:List Addr) (J o:List Ins) (bs:List Nat),a=[.ref x,.ref g]/\bf K C H x c i b d J bs/\SqT K H g (U.map V.ref)/\eE K H U o/\(∀e∈o,VI e)/\o.length<=100/\
 ∀I,aA H I->Q (.bl (decide (lnW J %8+lnW o<=8))) I
def EY(K:Frag)(C:Addr):Sp:=fun c H Q _=>∃(x U i b t:Addr) (a:List Addr) (J:List Ins) (o:Ins) (bs:List Nat),c=[.ref x,.ref t]/\bf K C H x U i b a J bs/\SqT K H t (aD o.1 o.2)/\VI o/\J.length<1000/\
 ∀I,B3 x i b H I->bf K C I x U i b (a++[t]) (J++[o]) bs->Q .non I
def AD(K:Frag)(C:Addr):Sp:=fun d H Q _=>∃(x a i b g:Addr) (c U:List Addr) (o I:List Ins) (bs:List Nat),d=[.ref x,.ref g]/\bf K C H x a i b c o bs/\SqT K H g (U.map V.ref)/\eE K H U I/\(∀e∈I,VI e)/\o.length+I.length<=1000/\bs.length<1000/\
 ∀J,B3 x i b H J->bf K C J x a i b (c++U) (o++I) (bs++[lnW o])->Q .non J
def D9(K:Frag)(C:Addr):Sp:=fun a H Q _=>∃(x U i b:Addr) (c:List Addr) (o:List Ins) (bs:List Nat),a=[.ref x]/\bf K C H x U i b c o bs/\o.length<=900/\
 ∀(I:Hp) (J:List Addr),B3 x i b H I->bf K C I x U i b J (o++ug (lnW o)) bs->Q .non I
theorem ko{C:Addr}(B:Bi mg)(c:dW K mg "LaidBlock" C)(n:cr K C)(D:dD K C):cx P w K mg base 1 C "is_at_bundle" fA (I_ K C):=by
 refine D.has c.cl kx (fun J H Q E h=> ?_) (fun f U A I s H J Q E j h=> ?_)
 .obtain⟨x,g,i,b,d,o,bs,rfl,_⟩:=h
  rfl
 obtain⟨x,g,i,b,d,o,bs,rfl,l,q⟩:=h;have m:=c.cl;have n3:=n.length;have a:=l.at_;refine⟨_,(af (ai (pcE aE (aw cW (aV (pv 0) (by rfl)) ad) ad))),?_⟩
 try dsimp only[aT]
 walk_at"g";have e:decide (V.int ((lnW o:Int) %8)=V.int 0)=decide (lnW o %8=0):=O1.mpr ⟨fun h=>by injection h with h;lia,fun h=>by rw[show(lnW o:Int) %8=0 by lia]⟩
 rw[e];exact q
theorem tT{C:Addr}(B:Bi mg)(c:dW K mg "LaidBlock" C)(n:cr K C)(D:il K C)(F:Has P w K mg base 1 "length_of" cV (Ga K)):cx P w K mg base 2 C "take" cY (EY K C):=by
 refine D.has c.cl tQ (fun y H Q E h=> ?_) (fun f z A j s H y Q E M h=> ?_)
 .obtain⟨x,g,i,b,t,U,I,kn,bs,rfl,_⟩:=h
  rfl
 obtain⟨x,g,i,b,t,U,I,⟨k,m⟩,bs,rfl,l,v,p,L,q⟩:=h;have O:k<19:=p.lt19;have S:=c.cl;have n1:=n.instructions;have n3:=n.length;have a:=l.at_;have d:=l.li;have R:(U.map V.ref).length<sizeLine:=by rw[be,l.ow.len];exact N8 L (by decide)
 have G:tyV K "list" (.ref i) H:= .inl ⟨rfl,_,SqL.of d⟩;have J:B3 x i b H (upd H i (.lst (U.map V.ref++[V.ref t]))):=(B3.refl H).ui;have N:=J.tup l v;have r:upd H i (.lst (U.map V.ref++[V.ref t])) x=some (.ins C g (lfs i b (lnW I:Nat))):=by rw[aq l.xi];exact a
 refine⟨_,(aa (bP (jk Oq Ov Ow du (aV (pv 0) (by rfl)) (pa1 (pv 1))))
   (af (cu (pv 0) (aw aS (aV (pv 0) (by rfl)) (pcH F M (pa1 (pv 1)))) (by rfl)))),?_⟩
 try dsimp only[aT]
 walk_at"g";have e:((lnW I:Int)+(if k=1 then 2 else 1))=(lnW (I++[(k,m)]):Nat):=by rw[dg,iQ];unfold a8;split <;> lia
 refine q _ J.ux ⟨?_,?_,?_,l.ib,?_,fun u o=> ?_⟩
 .rw[ae];show some (HO.ins C g (lfs i b ((lnW I:Int)+(if k=1 then 2 else 1))))=_
  rw[e]
 .rw[aq (Ox l.xi),ae,NZ]
  rfl
 .rw[aq (Ox l.xb),aq (Ox l.ib)];exact l.lb
 .exact(show eE K _ [t] [(k,m)] from⟨J.ux.tup l v,True.intro⟩).app (l.ow.b3 l J.ux)
 .rcases Ot.mp o with o | o
  .exact l.va u o
  .rw[Og.mp o];exact p
theorem fh{H C:Hp}{p:Addr}{o:HO}(I:H p=none)(s:aA H C):aA H (upd C p o):=fun a u h=>by rw[aq (ak h I)];exact s a u h
theorem ga{o:Type}{l:List o}{j:Nat}{t:o}(h:l[j]? =some t):l.take (j+1)=l.take j++[t]:=by rw[PN,h];rfl
theorem n_{C:Addr}(B:Bi mg)(c:dW K mg "LaidBlock" C)(n:cr K C)(D:fz K C):cx P w K mg base 1 C "__init__" fA (AT K C):=by
 refine D.has c.cl nW (fun l H Q E h=> ?_) (fun f m A g s H l Q E F h=> ?_)
 .obtain⟨v,x,U,rfl,_⟩:=h
  rfl
 obtain⟨v,x,U,rfl,j,u,sm,q⟩:=h;have G:=c.cl;have n1:=n.instructions;have n2:=n.begins;have n3:=n.length
 refine⟨_,(aa (cu (pv 0) (bo dN) (by rfl))
   (aa (cu (pv 0) (bo dN) (by rfl))
   (af (cu (pv 0) ad (by rfl))))),?_⟩
 try dsimp only[aT]
 walk_at"g";intro i e;have xi:x≠i:=ak j e;have r:upd H i (.lst []) x=some (.ins C U []):=by rw[aq xi];exact j
 walk_at"g";intro b I;have J:b≠x:=fun z=>by rw[z,ae] at I;cases I
 rw[aq J] at I;have d:b≠i:=fun z=>by rw[z,ae] at I;cases I
 rw[aq d] at I;have p:upd (upd (upd H i (.lst [])) x (.ins C U (bR "instructions" (.ref i) []))) b (.lst []) x=some (.ins C U [("instructions",.ref i)]):=by
  rw[aq (Ox J),ae]
  rfl
 walk_at"g";refine q _ i b (sm.free e) (sm.free I) (fun a o h=> ?_) ⟨?_,?_,?_,Ox d,True.intro,fun t y=>by cases y⟩
 .have h1:=sm a o h;have a1:=ak h u;rw[aq a1,aq a1,aq (ak h1 I),aq a1,aq (ak h1 e)];exact h1
 .rw[ae]
  rfl
 .rw[aq (Ox xi),aq (Ox xi),aq (Ox d),aq (Ox xi),ae]
  rfl
 .rw[aq J,aq J,ae]
  rfl
theorem lM{C:Addr}(B:Bi mg)(c:dW K mg "LaidBlock" C)(n:cr K C)(D:eo K C)(X:cx P w K mg base 2 C "take" cY (EY K C)):
  cx P w K mg base 3 C "take_group" nK (AD K C):=by
 refine D.has c.cl gI (fun T H Q E h=> ?_) (fun f W A M s H T Q E hr h=> ?_)
 .obtain⟨x,L,i,b,g,F,e,o,U,bs,rfl,_⟩:=h
  rfl
 obtain⟨x,L,i,b,g,F,e,o,U,bs,rfl,l,hg,J,v,hl,d,q⟩:=h;have hc:=c.cl;have n2:=n.begins;have n3:=n.length;have Y:=l.at_;have z:=l.lb;have hz:(bs.map vn).length<sizeLine:=by rw[be];exact N8 d (by decide)
 have ab:tyV K "list" (.ref b) H:= .inl ⟨rfl,_,SqL.of z⟩;have a:B3 x i b H (upd H b (.lst (bs.map vn++[V.int (lnW o:Nat)]))):=(B3.refl H).ub;have l1:bf K C (upd H b (.lst (bs.map vn++[V.int (lnW o:Nat)]))) x L i b F o (bs++[lnW o]):=by
  refine⟨?_,?_,?_,l.ib,l.ow.b3 l a,l.va⟩
  .rw[aq l.xb];exact l.at_
  .rw[aq l.ib];exact l.li
  .rw[ae,NZ];rfl
 have m:=a.tup l hg;have G:=J.b3 l a
 refine⟨_,(aa (bP (jk Oq Ov Ow du (aV (pv 0) (by rfl)) (pa1 (aV (pv 0) (by rfl)))))
   (af (eQ Oj (by rfl) (dG (o7 (pv 1))) (aR (i:=2) gI.nd (by rfl) (by left;rfl)) (af (bP (cD (X.mono (by omega)) hr (pv 0) (pa1 (pv 2)))))))),?_⟩
 try dsimp only[aT]
 walk_at"g";generalize upd H b (.lst (bs.map vn++[V.int (lnW o:Nat)]))=S at*;refine⟨wu (xs:=e.map V.ref) (fun j Z I=>∃y,Z=[some (.ref x),some (.ref g),y]/\az (B3 x i b S I)/\bf K C I x L i b (F++e.take j) (o++U.take j) (bs++[lnW o])) ⟨_,rfl,⟨B3.refl _⟩,by simpa using l1⟩ ?_ ?_ ?_⟩
 .rintro j Z I _ ⟨y,rfl,⟨p⟩,_⟩
  exact p.tup l1 m
 .rintro j u Z I hj ⟨y,rfl,⟨p⟩,l2⟩
  obtain⟨t,N,rfl⟩:=dw hj;obtain⟨kn,r,ht⟩:=G.get N;have au:=p.tup l1 ht;have aH:=v kn (N4 r);have ar:j<U.length:=(mF.mp r).1;have O:(o++U.take j).length<1000:=by rw[NT,Oh];lia
  have R:=l2.at_;walk_at"g";intro H3 p3 l3;refine⟨_,rfl,⟨p.trans p3⟩,?_⟩
  rw[On,On, <-ga N, <-ga r] at l3;exact l3
 .rintro Z I ⟨y,rfl,⟨p⟩,l2⟩
  rw[be,Oi,J.len,Oi] at l2;exact q _ (a.trans p) l2
theorem GF{is:List Ins}{m:Nat}(h:lnW (is++List.replicate m nop) %8≠0)(hm:m<=(8 - lnW is %8) %8):m+1<=(8 - lnW is %8) %8:=by
 rw[dg,Dj] at h
 lia
theorem Ht{is:List Ins}{m:Nat}(h:lnW (is++List.replicate m nop) %8=0)(hm:m<=(8 - lnW is %8) %8):m=(8 - lnW is %8) %8:=by
 rw[dg,Dj] at h
 lia
theorem lx{C:Addr}(B:Bi mg)(c:dW K mg "LaidBlock" C)(n:cr K C)(D:dO K C)(N:cx P w K mg base 2 C "take" cY (EY K C))
  (M:cx P w K mg base 1 C "is_at_bundle" fA (I_ K C)):cx P w K mg base 3 C "fill_bundle" fA (D9 K C):=by
 refine D.has c.cl kK (fun G H Q E h=> ?_) (fun f L A d s H G Q E g h=> ?_)
 .obtain⟨x,r,i,b,j,I,bs,rfl,_⟩:=h
  rfl
 obtain⟨x,r,i,b,j,I,bs,rfl,l,W,q⟩:=h;refine⟨_,(af (aL (kc Oj (gA (cJ (lK (M.mono (by omega)) g (pv 0)))) (af (bP (cD (N.mono (by omega)) g (pv 0) (pa1 (aB (bD (by rfl)))))))))),?_⟩
 try dsimp only[aT]
 refine⟨?_⟩
 refine⟨fun m Z J=>Z=[some (.ref x)]/\az (B3 x i b H J)/\∃(o:List Addr) (e:Nat),e<=(8 - lnW I %8) %8/\bf K C J x r i b o (I++List.replicate e nop) bs/\m=(8 - lnW I %8) %8 - e,⟨_,rfl,⟨B3.refl _⟩,j,0,Ou _,by simpa using l,rfl⟩,?_⟩
 rintro m Z J ⟨rfl,⟨p⟩,o,e,u,U,rfl⟩
 have O:=U.at_;walk_at"g"
 by_cases c0:lnW (I++List.replicate e nop) %8=0
 .refine FI c0 ?_
  have a:=Ht c0 u;rw[a] at U;exact q _ o p U
 .rw[NX c0];have a:=GF c0 u;refine BI ⟨_,fun _ _ z=>z,?_⟩
  walk_at"g";intro t v;have T:SqT K (upd J t (.tup [.str "more",.int 0,.int 0,.int 0])) t (aD nop.1 nop.2):=SqT.of ae;have l2:=U.same (ag v (.tup [.str "more",.int 0,.int 0,.int 0]));have F:=l2.at_;have X:=zy;have y:(I++List.replicate e nop).length<1000:=by rw[NT,OA];lia
  walk_at"g";intro S R l3;rw[On, <-PP] at l3;exact⟨_,by lia,rfl,⟨(p.trans (B3.of (ag v _))).trans R⟩,o++[t],e+1,a,l3,rfl⟩
theorem Cr(o:List Ins):(o.map fun kn=>((a8 kn.1:Nat):Int)).sum=(lnW o:Nat):=by
 induction o with
 | nil=>rfl
 | cons kn r ih=>rw[OD,List.sum_cons,ih,bg];lia
theorem nj{C:Addr}(B:Bi mg)(c:dW K mg "LaidBlock" C)(n:cr K C)(D:eO K C)(N:Has P w K mg base 1 "length_of" cV (Ga K)):
  cx P w K mg base 2 C "has_space" nK (A_ K C):=by
 refine D.has c.cl nF (fun L H Q E h=> ?_) (fun f M A y s H L Q E W h=> ?_)
 .obtain⟨x,dx,i,b,g,X,z,m,o,bs,rfl,_⟩:=h
  rfl
 obtain⟨x,dx,i,b,g,X,z,m,o,bs,rfl,l,Z,a,v,hl,q⟩:=h;have hc:=c.cl;have n3:=n.length;have O:=l.at_;refine⟨_,(af (ai (pcE Ft (aw aS (aw cW (aV (pv 0) (by rfl)) ad) (aM (IC (by rfl)) (by rfl) B.sum K4 (pa1 (mY (by rfl) (by rfl) (by rfl) (bk (sc0:=ah df) (N0:=["self","group"]) ["instruction"] 1 []) (o7 (pv 1)) (fun _ _ _ _=>(aR (i:=0) (show List.Nodup (["instruction"]:List Str) by decide) (by rfl) (by left;rfl))) (fun _ _ _ _=>(pcH N W (pa1 (pv 0)))))))) ad))),?_⟩
 try dsimp only[aT]
 walk_at"g";intro p G;refine sM (xs:=z.map V.ref) (fun j U I=>az (aA H I)/\I p=some (.lst U)/\U=((o.take j).map fun J=>((a8 J.1:Nat):Int)).map V.int) ⟨⟨ag G _⟩,ae,rfl⟩ ?_ ?_ ?_
 .rintro j U I ⟨⟨s1⟩,_⟩
  exact s1.tup Z
 .rintro j u U I F hF d ⟨⟨s1⟩,hp1,rfl⟩
  obtain⟨t,Y,rfl⟩:=dw d;obtain⟨⟨k,ns⟩,r,ht⟩:=a.get Y;have ab:=s1.tup ht;have ar:k<19:=(v _ (N4 r)).lt19;have S:=(mF.mp r).1;have hz:(((o.take j).map fun J=>((a8 J.1:Nat):Int)).map V.int).length<sizeLine:=by
   rw[be,be,Oh];exact N8 (show min j o.length<100 by lia) (by decide)
  walk_at"g";refine hF _ _ ⟨⟨fh G s1⟩,ae,?_⟩
  rw[ga r,NZ,NZ];show _++[V.int (if k=1 then 2 else 1)]=_++[V.int ((a8 k:Nat):Int)]
  unfold a8
  split <;> rfl
 .rintro U I ⟨⟨s1⟩,hp1,rfl⟩
  rw[be,a.len,Oi] at hp1;have hq:SqL K I p ((o.map fun J=>((a8 J.1:Nat):Int)).map V.int):=SqL.of hp1
  refine⟨p,_,rfl,hq,fun j d=> ?_,?_⟩
  .rw[be] at d;rw[<- QR,Cr];have R:(o.map fun J=>((a8 J.1:Nat):Int)).getD j 0=((a8 o[j].1:Nat):Int):=by
    rw[N9,OB,mC d]
    rfl
   rw[R];have h2:=iK o[j].1;have T:=Hf (o.take (j+1));rw[Oh] at T;unfold InLong
   lia
  rw[Cr];walk_at"g";have e:decide ((lnW m:Int) %8+(lnW o:Nat)<=8)=decide (lnW m %8+lnW o<=8):=O1.mpr (by lia)
  show Q (V.bl (decide ((lnW m:Int) %8+(lnW o:Nat)<=8))) I
  rw[e];exact q _ s1
theorem zP:∀k,k<19->(V.str (aN k)=V.str "load"↔k=11):=by decide +kernel
theorem xu:∀k,k<19->(V.str (aN k)=V.str "store"↔k=12):=by decide +kernel
theorem Au:∀k,k<19->(V.str (aN k)=V.str "through"↔k=15):=by decide +kernel
theorem Gx:∀k,k<19->(V.str (aN k)=V.str "jump"↔k=13):=by decide +kernel
theorem BR:∀k,k<19->(V.str (aN k)=V.str "jumpif"↔k=14):=by decide +kernel
def Ic(K:Frag):Sp:=fun C H Q _=>∃(t:Addr) (k:Nat) (o:List Int),C=[.ref t]/\k<19/\SqT K H t (aD k o)/\Q (.bl (decide (k=11\/k=12))) H
def Ia(K:Frag):Sp:=fun C H Q _=>∃(t:Addr) (k:Nat) (a:Int) (o:List Int),C=[.ref t]/\SqT K H t (aD k (a::o))/\∀p,H p=none->Q (.ref p) (upd H p (.tup (aD k [a,6,0])))
def Lb(K:Frag):Sp:=fun J H Q _=>∃(t:Addr) (C:Ins),J=[.ref t]/\SqT K H t (aD C.1 C.2)/\VI C/\
 ∀(g:Addr) (I:List Addr) (o:Hp),aA H o->SqT K o g (I.map V.ref)->eE K o I (grp C)->Q (.ref g) o
theorem BD(B:Bi mg)(D:ve K mg):Has P w K mg base 1 "is_access" cV (Ic K):=by
 refine D.has AV (fun U H Q E h=> ?_) (fun f I A o s H U Q E b h=> ?_)
 .obtain⟨t,k,J,rfl,_⟩:=h
  rfl
 obtain⟨t,k,J,rfl,C,d,q⟩:=h;have a:atI (aD k J) 0=some (.str (aN k)):=jx;refine⟨_,((af (ai (ya (pcE aE (pX aj (pv 0) ad) ax) (oU (pcE aE (pX aj (pv 0) ad) ax))))):PSs (i6 CX0 P w K mg base ["instruction"] "is_access" (ah kA) f I A o s H E).nox (_::_) _),?_⟩
 try dsimp only[aT]
 walk_at"g";refine bc (fun c=> ?_) (fun c=> ?_)
 .rw[NY (show k=11\/k=12 from .inl ((zP k C).mp c))] at q;exact q
 walk_at"g";have e:decide (V.str (aN k)=V.str "store")=decide (k=11\/k=12):=O1.mpr ⟨fun z=> .inr ((xu k C).mp z),fun z=>z.elim (fun z=>absurd ((zP k C).mpr z) c) (fun z=>(xu k C).mpr z)⟩
 rw[e];exact q
theorem tN(B:Bi mg)(D:lJ K mg):Has P w K mg base 1 "access_by_mask" cV (Ia K):=by
 refine D.has sY (fun J H Q E h=> ?_) (fun f I A o s H J Q E c h=> ?_)
 .obtain⟨t,k,a,C,rfl,_⟩:=h
  rfl
 obtain⟨t,k,a,C,rfl,d,q⟩:=h;have U:atI (aD k (a::C)) 0=some (.str (aN k)):=jx;have b:atI (aD k (a::C)) 1=some (.int a):=lP;refine⟨_,((af (ai (aB (pa4 (pX aj (pv 0) ad) (pX aj (pv 0) ad) ad ad)))):PSs (i6 CX0 P w K mg base ["instruction"] "access_by_mask" (ah fK) f I A o s H E).nox (_::_) _),?_⟩
 try dsimp only[aT]
 walk_at"g";exact q
theorem vW(B:Bi mg)(D:pO K mg)(O:Has P w K mg base 1 "is_access" cV (Ic K))(v:Has P w K mg base 1 "access_by_mask" cV (Ia K)):
  Has P w K mg base 2 "masked_group" cV (Lb K):=by
 refine D.has bJ (fun X H Q E h=> ?_) (fun f m A C s H X Q E e h=> ?_)
 .obtain⟨t,kn,rfl,_⟩:=h
  rfl
 obtain⟨t,⟨k,R⟩,rfl,y,N,q⟩:=h;dsimp only at y
 by_cases r:k=15
 .obtain⟨b,rfl,b0,b1⟩:=N.thr r;subst r;have S:atI (aD 15 [b]) 0=some (.str "through"):=rfl;have i1:atI (aD 15 [b]) 1=some (.int b):=rfl
  refine⟨_,((aa (ay (pcT aE (pX aj (pv 0) ad) ax) (af (ai (aB (pa2 (aB (pa3 ax ad (pX aj (pv 0) ad))) (aB (bD (by rfl))))))) al)
   (aa (ay (gA (cJ (pcH O e (pa1 (pv 0))))) (af (ai (aB (pa1 (pv 0))))) al)
   (aa (psS 1 bJ.nd (pX aj (pv 0) ad))
   (aa (psS 2 bJ.nd (pX aj (pv 0) ad))
   (aa (ay (pcT aE (pv 2) ad) (af (ai (aB (pa2 (aB (pa3 ax ad (pv 1))) (pcH v e (pa1 (pv 0))))))) al)
   (af (ai (aB (pa3 (aB (pa4 ax ad (pv 1) (pv 2))) (aB (bD (by rfl))) (pcH v e (pa1 (pv 0)))))))))))):PSs (i6 CX0 P w K mg base ["instruction","b","n"] "masked_group" (ah cX) f m A C s H E).nox (_::_) _),?_⟩
  try dsimp only[aT]
  walk_at"g";intro U d;walk_at"g";intro J j;walk_at"g";intro g i;have p:=ag d (.tup [.str "aim",.int 6,.int b]);have I:=ag j (.tup [.str "through",.int 6]);have o:=ag i (.tup [.ref U,.ref J]);exact q g [U,J] _ ((p.trans I).trans o) (SqT.of ae) ⟨o.tup (I.tup (SqT.of ae)),o.tup (SqT.of ae),True.intro⟩
 by_cases G:k=11
 .obtain⟨a,b,n,rfl,a0,a1,b0,b1,n0,n1⟩:=N.acc (.inl G);subst G;have S:atI (aD 11 [a,b,n]) 0=some (.str "load"):=rfl;have Z:atI (aD 11 [a,b,n]) 2=some (.int b):=rfl;have Y:atI (aD 11 [a,b,n]) 3=some (.int n):=rfl;have x:11<19:=by decide
  refine⟨_,((aa (ay (pcT aE (pX aj (pv 0) ad) ax) (af (ai (aB (pa2 (aB (pa3 ax ad (pX aj (pv 0) ad))) (aB (bD (by rfl))))))) al)
   (aa (ay (gA (cJ (pcH O e (pa1 (pv 0))))) (af (ai (aB (pa1 (pv 0))))) al)
   (aa (psS 1 bJ.nd (pX aj (pv 0) ad))
   (aa (psS 2 bJ.nd (pX aj (pv 0) ad))
   (aa (ay (pcT aE (pv 2) ad) (af (ai (aB (pa2 (aB (pa3 ax ad (pv 1))) (pcH v e (pa1 (pv 0))))))) al)
   (af (ai (aB (pa3 (aB (pa4 ax ad (pv 1) (pv 2))) (aB (bD (by rfl))) (pcH v e (pa1 (pv 0)))))))))))):PSs (i6 CX0 P w K mg base ["instruction","b","n"] "masked_group" (ah cX) f m A C s H E).nox (_::_) _),?_⟩
  try dsimp only[aT]
  walk_at"g";refine bc (fun c=> ?_) (fun c=> ?_)
  .have n0:n=0:=by injection c
   subst n0;walk_at"g";intro U d;have l:=(ag d (.tup [.str "fit",.int 6,.int b])).tup y;walk_at"g";intro J j;walk_at"g";intro g i;have p:=ag d (.tup [.str "fit",.int 6,.int b]);have I:=ag j (.tup (aD 11 [a,6,0]));have o:=ag i (.tup [.ref U,.ref J]);exact q g [U,J] _ ((p.trans I).trans o) (SqT.of ae) ⟨o.tup (I.tup (SqT.of ae)),o.tup (SqT.of ae),True.intro⟩
  .have n0:¬n=0:=fun z=>c (by rw[z])
   have F:grp (11,[a,b,n])=[(10,[6,b,n]),(16,[6,6]),(11,[a,6,0])]:=by
    show(if n=0 then _ else _)=_
    rw[fI n0]
    rfl
   rw[F] at q;walk_at"g";intro U d;have l:=(ag d (.tup [.str "more",.int 6,.int b,.int n])).tup y;walk_at"g";intro J j;have T:=(ag j (.tup [.str "fit",.int 6,.int 6])).tup l;walk_at"g";intro M W;walk_at"g";intro g i;have p:=ag d (.tup [.str "more",.int 6,.int b,.int n]);have I:=ag j (.tup [.str "fit",.int 6,.int 6]);have o:=ag W (.tup (aD 11 [a,6,0]));have u:=ag i (.tup [.ref U,.ref J,.ref M]);exact q g [U,J,M] _ (((p.trans I).trans o).trans u) (SqT.of ae) ⟨u.tup (o.tup (I.tup (SqT.of ae))),u.tup (o.tup (SqT.of ae)),u.tup (SqT.of ae),True.intro⟩
 by_cases L:k=12
 .obtain⟨a,b,n,rfl,a0,a1,b0,b1,n0,n1⟩:=N.acc (.inr L);subst L;have S:atI (aD 12 [a,b,n]) 0=some (.str "store"):=rfl;have Z:atI (aD 12 [a,b,n]) 2=some (.int b):=rfl;have Y:atI (aD 12 [a,b,n]) 3=some (.int n):=rfl;have x:12<19:=by decide
  refine⟨_,((aa (ay (pcT aE (pX aj (pv 0) ad) ax) (af (ai (aB (pa2 (aB (pa3 ax ad (pX aj (pv 0) ad))) (aB (bD (by rfl))))))) al)
   (aa (ay (gA (cJ (pcH O e (pa1 (pv 0))))) (af (ai (aB (pa1 (pv 0))))) al)
   (aa (psS 1 bJ.nd (pX aj (pv 0) ad))
   (aa (psS 2 bJ.nd (pX aj (pv 0) ad))
   (aa (ay (pcT aE (pv 2) ad) (af (ai (aB (pa2 (aB (pa3 ax ad (pv 1))) (pcH v e (pa1 (pv 0))))))) al)
   (af (ai (aB (pa3 (aB (pa4 ax ad (pv 1) (pv 2))) (aB (bD (by rfl))) (pcH v e (pa1 (pv 0)))))))))))):PSs (i6 CX0 P w K mg base ["instruction","b","n"] "masked_group" (ah cX) f m A C s H E).nox (_::_) _),?_⟩
  try dsimp only[aT]
  walk_at"g";refine bc (fun c=> ?_) (fun c=> ?_)
  .have n0:n=0:=by injection c
   subst n0;walk_at"g";intro U d;have l:=(ag d (.tup [.str "fit",.int 6,.int b])).tup y;walk_at"g";intro J j;walk_at"g";intro g i;have p:=ag d (.tup [.str "fit",.int 6,.int b]);have I:=ag j (.tup (aD 12 [a,6,0]));have o:=ag i (.tup [.ref U,.ref J]);exact q g [U,J] _ ((p.trans I).trans o) (SqT.of ae) ⟨o.tup (I.tup (SqT.of ae)),o.tup (SqT.of ae),True.intro⟩
  .have n0:¬n=0:=fun z=>c (by rw[z])
   have F:grp (12,[a,b,n])=[(10,[6,b,n]),(16,[6,6]),(12,[a,6,0])]:=by
    show(if n=0 then _ else _)=_
    rw[fI n0]
    rfl
   rw[F] at q;walk_at"g";intro U d;have l:=(ag d (.tup [.str "more",.int 6,.int b,.int n])).tup y;walk_at"g";intro J j;have T:=(ag j (.tup [.str "fit",.int 6,.int 6])).tup l;walk_at"g";intro M W;walk_at"g";intro g i;have p:=ag d (.tup [.str "more",.int 6,.int b,.int n]);have I:=ag j (.tup [.str "fit",.int 6,.int 6]);have o:=ag W (.tup (aD 12 [a,6,0]));have u:=ag i (.tup [.ref U,.ref J,.ref M]);exact q g [U,J,M] _ (((p.trans I).trans o).trans u) (SqT.of ae) ⟨u.tup (o.tup (I.tup (SqT.of ae))),u.tup (o.tup (SqT.of ae)),u.tup (SqT.of ae),True.intro⟩
 have x:k<19:=N.lt19;have S:atI (aD k R) 0=some (.str (aN k)):=jx;have F:grp (k,R)=[(k,R)]:=by
  unfold grp;rw[fI r,fI (by show ¬(k=11\/k=12);lia)]
 rw[F] at q
 refine⟨_,((aa (ay (pcT aE (pX aj (pv 0) ad) ax) (af (ai (aB (pa2 (aB (pa3 ax ad (pX aj (pv 0) ad))) (aB (bD (by rfl))))))) al)
   (aa (ay (gA (cJ (pcH O e (pa1 (pv 0))))) (af (ai (aB (pa1 (pv 0))))) al)
   (aa (psS 1 bJ.nd (pX aj (pv 0) ad))
   (aa (psS 2 bJ.nd (pX aj (pv 0) ad))
   (aa (ay (pcT aE (pv 2) ad) (af (ai (aB (pa2 (aB (pa3 ax ad (pv 1))) (pcH v e (pa1 (pv 0))))))) al)
   (af (ai (aB (pa3 (aB (pa4 ax ad (pv 1) (pv 2))) (aB (bD (by rfl))) (pcH v e (pa1 (pv 0)))))))))))):PSs (i6 CX0 P w K mg base ["instruction","b","n"] "masked_group" (ah cX) f m A C s H E).nox (_::_) _),?_⟩
 try dsimp only[aT]
 walk_at"g";refine bN (fun z=>r ((Au k x).mp z)) ?_
 walk_at"g";rw[NX (show ¬(k=11\/k=12) by lia)]
 refine BI ?_
 walk_at"g";intro g i;exact q g [t] _ (ag i _) (SqT.of ae) ⟨(ag i _).tup y,True.intro⟩
def GBk(K:Frag)(H:Hp)(blk:Addr)(b:List Ins):Prop:=∃o:List Addr,SqT K H blk (o.map V.ref)/\eE K H o b
theorem GBk.same{K:Frag}{H o:Hp}{blk:Addr}{b:List Ins}(s:aA H o)(h:GBk K H blk b):GBk K o blk b:=by
 obtain⟨I,J,C⟩:=h;exact⟨I,s.tup J,C.same s⟩
def KD(K:Frag)(C:Addr):Sp:=fun I H Q _=>∃(blk:Addr) (bk:List Ins),I=[.ref blk]/\GBk K H blk bk/\(∀a∈bk,VI a)/\bk.length<=30/\
 ∀(x J i b:Addr) (U:List Addr) (o:Hp),aA H o->H x=none->H i=none->H b=none->bf K C o x J i b U (dj bk).1 (dj bk).2->Q (.ref x) o
theorem vx{C:Addr}(B:Bi mg)(bp:dW K mg "LaidBlock" C)(D:oO K mg)(bL:cx P w K mg base 1 C "__init__" fA (AT K C))(cZ:Has P w K mg base 2 "masked_group" cV (Lb K))
  (bG:cx P w K mg base 2 C "has_space" nK (A_ K C)) (bA:cx P w K mg base 3 C "fill_bundle" fA (D9 K C)) (bF:cx P w K mg base 3 C "take_group" nK (AD K C)):
  Has P w K mg base 4 "masked_block" qT (KD K C):=by
 refine D.has gd (fun vs H Q E h=> ?_) (fun f bu A ab s H vs Q E m h=> ?_)
 .obtain⟨blk,bk,rfl,_⟩:=h
  rfl
 obtain⟨blk,bk,rfl,gb,M,bC,q⟩:=h;obtain⟨ts,n,J⟩:=id gb
 refine⟨_,(aa (psS 1 gd.nd (zZ bp (bL.mono (by omega)) m (by rfl)))
   (aa (eQ Oj (by rfl) (dG (o7 (pv 0))) (aR (i:=2) gd.nd (by rfl) (by left;rfl)) (aa (psS 3 gd.nd (pcH cZ m (pa1 (pv 2))))
   (aa (aL (a_ (ay (gA (cJ (cD (bG.mono (by omega)) m (pv 1) (pa1 (pv 3))))) (af (bP (lK (bA.mono (by omega)) m (pv 1)))) al)))
   (af (bP (cD (bF.mono (by omega)) m (pv 1) (pa1 (pv 3))))))))
   (af (ai (pv 1))))),?_⟩
 try dsimp only[aT]
 walk_at"g";intro x L v W bw;refine⟨H,x,L,rfl,ae,v,fh v (ag W _),?_⟩
 intro H1 i b hi Y s1 l1;refine⟨rfl,?_⟩
 have au:=s1.tup n;walk_at"g"
 refine⟨wu (xs:=ts.map V.ref) (fun j Z d=>∃y z,Z=[some (.ref blk),some (.ref x),y,z]/\az (aA H d)/\∃p,bf K C d x L i b p (dj (bk.take j)).1 (dj (bk.take j)).2)
  ⟨_,_,rfl,⟨s1⟩,[],by simpa [dj] using l1⟩ ?_ ?_ ?_⟩
 .rintro j Z d _ ⟨y,z,rfl,⟨s2⟩,_⟩
  exact s2.tup n
 .rintro j u Z d hj ⟨y,z,rfl,⟨s2⟩,p,l2⟩
  obtain⟨t,et,rfl⟩:=dw hj;obtain⟨G,X,ht⟩:=J.get et;have a':j<bk.length:=(mF.mp X).1;have a7:=s2.tup ht;have N:=M G (N4 X);have bh:=uQ N;have a6:=wf G;have aU:=Fz G;have S:=qh bk j (by lia)
  have bx:=Bv bk j (by lia)
  have T:=qb X;have bl:(dj (bk.take j)).1.length<=200:=by
   have:=EX (dj (bk.take j)).1
   split at S <;> lia
  generalize dj (bk.take j)=st at*;walk_at"g";intro g O H3 R l U;generalize grp G=a at*;have l3:=l2.same R;have ar:=l3.at_;have aH:a.length<=100:=by lia
  walk_at"g";refine⟨⟨fun Z' e=>Z'=[some (.ref blk),some (.ref x),some (.ref t),some (.ref g)]/\az (aA H e)/\SqT K e g (O.map V.ref)/\eE K e O a/\∃o,bf K C e x L i b o (cP st.1 a) st.2,?_,?_⟩⟩
  .walk_at"g";intro e I;have l4:=l3.same I;have F:=l4.at_;walk_at"g"
   by_cases c:lnW st.1 %8+lnW a<=8
   .refine FI c ?_
    refine⟨rfl,⟨(s2.trans R).trans I⟩,I.tup l,U.same I,p,?_⟩
    unfold cP;rw[NV c];exact l4
   .rw[NX c];refine BI ?_
    have aP:st.1.length<=900:=by lia
    walk_at"g";intro H5 o r l5;refine⟨rfl,⟨B3.same ((s2.trans R).trans I) v hi Y r⟩,r.tup l4 (I.tup l),(U.same I).b3 l4 r,o,?_⟩
    unfold cP;rw[fI c];exact l5
  .rintro Z' e ⟨rfl,⟨I⟩,hg4,how4,o,l4⟩
   have F:=l4.at_;have bt:(cP st.1 a).length<=st.1.length+8:=by
    unfold cP
    split
    .lia
    .rw[NT];unfold ug;rw[OA]
     lia
   have bb:(cP st.1 a).length+a.length<=1000:=by lia
   have aY:st.2.length<1000:=by lia
   walk_at"g";intro H5 r l5;refine⟨_,_,rfl,⟨B3.same I v hi Y r⟩,o++O,?_⟩
   rw[T];exact l5
 .rintro Z d ⟨y,z,rfl,⟨s2⟩,p,l2⟩
  rw[be,J.len,Oi] at l2;walk_at"g";exact q x L i b p d s2 v hi Y l2
def tw(n b:Nat):Prop:=n<=2^b/\∀j,j<b->2^j<n
def E8:Sp:=fun o H Q _=>∃n:Nat,o=[.int n]/\n<=1048576/\∀b,tw n b->Q (.int b) H
def Kx(K:Frag)(C:Addr):Sp:=fun I H Q _=>∃(x J i b:Addr) (U:List Addr) (o:List Ins) (bs:List Nat),I=[.ref x]/\bf K C H x J i b U o bs/\Q (.int ((lnW o+7) / 8:Nat)) H
def Ds(K:Frag):Sp:=fun J H Q _=>∃(t:Addr) (o:Ins) (n:Nat),J=[.ref t,.int n]/\SqT K H t (aD o.1 o.2)/\VI o/\n<=2000/\∀I C,aA H C->SqT K C I (aD (plc n o).1 (plc n o).2)->Q (.ref I) C
noncomputable abbrev stp(n:Nat):List Ins:=List.replicate n (0,[])
def Bl:Sp:=fun C H Q _=>∃n:Nat,C=[.int n]/\n<=2000/\∀(p:Addr) (o:Hp),aA H o->H p=none->o p=some (.lst ((ao (stp n)).map V.int))->Q (.ref p) o
def L5(K:Frag)(C:Addr):Sp:=fun J H Q _=>∃(x U i b:Addr) (a:List Addr) (I:List Ins) (bs:List Nat) (n:Nat),J=[.ref x,.int n]/\bf K C H x U i b a I bs/\lnW I<=n/\n<=2000/\
 ∀(p:Addr) (o:Hp),aA H o->H p=none->o p=some (.lst ((ao (f9 n I)).map V.int))->Q (.ref p) o
theorem yQ(B : Bi mg)(D : t_ K mg)(i : Has P w K mg base 1 "power_of_two" mB jo) : Has P w K mg base 2 "least_bits" pU E8 := by
  refine D.has kX (fun d H Q E h => ?_) (fun f g A I s H d Q E l h => ?_)
  . obtain⟨n, rfl, _⟩ := h
    rfl
  obtain⟨n, rfl, p, q⟩ := h
  refine⟨_, (aa (psS 1 kX.nd ad)
      (aa (aL (kc Oj (pcT fL (pcH i l (pa1 (pv 1))) (pv 0)) (af (psS 1 kX.nd (aw aS (pv 1) ad)))))
      (af (ai (pv 1))))), ?_⟩
  try dsimp only[aT]
  walk_at"g"
  refine⟨?_⟩
  refine⟨fun m Z C => C = H ∧ ∃b : Nat, Z = [some (.int n), some (.int b)] ∧ b ≤ 20 ∧ (∀j, j<b → 2 ^ j<n) ∧ m = 20 - b, ⟨_, rfl, 0, rfl, by lia, fun j z => absurd z (by lia), rfl⟩, ?_⟩
  rintro m Z C ⟨rfl, b, rfl, u, J, rfl⟩
  have U : b ≤ 64 := by lia
  walk_at"g"
  refine bc (fun c => ?_) (fun c => ?_)
  . have a : 2 ^ b<n := by exact_mod_cast c
    have o : b<20 := by
      by_cases z : b = 20
      . subst z
        exact absurd a (by lia)
      . lia
    walk_at"n"
    refine⟨fun r C => az _, fun _ _ z => z.out, ?_⟩
    walk_at"g"
    refine⟨⟨20 - (b + 1), by lia, rfl, b + 1, rfl, o, fun j z => ?_, rfl⟩⟩
    by_cases e : j = b
    . rw[e]; exact a
    . exact J j (by lia)
  . walk_at"g"
    exact q b ⟨by have : ¬ ((2 ^ b : Nat) : Int)<n := by exact_mod_cast c
                  lia, J⟩
theorem yD{C:Addr}(B:Bi mg)(c:dW K mg "LaidBlock" C)(n:cr K C)(D:tK K mg):Has P w K mg base 1 "bundles_of" qT (Kx K C):=by
 refine D.has zl (fun J H Q E h=> ?_) (fun f U A I s H J Q E j h=> ?_)
 .obtain⟨x,g,i,b,d,o,bs,rfl,_⟩:=h
  rfl
 obtain⟨x,g,i,b,d,o,bs,rfl,l,q⟩:=h;have m:=c.cl;have n3:=n.length;have a:=l.at_;have cd:tJ ((lnW o:Int)+7) 8:=⟨by decide,by decide⟩
 refine⟨_,(af (ai (aw cE (aw aS (aV (pv 0) (by rfl)) ad) ad))),?_⟩
 try dsimp only[aT]
 walk_at"g";have e:((lnW o:Int)+7) / 8=((lnW o+7) / 8:Nat):=by lia
 show Q (V.int (((lnW o:Int)+7) / 8)) H
 rw[e];exact q
theorem GN(B:Bi mg)(D:CO K mg):Has P w K mg base 1 "placed" Db (Ds K):=by
 refine D.has Gz (fun y H Q E h=> ?_) (fun f F A p s H y Q E O h=> ?_)
 .obtain⟨t,kn,n,rfl,_⟩:=h
  rfl
 obtain⟨t,⟨k,e⟩,n,rfl,u,j,N,q⟩:=h;dsimp only at u;have c:k<19:=j.lt19
 refine⟨_,(aa (aL (a_ (ay (PW.pt (iS (pcT aE (pX aj (pv 0) ad) ax) (fP (pcT aE (pX aj (pv 0) ad) ax)))) (af (ai (aw Fl (dR nh (pv 0) gS (d6 (nz (v:= -1) (by rfl)))) (aB (pa1 (aw bH (pX aj (pv 0) (nz (v:= -1) (by rfl))) (pv 1))))))) al)))
   (af (ai (pv 0)))),?_⟩
 try dsimp only[aT]
 by_cases I:k=13
 .obtain⟨z,rfl,z0,z1⟩:=j.jmp I;subst I;have r:atI (aD 13 [z]) 0=some (.str "jump"):=rfl;have M:atI (aD 13 [z]) (-1)=some (.int z):=rfl;have l:gw (aD 13 [z]) none (some (-1))=[.str "jump"]:=rfl;have hw:¬(HT.sIx (aD 13 [z]).length 0 none=0/\HT.sIx (aD 13 [z]).length (aD 13 [z]).length (some (-1))=(aD 13 [z]).length):=by show ¬(HT.sIx 2 0 none=0/\HT.sIx 2 2 (some (-1))=2);decide
  have L:wY z (n:Int):= .inr ⟨by lia,by lia⟩
  walk_at"n";refine⟨⟨fun d b=>az False,?_,fun _ _ z=>z.out.elim⟩⟩
  walk_at"g";intro a U;rw[l];walk_at"g";intro i o;have g:upd (upd H a (.tup [.str "jump"])) i (.tup [.int (z*n)]) a=some (.tup [.str "jump"]):=by rw[aq (ak ae o)];exact ae
  walk_at"g";refine⟨(fun z=>by cases z),fun _ m J=> ?_⟩
  exact q m _ (((ag U _).trans (ag o _)).trans (ag J _)) (SqT.of ae)
 by_cases C:k=14
 .obtain⟨x,z,rfl,x0,x1,z0,z1⟩:=j.jif C;subst C;have r:atI (aD 14 [x,z]) 0=some (.str "jumpif"):=rfl;have M:atI (aD 14 [x,z]) (-1)=some (.int z):=rfl;have l:gw (aD 14 [x,z]) none (some (-1))=[.str "jumpif",.int x]:=rfl;have hw:¬(HT.sIx (aD 14 [x,z]).length 0 none=0/\HT.sIx (aD 14 [x,z]).length (aD 14 [x,z]).length (some (-1))=(aD 14 [x,z]).length):=by show ¬(HT.sIx 3 0 none=0/\HT.sIx 3 3 (some (-1))=3);decide
  have L:wY z (n:Int):= .inr ⟨by lia,by lia⟩
  walk_at"n";refine⟨⟨fun d b=>az False,?_,fun _ _ z=>z.out.elim⟩⟩
  walk_at"g";intro a U;rw[l];walk_at"g";intro i o;have g:upd (upd H a (.tup [.str "jumpif",.int x])) i (.tup [.int (z*n)]) a=some (.tup [.str "jumpif",.int x]):=by rw[aq (ak ae o)];exact ae
  walk_at"g";refine⟨(fun z=>by cases z),N7 rfl,(fun z=>by cases z),fun _ m J=> ?_⟩
  exact q m _ (((ag U _).trans (ag o _)).trans (ag J _)) (SqT.of ae)
 have r:atI (aD k e) 0=some (.str (aN k)):=jx;have G:plc n (k,e)=(k,e):=by unfold plc;rw[fI I,fI C]
 rw[G] at q;walk_at"n";refine⟨⟨fun d b=>d=[some (.ref t),some (.int n)]/\b=H,?_,?_⟩⟩
 .walk_at"g";refine bN (fun z=>I ((Gx k c).mp z)) ?_
  walk_at"g";refine bN (fun z=>C ((BR k c).mp z)) ?_
  exact⟨rfl,rfl⟩
 .rintro d b ⟨rfl,rfl⟩
  walk_at"g";exact q t b (fun _ _ z=>z) u
theorem Al:∀n:Nat,ao (stp n)=List.replicate n 0
 | 0=>rfl
 | n+1=>by
  show ao ((0,[])::stp n)=_
  rw[vc,Al n]
  rfl
theorem zM{o:Type}(x:o):∀n,(List.replicate n [x]).flatten=List.replicate n x
 | 0=>rfl
 | n+1=>by rw[OG,PF,zM x n,OG];rfl
theorem IE(B:Bi mg)(D:Fy K mg)(d:Has P w K mg base 5 "words_of" cV (J4 K)):Has P w K mg base 6 "stops" pU Bl:=by
 refine D.has IK (fun U H Q E h=> ?_) (fun f a A o s H U Q E c h=> ?_)
 .obtain⟨n,rfl,_⟩:=h
  rfl
 obtain⟨n,rfl,l,q⟩:=h;refine⟨_,(af (ai (aw Ej (pcH d c (pa1 (aB (pa1 ax)))) (pv 0)))),?_⟩
 try dsimp only[aT]
 walk_at"g";intro t J;refine⟨t,0,[],rfl,by decide,(fun z=>by cases z),SqT.of ae,?_⟩
 intro i e b j I;have g:((c_ 0 []).map V.int).length*(n:Int).toNat<=sizeLine:=by
  show 1*n<=sizeLine
  exact Oc (by lia) (show 2000<=sizeLine by decide)
 walk_at"g";intro p C;refine q p _ (((ag J _).trans I).trans (ag C _)) ((ag J _).free (I.free C)) ?_
 rw[ae,Al,List.map_replicate];show some (HO.lst (List.replicate n [V.int 0]).flatten)=_
 rw[zM]
theorem xT{C:Addr}(B:Bi mg)(c:dW K mg "LaidBlock" C)(n:cr K C)(D:qP K mg)(d_:Has P w K mg base 5 "words_of" cV (J4 K))(xR:Has P w K mg base 1 "placed" Db (Ds K))
  (qf:Has P w K mg base 6 "stops" pU Bl):Has P w K mg base 7 "block_words" BY (L5 K C):=by
 refine D.has jW (fun vs H Q E h=> ?_) (fun f aY A O s H vs Q E G h=> ?_)
 .obtain⟨x,dx,i,b,Y,o,bs,nn,rfl,_⟩:=h
  rfl
 obtain⟨x,dx,i,b,Y,o,bs,nn,rfl,l,a6,aP,q⟩:=h;have hc:=c.cl;have n1:=n.instructions
 refine⟨_,(aa (psS 2 jW.nd (bo dN))
   (aa (eQ Oj (by rfl) (dG (tO (aV (pv 0) (by rfl)))) (aR (i:=3) jW.nd (by rfl) (by left;rfl)) (af (bP (jk Oq PY PZ uD (pv 2) (pa1 (pcH d_ G (pa1 (pcH xR G (pa2 (pv 3) (pv 1))))))))))
   (af (ai (aw lE (pv 2) (pcH qf G (pa1 (aw cC (pv 1) (aM aG (by rfl) B.len bS (pa1 (pv 2))))))))))),?_⟩
 try dsimp only[aT]
 walk_at"g";intro p R;have s0:=ag R (.lst []);have N:upd H p (.lst []) p=some (.lst []):=ae;generalize upd H p (.lst [])=H0 at*;have l0:=l.same s0;have ab:=l0.at_;have X:=l0.li;walk_at"g";refine⟨yv (xs:=Y.map V.ref) (fun j Z a=>az (∃y,Z=[some (.ref x),some (.int nn),some (.ref p),y]/\aA H a/\a p=some (.lst ((ao ((o.take j).map (plc nn))).map V.int)))) ⟨_,rfl,s0,N⟩ ?_ ?_ ?_⟩
 .rintro j Z a _ ⟨y,rfl,s1,_⟩
  exact SqL.of (s1 _ _ l.li)
 .rintro j u Z a hj ⟨y,rfl,s1,hp1⟩
  obtain⟨t,et,rfl⟩:=dw hj;obtain⟨J,M,ht⟩:=l.ow.get et;have aH:j<o.length:=(mF.mp M).1;have aU:=s1.tup ht;have m:=l.va J (N4 M);have ar:tyV K "list" (.ref p) a:= .inl ⟨rfl,_,SqL.of hp1⟩;have L:lnW (o.take (j+1))<=2000:=by
   have e:=congrArg lnW (List.take_append_drop (j+1) o);rw[dg] at e
   lia
  have a':(plc nn J).1<19:=by rw[Du];exact m.lt19
  have kk:(plc nn J).1=1->2<=(plc nn J).2.length:=fun z=>by
   rw[Du] at z;have e:plc nn J=J:=by unfold plc;rw[fI (by lia),fI (by lia)]
   rw[e];exact m.put2 z
  have ew:ao ((o.take (j+1)).map (plc nn))=ao ((o.take j).map (plc nn))++c_ (plc nn J).1 (plc nn J).2:=by
   rw[ga M,NZ,j_];show _++(c_ _ _++[])=_
   rw[Oz]
   all_goals rfl
  have r:(ao ((o.take (j+1)).map (plc nn))).length<=2000:=by rw[bq,qc];exact L
  rw[ew] at r;walk_at"g";intro t2 W d au;have I:=d _ _ hp1;have T:tyV K "list" (.ref p) W:= .inl ⟨rfl,_,SqL.of I⟩;walk_at"g";intro p3 H3 U h3 S;have v:=S _ _ I;have hz:((ao ((o.take j).map (plc nn))).map V.int).length+((c_ (plc nn J).1 (plc nn J).2).map V.int).length<=sizeLine:=by
   rw[be,be, <-NT];exact Oc r (by decide)
  walk_at"g";refine⟨_,rfl,fh R ((s1.trans d).trans S),?_⟩
  rw[ae,ew,NZ]
 .rintro Z a ⟨y,rfl,s1,hp1⟩
  rw[be,l.ow.len,Oi] at hp1;have r:((ao (o.map (plc nn))).map V.int).length=lnW o:=by rw[be,bq,qc]
  have g:((nn:Int) - (((ao (o.map (plc nn))).map V.int).length:Nat))=((nn - lnW o:Nat):Int):=by rw[r];lia
  have F:nn - lnW o<=2000:=by lia
  walk_at"g";refine⟨(congrArg (fun z=>[V.int z]) g:[V.int ((nn:Int) - (((ao (o.map (plc nn))).map V.int).length:Nat))]=[V.int ((nn - lnW o:Nat):Int)]),F,?_⟩
  intro p2 W d a7 h2;have I:=d _ _ hp1;have hz:((ao (o.map (plc nn))).map V.int).length+((ao (stp (nn - lnW o))).map V.int).length<=sizeLine:=by
   rw[r,be,bq,qe];exact Oc (show lnW o+(nn - lnW o)<=2000 by lia) (by decide)
  walk_at"g";intro p3 U;refine q p3 _ ((s1.trans d).trans (ag U _)) (s1.free (d.free U)) ?_
  rw[ae, <-NZ, <-j_]
  rfl
def Lds(K:Frag)(C:Addr)(H:Hp)(xs:List Addr)(ds:List Bk):Prop:=xs.length=ds.length/\∀(j:Nat) (x:Addr) (d:Bk),xs[j]? =some x->ds[j]? =some d->
 ∃o i b I,bf K C H x o i b I d.1 d.2
theorem Lds.same{K:Frag}{C:Addr}{H o:Hp}{xs:List Addr}{ds:List Bk}(s:aA H o)(h:Lds K C H xs ds):Lds K C o xs ds:=by
 refine⟨h.1,fun j x d I U=> ?_⟩
 obtain⟨J,i,b,a,l⟩:=h.2 j x d I U;exact⟨J,i,b,a,l.same s⟩
noncomputable abbrev pk(n a:Nat):List Key:=[.inl (n:Int),.inl (a:Int)]
theorem II{n a C o:Nat}(h:pk n a=pk C o):n=C/\a=o:=by
 injection h with h1 h2
 injection h2 with h2 _
 injection h1 with h1
 injection h2 with h2
 lia
theorem Jv{C:Type}[DecidableEq C]{kvs:List (C × V)}{k:C}{v:V}(h:∀o∈kvs,o.1≠k):cF kvs k v=kvs++[(k,v)]:=by
 unfold cF;rw[fI];intro z;obtain⟨o,I,J⟩:=Qf.mp z;exact h o I (Pk J)
noncomputable def sU(n u:Nat):Nat->List Nat->List (List Key × V)
 | _,[]=>[]
 | a,b::r=>(pk u a,.int ((u*n+b:Nat):Int))::sU n u (a+1) r
noncomputable def rO(n:Nat):Nat->List (List Nat)->List (List Key × V)
 | _,[]=>[]
 | u,bs::r=>sU n u 0 bs++rO n (u+1) r
theorem xN(n u:Nat):∀(a:Nat) (bs:List Nat),(sU n u a bs).length=bs.length
 | _,[]=>rfl
 | a,b::r=>congrArg (· +1) (xN n u (a+1) r)
theorem wZ{n u:Nat}:∀{a:Nat}{bs:List Nat}{o:List Key × V},o∈sU n u a bs->∃j,o.1=pk u j/\a<=j/\j<a+bs.length
 | a,b::r,o,h=>by
  rcases Od.mp h with rfl | h
  .exact⟨a,rfl,NW _,by rw[N6];lia⟩
  .obtain⟨j,h1,h2,h3⟩:=wZ h;exact⟨j,h1,by lia,by rw[N6];lia⟩
theorem BV{n:Nat}:∀{u:Nat}{o:List (List Nat)}{C:List Key × V},C∈rO n u o->∃v j,C.1=pk v j/\u<=v/\v<u+o.length
 | u,bs::r,C,h=>by
  rcases Ot.mp h with h | h
  .obtain⟨j,h1,h2,h3⟩:=wZ h;exact⟨u,j,h1,NW _,by rw[N6];lia⟩
  .obtain⟨v,j,h1,h2,h3⟩:=BV h;exact⟨v,j,h1,by lia,by rw[N6];lia⟩
theorem Ai(n u b:Nat):∀(a:Nat) (bs:List Nat),sU n u a (bs++[b])=sU n u a bs++[(pk u (a+bs.length),.int ((u*n+b:Nat):Int))]
 | a,[]=>rfl
 | a,c::r=>by
  show _::sU n u (a+1) (r++[b])=_
  rw[Ai n u b (a+1) r,N6,show a+1+r.length=a+(r.length+1) by lia]
  rfl
theorem zt(n:Nat)(bs:List Nat):∀(u:Nat) (l:List (List Nat)),rO n u (l++[bs])=rO n u l++sU n (u+l.length) 0 bs
 | u,[]=>by show sU n u 0 bs++[]=_;rw[Oz];rfl
 | u,c::r=>by
  show sU n u 0 c++rO n (u+1) (r++[bs])=_
  rw[zt n bs (u+1) r,N6,show u+1+r.length=u+(r.length+1) by lia, <-On]
  rfl
theorem D0(n:Nat):∀(u:Nat) (l:List (List Nat)),(∀bs∈l,bs.length<=30)->(rO n u l).length<=30*l.length
 | _,[],_=>NW _
 | u,c::r,h=>by
  show(sU n u 0 c++rO n (u+1) r).length<=_
  have C:=D0 n (u+1) r (fun x o=>h x (N2 _ o))
  have I:=h c N3;rw[NT,xN,N6]
  lia
def DY(K:Frag)(C:Addr):Sp:=fun a H Q _=>∃(J:Addr) (U:List Addr) (o:List Bk) (n:Nat),a=[.ref J,.int n]/\SqL K H J (U.map V.ref)/\Lds K C H U o/\o.length<=16/\(∀d∈o,d.2.length<=30)/\n<=2000/\
 ∀(p:Addr) (I:Hp),aA H I->H p=none->I p=some (.dT (rO n 0 (o.map (·.2))))->Q (.ref p) I
theorem BH{C:Addr}(B:Bi mg)(c:dW K mg "LaidBlock" C)(n:cr K C)(D:vi K mg):Has P w K mg base 1 "places_of" DP (DY K C):=by
 refine D.has fE (fun vs H Q E h=> ?_) (fun f bA A aU s H vs Q E hr h=> ?_)
 .obtain⟨bl,M,I,nn,rfl,_⟩:=h
  rfl
 obtain⟨bl,M,I,nn,rfl,R,y,bw,S,bx,q⟩:=h;have hc:=c.cl;have n2:=n.begins;have ar:∀j,(rO nn 0 ((I.take j).map (·.2))).length<=500:=fun j=>by
  have m:=D0 nn 0 ((I.take j).map (·.2)) (fun bs hb=>by
   obtain⟨d,hd,rfl⟩:=OJ.mp hb
   exact S d (Ql hd))
  rw[be,Oh] at m
  lia
 refine⟨_,(aa (psS 2 fE.nd HY)
   (aa (eQ Oj (by rfl) (dG (Fn (by rfl) B.enumerate (pa1 (pv 0)))) (rN (n:=2) (by rfl) (cj (aR (i:=3) fE.nd (by rfl) (by left;rfl)) (cj (aR (i:=4) fE.nd (by rfl) (by left;rfl)) nJ))) (af (eQ Oj (by rfl) (dG (Fn (by rfl) B.enumerate (pa1 (aV (pv 4) (by rfl))))) (rN (n:=2) (by rfl) (cj (aR (i:=5) fE.nd (by rfl) (by left;rfl)) (cj (aR (i:=6) fE.nd (by rfl) (by left;rfl)) nJ))) (af (wp (xj hr) (pv 2) (aB (pa2 (pv 3) (pv 5))) (aw aS (aw bH (pv 3) (pv 1)) (pv 6)) (by rfl))))))
   (af (ai (pv 2))))),?_⟩
 try dsimp only[aT]
 walk_at"g";intro p X;have s0:=ag X (.dT []);have au:upd H p (.dT []) p=some (.dT []):=ae;generalize upd H p (.dT [])=H0 at*;have a7:=s0.seq R;walk_at"g"
 refine⟨Cj (xs:=M.map V.ref) (fun k Z o=>az (∃T W U J,Z=[some (.ref bl),some (.int nn),some (.ref p),T,W,U,J]/\aA H o/\o p=some (.dT (rO nn 0 ((I.take k).map (·.2))))))
  ⟨_,_,_,_,rfl,s0,au⟩ ?_ ?_ ?_⟩
 .rintro k Z o ⟨T,W,U,J,rfl,s1,_⟩
  exact s1.seq R
 .rintro k u r Z o F ⟨T,W,U,J,rfl,s1,hp1⟩ hr1
  obtain⟨x,ex,rfl⟩:=dw F;have bu:k<M.length:=(mF.mp ex).1;have N:k<I.length:=by have:=y.1;lia
  obtain⟨d,ed⟩:∃d,I[k]? =some d:=⟨_,mC N⟩;obtain⟨dx,i,b,js,l⟩:=y.2 k x d ex ed;have bb:=S d (N4 ed);have bh:k<16:=by lia
  have s2:=s1.trans (ag hr1 (.tup [.int k,.ref x]));have aP:=ag hr1 (.tup [.int k,.ref x]) _ _ hp1;have bp:upd o r (.tup [.int k,.ref x]) r=some (.tup [.int k,.ref x]):=ae;generalize upd o r (.tup [.int k,.ref x])=H2 at*;have a':=s2 _ _ l.at_;have aY:=s2 _ _ l.lb;have a6:=ar k;walk_at"g"
  refine⟨Cj (xs:=d.2.map vn) (fun a Z o=>az (∃U J,Z=[some (.ref bl),some (.int nn),some (.ref p),some (.int k),some (.ref x),U,J]/\aA H o/\o p=some (.dT (rO nn 0 ((I.take k).map (·.2))++sU nn k 0 (d.2.take a)))))
   ⟨_,_,rfl,s2,by rw[aP];show _=some (HO.dT (_++[]));rw[Oz]⟩ ?_ ?_ ?_⟩
  .rintro a Z o ⟨U,J,rfl,s3,_⟩
   exact SqL.of (s3 _ _ l.lb)
  .rintro a v r3 Z H3 ha ⟨U,J,rfl,s3,hp3⟩ hr3
   obtain⟨g,eb,rfl⟩:=dw ha;have L:a<d.2.length:=(mF.mp eb).1;have s4:=s3.trans (ag hr3 (.tup [.int a,.int g]));have Y:=ag hr3 (.tup [.int a,.int g]) _ _ hp3;have bt:upd H3 r3 (.tup [.int a,.int g]) r3=some (.tup [.int a,.int g]):=ae;generalize upd H3 r3 (.tup [.int a,.int g])=H4 at*;have cm:wY (k:Int) (nn:Int):= .inl ⟨by lia,by lia⟩
   walk_at"g";intro r5 O;have ab:=ag O (.tup [.int k,.int a]) _ _ Y;have aH:(rO nn 0 ((I.take k).map (·.2))++sU nn k 0 (d.2.take a)).length<sizeLine:=by
    rw[NT,xN,Oh];exact N8 (show _<1000 by lia) (by decide)
   have dp:tE (upd H4 r5 (.tup [.int k,.int a])) p (.ref r5) (.int ((k:Int)*nn+g)) _:=tE.t (k:=pk k a) ab ae aH;have G:∀kv∈rO nn 0 ((I.take k).map (·.2))++sU nn k 0 (d.2.take a),kv.1≠pk k a:=fun kv F z=>by
    rcases Ot.mp F with F | F
    .obtain⟨v,j,m,h2,h3⟩:=BV F;rw[z] at m;have:=(II m).1;rw[be,Oh] at h3
     lia
    .obtain⟨j,m,h2,h3⟩:=wZ F;rw[z] at m;have:=(II m).2;rw[Oh] at h3
     lia
   walk_at"g";refine⟨_,_,rfl,fh X (s4.trans (ag O _)),?_⟩
   rw[ae,Jv G,ga eb,Ai,Oh,P3 (Qt L),On,OU];have e:(k:Int)*nn+g=((k*nn+g:Nat):Int):=by push_cast;rfl
   rw[e]
  .rintro Z o ⟨U,J,rfl,s3,hp3⟩
   rw[be,Oi] at hp3;refine⟨_,_,_,_,rfl,s3,?_⟩
   rw[hp3,ga ed,NZ];show _=some (HO.dT (rO nn 0 ((I.take k).map (·.2)++[d.2])))
   rw[zt,be,Oh,P3 (Qt N),OU]
 .rintro Z o ⟨T,W,U,J,rfl,s1,hp1⟩
  rw[be,y.1,Oi] at hp1;walk_at"g";exact q p o s1 X hp1
noncomputable def bun(d:Bk):Nat:=(lnW d.1+7) / 8
structure u9 (M:Nat) (ds:List Bk):Prop where
 mem:∃d∈ds,bun d=M
 le:∀d∈ds,bun d<=M
def xr(H o:Hp)(r:Addr)(ds:List Bk)(rk rb C:Int)(m s:Nat):Prop:=∃a1 a2 a3,o r=some (.tup [.ref a1,.ref a2,.ref a3])/\o a1=some (.tup [.int rk,.int rb,.int m,.int s,.int C])/\
 o a2=some (.lst ((ao (iW (8*2^s) (2^m*(8*2^s)) ds)).map V.int))/\o a3=some (.dT (rO (8*2^s) 0 (ds.map (·.2))))/\H r=none/\H a1=none/\H a2=none/\H a3=none
def Ey(K:Frag)(C f:Addr):Sp:=fun e H Q E=>∃(c rm:Addr) (a:List Addr) (o:List Bk) (U b J:Int) (M:Nat),e=[.ref c,.ref rm,.int J]/\SqL K H c (a.map V.ref)/\Lds K C H a o/\SqT K H rm [.int U,.int b]/\
 0<o.length/\o.length<=16/\(∀d∈o,lnW d.1<=300/\d.2.length<=30)/\u9 M o/\
 ∀m s,tw o.length m->tw M s->(7<m+s->∀I,aA H I->E (.ref f) none I)/\(m+s<=7->∀r I,aA H I->xr H I r o U b J m s->Q (.ref r) I)
theorem ua{C CT:Addr}(B:Bi mg)(J:F3 K CT)(uo:mg "TooLong"=some (.ref CT))(D:lH K mg)(au:Has P w K mg base 1 "power_of_two" mB jo)(jz:Has P w K mg base 2 "least_bits" pU E8)
  (mz:Has P w K mg base 1 "bundles_of" qT (Kx K C)) (kU:Has P w K mg base 7 "block_words" BY (L5 K C)) (qf:Has P w K mg base 6 "stops" pU Bl) (pd:Has P w K mg base 1 "places_of" DP (DY K C)):
  vR P w K mg base 8 "code_of_blocks" zB (Ey K C CT):=by
 refine D.hasX cA (fun vs H Q E h=> ?_) (fun f b8 A bL s H vs Q E G h=> ?_)
 .obtain⟨bl,rm,n,o,rk,rb,N,M,rfl,_⟩:=h
  rfl
 obtain⟨bl,rm,n,o,rk,rb,N,M,rfl,v,a,bx,h0,b6,hd,hM,q⟩:=h;have O:(n.map V.ref).length=o.length:=by rw[be];exact a.1
 have bM:(n.map V.ref).length<=1048576:=by lia
 refine⟨_,(aa (sf (psS 3 cA.nd (pcH jz G (pa1 (aM aG (by rfl) B.len bS (pa1 (pv 0)))))))
   (aa (sf (psS 4 cA.nd (pcH jz G (pa1 (aM (Gh (by rfl)) (by rfl) B.max AA (pa1 (PE.nox (mY (by rfl) (by rfl) (by rfl) (bk (sc0:=ah fG) (N0:=["blocks","room","gates","m","s","size","code","block"]) ["block"] 1 []) (tO (pv 0)) (fun _ _ _ _=>(aR (i:=0) (show List.Nodup (["block"]:List Str) by decide) (by rfl) (by left;rfl))) (fun _ _ _ _=>(pcH mz G (pa1 (pv 0))))))))))))
   (aa (ay (pcT zX (aw aS (pv 3) (pv 4)) ad) (af (Gg J (by rfl) uo)) al)
   (aa (sf (psS 5 cA.nd (aw bH ad (pcH au G (pa1 (pv 4))))))
   (aa (sf (psS 6 cA.nd (bo dN)))
   (aa (sf (eQ Oj (by rfl) (dG (tO (pv 0))) (aR (i:=7) cA.nd (by rfl) (by left;rfl)) (af (bP (jk Oq PY PZ uD (pv 6) (pa1 (pcH kU G (pa2 (pv 7) (pv 5)))))))))
   (aa (sf (bP (jk Oq PY PZ uD (pv 6) (pa1 (pcH qf G (pa1 (aw cC (aw bH (pcH au G (pa1 (pv 3))) (pv 5)) (aM aG (by rfl) B.len bS (pa1 (pv 6))))))))))
   (af (sf (ai (aB (pa3 (aB (pa5 (pX aj (pv 1) ad) (pX aj (pv 1) ad) (pv 3) (pv 4) (pv 2))) (pv 6) (pcH pd G (pa2 (pv 0) (pv 5))))))))))))))),?_⟩
 try dsimp only[Ln]
 walk_at"g";intro m hm;rw[O] at hm;walk_at"g";intro p hp;refine Ac (xs:=n.map V.ref) (fun j ys g=>az (aA H g)/\g p=some (.lst ys)/\ys=((o.take j).map fun d=>V.int (bun d:Nat))) ⟨⟨ag hp _⟩,ae,rfl⟩ ?_ ?_ ?_
 .rintro j ys g ⟨⟨L⟩,_⟩
  exact L.seq v
 .rintro j u ys g F hF hj ⟨⟨L⟩,R,rfl⟩
  obtain⟨x,ex,rfl⟩:=dw hj;have bp:j<n.length:=(mF.mp ex).1;obtain⟨d,ed⟩:∃d,o[j]? =some d:=⟨_,mC (by have:=a.1;lia)⟩
  obtain⟨dx,i,b,js,l⟩:=a.2 j x d ex ed;have l1:=l.same L;have hz:((o.take j).map fun d=>V.int (bun d:Nat)).length<sizeLine:=by
   rw[be,Oh];exact N8 (show min j o.length<100 by lia) (by decide)
  walk_at"g";refine hF _ _ ⟨⟨fh hp L⟩,ae,?_⟩
  rw[ga ed,NZ]
  rfl
 rintro ys H1 ⟨⟨L⟩,R,rfl⟩
 rw[O,Oi] at R;have hq:SqL K H1 p ((o.map fun d=>((bun d:Nat):Int)).map V.int):=by
  rw[R_];exact SqL.of R
 refine⟨p,o.map fun d=>((bun d:Nat):Int),rfl,hq,(fun z=>by rw[Pp] at z;rw[z] at h0;exact absurd h0 (by decide)),?_⟩
 intro mx h1 h2;have bC:mx=(M:Nat):=by
  obtain⟨d,Y,rfl⟩:=OJ.mp h1;obtain⟨d',X,b'⟩:=hM.mem;have a1:=hM.le d Y;have a2:=h2 _ (OJ.mpr ⟨d',X,rfl⟩)
  lia
 subst bC;have b9:M<=1048576:=by
  obtain⟨d,Y,X⟩:=hM.mem;have:=(hd d Y).1;unfold bun at X
  lia
 walk_at"g";intro I hs;obtain⟨qE,qQ⟩:=q m I hm hs;walk_at"g";refine bc (fun c=> ?_) (fun c=> ?_)
 .exact qE (by lia) H1 L
 have ms:m+I<=7:=by lia
 have b2:I<=64:=by lia
 have b4:m<=64:=by lia
 have hS:8*2^I<=1024:=by
  have:2^I<=2^7:=OI (by decide) (by lia)
  lia
 have eS:(8:Int)*2^I=((8*2^I:Nat):Int):=by push_cast;rfl
 walk_at"g";dsimp only;rw[eS];have T:∀d∈o,lnW d.1<=8*2^I:=fun d hd=>by
  have a1:=hM.le d hd;have a2:=hs.1;unfold bun at a1
  lia
 have b5:2^m*(8*2^I)=8*2^(m+I):=by rw[Rn];ac_rfl
 have bT:2^(m+I)<=2^7:=OI (by decide) ms
 have bA:o.length*(8*2^I)<=2^m*(8*2^I):=PL _ hm.1;generalize aH:8*2^I=S at*;intro U ab;have s2:=L.trans (ag ab (.lst []));have a':upd H1 U (.lst []) U=some (.lst []):=ae;have e:H U=none:=L.free ab;generalize upd H1 U (.lst [])=H2 at*;have b0:=s2.seq v;have bh:∀j,(ao ((o.take j).flatMap fun d=>f9 S d.1)).length<=16*1024:=fun j=>by
  rw[bq,sB (fun d hd=>T d (Ql hd)),Oh]
  exact Nat.mul_le_mul (by lia) hS
 walk_at"g";refine⟨yv (xs:=n.map V.ref) (fun j Z g=>az (∃y,Z=[some (.ref bl),some (.ref rm),some (.int N),some (.int m),some (.int I),some (.int (S:Nat)),some (.ref U),y]/\aA H g/\g U=some (.lst ((ao ((o.take j).flatMap fun d=>f9 S d.1)).map V.int)))) ⟨_,rfl,s2,a'⟩ ?_ ?_ ?_⟩
 .rintro j Z g _ ⟨y,rfl,s3,_⟩
  exact s3.seq v
 .rintro j u Z g hj ⟨y,rfl,s3,hw⟩
  obtain⟨x,ex,rfl⟩:=dw hj;have bp:j<n.length:=(mF.mp ex).1;obtain⟨d,ed⟩:∃d,o[j]? =some d:=⟨_,mC (by have:=a.1;lia)⟩
  obtain⟨dx,i,b,js,l⟩:=a.2 j x d ex ed;have l3:=l.same s3;have bu:lnW d.1<=S:=T d (N4 ed);have a7:S<=2000:=by lia
  have aY:tyV K "list" (.ref U) g:= .inl ⟨rfl,_,SqL.of hw⟩;have b7:=bh j;walk_at"g";intro p4 H4 s4 bb h4;have aU:=s4 _ _ hw;have hz:((ao ((o.take j).flatMap fun d=>f9 S d.1)).map V.int).length+((ao (f9 S d.1)).map V.int).length<=sizeLine:=by
   rw[be,be,bq (f9 S d.1),um bu];exact Oc (show _<=20000 by lia) (by decide)
  walk_at"g";refine⟨_,rfl,fh e (s3.trans s4),?_⟩
  rw[ae,ga ed,OW,j_,NZ]
  simp
 .rintro Z H3 ⟨y,rfl,s3,hw⟩
  rw[O,Oi] at hw;have ew:((ao (o.flatMap fun d=>f9 S d.1)).map V.int).length=o.length*S:=by rw[be,bq,sB T]
  have cm:wY ((2:Int)^m) (S:Int):= .inr ⟨by lia,by lia⟩
  have eN:(2:Int)^m*(S:Int) - (((ao (o.flatMap fun d=>f9 S d.1)).map V.int).length:Nat)=((2^m*S - o.length*S:Nat):Int):=by
   rw[ew,Int.ofNat_sub bA]
   push_cast
   rfl
  have hN:2^m*S - o.length*S<=2000:=by lia
  have aY:tyV K "list" (.ref U) H3:= .inl ⟨rfl,_,SqL.of hw⟩;walk_at"g";refine⟨(congrArg (fun z=>[V.int z]) eN:[V.int ((2:Int)^m*(S:Int) - (((ao (o.flatMap fun d=>f9 S d.1)).map V.int).length:Nat))]=[V.int ((2^m*S - o.length*S:Nat):Int)]),hN,?_⟩
  intro p4 H4 s4 bb h4;have aU:=s4 _ _ hw;have hz:((ao (o.flatMap fun d=>f9 S d.1)).map V.int).length+((ao (stp (2^m*S - o.length*S))).map V.int).length<=sizeLine:=by
   rw[ew,be,bq,qe];exact Oc (show o.length*S+(2^m*S - o.length*S)<=2000 by lia) (by decide)
  walk_at"g";have aP:(ao (o.flatMap fun d=>f9 S d.1)).map V.int++(ao (stp (2^m*S - o.length*S))).map V.int=(ao (iW S (2^m*S) o)).map V.int:=by
   rw[<- NZ, <-j_]
   rfl
  rw[aP];generalize bF:(ao (iW S (2^m*S) o)).map V.int=ws at*;have s5:aA H (upd H4 U (.lst ws)):=fh e (s3.trans s4);have bw:upd H4 U (.lst ws) U=some (.lst ws):=ae;generalize upd H4 U (.lst ws)=H5 at*;have bV:=s5.tup bx;walk_at"g";intro a1 W;have s6:=s5.trans (ag W (.tup [.int rk,.int rb,.int m,.int I,.int N]));have bt:=ag W (.tup [.int rk,.int rb,.int m,.int I,.int N]) _ _ bw;have bG:upd H5 a1 (.tup [.int rk,.int rb,.int m,.int I,.int N]) a1=some (.tup [.int rk,.int rb,.int m,.int I,.int N]):=ae;generalize upd H5 a1 (.tup [.int rk,.int rb,.int m,.int I,.int N])=H6 at*;have bW:=s6.seq v;have b1:=a.same s6;have bY:∀d∈o,d.2.length<=30:=fun d z=>(hd d z).2
  have a7:S<=2000:=by lia
  walk_at"g";intro p7 H7 s7 a6 h7;walk_at"g";intro r ar;have s8:=ag ar (.tup [.ref a1,.ref U,.ref p7]);exact qQ ms r _ ((s6.trans s7).trans s8) ⟨a1,U,p7,ae,s8 _ _ (s7 _ _ bG),(by rw[aH,bF];exact s8 _ _ (s7 _ _ bt)),(by rw[aH];exact s8 _ _ h7),(s6.trans s7).free ar,s5.free W,e,s6.free a6⟩
def jy(p:Addr)(H:Hp):Hp:=fun a=>if a=p then none else H a
theorem BP{p:Addr}{H:Hp}{o:HO}:jy p (upd H p o)=jy p H:=by
 funext a
 unfold jy upd
 split <;> rfl
theorem zA{p:Addr}{H:Hp}:aA (jy p H) H:=fun a o h=>by
 unfold jy at h
 split at h
 .cases h
 .exact h
theorem SqT.del{K:Frag}{H:Hp}{p t:Addr}{xs ys:List V}(C:H p=some (.lst ys))(h:SqT K H t xs):SqT K (jy p H) t xs:=by
 rcases h with(h | ⟨o,h⟩) | h
 .refine .inl (.inl ?_)
  show My.jy p H t=_
  unfold My.jy;rw[fI (eD h C (by intro z;cases z))]
  exact h
 .refine .inl (.inr ⟨o,?_⟩)
  show My.jy p H t=_
  unfold My.jy;rw[fI (eD h C (by intro z;cases z))]
  exact h
 .exact .inr h
theorem bf.del{K:Frag}{C:Addr}{H:Hp}{p x I i b:Addr}{J:List Addr}{is:List Ins}{bs:List Nat}{ys:List V}(l:bf K C H x I i b J is bs)(o:H p=some (.lst ys))(a:i≠p)(U:b≠p):bf K C (jy p H) x I i b J is bs:=by
 refine⟨?_,?_,?_,l.ib,l.ow.mono fun _ _ z=>SqT.del o z,l.va⟩
 .unfold My.jy;rw[fI (eD l.at_ o (by intro z;cases z))]
  exact l.at_
 .unfold My.jy;rw[fI a];exact l.li
 .unfold My.jy;rw[fI U];exact l.lb
theorem Lds.snoc{K:Frag}{C:Addr}{H:Hp}{xs:List Addr}{ds:List Bk}{x U i b:Addr}{J:List Addr}{d:Bk}(h:Lds K C H xs ds)(l:bf K C H x U i b J d.1 d.2):Lds K C H (xs++[x]) (ds++[d]):=by
 refine⟨by rw[NT,NT,h.1];rfl,fun a y e o I=> ?_⟩
 by_cases z:a<xs.length
 .rw[Oo z] at o;rw[Oo (by have:=h.1;lia)] at I
  exact h.2 a y e o I
 .have za:a=xs.length:=by
   have:=(mF.mp o).1;rw[NT,Pc] at this
   lia
  subst za;rw[Oe (by lia),Pm] at o
  rw[h.1,Oe (by lia),Pm] at I
  cases o
  cases I
  exact⟨U,i,b,J,l⟩
def GSt(K:Frag)(H:Hp)(o:List Addr)(C:List (List Ins)):Prop:=o.length=C.length/\∀(j:Nat) (b:Addr) (bk:List Ins),o[j]? =some b->C[j]? =some bk->GBk K H b bk
theorem GSt.same{K:Frag}{H C:Hp}{o:List Addr}{I:List (List Ins)}(s:aA H C)(h:GSt K H o I):GSt K C o I:=⟨h.1,fun j b bk J U=>(h.2 j b bk J U).same s⟩
structure GuB (gs:List (List Ins)):Prop where
 n0:0<gs.length
 n16:gs.length<=16
 va:∀bk∈gs,(∀kn∈bk,VI kn)/\bk.length<=30
def GT(K:Frag)(d:Addr):Sp:=fun c H Q E=>∃(C rm:Addr) (I:List Addr) (J:List (List Ins)) (a b U:Int) (M:Nat),c=[.ref C,.ref rm,.int U]/\SqT K H C (I.map V.ref)/\GSt K H I J/\SqT K H rm [.int a,.int b]/\
 GuB J/\u9 M (J.map dj)/\
 ∀m s,tw J.length m->tw M s->(7<m+s->∀o,aA H o->E (.ref d) none o)/\(m+s<=7->∀r o,aA H o->xr H o r (J.map dj) a b U m s->Q (.ref r) o)
theorem Kh{C CT:Addr}(B:Bi mg)(D:Ij K mg)(j8:Has P w K mg base 4 "masked_block" qT (KD K C))(cQ:vR P w K mg base 8 "code_of_blocks" zB (Ey K C CT)):
  vR P w K mg base 9 "make" vm (GT K CT):=by
 refine D.hasX Jq (fun vs H Q E h=> ?_) (fun f a6 A T s H vs Q E Y h=> ?_)
 .obtain⟨L,rm,g,c,rk,rb,gt,M,rfl,_⟩:=h
  rfl
 obtain⟨L,rm,g,c,rk,rb,gt,M,rfl,hg,I,R,G,hM,q⟩:=h;have aP:=G.n16;refine⟨_,(af (ai (Cu (cQ.mono (by omega)) Y (by rfl) xE (pa3 (PE.nox (mY (by rfl) (by rfl) (by rfl) (bk (sc0:=ah Bz) (N0:=["guest","room","gates"]) ["block"] 1 []) (o7 (pv 0)) (fun _ _ _ _=>(aR (i:=0) (show List.Nodup (["block"]:List Str) by decide) (by rfl) (by left;rfl))) (fun _ _ _ _=>(pcH j8 Y (pa1 (pv 0)))))) (pv 1) (pv 2))))),?_⟩
 try dsimp only[Ln]
 walk_at"g";intro p W;refine sM (xs:=g.map V.ref) (fun j v U=>az (aA H U)/\∃J,U p=some (.lst v)/\v=J.map V.ref/\Lds K C (jy p U) J ((c.take j).map dj)) ⟨⟨ag W _⟩,[],ae,rfl,rfl,fun j x d e=>by simp at e⟩ ?_ ?_ ?_
 .rintro j v U ⟨⟨s1⟩,_⟩
  exact s1.tup hg
 .rintro j u v U F hF hj ⟨⟨s1⟩,J,hp1,rfl,lds⟩
  obtain⟨b,X,rfl⟩:=dw hj;have aU:j<g.length:=(mF.mp X).1;obtain⟨bk,O⟩:∃bk,c[j]? =some bk:=⟨_,mC (by have:=I.1;lia)⟩
  have aY:=(I.2 j b bk X O).same s1;obtain⟨hv,a7⟩:=G.va bk (N4 O);have N:J.length=j:=by
   rw[lds.1,be,Oh];have:=I.1
   lia
  have hz:(J.map V.ref).length<sizeLine:=by
   rw[be,N];exact N8 (show j<100 by have:=I.1;lia) (by decide)
  walk_at"g";intro x dx i b' js H2 n hx hi hb l;have S:=n _ _ hp1;walk_at"g";refine hF _ _ ⟨⟨fh W (s1.trans n)⟩,J++[x],ae,by rw[NZ];rfl,?_⟩
  have sd:aA (jy p U) (jy p (upd H2 p (.lst (J.map V.ref++[V.ref x])))):=fun a o h=>by
   unfold jy at*
   by_cases z:a=p
   .rw[NV z] at h;cases h
   .rw[fI z] at h ⊢;rw[aq z];exact n _ _ h
  have l2:bf K C (jy p (upd H2 p (.lst (J.map V.ref++[V.ref x])))) x dx i b' js (dj bk).1 (dj bk).2:=by
   rw[BP];exact l.del S (Ox (ak hp1 hi)) (Ox (ak hp1 hb))
  rw[ga O,NZ];exact(lds.same sd).snoc l2
 .rintro v H1 ⟨⟨s1⟩,J,hp1,rfl,lds⟩
  rw[be,I.1,Oi] at lds;have ab:=lds.same (zA (H:=H1) (p:=p));have hq:SqL K H1 p (J.map V.ref):=SqL.of hp1;have ar:=s1.tup R;have y:(c.map dj).length=c.length:=by rw[be]
  have au:0<(c.map dj).length:=by rw[y];exact G.n0
  have Z:(c.map dj).length<=16:=by lia
  have aH:∀d∈c.map dj,lnW d.1<=300/\d.2.length<=30:=fun d hd=>by
   obtain⟨bk,h1,rfl⟩:=OJ.mp hd;have h2:=(G.va bk h1).2;have h3:=J9 bk;have h4:=Bv bk bk.length (NW _);rw[Oi] at h4
   lia
  walk_at"g";intro m sx hm hs;rw[y] at hm;obtain⟨q1,q2⟩:=q m sx hm hs;refine⟨fun z U n=>q1 z U (s1.trans n),fun z r U n ca=>q2 z r U (s1.trans n) ?_⟩
  obtain⟨a1,a2,a3,c1,c2,c3,c4,f1,f2,f3,f4⟩:=ca;exact⟨a1,a2,a3,c1,c2,c3,c4,s1.free f1,s1.free f2,s1.free f3,s1.free f4⟩
theorem zN{k:Nat}{base:Int}{s:SpM.Span}:base<=(SpM.fitS k base s).lo/\(SpM.fitS k base s).hi<base+2^k:=by
 unfold SpM.fitS
 split
 .rename_i h;exact h
 .have h3:=SpM.pp k;have o:=O6 ((2:Int)^k - 1) (show(2:Int)^min s.z (SpM.Zn base)≠0 by have:=SpM.pp (min s.z (SpM.Zn base));lia)
  unfold SpM.settled
  split
  .exact⟨OX _,by show base<_;lia⟩
  .exact⟨OX _,by show base+2^k - 1 - _<_;lia⟩
theorem Af{v:Int}{s:Nat}(h:(2:Int)^(s+3)∣v):3<=SpM.Zn v:=by
 by_cases e:v=0
 .subst e;rw[SpM.Zn_zero]
  decide
 .have:=SpM.dvd_Zn e h
  lia
theorem Ja{m s:Nat}(h:m+s<=7)(x:SpM.Span):(SpM.aimS m s x).hi<((8*2^(m+s):Nat):Int)/\3<=(SpM.aimS m s x).z:=by
 have C:=SpM.pp m;have hs:=SpM.pp s;have I:((8*2^(m+s):Nat):Int)=8*(2^m*2^s):=by rw[<- PK];push_cast;rfl
 have e:((2:Int)^m - 1) %2^m=2^m - 1:=PH (by lia) (by lia)
 have J:SpM.aimV m s (2^m - 1)=8*(2^m*2^s) - 8*2^s:=by
  unfold SpM.aimV;rw[e,Qw (2^m - 1) 8,PV,Int.sub_mul,Int.mul_sub]
  lia
 have o:∀v,SpM.aimV m s v<((8*2^(m+s):Nat):Int):=fun v=>by
  have:=(SpM.aim_le h v).2.1
  lia
 unfold SpM.aimS
 split
 .exact⟨o _,Af (SpM.aim_dvd m s _)⟩
 .unfold SpM.settled
  split
  .rename_i z
   exact⟨by show(0:Int)<_;rw[I];have:=Int.mul_pos C hs;lia,Af (v:=0) (s:=s) ⟨0,by rw[Int.mul_zero]⟩⟩
  .exact⟨o _,by show 3<=s+3;lia⟩
def e9(x:Pn)(t:Int)(at_:Nat)(is:List Ins):Prop:=∀o,Sp8 o->okC x t at_ o is
theorem tI{x:Pn}{t:Int}{b:List Ins}:∀{a:List Ins}{at_:Nat}{sp:List SpM.Span},okC x t at_ sp a->okC x t (at_+lnW a) (dM x at_ sp a) b->okC x t at_ sp (a++b)
 | [],_,_,_,h=>h
 | kn::r,at_,sp,h,hb=>⟨h.1,h.2.1,h.2.2.1,tI (a:=r) h.2.2.2 (by
   rw[bg, <-O2] at hb
   exact hb)⟩
theorem xV{x:Pn}{t:Int}(C:SpM.Room x.pk x.pb)(o:x.pm+x.ps<=7):∀{a:List Ins}{at_:Nat}{sp:List SpM.Span},okC x t at_ sp a->Sp8 sp->Sp8 (dM x at_ sp a)
 | [],_,_,_,h=>h
 | _::r,_,_,h,h8=>xV (a:=r) C o h.2.2.2 (se C o h.1 (gU h8))
theorem e9.app{x:Pn}{t:Int}{at_:Nat}{a b:List Ins}(c:SpM.Room x.pk x.pb)(o:x.pm+x.ps<=7)(J:e9 x t at_ a)(U:e9 x t (at_+lnW a) b):e9 x t at_ (a++b):=fun I C=>tI (J I C) (U _ (xV c o (J I C) C))
theorem e9.nil{x:Pn}{t:Int}{at_:Nat}:e9 x t at_ []:=fun _ _=>True.intro
theorem e9.one{x:Pn}{t:Int}{at_:Nat}{kn:Ins}(C:VI kn)(J:at_ %8+a8 kn.1<=8)(o:∀sp,Sp8 sp->aK x.pk x.pb x.pg t kn.1 kn.2 sp=none):e9 x t at_ [kn]:=fun sp I=>⟨C,J,o _ (gU I),True.intro⟩
theorem dZ{pk:Nat}{o pg c:Int}{k:Nat}{ns:List Int}{sp:List SpM.Span}(J:mk8 k->ns.getD 0 0≠7)(a:(k=11\/k=12)->¬lN pk o ns sp)(C:(k=13\/k=14)->tgt k ns %8=0/\tgt k ns<c)
  (U:k=15->(spG sp (ns.getD 0 0)).hi<c/\3<=(spG sp (ns.getD 0 0)).z) (I:k=18->ns.getD 0 0<pg):aK pk o pg c k ns sp=none:=by
 unfold aK;rw[fI (fun z=>J z.1 z.2),fI (fun z=>a z.1 z.2),fI (fun z=>by have:=C z.1;lia),fI (fun z=>by have:=U z.1;lia),fI (fun z=>by have:=I z.1;lia)]
theorem p_{pk:Nat}{o pg c:Int}{k:Nat}{ns:List Int}{sp:List SpM.Span}(h:k=10\/k=16\/k=17)(C:ns.getD 0 0≠7):aK pk o pg c k ns sp=none:=dZ (fun _=>C) (fun z=>by lia) (fun z=>by lia) (fun z=>by lia) (fun z=>by lia)
theorem GA{pk:Nat}{o pg c b:Int}{sp:List SpM.Span}(h:(spG sp b).hi<c/\3<=(spG sp b).z):aK pk o pg c 15 [b] sp=none:=dZ (fun z=>by unfold mk8 at z;lia) (fun z=>by lia) (fun z=>by lia) (fun _=>h) (fun z=>by lia)
theorem zO{pk:Nat}{o pg c:Int}{k:Nat}{ns:List Int}{sp:List SpM.Span}(C:k=13\/k=14)(h:tgt k ns %8=0/\tgt k ns<c):aK pk o pg c k ns sp=none:=dZ (fun z=>by unfold mk8 at z;lia) (fun z=>by lia) (fun _=>h) (fun z=>by lia) (fun z=>by lia)
theorem Eu{pk:Nat}{o pg c:Int}{ns:List Int}{sp:List SpM.Span}:aK pk o pg c 0 ns sp=none:=dZ (fun z=>by unfold mk8 at z;lia) (fun z=>by lia) (fun z=>by lia) (fun z=>by lia) (fun z=>by lia)
theorem Az{sp:List SpM.Span}{s:SpM.Span}(h:Sp8 sp):spG (sp.set 6 s) 6=s:=by
 show(sp.set 6 s).getD 6 SpM.whole=s
 rw[N9,P7 (by rw[h.len];decide)]
 rfl
structure GI (nb:Nat) (g:Int) (kn:Ins):Prop where
 v6:aC 6 262144 kn.1 kn.2
 nm:kn.1≠16/\kn.1≠17
 j1:kn.1=13->kn.2.getD 0 0<nb
 j2:kn.1=14->kn.2.getD 1 0<nb
 gt:kn.1=18->kn.2.getD 0 0<g
theorem aC.w8{k:Nat}{ns:List Int}(h:aC 6 262144 k ns):aC 8 262144 k ns:=by
 rcases h with⟨e,rfl⟩|⟨e,x,v,rfl,o,I,v0,v1⟩|⟨J,a,x,y,z,rfl,o,I,C,U,z0,z1⟩|⟨J,a,x,y,z,rfl,o,I,C,U,z0,z1⟩|⟨b,z,rfl,z0,z1⟩|⟨e,x,z,rfl,o,I,z0,z1⟩|⟨e,y,rfl,C,U⟩|⟨b,x,y,rfl,o,I,C,U⟩
 .exact .inl ⟨e,rfl⟩
 .exact .inr (.inl ⟨e,x,v,rfl,o,by lia,v0,v1⟩)
 .exact .inr (.inr (.inl ⟨J,a,x,y,z,rfl,o,by lia,C,by lia,z0,by lia⟩))
 .exact .inr (.inr (.inr (.inl ⟨J,a,x,y,z,rfl,o,by lia,C,by lia,z0,z1⟩)))
 .exact .inr (.inr (.inr (.inr (.inl ⟨b,z,rfl,z0,z1⟩))))
 .exact .inr (.inr (.inr (.inr (.inr (.inl ⟨e,x,z,rfl,o,by lia,z0,z1⟩)))))
 .exact .inr (.inr (.inr (.inr (.inr (.inr (.inl ⟨e,y,rfl,C,by lia⟩))))))
 .exact .inr (.inr (.inr (.inr (.inr (.inr (.inr ⟨b,x,y,rfl,o,by lia,C,by lia⟩))))))
theorem aC.box0{bx I:Int}{k:Nat}{ns:List Int}(h:aC bx I k ns)(hm:mk8 k):ns.getD 0 0<bx:=by
 obtain⟨x,r,C,_,o⟩:=h.hd (by unfold mk8 at hm;lia)
 rw[C];exact o
theorem CV{n:Int}{o m s:Nat}(I:0<=n)(a:n<o)(hm:o<=2^m):(n*((8*2^s:Nat):Int)) %8=0/\0<=n*((8*2^s:Nat):Int)/\n*((8*2^s:Nat):Int)<((8*2^(m+s):Nat):Int):=by
 have e:n*((8*2^s:Nat):Int)=8*(n*2^s):=by push_cast;rw[Int.mul_left_comm]
 have hs:=SpM.pp s;have b:(o:Int)<=2^m:=by exact_mod_cast hm
 have J:n*2^s<2^m*2^s:=Int.mul_lt_mul_of_pos_right (by lia) hs
 have U:=Ro I (Ph hs);have C:((8*2^(m+s):Nat):Int)=8*(2^m*2^s):=by rw[<- PK];push_cast;rfl
 rw[e,C]
 lia
theorem K5{m s:Nat}(h:m+s<=7):((8*2^(m+s):Nat):Int)<=1024:=by
 have:2^(m+s)<=2^7:=OI (by decide) h
 lia
theorem tu{at_:Nat}{sp:List SpM.Span}(h:at_ %8≠0):aJ at_ sp=sp:=by unfold aJ;rw[fI h]
theorem BO{x:Pn}{v at_:Nat}{kn:Ins}(E:SpM.Room x.pk x.pb)(j:x.pm+x.ps<=7)(h:GI v x.pg kn)(q:v<=2^x.pm)(o:at_ %8+lnW (grp kn)<=8):e9 x ((8*2^(x.pm+x.ps):Nat):Int) at_ ((grp kn).map (plc (8*2^x.ps))):=by
 obtain⟨k,g⟩:=kn;obtain⟨e,r,y,A,u⟩:=h;dsimp only at e r y A u;have C:=uQ (kn:=(k,g)) e.w8
 by_cases J:k=15
 .obtain⟨b,rfl,b0,b1⟩:=e.thr J;subst J;have l:grp (15,[b])=[(17,[6,b]),(15,[6])]:=rfl;rw[l] at o C ⊢;have o:at_ %8+2<=8:=o;intro I i;have v1:=C (17,[6,b]) N3;have v2:=C (15,[6]) (N2 _ N3);show okC x _ at_ I [(17,[6,b]),(15,[6])]
  refine⟨v1,by show at_ %8+1<=8;lia,?_,v2,by show(at_+1) %8+1<=8;lia,?_,True.intro⟩
  .exact p_ (k:=17) (.inr (.inr rfl)) (by show(6:Int)≠7;decide)
  .rw[tu (at_:=at_+a8 17) (by show(at_+1) %8≠0;lia)]
   refine GA ?_
   show(spG ((aJ at_ I).set 6 (SpM.aimS x.pm x.ps (spG (aJ at_ I) b))) 6).hi<_/\3<=(spG ((aJ at_ I).set 6 (SpM.aimS x.pm x.ps (spG (aJ at_ I) b))) 6).z
   rw[Az (gU i)];exact Ja j _
 by_cases U:k=11\/k=12
 .obtain⟨a,b,n,rfl,a0,a1,b0,b1,n0,n1⟩:=e.acc U;have k1:a8 k=1:=by unfold a8;rw[fI (by lia)]
  have p:plc (8*2^x.ps) (k,[a,6,0])=(k,[a,6,0]):=by unfold plc;rw[fI (by show ¬k=13;lia),fI (by show ¬k=14;lia)]
  have f:∀(I:List SpM.Span) (s:SpM.Span),Sp8 I->aK x.pk x.pb x.pg ((8*2^(x.pm+x.ps):Nat):Int) k [a,6,0] (I.set 6 (SpM.fitS x.pk x.pb s))=none:=fun I s i=>by
   refine dZ (fun _=>by show a≠7;lia) (fun _=> ?_) (fun z=>by lia) (fun z=>by lia) (fun z=>by lia)
   unfold lN;show ¬((spG (I.set 6 (SpM.fitS x.pk x.pb s)) 6).lo+0<x.pb\/x.pb+2^x.pk<=(spG (I.set 6 (SpM.fitS x.pk x.pb s)) 6).hi+0)
   rw[Az i];have:=zN (k:=x.pk) (base:=x.pb) (s:=s)
   lia
  by_cases B:n=0
  .subst B;have l:grp (k,[a,b,0])=[(16,[6,b]),(k,[a,6,0])]:=by
    unfold grp;rw[fI J,NV U]
    rfl
   rw[l] at o C ⊢;rw[bg,iQ] at o;have o:at_ %8+(1+a8 k)<=8:=o;intro I i;have v1:=C (16,[6,b]) N3;have v2:=C (k,[a,6,0]) (N2 _ N3);show okC x _ at_ I [(16,[6,b]),plc (8*2^x.ps) (k,[a,6,0])]
   rw[p];refine⟨v1,by show at_ %8+1<=8;lia,?_,v2,by show(at_+1) %8+a8 k<=8;lia,?_,True.intro⟩
   .exact p_ (k:=16) (.inr (.inl rfl)) (by show(6:Int)≠7;decide)
   .rw[tu (by show(at_+1) %8≠0;lia)]
    exact f _ _ (gU i)
  .have l:grp (k,[a,b,n])=[(10,[6,b,n]),(16,[6,6]),(k,[a,6,0])]:=by
    unfold grp;rw[fI J,NV U,fI (show ¬(k,[a,b,n]).2.getD 2 0=0 from B)]
    rfl
   rw[l] at o C ⊢;rw[bg,bg,iQ] at o;have o:at_ %8+(1+(1+a8 k))<=8:=o;intro I i;have v1:=C (10,[6,b,n]) N3;have v2:=C (16,[6,6]) (N2 _ N3);have v3:=C (k,[a,6,0]) (N2 _ (N2 _ N3));show okC x _ at_ I [(10,[6,b,n]),(16,[6,6]),plc (8*2^x.ps) (k,[a,6,0])]
   rw[p];refine⟨v1,by show at_ %8+1<=8;lia,?_,v2,by show(at_+1) %8+1<=8;lia,?_,v3,by show(at_+1+1) %8+a8 k<=8;lia,?_,True.intro⟩
   .exact p_ (k:=10) (.inl rfl) (by show(6:Int)≠7;decide)
   .exact p_ (k:=16) (.inr (.inl rfl)) (by show(6:Int)≠7;decide)
   .rw[tu (by show(at_+1+1) %8≠0;lia)]
    exact f _ _ (gU (se E j v1 (gU i)))
 have l:grp (k,g)=[(k,g)]:=by
  unfold grp;rw[fI J,fI U]
 rw[l] at o ⊢;rw[iQ] at o;dsimp only at o;have F:=K5 j
 by_cases d:k=13
 .obtain⟨n,rfl,n0,n1⟩:=e.jmp d;subst d;have m:=CV (s:=x.ps) n0 (y rfl) q;refine e9.one (kn:=(13,[n*((8*2^x.ps:Nat):Int)])) (.inr (.inr (.inr (.inr (.inl ⟨.inl rfl,_,rfl,m.2.1,by lia⟩))))) o (fun I _=> ?_)
  exact zO (k:=13) (.inl rfl) ⟨m.1,m.2.2⟩
 by_cases c:k=14
 .obtain⟨a,n,rfl,a0,a1,n0,n1⟩:=e.jif c;subst c;have m:=CV (s:=x.ps) n0 (A rfl) q;refine e9.one (kn:=(14,[a,n*((8*2^x.ps:Nat):Int)])) (.inr (.inr (.inr (.inr (.inr (.inl ⟨rfl,a,_,rfl,a0,by lia,m.2.1,by lia⟩)))))) o (fun I _=> ?_)
  exact zO (k:=14) (.inr rfl) ⟨m.1,m.2.2⟩
 have D:plc (8*2^x.ps) (k,g)=(k,g):=by unfold plc;rw[fI d,fI c]
 show e9 x _ at_ [plc (8*2^x.ps) (k,g)]
 rw[D];refine e9.one e.w8 o (fun I _=> ?_)
 exact dZ (fun z=>by have:=e.box0 z;show g.getD 0 0≠7;lia) (fun z=>absurd z U) (fun z=>z.elim (fun z=>absurd z d) (fun z=>absurd z c)) (fun z=>absurd z J) u
theorem xY{x:Pn}{t:Int}{kn:Ins}(J:SpM.Room x.pk x.pb)(o:x.pm+x.ps<=7)(I:VI kn)(k1:kn.1≠1)(C:∀sp,Sp8 sp->aK x.pk x.pb x.pg t kn.1 kn.2 sp=none):∀(n at_:Nat),e9 x t at_ (List.replicate n kn)
 | 0,_=>e9.nil
 | n+1,at_=>by
  rw[OG];have e:a8 kn.1=1:=by unfold a8;rw[fI k1]
  exact e9.app (a:=[kn]) J o (e9.one I (by rw[e];lia) C) (xY J o I k1 C n _)
theorem Dy{x:Pn}{t:Int}(C:SpM.Room x.pk x.pb)(o:x.pm+x.ps<=7)(n at_:Nat):e9 x t at_ (List.replicate n nop):=
 xY C o zy (by decide) (fun I _=>p_ (k:=10) (.inl rfl) (by show(0:Int)≠7;decide)) n at_
theorem yd{x:Pn}{t:Int}(C:SpM.Room x.pk x.pb)(o:x.pm+x.ps<=7)(n at_:Nat):e9 x t at_ (List.replicate n ((0,[]):Ins)):=
 xY C o (.inl ⟨rfl,rfl⟩) (by decide) (fun I _=>Eu) n at_
theorem Dz(S n:Nat):(ug n).map (plc S)=ug n:=by
 unfold ug;rw[List.map_replicate]
 rfl
theorem Hr(is g:List Ins)(h:lnW g<=8):lnW (cP is g) %8+lnW g<=8:=by
 unfold cP
 split
 .assumption
 .rw[dg,wP]
  lia
theorem IL{x:Pn}{t:Int}{at_ S:Nat}{is g:List Ins}(C:SpM.Room x.pk x.pb)(o:x.pm+x.ps<=7)(h:e9 x t at_ (is.map (plc S))):e9 x t at_ ((cP is g).map (plc S)):=by
 unfold cP
 split
 .exact h
 .rw[NZ,Dz];exact e9.app C o h (Dy C o _ _)
theorem Ae{x:Pn}{U at_:Nat}{bk:List Ins}(I:SpM.Room x.pk x.pb)(o:x.pm+x.ps<=7)(h:∀kn∈bk,GI U x.pg kn)(C:U<=2^x.pm)(J:at_ %8=0):∀j,j<=bk.length->e9 x ((8*2^(x.pm+x.ps):Nat):Int) at_ ((dj (bk.take j)).1.map (plc (8*2^x.ps)))
 | 0,_=>e9.nil
 | j+1,hj=>by
  have ih:=Ae I o h C J j (by lia)
  have e:bk[j]? =some bk[j]:=mC (by lia)
  rw[qb e];show e9 x _ at_ ((cP _ _++grp bk[j]).map _)
  rw[NZ];have b:=wf bk[j];have a:=Hr (dj (bk.take j)).1 (grp bk[j]) (by lia)
  refine e9.app I o (IL I o ih) (BO I o (h _ (O0 _)) C ?_)
  rw[qc]
  lia
theorem Eo{x:Pn}{U at_:Nat}{bk:List Ins}(J:SpM.Room x.pk x.pb)(o:x.pm+x.ps<=7)(h:∀kn∈bk,GI U x.pg kn)(C:U<=2^x.pm)(I:at_ %8=0):e9 x ((8*2^(x.pm+x.ps):Nat):Int) at_ (f9 (8*2^x.ps) (dj bk).1):=by
 have:=Ae J o h C I bk.length (NW _);rw[Oi] at this;exact e9.app J o this (yd J o _ _)
def hG(k:Nat):Prop:=k=0\/k=13\/k=15
structure Je (g:Int) (gs:List (List Ins)):Prop where
 n0:0<gs.length
 n16:gs.length<=16
 blk:∀bk∈gs,(∀kn∈bk,GI gs.length g kn)/\bk.length<=30/\∃pre kn,bk=pre++[kn]/\hG kn.1
theorem Je.gub{g:Int}{C:List (List Ins)}(h:Je g C):GuB C:=⟨h.n0,h.n16,fun bk o=>⟨fun J I=>((h.blk bk o).1 J I).v6.w8,(h.blk bk o).2.1⟩⟩
theorem zW{x:Pn}{t:Int}(C:SpM.Room x.pk x.pb)(o:x.pm+x.ps<=7):∀{ds:List Bk}{at_:Nat},at_ %8=0->(∀d∈ds,(∀a,a %8=0->e9 x t a (f9 (8*2^x.ps) d.1))/\lnW d.1<=8*2^x.ps)->e9 x t at_ (ds.flatMap fun d=>f9 (8*2^x.ps) d.1)
 | [],_,_,_=>e9.nil
 | d::r,at_,hat,h=>by
  rw[Qb];obtain⟨I,U⟩:=h d N3;refine e9.app C o (I _ hat) (zW C o ?_ (fun e J=>h e (N2 _ J)))
  rw[um U]
  lia
theorem xa{x:Pn}{t:Int}{C:Nat}{ds:List Bk}(I:SpM.Room x.pk x.pb)(o:x.pm+x.ps<=7)(h:∀d∈ds,(∀a,a %8=0->e9 x t a (f9 (8*2^x.ps) d.1))/\lnW d.1<=8*2^x.ps):e9 x t 0 (iW (8*2^x.ps) C ds):=
 e9.app I o (zW I o rfl h) (yd I o _ _)
def jR(is:List Ins):Prop:=∃o C,is=o++[C]/\hG C.1
theorem jR.app{a b:List Ins}(h:jR b):jR (a++b):=by
 obtain⟨o,I,rfl,C⟩:=h;exact⟨a++o,I,by rw[On],C⟩
theorem jR.stops{a:List Ins}{n:Nat}(h:jR a):jR (a++List.replicate n (0,[])):=by
 cases n with
 | zero=>rw[List.replicate_zero,Oz];exact h
 | succ n=>exact jR.app ⟨List.replicate n (0,[]),(0,[]),PP,.inl rfl⟩
theorem jR.plc{is:List Ins}{S:Nat}(h:jR is):jR (is.map (plc S)):=by
 obtain⟨o,I,rfl,C⟩:=h;exact⟨o.map (My.plc S),My.plc S I,by rw[NZ];rfl,by rw[Du];exact C⟩
theorem FO{kn:Ins}(h:hG kn.1):jR (grp kn):=by
 obtain⟨k,o⟩:=kn;unfold grp
 split
 .exact⟨[(17,[6,o.getD 0 0])],(15,[6]),rfl,.inr (.inr rfl)⟩
 .split
  .rename_i z
   unfold hG at h;dsimp only at z h
   lia
  .exact⟨[],(k,o),rfl,h⟩
theorem FZ(bk:List Ins)(kn:Ins):dj (bk++[kn])=LA (dj bk) (grp kn):=by
 unfold dj;rw[O4]
 rfl
theorem Hy{bk:List Ins}(h:jR bk):jR (dj bk).1:=by
 obtain⟨o,I,rfl,C⟩:=h;rw[FZ];exact jR.app (FO C)
theorem Ci{S:Nat}:∀{ds:List Bk},ds≠[]->(∀d∈ds,jR d.1)->jR (ds.flatMap fun d=>f9 S d.1)
 | [],h,_=>absurd rfl h
 | d::[],_,h=>by
  rw[Qb];show jR (f9 S d.1++[])
  rw[Oz];exact(h d N3).plc.stops
 | d::e::r,_,h=>by
  rw[Qb];exact jR.app (Ci (by intro z;cases z) (fun f o=>h f (N2 _ o)))
theorem Aa{S o:Nat}{ds:List Bk}(C:ds≠[])(h:∀d∈ds,jR d.1):jR (iW S o ds):=(Ci C h).stops
theorem BL{x:Pn}{o:List (List Ins)}(b:SpM.Room x.pk x.pb)(J:x.pm+x.ps<=7)(h:Je x.pg o)(hm:o.length<=2^x.pm)(hs:∀bk∈o,lnW (dj bk).1<=8*2^x.ps):eZ x (iW (8*2^x.ps) (2^x.pm*(8*2^x.ps)) (o.map dj)):=by
 have c:lnW (iW (8*2^x.ps) (2^x.pm*(8*2^x.ps)) (o.map dj))=8*2^(x.pm+x.ps):=by
  rw[zH (fun d hd=>by obtain⟨bk,C,rfl⟩:=OJ.mp hd;exact hs bk C) (by rw[be];exact PL _ hm),Rn]
  ac_rfl
 have I:=(bq (iW (8*2^x.ps) (2^x.pm*(8*2^x.ps)) (o.map dj))).trans c;have U:okC x (ao (iW (8*2^x.ps) (2^x.pm*(8*2^x.ps)) (o.map dj))).length 0 w8 (iW (8*2^x.ps) (2^x.pm*(8*2^x.ps)) (o.map dj)):=by
  rw[I];refine xa b J (fun d hd=> ?_) w8 yJ
  obtain⟨bk,C,rfl⟩:=OJ.mp hd;exact⟨fun a e=>Eo b J (h.blk bk C).1 hm e,hs bk C⟩
 refine⟨I,U,Aa (fun z=>by rw[Pp] at z;have:=h.n0;rw[z] at this;exact absurd this (by decide)) (fun d hd=> ?_),xW U⟩
 obtain⟨bk,C,rfl⟩:=OJ.mp hd;exact Hy (h.blk bk C).2.2
theorem E7{x:Pn}{T:Int}{kn:Ins}{r:List Ins}:∀{pre:List Ins}{at_:Nat}{sp:List SpM.Span},okC x T at_ sp (pre++kn::r)->VI kn/\(at_+lnW pre) %8+a8 kn.1<=8/\aK x.pk x.pb x.pg T kn.1 kn.2 (aJ (at_+lnW pre) (dM x at_ sp pre))=none
 | [],_,_,h=>⟨h.1,h.2.1,h.2.2.1⟩
 | j::p,at_,sp,h=>by
  have ih:=E7 (pre:=p) (at_:=at_+a8 j.1) h.2.2.2;rw[bg, <-O2];exact ih
theorem JV{kn:Ins}{pre r:List Ins}(h:VI kn):lI (ao (pre++kn::r)) (lnW pre:Nat)=some kn:=by
 rw[j_,vc, <-On, <-bq];exact zG h
structure Kn where
 sp:List SpM.Span
 ft:Option (Int × Int)
noncomputable def kn0:Kn:=⟨w8,none⟩
noncomputable abbrev bnO(kn:Ins):Int × Int:=(kn.2.getD 1 0,kn.2.getD 2 0)
noncomputable def thG(rk:Nat)(rb:Int)(s:Kn)(kn:Ins):List Ins:=
 if ¬(kn.1=11\/kn.1=12) then grp kn
 else if ¬lN rk rb kn.2 s.sp then[kn]
 else if s.ft=some (bnO kn) then[(kn.1,[kn.2.getD 0 0,6,0])]
 else grp kn
noncomputable def u4(m:Ins)(ft:Option (Int × Int)):Bool:=decide (m.1=18) || (decide (mk8 m.1) && (decide (m.2.getD 0 0=6) || (match ft with | none=>false | some f=>decide (m.2.getD 0 0=f.1))))
noncomputable def lrn1(rk:Nat)(rb:Int)(kn:Ins)(s:Kn)(m:Ins):Kn:=⟨ck rk rb 0 0 m.1 m.2 s.sp,if m.1=16 then some (bnO kn) else if u4 m s.ft=true then none else s.ft⟩
noncomputable def lrnG(rk:Nat)(rb:Int)(kn:Ins)(s:Kn)(g:List Ins):Kn:=g.foldl (lrn1 rk rb kn) s
noncomputable def knB(is:List Ins)(s:Kn):Kn:=if lnW is %8=0 then kn0 else s
noncomputable def thS(rk : Nat)(rb : Int)(st : Bk × Kn)(kn : Ins) : Bk × Kn :=
  ((cP st.1.1 (thG rk rb st.2 kn) ++ thG rk rb (knB (cP st.1.1 (thG rk rb st.2 kn)) st.2) kn, st.1.2 ++ [lnW (cP st.1.1 (thG rk rb st.2 kn))]),
   lrnG rk rb kn (knB (cP st.1.1 (thG rk rb st.2 kn)) st.2) (thG rk rb (knB (cP st.1.1 (thG rk rb st.2 kn)) st.2) kn))
noncomputable def thB(rk:Nat)(rb:Int)(b:List Ins):Bk × Kn:=b.foldl (thS rk rb) (([],[]),kn0)
theorem s_{rk:Nat}{rb:Int}{b:List Ins}{j:Nat}{kn:Ins}(h:b[j]? =some kn):thB rk rb (b.take (j+1))=thS rk rb (thB rk rb (b.take j)) kn:=by
 unfold thB;rw[PN,h,O4]
 rfl
theorem gH(rk:Nat)(rb:Int)(s:Kn)(kn:Ins):thG rk rb s kn=grp kn\/((kn.1=11\/kn.1=12)/\¬lN rk rb kn.2 s.sp/\thG rk rb s kn=[kn])\/((kn.1=11\/kn.1=12)/\s.ft=some (bnO kn)/\thG rk rb s kn=[(kn.1,[kn.2.getD 0 0,6,0])]):=by
 unfold thG
 split
 .exact .inl rfl
 .rename_i h
  have h:kn.1=11\/kn.1=12:=Decidable.not_not.mp h
  split
  .rename_i h2;exact .inr (.inl ⟨h,h2,rfl⟩)
  .split
   .rename_i h3;exact .inr (.inr ⟨h,h3,rfl⟩)
   .exact .inl rfl
theorem zF{kn:Ins}(h:VI kn)(o:kn.1=11\/kn.1=12):VI (kn.1,[kn.2.getD 0 0,6,0]):=by
 obtain⟨k,C⟩:=kn;obtain⟨a,b,n,e,a0,a1,I,J,n0,n1⟩:=aC.acc h o;dsimp only at e o;subst e;exact .inr (.inr (.inr (.inl ⟨by show 10<=k;lia,by show k<=12;lia,a,6,0,rfl,a0,a1,by decide,by decide,by decide,by decide⟩)))
theorem qj{rk:Nat}{rb:Int}{s:Kn}{kn:Ins}(h:VI kn):∀g∈thG rk rb s kn,VI g:=by
 intro g o;rcases gH rk rb s kn with e | ⟨hk,_,e⟩|⟨hk,_,e⟩
 .rw[e] at o;exact uQ h g o
 .rw[e,Og] at o;rw[o];exact h
 .rw[e,Og] at o;rw[o];exact zF h hk
theorem wv(rk:Nat)(rb:Int)(s:Kn)(kn:Ins):1<=lnW (thG rk rb s kn)/\lnW (thG rk rb s kn)<=3:=by
 rcases gH rk rb s kn with e | ⟨hk,_,e⟩|⟨hk,_,e⟩
 .rw[e];exact wf kn
 .rw[e,iQ];have:=iK kn.1;lia
 .rw[e,iQ];have:=iK kn.1;exact⟨this.1,by show a8 kn.1<=3;lia⟩
theorem FX(rk:Nat)(rb:Int)(s:Kn)(kn:Ins):(thG rk rb s kn).length<=3:=by
 rcases gH rk rb s kn with e | ⟨hk,_,e⟩|⟨hk,_,e⟩
 .rw[e];exact Fz kn
 .rw[e];simp
 .rw[e];simp
theorem JS{kn:Ins}(h:kn.1≠16):∀g∈grp kn,g.1=16->kn.1=11\/kn.1=12:=by
 intro g o e;unfold grp at o
 split at o
 .simp only[Od,Oy,O7] at o
  rcases o with rfl | rfl
  .exact absurd (show(17:Nat)=16 from e) (by decide)
  .exact absurd (show(15:Nat)=16 from e) (by decide)
 .split at o
  .assumption
  .rw[Og] at o;rw[o] at e;exact absurd e h
theorem Jj{rk:Nat}{rb:Int}{s:Kn}{kn:Ins}(h:kn.1≠16):∀g∈thG rk rb s kn,g.1=16->kn.1=11\/kn.1=12:=by
 intro g o e;rcases gH rk rb s kn with z | ⟨hk,_,z⟩|⟨hk,_,z⟩
 .rw[z] at o;exact JS h g o e
 .exact hk
 .exact hk
theorem Ka(is g:List Ins):(cP is g).length<=is.length+8:=by
 unfold cP
 split
 .lia
 .rw[NT];unfold ug;rw[OA]
  lia
theorem sL(rk:Nat)(rb:Int)(b:List Ins):∀j,j<=b.length->lnW (thB rk rb (b.take j)).1.1<=if j %2=0 then 4*j else 4*(j - 1)+3
 | 0,_=>by simp [thB,lnW]
 | j+1,h=>by
  have ih:=sL rk rb b j (by lia)
  have e:b[j]? =some b[j]:=mC (by lia)
  rw[s_ e];show lnW (cP _ _++thG rk rb _ b[j])<=_
  rw[dg];have C:=(CD (thB rk rb (b.take j)).1.1 (thG rk rb (thB rk rb (b.take j)).2 b[j])).2;have I:=wv rk rb (thB rk rb (b.take j)).2 b[j];have o:=wv rk rb (knB (cP (thB rk rb (b.take j)).1.1 (thG rk rb (thB rk rb (b.take j)).2 b[j])) (thB rk rb (b.take j)).2) b[j];generalize lnW (cP (thB rk rb (b.take j)).1.1 (thG rk rb (thB rk rb (b.take j)).2 b[j]))=x at*;generalize lnW (thB rk rb (b.take j)).1.1=y at*
  by_cases c:j %2=0
  .rw[NV c] at ih;rw[fI (by lia)]
   lia
  .rw[fI c] at ih;rw[NV (by lia)]
   lia
theorem Lx(rk:Nat)(rb:Int)(b:List Ins):lnW (thB rk rb b).1.1<=4*b.length+3:=by
 have:=sL rk rb b b.length (NW _);rw[Oi] at this
 split at this <;> lia
theorem EC(rk:Nat)(rb:Int)(b:List Ins):∀j,j<=b.length->(thB rk rb (b.take j)).1.2.length=j
 | 0,_=>by simp [thB]
 | j+1,h=>by
  have e:b[j]? =some b[j]:=mC (by lia)
  rw[s_ e];show((thB rk rb (b.take j)).1.2++[_]).length=_
  rw[NT,EC rk rb b j (by lia)]
  rfl
theorem Kt{rk:Nat}{rb:Int}(o:SpM.Room rk rb){kn:Ins}:∀{g:List Ins}{s:Kn},(∀m∈g,VI m)->Sp8 s.sp->Sp8 (lrnG rk rb kn s g).sp
 | [],_,_,h=>h
 | m::r,s,hv,h=>Kt o (g:=r) (s:=lrn1 rk rb kn s m) (fun x C=>hv x (N2 _ C)) (se o (by decide) (hv m N3) h)
noncomputable abbrev kfs(pl sa:Addr)(o:V):List (Str × V):=[("plan",.ref pl),("spans",.ref sa),("fitted",o)]
def FtA(K:Frag)(H:Hp)(v:V):Option (Int × Int)->Prop
 | none=>v= .non
 | some f=>∃t,v= .ref t/\SqT K H t (([f.1,f.2]:List Int).map V.int)
theorem FtA.mono{K:Frag}{H C:Hp}{v:V}{o:Option (Int × Int)}(f:∀t xs,SqT K H t xs->SqT K C t xs)(h:FtA K H v o):FtA K C v o:=by
 cases o with
 | none=>exact h
 | some z=>obtain⟨t,e,h⟩:=h;exact⟨t,e,f _ _ h⟩
structure lV (K:Frag) (C:Addr) (H:Hp) (x dx:Addr) (rk:Nat) (rb:Int) (s:Kn):Prop where
 ex:∃pl sa fv,H x=some (.ins C dx (kfs pl sa fv))/\Pl H pl rk rb 0 0 0/\SpT K H sa s.sp/\FtA K H fv s.ft
 s8:Sp8 s.sp
theorem SpT.keep{H o:Hp}{a:Addr}{sp:List SpM.Span}(f:∀t xs,SqT K H t xs->SqT K o t xs)(g:∀t xs,H t=some (.tup xs)->o t=some (.tup xs))(h:SpT K H a sp):SpT K o a sp:=let ⟨as,h1,h2⟩:=h;⟨as,f _ _ h1,h2.mono g⟩
theorem lV.same{K:Frag}{C:Addr}{H o:Hp}{x I:Addr}{rk:Nat}{rb:Int}{s:Kn}(e:aA H o)(h:lV K C H x I rk rb s):lV K C o x I rk rb s:=by
 obtain⟨⟨J,sa,a,b,c,d,f⟩,U⟩:=h;exact⟨⟨J,sa,a,e _ _ b,c.mv e,d.same e,f.mono (fun _ _ z=>e.tup z)⟩,U⟩
theorem gO{K:Frag}{H I:Hp}{x t:Addr}{C U:Addr}{fs:List (Str × V)}{xs:List V}(b:But x H I)(J:H x=some (.ins C U fs))(h:SqT K H t xs):SqT K I t xs:=by
 rcases h with(h | ⟨o,h⟩) | h
 .exact .inl (.inl (b _ _ (eD h J (by intro z;cases z)) h))
 .exact .inl (.inr ⟨o,b _ _ (eD h J (by intro z;cases z)) h⟩)
 .exact .inr h
theorem sD{H o:Hp}{x a:Addr}{C U:Addr}{fs:List (Str × V)}{k:Nat}{I:Int}{m s:Nat}{g:Int}(b:But x H o)(J:H x=some (.ins C U fs))(h:Pl H a k I m s g):Pl o a k I m s g:=
 ⟨b _ _ (eD h.at_ J (by intro z;cases z)) h.at_,h.room,h.ms⟩
theorem tX{H o:Hp}{x a:Addr}{C J:Addr}{fs:List (Str × V)}{sp:List SpM.Span}(b:But x H o)(I:H x=some (.ins C J fs))(h:SpT K H a sp):SpT K o a sp:=
 h.keep (fun _ _ z=>gO b I z) (fun _ _ z=>b _ _ (eD z I (by intro z;cases z)) z)
theorem uk:∀k,k<19->(V.str (aN k)=V.str "gate"↔k=18):=by decide +kernel
theorem CQ:∀k,k<19->(V.str (aN k)=V.str "fit"↔k=16):=by decide +kernel
def Fh(K:Frag)(C:Addr):Sp:=fun b H Q _=>∃(U:Hp) (x a rm:Addr) (I:Nat) (J:Int),b=[.ref x,.ref rm]/\H x=some (.ins C a [])/\U x=none/\aA U H/\SqT K H rm [.int I,.int J]/\SpM.Room I J/\
 ∀o,aA U o->lV K C o x a I J kn0->Q .non o
def Dp(K:Frag)(C:Addr):Sp:=fun a H Q _=>∃(x U:Addr) (I:Nat) (J:Int) (s:Kn),a=[.ref x]/\lV K C H x U I J s/\∀o,But x H o->lV K C o x U I J kn0->Q .non o
def KS(K:Frag)(C:Addr):Sp:=fun b H Q _=>∃(x c t:Addr) (U:Nat) (a:Int) (s:Kn) (I:Ins),b=[.ref x,.ref t]/\lV K C H x c U a s/\SqT K H t (aD I.1 I.2)/\VI I/\
 ∀(g:Addr) (J:List Addr) (o:Hp),aA H o->SqT K o g (J.map V.ref)->eE K o J (thG U a s I)->Q (.ref g) o
def GS(K:Frag)(C:Addr):Sp:=fun J H Q _=>∃(x U t:Addr) (o:Nat) (I:Int) (s:Kn) (m:Ins),J=[.ref x,.ref t]/\lV K C H x U o I s/\SqT K H t (aD m.1 m.2)/\VI m/\Q (.bl (u4 m s.ft)) H
def Kq(K:Frag)(C:Addr):Sp:=fun d H Q _=>∃(x c t g:Addr) (b:List Addr) (U:Nat) (a:Int) (s:Kn) (o:Ins) (I:List Ins),d=[.ref x,.ref t,.ref g]/\lV K C H x c U a s/\SqT K H t (aD o.1 o.2)/\VI o/\SqT K H g (b.map V.ref)/\eE K H b I/\(∀m∈I,VI m)/\
 (∀m∈I,m.1=16->o.1=11\/o.1=12)/\I.length<=10/\∀J,But x H J->lV K C J x c U a (lrnG U a o s I)->Q .non J
theorem tS{C:Addr}(B:Bi mg)(c:dW K mg "Known" C)(n:nI K C)(D:ig K C)(W:Has P w K mg base 2 "first_spans" [] (J5 K)):cx P w K mg base 3 C "__init__" Cn (Fh K C):=by
 refine D.has c.cl tZ (fun M H Q E h=> ?_) (fun f N A p s H M Q E S h=> ?_)
 .obtain⟨F,x,e,rm,I,U,rfl,_⟩:=h
  rfl
 obtain⟨F,x,e,rm,I,U,rfl,l,z,sm,L,R,q⟩:=h;have hc:=c.cl;have n1:=n.plan;have n2:=n.spans;have n3:=n.fitted;have Y:atI [V.int I,V.int U] 0=some (.int I):=aQ (j:=0) rfl;have Z:atI [V.int I,V.int U] 1=some (.int U):=aQ (j:=1) rfl
 refine⟨_,(aa (cu (pv 0) (aB (pa5 (pX aj (pv 1) ad) (pX aj (pv 1) ad) ad ad ad)) (by rfl))
   (aa (cu (pv 0) (dL (W.mono (by omega)) S (by rfl)) (by rfl))
   (af (cu (pv 0) eP (by rfl))))),?_⟩
 try dsimp only[aT]
 walk_at"g";intro J d;have G:x≠J:=ak l d;have m:upd H J (.tup [.int I,.int U,.int 0,.int 0,.int 0]) x=some (.ins C e []):=by rw[aq G];exact l
 have u:=ag d (.tup [.int I,.int U,.int 0,.int 0,.int 0]);have v:upd H J (.tup [.int I,.int U,.int 0,.int 0,.int 0]) J=some (.tup [.int I,.int U,.int 0,.int 0,.int 0]):=ae;generalize upd H J (.tup [.int I,.int U,.int 0,.int 0,.int 0])=X at*;walk_at"g";intro sa b g i;have y:b x=some (.ins C e [("plan",.ref J)]):=g _ _ ae;have O:b J=some (.tup [.int I,.int U,.int 0,.int 0,.int 0]):=g _ _ (by rw[aq (Ox G)];exact v)
 have T:aA F b:=fun a o h=>g _ _ (by rw[aq (ak h z)];exact u _ _ (sm _ _ h))
 clear g u m v l;walk_at"g";have b3:But x b (upd (upd b x (.ins C e (bR "spans" (.ref sa) [("plan",.ref J)]))) x (.ins C e (bR "fitted" .non (bR "spans" (.ref sa) [("plan",.ref J)])))):=fun a o r h=>by rw[aq r,aq r];exact h
 refine q _ (fun a o h=>b3 _ _ (ak h z) (T _ _ h)) ⟨⟨J,sa,.non,?_,sD b3 y ⟨O,R,by decide⟩,tX b3 y i,rfl⟩,yJ⟩
 rw[ae]
 rfl
theorem vX{C:Addr}(B:Bi mg)(c:dW K mg "Known" C)(n:nI K C)(D:jJ K C)(M:Has P w K mg base 2 "first_spans" [] (J5 K)):cx P w K mg base 3 C "forget" fA (Dp K C):=by
 refine D.has c.cl vI (fun r H Q E h=> ?_) (fun f u A i s H r Q E G h=> ?_)
 .obtain⟨x,g,p,L,st,rfl,_⟩:=h
  rfl
 obtain⟨x,g,p,L,st,rfl,⟨⟨b,sa,l,y,e,v,F⟩,N⟩,q⟩:=h;have O:=c.cl;have n2:=n.spans;have n3:=n.fitted
 refine⟨_,(aa (cu (pv 0) (dL (M.mono (by omega)) G (by rfl)) (by rfl))
   (af (cu (pv 0) eP (by rfl)))),?_⟩
 try dsimp only[aT]
 walk_at"g";intro I j d J;have m:=d _ _ y;have z:=e.mv d;walk_at"g";have b3:But x j (upd (upd j x (.ins C g (bR "spans" (.ref I) (kfs b sa l)))) x (.ins C g (bR "fitted" .non (bR "spans" (.ref I) (kfs b sa l))))):=fun a o U h=>by rw[aq U,aq U];exact h
 refine q _ (fun a o U h=>b3 _ _ U (d _ _ h)) ⟨⟨b,I,.non,?_,sD b3 m z,tX b3 m J,rfl⟩,yJ⟩
 rw[ae]
 rfl
theorem qu{C:Addr}(B:Bi mg)(c:dW K mg "Known" C)(n:nI K C)(D:gg K C)(dA:Has P w K mg base 1 "is_access" cV (Ic K))(aY:Has P w K mg base 1 "access_by_mask" cV (Ia K))(X:Has P w K mg base 2 "masked_group" cV (Lb K))
  (dq:Has P w K mg base 2 "may_reach_out" iX (IR K)):cx P w K mg base 3 C "thin_group" cY (KS K C):=by
 refine D.has c.cl qC (fun vs H Q E h=> ?_) (fun f aU A R s H vs Q E j h=> ?_)
 .obtain⟨x,dx,t,Y,W,st,I,rfl,_⟩:=h
  rfl
 obtain⟨x,dx,t,Y,W,st,I,rfl,⟨⟨pl,sa,fv,hx,au,aH,O⟩,h8⟩,T,hv,q⟩:=h;have a6:I.1<19:=hv.lt19;have hc:=c.cl;have n1:=n.plan;have n2:=n.spans;have n3:=n.fitted
 refine⟨_,(aa (ay (gA (cJ (pcH dA j (pa1 (pv 1))))) (af (ai (pcH X j (pa1 (pv 1))))) al)
   (aa (ay (gA (cJ (pcH dq j (pa3 (aV (pv 0) (by rfl)) (pv 1) (aV (pv 0) (by rfl)))))) (af (ai (aB (pa1 (pv 1))))) al)
   (aa (ay (pcT (HI (G0 j)) (aV (pv 0) (by rfl)) (dR nh (pv 1) (d6 ad) gS)) (af (ai (aB (pa1 (pcH aY j (pa1 (pv 1))))))) al)
   (af (ai (pcH X j (pa1 (pv 1)))))))),?_⟩
 try dsimp only[aT]
 walk_at"g"
 by_cases o:I.1=11\/I.1=12
 rotate_left
 .rw[NX o];walk_at"g";intro g m r l d N;refine q g m r l d ?_
  unfold thG;rw[NV o];exact N
 rw[NY o];walk_at"g"
 by_cases ho:lN Y W I.2 st.sp
 rotate_left
 .rw[NX ho];walk_at"g";intro g d;refine q g [t] _ (ag d _) (SqT.of ae) ?_
  unfold thG;rw[fI (Qj o),NV ho];exact⟨(ag d _).tup T,True.intro⟩
 rw[NY ho];walk_at"g";obtain⟨a,b,nn,U,a0,a1,b0,b1,aP,ab⟩:=hv.acc o;refine⟨(fun z=>by rw[U] at z;exact absurd (show(2:Nat)=0 from z.1) (by decide)),fun p hp=> ?_⟩
 have u:gw (aD I.1 I.2) (some 2) none=([b,nn]:List Int).map V.int:=by rw[U];rfl
 rw[u];have l:=ag hp (.tup (([b,nn]:List Int).map V.int));have Z:SqT K (upd H p (.tup (([b,nn]:List Int).map V.int))) p (([b,nn]:List Int).map V.int):=SqT.of ae;generalize upd H p (.tup (([b,nn]:List Int).map V.int))=r at*;have G:=l.tup T;have S:bnO I=(b,nn):=by unfold bnO;rw[U];rfl
 have fin:st.ft≠some (b,nn)->∀g m e,aA r e->SqT K e g (m.map V.ref)->eE K e m (grp I)->Q (.ref g) e:=fun i g m e M d N=>by
  refine q g m e (l.trans M) d ?_
  unfold thG;rw[fI (Qj o),fI (Qj ho),fI (by rw[S];exact i)]
  exact N
 have J:=O.mono (fun _ _ z=>l.tup z)
 cases hf:st.ft with
 | none=>
  rw[hf] at J;obtain rfl:fv= .non:=J;refine .inl ⟨rfl,p,_,rfl,Z,?_⟩
  walk_at"g";exact fin (by rw[hf];intro z;cases z)
 | some fb=>
  rw[hf] at J;obtain⟨tf,rfl,L⟩:=J;refine .inr ⟨tf,p,_,_,rfl,rfl,L,Z,?_⟩
  by_cases F:fb=(b,nn)
  .subst F;rw[show(if false=true then !decide (([b,nn]:List Int)=[b,nn]) else decide (([b,nn]:List Int)=[b,nn]))=true from by rw[fI (by decide),NY rfl]]
   have ar:SqT K r t (aD I.1 (a::[b,nn])):=by rw[<- U];exact G
   walk_at"g";intro v y;have M:=ag y (.tup (aD I.1 [a,6,0]));have q2:SqT K (upd r v (.tup (aD I.1 [a,6,0]))) v (aD I.1 [a,6,0]):=SqT.of ae;generalize upd r v (.tup (aD I.1 [a,6,0]))=e at*;walk_at"g";intro g d;refine q g [v] _ ((l.trans M).trans (ag d _)) (SqT.of ae) ?_
   unfold thG;rw[fI (Qj o),fI (Qj ho),NV (by rw[S];exact hf),U]
   exact⟨(ag d _).tup q2,True.intro⟩
  .have i:([fb.1,fb.2]:List Int)≠[b,nn]:=fun z=>F (by
    injection z with z1 z2
    injection z2 with z2 _
    exact Prod.ext z1 z2)
   rw[show(if false=true then !decide (([fb.1,fb.2]:List Int)=[b,nn]) else decide (([fb.1,fb.2]:List Int)=[b,nn]))=false from by rw[fI (by decide),NX i]]
   walk_at"g";exact fin (by rw[hf];intro z;exact F (N_ z))
theorem qD{C:Addr}(B:Bi mg)(c:dW K mg "Known" C)(n:nI K C)(D:gC K C)(F:Has P w K mg base 1 "made_box" cV (JO K)):cx P w K mg base 2 C "is_lost_by" Do (GS K C):=by
 refine D.has c.cl jn (fun m H Q E h=> ?_) (fun f p A g s H m Q E G h=> ?_)
 .obtain⟨x,M,t,l,L,st,o,rfl,_⟩:=h
  rfl
 obtain⟨x,M,t,l,L,st,o,rfl,⟨⟨O,sa,i,T,y,r,I⟩,S⟩,X,v,q⟩:=h;have a:o.1<19:=v.lt19;have W:=c.cl;have n3:=n.fitted;have R:atI (aD o.1 o.2) 0=some (.str (aN o.1)):=jx
 refine⟨_,(aa (psS 2 jn.nd (pcH F G (pa1 (pv 1))))
   (af (ai (ya (pcE aE (pX aj (pv 1) ad) ax) (ya (pcE aE (pv 2) ad) (oU (Ig (Hw (wq (aV (pv 0) (by rfl)))) (oU (pcE aE (pv 2) (pX aj (aV (pv 0) (by rfl)) ad)))))))))),?_⟩
 try dsimp only[aT]
 walk_at"g";have d:¬(o.1=18/\mk8 o.1):=by unfold mk8;lia
 have U:u4 o st.ft=(decide (o.1=18) || (decide (mk8 o.1) && (decide (o.2.getD 0 0=6) || (match st.ft with | none=>false | some f=>decide (o.2.getD 0 0=f.1))))):=rfl
 refine⟨fun hm=> ?_,fun hm=> ?_⟩
 .have J:o.1≠18:=fun z=>d ⟨z,hm⟩
  rw[NX J,NY hm,RC,PX] at U;walk_at"g";refine bN (fun z=>J ((uk o.1 a).mp z)) ?_
  walk_at"g";refine bc (fun b=> ?_) (fun b=> ?_)
  .have b:o.2.getD 0 0=6:=by injection b
   rw[NY b,Bool.true_or] at U;rw[U] at q;walk_at"g";exact q
  have b:¬o.2.getD 0 0=6:=fun z=>b (by rw[z])
  rw[NX b,RC] at U;walk_at"g"
  cases hf:st.ft with
  | none=>
   rw[hf] at I U q;obtain rfl:i= .non:=I;rw[U] at q;walk_at"g";exact q
  | some fb=>
   rw[hf] at I U q;obtain⟨N,rfl,e⟩:=I;have u:atI (([fb.1,fb.2]:List Int).map V.int) 0=some (.int fb.1):=aQ (j:=0) rfl;rw[U] at q;walk_at"g";rw[show decide (V.int (o.2.getD 0 0)=V.int fb.1)=decide (o.2.getD 0 0=fb.1) from O1.mpr ⟨fun z=>(by injection z),fun z=>by rw[z]⟩]
   exact q
 .rw[NX hm,Rh,Bool.or_false] at U;walk_at"g";refine bc (fun c=> ?_) (fun c=> ?_)
  .have J:o.1=18:=(uk o.1 a).mp c;rw[NY J] at U;rw[U] at q;walk_at"g";exact q
  have J:¬o.1=18:=fun z=>c ((uk o.1 a).mpr z)
  rw[NX J] at U;rw[U] at q;walk_at"g"
  cases hf:st.ft with
  | none=>
   rw[hf] at I;obtain rfl:i= .non:=I;refine FI rfl ?_
   exact q
  | some fb=>
   rw[hf] at I;obtain⟨N,rfl,e⟩:=I;have u:atI (([fb.1,fb.2]:List Int).map V.int) 0=some (.int fb.1):=aQ (j:=0) rfl;refine Ky rfl ?_
   walk_at"g";exact q
theorem og{C:Addr}(B:Bi mg)(c:dW K mg "Known" C)(n:nI K C)(D:fR K C)(dS:Has P w K mg base 8 "spans_behind" iX (LX K))(gv:cx P w K mg base 2 C "is_lost_by" Do (GS K C)):
  cx P w K mg base 9 C "learn_group" BQ (Kq K C):=by
 refine D.has c.cl i4 (fun vs H Q E h=> ?_) (fun f bL A bp s H vs Q E hr h=> ?_)
 .obtain⟨x,e,t,g,ts,J,I,st,l,X,rfl,_⟩:=h
  rfl
 obtain⟨x,e,t,g,ts,J,I,st,l,X,rfl,hk,ht,hv,hg,hi,a7,aU,bu,q⟩:=h;have hc:=c.cl;have n1:=n.plan;have n2:=n.spans;have n3:=n.fitted;have hR:SpM.Room J I:=by obtain⟨_,_,_,_,z,_⟩:=hk.ex;exact z.room
 obtain⟨bC,bt,bx,T,_⟩:=hk.ex
 refine⟨_,(af (eQ Oj (by rfl) (dG (o7 (pv 2))) (aR (i:=3) i4.nd (by rfl) (by left;rfl)) (aa (cu (pv 0) (pcH dS hr (pa3 (aV (pv 0) (by rfl)) (pv 3) (aV (pv 0) (by rfl)))) (by rfl))
   (af (aL (a_ (ay (pcT aE (pX aj (pv 3) ad) ax) (af (cu (pv 0) (dR nh (pv 1) (d6 ad) gS) (by rfl))) (af (aL (a_ (ay (cJ (cD (gv.mono (by omega)) hr (pv 0) (pa1 (pv 3)))) (af (cu (pv 0) eP (by rfl))) al))))))))))),?_⟩
 try dsimp only[aT]
 walk_at"g"
 refine⟨wu (xs:=ts.map V.ref) (fun j Z d=>∃y,Z=[some (.ref x),some (.ref t),some (.ref g),y]/\az (But x H d)/\lV K C d x e J I (lrnG J I l st (X.take j)))
  ⟨_,rfl,⟨But.refl _ _⟩,hk⟩ ?_ ?_ ?_⟩
 .rintro j Z d _ ⟨y,rfl,⟨L⟩,_⟩
  exact gO L T hg
 .rintro j u Z d hj ⟨y,rfl,⟨b2⟩,hk2⟩
  obtain⟨tm,et,rfl⟩:=dw hj;obtain⟨m,em,hm⟩:=hi.get et;have ar:=a7 m (N4 em);have bh:=aU m (N4 em);have aP:m.1<19:=ar.lt19;have bb:=gO b2 T hm;have aY:=gO b2 T ht;have a':lrnG J I l st (X.take (j+1))=lrn1 J I l (lrnG J I l st (X.take j)) m:=by
   unfold lrnG;rw[PN,em,O4]
   rfl
  generalize lrnG J I l st (X.take j)=L at*;obtain⟨⟨r,sa,M,hx,a6,bF,bl⟩,h8⟩:=id hk2;have i0:atI (aD m.1 m.2) 0=some (.str (aN m.1)):=jx;walk_at"g";intro v H2 W aH;have Y:=W _ _ hx;have b3:But x H2 (upd H2 x (.ins C e (bR "spans" (.ref v) (kfs r sa M)))):=fun a o U h=>by rw[aq U];exact h
  have B3:But x H (upd H2 x (.ins C e (bR "spans" (.ref v) (kfs r sa M)))):=fun a o U h=>b3 _ _ U (W _ _ (b2 _ _ U h))
  have x3:upd H2 x (.ins C e (bR "spans" (.ref v) (kfs r sa M))) x=some (.ins C e (kfs r v M)):=ae;have G:=sD b3 Y (a6.mv W);have F:=tX b3 Y aH;have ab:=(bl.mono (fun _ _ z=>W.tup z)).mono (fun _ _ z=>gO b3 Y z)
  have bG:=gO b3 Y (W.tup bb);have bA:=gO b3 Y (W.tup aY);have e8:Sp8 (ck J I 0 0 m.1 m.2 L.sp):=se hR (by decide) ar h8
  walk_at"g";generalize upd H2 x (.ins C e (bR "spans" (.ref v) (kfs r sa M)))=H3 at*;have bw:lV K C H3 x e J I ⟨ck J I 0 0 m.1 m.2 L.sp,L.ft⟩:=⟨⟨r,v,M,x3,G,F,ab⟩,e8⟩;walk_at"n";refine⟨fun Z' d=>az (∃y,Z'=[some (.ref x),some (.ref t),some (.ref g),y]/\az (But x H d)/\lV K C d x e J I (lrnG J I l st (X.take (j+1)))),?_,fun Z' d h=>h.out⟩
  walk_at"g";rw[a'];refine bc (fun S=> ?_) (fun S=> ?_)
  .have m16:m.1=16:=(CQ m.1 aP).mp S;obtain⟨a,b,nn,R,_⟩:=hv.acc (bh m16);walk_at"g";refine⟨(fun z=>by rw[R] at z;exact absurd (show(2:Nat)=0 from z.1) (by decide)),fun p hp=> ?_⟩
   have au:gw (aD l.1 l.2) (some 2) none=([b,nn]:List Int).map V.int:=by rw[R];rfl
   rw[au];have s4:=ag hp (.tup (([b,nn]:List Int).map V.int));have p4:SqT K (upd H3 p (.tup (([b,nn]:List Int).map V.int))) p (([b,nn]:List Int).map V.int):=SqT.of ae;generalize upd H3 p (.tup (([b,nn]:List Int).map V.int))=H4 at*;have x4:=s4 _ _ x3;walk_at"g";have N:But x H4 (upd H4 x (.ins C e (bR "fitted" (.ref p) (kfs r v M)))):=fun a o U h=>by rw[aq U];exact h
   refine az.mk ⟨_,rfl,⟨fun a o U h=>N _ _ U (s4 _ _ (B3 _ _ U h))⟩,⟨⟨r,v,.ref p,?_,sD N x4 (G.mv s4),tX N x4 (F.same s4),?_⟩,e8⟩⟩
   .rw[ae]
    rfl
   .unfold lrn1;rw[NV m16];have eb:bnO l=(b,nn):=by unfold bnO;rw[R];rfl
    rw[eb];exact⟨p,rfl,gO N x4 p4⟩
  .have m16:¬m.1=16:=fun z=>S ((CQ m.1 aP).mpr z)
   walk_at"n";refine⟨fun Z' d=>az (∃y,Z'=[some (.ref x),some (.ref t),some (.ref g),y]/\az (But x H d)/\lV K C d x e J I (lrn1 J I l L m)),?_,fun Z' d h=>h⟩
   walk_at"g";refine CP (fun O=> ?_) (fun O=> ?_)
   .have O:u4 m L.ft=true:=O;walk_at"g";have N:But x H3 (upd H3 x (.ins C e (bR "fitted" .non (kfs r v M)))):=fun a o U h=>by rw[aq U];exact h
    refine az.mk ⟨_,rfl,⟨fun a o U h=>N _ _ U (B3 _ _ U h)⟩,⟨⟨r,v,.non,?_,sD N x3 G,tX N x3 F,?_⟩,e8⟩⟩
    .rw[ae]
     rfl
    .unfold lrn1;rw[fI m16,NV O]
     rfl
   .have O:¬u4 m L.ft=true:=by rw[show u4 m L.ft=false from O];decide
    refine az.mk ⟨_,rfl,⟨B3⟩,⟨⟨r,v,M,x3,G,F,?_⟩,e8⟩⟩
    unfold lrn1;rw[fI m16,fI O];exact ab
 .rintro Z d ⟨y,rfl,⟨b2⟩,hk2⟩
  rw[be,hi.len,Oi] at hk2;walk_at"g";exact q _ b2 hk2
theorem lV.b3{K:Frag}{C c:Addr}{H I:Hp}{x n i b y d:Addr}{m:List Addr}{is:List Ins}{bs:List Nat}{rk:Nat}{rb:Int}{s:Kn}(l:bf K C H x n i b m is bs)(p:B3 x i b H I)(ne:y≠x)(h:lV K c H y d rk rb s):lV K c I y d rk rb s:=by
 obtain⟨⟨e,sa,g,J,U,j,q⟩,f⟩:=h;have a:∀t o,H t=some (.tup o)->I t=some (.tup o):=fun t o h=>p _ _ (eD h l.at_ (by intro z;cases z)) (eD h l.li (by intro z;cases z)) (eD h l.lb (by intro z;cases z)) h
 exact⟨⟨e,sa,g,p _ _ ne (eD J l.li (by intro z;cases z)) (eD J l.lb (by intro z;cases z)) J,⟨a _ _ U.at_,U.room,U.ms⟩,j.keep (fun _ _ z=>p.tup l z) a,q.mono (fun _ _ z=>p.tup l z)⟩,f⟩
theorem bf.buty{K:Frag}{C a:Addr}{H I:Hp}{x U i b y c:Addr}{J:List Addr}{is:List Ins}{bs:List Nat}{fs:List (Str × V)}(p:But y H I)(o:H y=some (.ins a c fs))(ne:x≠y)(l:bf K C H x U i b J is bs):bf K C I x U i b J is bs:=
 ⟨p _ _ ne l.at_,p _ _ (eD l.li o (by intro z;cases z)) l.li,p _ _ (eD l.lb o (by intro z;cases z)) l.lb,l.ib,l.ow.mono fun _ _ z=>gO p o z,l.va⟩
def Ks(K:Frag)(C:Addr):Sp:=fun a H Q _=>∃(blk rm:Addr) (bk:List Ins) (o:Nat) (I:Int),a=[.ref blk,.ref rm]/\GBk K H blk bk/\(∀U∈bk,VI U/\U.1≠16)/\bk.length<=30/\SqT K H rm [.int o,.int I]/\SpM.Room o I/\
 ∀(x c i b:Addr) (d:List Addr) (J:Hp),aA H J->H x=none->H i=none->H b=none->bf K C J x c i b d (thB o I bk).1.1 (thB o I bk).1.2->Q (.ref x) J
theorem uK{C U:Addr}(B:Bi mg)(bp:dW K mg "LaidBlock" C)(iO:dW K mg "Known" U)(D:nU K mg)(bL:cx P w K mg base 1 C "__init__" fA (AT K C))(iC:cx P w K mg base 3 U "__init__" Cn (Fh K U))
  (ez:cx P w K mg base 3 U "thin_group" cY (KS K U)) (kd:cx P w K mg base 3 U "forget" fA (Dp K U)) (fX:cx P w K mg base 9 U "learn_group" BQ (Kq K U)) (bv:cx P w K mg base 1 C "is_at_bundle" fA (I_ K C))
  (bG:cx P w K mg base 2 C "has_space" nK (A_ K C)) (bA:cx P w K mg base 3 C "fill_bundle" fA (D9 K C)) (bF:cx P w K mg base 3 C "take_group" nK (AD K C)):
  Has P w K mg base 10 "thinned_block" DD (Ks K C):=by
 refine D.has dU (fun vs H Q E h=> ?_) (fun f cv A bY s H vs Q E m h=> ?_)
 .obtain⟨blk,rm,bk,J,I,rfl,_⟩:=h
  rfl
 obtain⟨blk,rm,bk,J,I,rfl,gb,bu,cS,bW,hR,q⟩:=h;obtain⟨ts,aH,N⟩:=id gb
 refine⟨_,(aa (psS 2 dU.nd (zZ bp (bL.mono (by omega)) m (by rfl)))
   (aa (psS 3 dU.nd (x_ iO (iC.mono (by omega)) m (by rfl) (pa1 (pv 1))))
   (aa (eQ Oj (by rfl) (dG (o7 (pv 0))) (aR (i:=4) dU.nd (by rfl) (by left;rfl)) (aa (aL (a_ (ay (gA (cJ (cD (bG.mono (by omega)) m (pv 2) (pa1 (cD (ez.mono (by omega)) m (pv 3) (pa1 (pv 4))))))) (af (bP (lK (bA.mono (by omega)) m (pv 2)))) al)))
   (aa (aL (a_ (ay (cJ (lK (bv.mono (by omega)) m (pv 2))) (af (bP (lK (kd.mono (by omega)) m (pv 3)))) al)))
   (aa (psS 5 dU.nd (cD (ez.mono (by omega)) m (pv 3) (pa1 (pv 4))))
   (aa (bP (cD (bF.mono (by omega)) m (pv 2) (pa1 (pv 5))))
   (af (bP (cD (fX.mono (by omega)) m (pv 3) (pa2 (pv 4) (pv 5))))))))))
   (af (ai (pv 2)))))),?_⟩
 try dsimp only[aT]
 walk_at"g";intro x dx hx bT cO;refine⟨H,x,dx,rfl,ae,hx,fh hx (ag bT _),?_⟩
 intro H1 i b hi hb s1 l1;refine⟨rfl,?_⟩
 have M:=s1.tup bW;walk_at"g";intro y L hy bb b1;refine⟨H1,y,L,rm,J,I,rfl,ae,hy,fh hy (ag bb _),(fh hy (ag bb _)).tup M,hR,?_⟩
 intro H2 s2 k2;refine⟨rfl,?_⟩
 have l2:=l1.same s2;have F:x≠y:=ak l1.at_ hy;have ar:H y=none:=s1.free hy;have O:=s1.trans s2;have aY:=O.tup aH;clear l1 s2 s1 M;walk_at"g"
 refine⟨wu (xs:=ts.map V.ref) (fun j Z H'=>az (∃u v js,Z=[some (.ref blk),some (.ref rm),some (.ref x),some (.ref y),u,v]/\aA H H'/\bf K C H' x dx i b js (thB J I (bk.take j)).1.1 (thB J I (bk.take j)).1.2/\lV K U H' y L J I (thB J I (bk.take j)).2))
  (az.mk ⟨none,none,[],rfl,O,by simpa [thB] using l2,by simpa [thB] using k2⟩) ?_ ?_ ?_⟩
 .rintro j Z H' _ ⟨u,v,js,rfl,s2,_⟩
  exact s2.tup aH
 .clear l2 k2 O aY;clear H2;rintro j u0 Z H2 hj ⟨u,v,js,rfl,O,l2,k2⟩
  obtain⟨t,et,rfl⟩:=dw hj;obtain⟨l,ek,ht⟩:=N.get et;have cg:j<bk.length:=(mF.mp ek).1;obtain⟨au,bx⟩:=bu l (N4 ek);have aP:=sL J I bk j (by lia)
  have cQ:=EC J I bk j (by lia)
  have aU:=s_ (rk:=J) (rb:=I) ek;have cq:(thB J I (bk.take j)).1.1.length<=200:=by
   have:=EX (thB J I (bk.take j)).1.1
   split at aP <;> lia
  clear aP;generalize thB J I (bk.take j)=st at*;have bt:=O.tup ht;have a6:=l2.at_;obtain⟨Y,ab,W,bV⟩:∃pl sa fv,H2 y=some (.ins U L (kfs pl sa fv)):=let ⟨p,s,f,z,_⟩:=k2.ex;⟨p,s,f,z⟩
  walk_at"g";refine⟨fun Z' n=>az (Z'=[some (.ref blk),some (.ref rm),some (.ref x),some (.ref y),some (.ref t),v]/\aA H n/\(∃X,bf K C n x dx i b X (cP st.1.1 (thG J I st.2 l)) st.1.2)/\lV K U n y L J I st.2),?_,?_⟩
  .walk_at"g";intro g us H3 s3 b9 b6;have bC:=qj (rk:=J) (rb:=I) (s:=st.2) au;have bl:=FX J I st.2 l;generalize thG J I st.2 l=gs at*;have l3:=l2.same s3;have b0:=l3.at_;have b2:gs.length<=100:=by lia
   walk_at"g";intro n s4;have l4:=l3.same s4;have S:=l4.at_;have k4:=k2.same (s3.trans s4);walk_at"g"
   by_cases c:lnW st.1.1 %8+lnW gs<=8
   .rw[NY c];walk_at"g";refine az.mk ⟨rfl,(O.trans s3).trans s4,⟨js,?_⟩,k4⟩
    unfold cP;rw[NV c];exact l4
   .rw[NX c];have b8:st.1.1.length<=900:=by lia
    walk_at"g";intro H5 X p5 l5;refine az.mk ⟨rfl,B3.same ((O.trans s3).trans s4) hx hi hb p5,⟨X,?_⟩,k4.b3 l4 p5 (Ox F)⟩
    unfold cP;rw[fI c];exact l5
  clear l2 k2 O bt bV a6;clear H2;rintro Z4 n ⟨rfl,T,⟨a7,l4⟩,k4⟩
  have ct:=Ka st.1.1 (thG J I st.2 l);have r:∀d,d=cP st.1.1 (thG J I st.2 l)->thB J I (bk.take (j+1))=((d++thG J I (knB d st.2) l,st.1.2++[lnW d]),lrnG J I l (knB d st.2) (thG J I (knB d st.2) l)):=fun d e=>by rw[aU,e];rfl
  generalize cb:cP st.1.1 (thG J I st.2 l)=d at*;have r:=r d rfl;clear aU;have S:=l4.at_;obtain⟨Y,ab,W,G⟩:∃pl sa fv,n y=some (.ins U L (kfs pl sa fv)):=let ⟨p,s,f,z,_⟩:=k4.ex;⟨p,s,f,z⟩
  walk_at"g";refine⟨fun Z' H5=>az (Z'=[some (.ref blk),some (.ref rm),some (.ref x),some (.ref y),some (.ref t),v]/\aA H H5/\bf K C H5 x dx i b a7 d st.1.2/\lV K U H5 y L J I (knB d st.2)),?_,?_⟩
  .walk_at"g"
   by_cases c:lnW d %8=0
   .rw[NY c];walk_at"g";intro H5 b5 k5;refine az.mk ⟨rfl,fun a o h=>b5 _ _ (ak h ar) (T _ _ h),l4.buty b5 G F,?_⟩
    unfold knB;rw[NV c];exact k5
   .rw[NX c];walk_at"g";refine az.mk ⟨rfl,T,l4,?_⟩
    unfold knB;rw[fI c];exact k4
  clear l4 k4 T S G;clear n;rintro Z4 n ⟨rfl,T,l4,k4⟩
  have bw:=T.tup ht;obtain⟨Y,ab,W,G⟩:∃pl sa fv,n y=some (.ins U L (kfs pl sa fv)):=let ⟨p,s,f,z,_⟩:=k4.ex;⟨p,s,f,z⟩
  generalize knB d st.2=ks at*;walk_at"g";intro g us H5 s5 a' R;have bC:=qj (rk:=J) (rb:=I) (s:=ks) au;have bl:=FX J I ks l;have cH:=Jj (rk:=J) (rb:=I) (s:=ks) bx;generalize thG J I ks l=gs at*;have l5:=l4.same s5;have bh:=l5.at_;have k5:=k4.same s5;have S5:=T.trans s5;have cm:d.length+gs.length<=1000:=by lia
  have b':st.1.2.length<1000:=by lia
  clear l4 k4 bw G T s5;walk_at"g";intro H6 p6 l6;have S6:=B3.same S5 hx hi hb p6;have k6:=k5.b3 l5 p6 (Ox F);have cz:=S6.tup ht;have cp:=p6.tup l5 a';have b4:=R.b3 l5 p6;obtain⟨Y,ab,W,bM⟩:∃pl sa fv,H6 y=some (.ins U L (kfs pl sa fv)):=let ⟨p,s,f,z,_⟩:=k6.ex;⟨p,s,f,z⟩
  have cc:gs.length<=10:=by lia
  clear l5 k5 a' R S5 bh;walk_at"g";intro H7 b7 k7;refine az.mk ⟨_,_,a7++us,rfl,fun a o h=>b7 _ _ (ak h ar) (S6 _ _ h),?_,?_⟩
  .rw[r];exact l6.buty b7 bM F
  .rw[r];exact k7
 .rintro Z H' ⟨u,v,js,rfl,s2,l2,_⟩
  rw[be,N.len,Oi] at l2;walk_at"g";exact q x dx i b js H' s2 hx hi hb l2
noncomputable def thD(rk:Nat)(rb:Int)(bk:List Ins):Bk:=(thB rk rb bk).1
def Ho(K:Frag)(e:Addr):Sp:=fun c H Q E=>∃(I rm:Addr) (J:List Addr) (o:List (List Ins)) (U:Nat) (a b:Int) (M:Nat),c=[.ref I,.ref rm,.int b]/\SqT K H I (J.map V.ref)/\GSt K H J o/\SqT K H rm [.int U,.int a]/\
 GuB o/\(∀bk∈o, ∀d∈bk,d.1≠16)/\SpM.Room U a/\u9 M (o.map (thD U a))/\
 ∀m s,tw o.length m->tw M s->(7<m+s->∀C,aA H C->E (.ref e) none C)/\(m+s<=7->∀r C,aA H C->xr H C r (o.map (thD U a)) U a b m s->Q (.ref r) C)
theorem Kd{C CT:Addr}(B:Bi mg)(D:IN K mg)(jh:Has P w K mg base 10 "thinned_block" DD (Ks K C))(cQ:vR P w K mg base 8 "code_of_blocks" zB (Ey K C CT)):
  vR P w K mg base 11 "thin" vm (Ho K CT):=by
 refine D.hasX Ji (fun vs H Q E h=> ?_) (fun f bb A Z s H vs Q E hr h=> ?_)
 .obtain⟨T,rm,v,n,J,I,gt,M,rfl,_⟩:=h
  rfl
 obtain⟨T,rm,v,n,J,I,gt,M,rfl,hg,U,L,S,X,hR,hM,q⟩:=h;have aY:=S.n16;refine⟨_,(af (ai (Cu (cQ.mono (by omega)) hr (by rfl) xE (pa3 (PE.nox (mY (by rfl) (by rfl) (by rfl) (bk (sc0:=ah AO) (N0:=["guest","room","gates"]) ["block","room"] 1 [1]) (o7 (pv 0)) (fun _ _ _ _=>(aR (i:=0) (show List.Nodup (["block","room"]:List Str) by decide) (by rfl) (by left;rfl))) (fun _ _ _ _=>(pcH jh hr (pa2 (pv 0) (pv 1)))))) (pv 1) (pv 2))))),?_⟩
 try dsimp only[Ln]
 walk_at"g";intro p hp;refine sM (xs:=v.map V.ref) (fun j N g=>az (aA H g)/\∃c,g p=some (.lst N)/\N=c.map V.ref/\Lds K C (jy p g) c ((n.take j).map (thD J I))) ⟨⟨ag hp _⟩,[],ae,rfl,rfl,fun j x d e=>by simp at e⟩ ?_ ?_ ?_
 .rintro j N g ⟨⟨s1⟩,_⟩
  exact s1.tup hg
 .rintro j u N g F hF hj ⟨⟨s1⟩,c,hp1,rfl,lds⟩
  obtain⟨b,eb,rfl⟩:=dw hj;have a6:j<v.length:=(mF.mp eb).1;obtain⟨bk,R⟩:∃bk,n[j]? =some bk:=⟨_,mC (by have:=U.1;lia)⟩
  have a7:=(U.2 j b bk eb R).same s1;obtain⟨hv,bh⟩:=S.va bk (N4 R);have a':∀G∈bk,VI G/\G.1≠16:=fun G hk=>⟨hv G hk,X bk (N4 R) G hk⟩
  have ar:=s1.tup L;have W:c.length=j:=by
   rw[lds.1,be,Oh];have:=U.1
   lia
  have hz:(c.map V.ref).length<sizeLine:=by
   rw[be,W];exact N8 (show j<100 by have:=U.1;lia) (by decide)
  walk_at"g";intro x dx i b' js H2 y hx hi hb l;have Y:=y _ _ hp1;walk_at"g";refine hF _ _ ⟨⟨fh hp (s1.trans y)⟩,c++[x],ae,by rw[NZ];rfl,?_⟩
  have sd:aA (jy p g) (jy p (upd H2 p (.lst (c.map V.ref++[V.ref x])))):=fun a o h=>by
   unfold jy at*
   by_cases z:a=p
   .rw[NV z] at h;cases h
   .rw[fI z] at h ⊢;rw[aq z];exact y _ _ h
  have l2:bf K C (jy p (upd H2 p (.lst (c.map V.ref++[V.ref x])))) x dx i b' js (thD J I bk).1 (thD J I bk).2:=by
   rw[BP];exact l.del Y (Ox (ak hp1 hi)) (Ox (ak hp1 hb))
  rw[ga R,NZ];exact(lds.same sd).snoc l2
 .rintro N H1 ⟨⟨s1⟩,c,hp1,rfl,lds⟩
  rw[be,U.1,Oi] at lds;have au:=lds.same (zA (H:=H1) (p:=p));have hq:SqL K H1 p (c.map V.ref):=SqL.of hp1;have aH:=s1.tup L;have O:(n.map (thD J I)).length=n.length:=by rw[be]
  have aP:0<(n.map (thD J I)).length:=by rw[O];exact S.n0
  have ab:(n.map (thD J I)).length<=16:=by lia
  have aU:∀d∈n.map (thD J I),lnW d.1<=300/\d.2.length<=30:=fun d hd=>by
   obtain⟨bk,h1,rfl⟩:=OJ.mp hd;have h2:=(S.va bk h1).2;have h3:=Lx J I bk;have h4:=EC J I bk bk.length (NW _);rw[Oi] at h4;show lnW (thB J I bk).1.1<=300/\(thB J I bk).1.2.length<=30
   lia
  walk_at"g";intro m sx hm hs;rw[O] at hm;obtain⟨q1,q2⟩:=q m sx hm hs;refine⟨fun z g y=>q1 z g (s1.trans y),fun z r g y ca=>q2 z r g (s1.trans y) ?_⟩
  obtain⟨a1,a2,a3,c1,c2,c3,c4,f1,f2,f3,f4⟩:=ca;exact⟨a1,a2,a3,c1,c2,c3,c4,s1.free f1,s1.free f2,s1.free f3,s1.free f4⟩
theorem JP{sp:List SpM.Span}{a i:Int}{s:SpM.Span}(h:sp.length=8)(a0:0<=a)(a1:a<8)(C:0<=i)(o:i<8):spG (sp.set a.toNat s) i=if i=a then s else spG sp i:=by
 unfold spG;rw[N9,QJ]
 by_cases e:i=a
 .rw[NV (by lia),NV (by lia),NV e]
  rfl
 .rw[fI (by lia),fI e,N9]
theorem Gn{pk:Nat}{o:Int}{pm ps pm' ps' k:Nat}{ns:List Int}{sp:List SpM.Span}(h:k≠17):dk pk o pm ps k ns sp=dk pk o pm' ps' k ns sp:=by
 unfold dk;rw[fI h,fI h]
theorem FH{pk:Nat}{o:Int}{pm ps pm' ps' k:Nat}{ns:List Int}{sp:List SpM.Span}(h:k≠17):ck pk o pm ps k ns sp=ck pk o pm' ps' k ns sp:=by
 unfold ck;rw[Gn (pm:=pm) (ps:=ps) (pm':=pm') (ps':=ps') h]
theorem De{pk:Nat}{o:Int}{pm ps S:Nat}{m:Ins}{sp:List SpM.Span}:ck pk o pm ps (plc S m).1 (plc S m).2 sp=ck pk o pm ps m.1 m.2 sp:=by
 unfold plc
 split
 .rename_i h
  unfold ck;rw[h]
  rfl
 .split
  .rename_i h
   unfold ck;rw[h]
   rfl
  .rfl
theorem D5{x:Pn}{b:List Ins}:∀{a:List Ins}{at_:Nat}{sp:List SpM.Span},dM x at_ sp (a++b)=dM x (at_+lnW a) (dM x at_ sp a) b
 | [],_,_=>rfl
 | kn::r,at_,sp=>by
  have ih:=D5 (x:=x) (b:=b) (a:=r) (at_:=at_+a8 kn.1) (sp:=ck x.pk x.pb x.pm x.ps kn.1 kn.2 (aJ at_ sp));rw[bg, <-O2];exact ih
theorem Fj{x:Pn}{S:Nat}{kn:Ins}:∀{G:List Ins}{p:Nat}{sp:List SpM.Span}{ft:Option (Int × Int)},(∀m∈G,m.1≠17)->p %8+lnW G<=8->G≠[]->dM x p sp (G.map (plc S))=(lrnG x.pk x.pb kn ⟨aJ p sp,ft⟩ G).sp
 | [],_,_,_,_,_,h=>absurd rfl h
 | [m],p,sp,ft,hm,hl,_=>by
  show ck x.pk x.pb x.pm x.ps (plc S m).1 (plc S m).2 (aJ p sp)=ck x.pk x.pb 0 0 m.1 m.2 (aJ p sp)
  rw[De];exact FH (hm m N3)
 | m::m2::r,p,sp,ft,hm,hl,_=>by
  rw[bg] at hl;have l1:=iK m.1;have l2:1<=lnW (m2::r):=by rw[bg];have:=iK m2.1;lia
  have ih:=Fj (x:=x) (S:=S) (kn:=kn) (G:=m2::r) (p:=p+a8 m.1) (sp:=ck x.pk x.pb x.pm x.ps m.1 m.2 (aJ p sp)) (ft:=(lrn1 x.pk x.pb kn ⟨aJ p sp,ft⟩ m).ft) (fun z C=>hm z (N2 _ C)) (by lia) (by intro z;cases z)
  have o:dM x p sp ((m::m2::r).map (plc S))=dM x (p+a8 m.1) (ck x.pk x.pb x.pm x.ps m.1 m.2 (aJ p sp)) ((m2::r).map (plc S)):=by
   show dM x (p+a8 (plc S m).1) (ck x.pk x.pb x.pm x.ps (plc S m).1 (plc S m).2 (aJ p sp)) ((m2::r).map (plc S))=_
   rw[De,Du]
  rw[o,ih,tu (by lia),FH (pm:=x.pm) (ps:=x.ps) (pm':=0) (ps':=0) (hm m N3)]
  rfl
def rG(rk:Nat)(rb:Int)(s:Kn):Prop:=s.ft≠none->rb<=(spG s.sp 6).lo/\(spG s.sp 6).hi<rb+2^rk
theorem rG.kn0{rk:Nat}{rb:Int}:rG rk rb kn0:=fun z=>absurd rfl z
theorem rG.lrn1{rk:Nat}{rb:Int}{kn:Ins}{s:Kn}{m:Ins}(b:Sp8 s.sp)(d:VI m)(c:m.1=16->m.2.getD 0 0=6)(h:rG rk rb s):rG rk rb (lrn1 rk rb kn s m):=by
 intro o;unfold My.lrn1 at o ⊢;dsimp only at o ⊢
 by_cases C:m.1=16
 .have e:ck rk rb 0 0 m.1 m.2 s.sp=s.sp.set 6 (SpM.fitS rk rb (spG s.sp (m.2.getD 1 0))):=by
   unfold ck dk;rw[fI (by lia),NV (by unfold mk8;lia),fI (by lia),fI (by lia),fI (by lia),NV C,c C]
   rfl
  rw[e,Az b];exact zN
 .rw[fI C] at o
  by_cases J:u4 m s.ft=true
  .rw[NV J] at o;exact absurd rfl o
  .rw[fI J] at o;have e:spG (ck rk rb 0 0 m.1 m.2 s.sp) 6=spG s.sp 6:=by
    unfold u4 at J;have U:m.1≠18:=fun z=>J (by rw[NY z];rfl)
    unfold ck;rw[fI U]
    by_cases hm:mk8 m.1
    .rw[NV hm];obtain⟨a,r,I,a0,a1⟩:=gG d hm;have f:a≠6:=fun z=>J (by rw[NY hm,I,z];simp)
     rw[I];show spG (s.sp.set a.toNat _) 6=_
     rw[JP b.len a0 a1 (by decide) (by decide),fI (Ox f)]
    .rw[fI hm]
   rw[e];exact h o
theorem rG.lrnG{rk:Nat}{rb:Int}(C:SpM.Room rk rb){kn:Ins}:∀{g:List Ins}{s:Kn},(∀m∈g,VI m)->(∀m∈g,m.1=16->m.2.getD 0 0=6)->Sp8 s.sp->rG rk rb s->rG rk rb (lrnG rk rb kn s g)
 | [],_,_,_,_,h=>h
 | m::r,s,hv,h6,h8,h=>rG.lrnG C (g:=r) (s:=My.lrn1 rk rb kn s m) (fun x o=>hv x (N2 _ o)) (fun x o=>h6 x (N2 _ o)) (se C (by decide) (hv m N3) h8) (h.lrn1 h8 (hv m N3) (h6 m N3))
theorem MO{kn:Ins}(h:kn.1≠16):∀m∈grp kn,m.1=16->m.2.getD 0 0=6:=by
 intro m hm e;unfold grp at hm
 split at hm
 .simp only[Od,Oy,O7] at hm
  rcases hm with rfl | rfl <;> rfl
 .split at hm
  .rename_i hk
   split at hm
   .simp only[Od,Oy,O7] at hm
    rcases hm with rfl | rfl
    .rfl
    .exact absurd (show kn.1=16 from e) h
   .simp only[Od,Oy,O7] at hm
    rcases hm with rfl | rfl | rfl
    .rfl
    .rfl
    .exact absurd (show kn.1=16 from e) h
  .rw[Og.mp hm] at e;exact absurd e h
theorem L1{kn:Ins}(h:kn.1≠17)(o:kn.1≠15):∀m∈grp kn,m.1≠17:=by
 intro m hm e;unfold grp at hm;rw[fI o] at hm
 split at hm
 .rename_i hk
  split at hm
  .simp only[Od,Oy,O7] at hm
   rcases hm with rfl | rfl
   .exact absurd (show(16:Nat)=17 from e) (by decide)
   .exact absurd (show kn.1=17 from e) h
  .simp only[Od,Oy,O7] at hm
   rcases hm with rfl | rfl | rfl
   .exact absurd (show(10:Nat)=17 from e) (by decide)
   .exact absurd (show(16:Nat)=17 from e) (by decide)
   .exact absurd (show kn.1=17 from e) h
 .rw[Og.mp hm] at e;exact absurd e h
theorem MG{rk:Nat}{rb:Int}{s:Kn}{kn:Ins}(h:kn.1≠16):∀m∈thG rk rb s kn,m.1=16->m.2.getD 0 0=6:=by
 intro m hm e;rcases gH rk rb s kn with z | ⟨hk,_,z⟩|⟨hk,_,z⟩
 .rw[z] at hm;exact MO h m hm e
 .rw[z,Og] at hm;rw[hm] at e;exact absurd e h
 .rw[z,Og] at hm;rw[hm] at e;exact absurd e h
theorem L0{rk:Nat}{rb:Int}{s:Kn}{kn:Ins}(h:kn.1≠17)(o:kn.1≠15):∀m∈thG rk rb s kn,m.1≠17:=by
 intro m hm e;rcases gH rk rb s kn with z | ⟨hk,_,z⟩|⟨hk,_,z⟩
 .rw[z] at hm;exact L1 h o m hm e
 .rw[z,Og] at hm;rw[hm] at e;exact absurd e h
 .rw[z,Og] at hm;rw[hm] at e;exact absurd e h
theorem K3(rk:Nat)(rb:Int)(s:Kn)(kn:Ins):thG rk rb s kn≠[]:=fun z=>by
 have:=(wv rk rb s kn).1;rw[z] at this;exact absurd this (by decide)
theorem K0{x:Pn}{d p:Nat}{kn:Ins}{sp:List SpM.Span}{C:Kn}(i:SpM.Room x.pk x.pb)(J:x.pm+x.ps<=7)(h:GI d x.pg kn)(c:d<=2^x.pm)(g:Sp8 sp)(e:aJ p sp=C.sp)(f:rG x.pk x.pb C)(o:p %8+lnW (thG x.pk x.pb C kn)<=8):
  okC x ((8*2^(x.pm+x.ps):Nat):Int) p sp ((thG x.pk x.pb C kn).map (plc (8*2^x.ps))):=by
 rcases gH x.pk x.pb C kn with z | ⟨hk,ho,z⟩|⟨hk,hft,z⟩
 .rw[z] at o ⊢;exact BO i J h c o sp g
 .rw[z] at o ⊢;rw[iQ] at o;have U:plc (8*2^x.ps) kn=kn:=by unfold plc;rw[fI (by lia),fI (by lia)]
  show okC x _ p sp [plc (8*2^x.ps) kn]
  rw[U];refine⟨h.v6.w8,o,?_,True.intro⟩
  rw[e];obtain⟨a,b,n,I,a0,a1,_⟩:=h.v6.acc hk;refine dZ (fun _=>by rw[I];show a≠7;lia) (fun _=>ho) (fun z=>by lia) (fun z=>by lia) (fun z=>by lia)
 .rw[z] at o ⊢;have o:p %8+a8 kn.1<=8:=by rw[iQ] at o;exact o
  have U:plc (8*2^x.ps) (kn.1,[kn.2.getD 0 0,6,0])=(kn.1,[kn.2.getD 0 0,6,0]):=by unfold plc;rw[fI (by show ¬kn.1=13;lia),fI (by show ¬kn.1=14;lia)]
  show okC x _ p sp [plc (8*2^x.ps) (kn.1,[kn.2.getD 0 0,6,0])]
  rw[U];refine⟨zF h.v6.w8 hk,o,?_,True.intro⟩
  rw[e];obtain⟨a,b,n,I,a0,a1,_⟩:=h.v6.acc hk;have j:=f (by rw[hft];intro z;cases z)
  refine dZ (fun _=>by rw[I];show a≠7;lia) (fun _=> ?_) (fun z=>by have z:kn.1=13\/kn.1=14:=z;lia) (fun z=>by have z:kn.1=15:=z;lia) (fun z=>by have z:kn.1=18:=z;lia)
  unfold lN;show ¬((spG C.sp 6).lo+0<x.pb\/x.pb+2^x.pk<=(spG C.sp 6).hi+0)
  lia
structure ThI (x:Pn) (at_:Nat) (sp:List SpM.Span) (st:Bk × Kn):Prop where
 ok:okC x ((8*2^(x.pm+x.ps):Nat):Int) at_ sp (st.1.1.map (plc (8*2^x.ps)))
 en:lnW st.1.1 %8≠0->dM x at_ sp (st.1.1.map (plc (8*2^x.ps)))=st.2.sp
 ft:rG x.pk x.pb st.2
 s8:Sp8 st.2.sp
theorem Ge(is g:List Ins):lnW (cP is g) %8=0\/(cP is g=is/\lnW is %8+lnW g<=8):=by
 unfold cP
 split
 .rename_i h;exact .inr ⟨rfl,h⟩
 .refine .inl ?_
  rw[dg,wP]
  lia
theorem HM{x:Pn}{m at_:Nat}{sp:List SpM.Span}{st:Bk × Kn}{kn:Ins}(U:SpM.Room x.pk x.pb)(J:x.pm+x.ps<=7)(h:GI m x.pg kn)(g:m<=2^x.pm)(s:at_ %8=0)(l:Sp8 sp)(t:ThI x at_ sp st):
  okC x ((8*2^(x.pm+x.ps):Nat):Int) at_ sp ((thS x.pk x.pb st kn).1.1.map (plc (8*2^x.ps)))/\(kn.1≠15->ThI x at_ sp (thS x.pk x.pb st kn)):=by
 have a:=Ge st.1.1 (thG x.pk x.pb st.2 kn);have d:okC x ((8*2^(x.pm+x.ps):Nat):Int) at_ sp ((cP st.1.1 (thG x.pk x.pb st.2 kn)).map (plc (8*2^x.ps))):=by
  unfold cP
  split
  .exact t.ok
  .rw[NZ,Dz];exact tI t.ok (Dy U J _ _ _ (xV U J t.ok l))
 have hs:∀o C,o=cP st.1.1 (thG x.pk x.pb st.2 kn)->C=knB o st.2->(aJ (at_+lnW o) (dM x at_ sp (o.map (plc (8*2^x.ps))))=C.sp/\rG x.pk x.pb C/\Sp8 C.sp/\lnW o %8+lnW (thG x.pk x.pb C kn)<=8):=by
  rintro o C rfl rfl
  unfold knB
  by_cases c:lnW (cP st.1.1 (thG x.pk x.pb st.2 kn)) %8=0
  .rw[NV c];refine⟨?_,rG.kn0,yJ,?_⟩
   .unfold aJ;rw[NV (by lia)]
    rfl
   .have:=(wv x.pk x.pb kn0 kn).2
    lia
  .rw[fI c];rcases a with a | ⟨a,hf⟩
   .exact absurd a c
   .rw[a] at c ⊢;refine⟨?_,t.ft,t.s8,hf⟩
    rw[tu (by lia),t.en c]
 have b:(thS x.pk x.pb st kn)=((cP st.1.1 (thG x.pk x.pb st.2 kn)++thG x.pk x.pb (knB (cP st.1.1 (thG x.pk x.pb st.2 kn)) st.2) kn,st.1.2++[lnW (cP st.1.1 (thG x.pk x.pb st.2 kn))]),lrnG x.pk x.pb kn (knB (cP st.1.1 (thG x.pk x.pb st.2 kn)) st.2) (thG x.pk x.pb (knB (cP st.1.1 (thG x.pk x.pb st.2 kn)) st.2) kn)):=rfl;rw[b];obtain⟨n,q,r,u⟩:=hs _ _ rfl rfl;clear hs b a;generalize cP st.1.1 (thG x.pk x.pb st.2 kn)=o at*;generalize knB o st.2=C at*;have j:lnW (o.map (plc (8*2^x.ps)))=lnW o:=qc _ _;have f:=xV U J d l;have i:=K0 (p:=at_+lnW o) U J h g f n q (by lia)
 have I:okC x ((8*2^(x.pm+x.ps):Nat):Int) at_ sp ((o++thG x.pk x.pb C kn).map (plc (8*2^x.ps))):=by
  rw[NZ];refine tI d ?_
  rw[j];exact i
 refine⟨I,fun e=>⟨I,fun _=> ?_,rG.lrnG U (qj h.v6.w8) (MG h.nm.1) r q,Kt U (qj h.v6.w8) r⟩⟩
 show dM x at_ sp ((o++thG x.pk x.pb C kn).map (plc (8*2^x.ps)))=(lrnG x.pk x.pb kn C (thG x.pk x.pb C kn)).sp
 rw[NZ,D5,j,Fj (kn:=kn) (ft:=C.ft) (L0 h.nm.2 e) (by lia) (K3 _ _ _ _),n]
theorem DV{x:Pn}{J at_:Nat}{bk:List Ins}(U:SpM.Room x.pk x.pb)(C:x.pm+x.ps<=7)(h:∀kn∈bk,GI J x.pg kn)(o:J<=2^x.pm)(I:at_ %8=0){sp:List SpM.Span}(a:Sp8 sp):∀j,j<=bk.length->(∀i,i<j->∀kn,bk[i]? =some kn->kn.1≠15)->ThI x at_ sp (thB x.pk x.pb (bk.take j))
 | 0,_,_=>⟨True.intro,fun z=>absurd (show lnW ([]:List Ins) %8=0 from rfl) z,rG.kn0,yJ⟩
 | j+1,hj,hn=>by
  have ih:=DV U C h o I a j (by lia) (fun i b=>hn i (by lia))
  have e:bk[j]? =some bk[j]:=mC (by lia)
  rw[s_ e];exact(HM U C (h _ (O0 _)) o I a ih).2 (hn j (by lia) _ e)
theorem IX{rk:Nat}{rb:Int}{bk:List Ins}(h:jR bk):jR (thD rk rb bk).1:=by
 obtain⟨o,C,rfl,I⟩:=h;have e:thD rk rb (o++[C])=(thS rk rb (thB rk rb o) C).1:=by
  unfold thD thB;rw[O4]
  rfl
 rw[e];refine jR.app ?_
 rcases gH rk rb (knB (cP (thB rk rb o).1.1 (thG rk rb (thB rk rb o).2 C)) (thB rk rb o).2) C with z | ⟨hk2,_⟩|⟨hk2,_⟩
 .rw[z];exact FO I
 .unfold hG at I;lia
 .unfold hG at I;lia
structure GuT (g:Int) (gs:List (List Ins)):Prop where
 ok:Je g gs
 mid:∀bk∈gs, ∀i,i+1<bk.length->∀kn,bk[i]? =some kn->¬hG kn.1
theorem Er{x:Pn}{U:List (List Ins)}{bk:List Ins}{at_:Nat}(f:SpM.Room x.pk x.pb)(C:x.pm+x.ps<=7)(h:GuT x.pg U)(hm:U.length<=2^x.pm)(g:bk∈U)(I:at_ %8=0):e9 x ((8*2^(x.pm+x.ps):Nat):Int) at_ ((thD x.pk x.pb bk).1.map (plc (8*2^x.ps))):=by
 intro n d;obtain⟨J,_,o,b,e,r⟩:=h.ok.blk bk g;have p:bk.length=o.length+1:=by rw[e,NT];rfl
 have t:=DV (x:=x) f C J hm I d o.length (by lia) (fun i q a j z=>h.mid bk g i (by lia) a j (.inr (.inr z)))
 have l:bk.take o.length=o:=by rw[e,Rr]
 rw[l] at t;have c:GI U.length x.pg b:=J b (by rw[e];exact OC _ N3)
 have z:=(HM f C c hm I d t).1;have m:thD x.pk x.pb bk=(thS x.pk x.pb (thB x.pk x.pb o) b).1:=by
  unfold thD thB;rw[e,O4]
  rfl
 rw[m];exact z
theorem yi{x:Pn}{C:List (List Ins)}(b:SpM.Room x.pk x.pb)(o:x.pm+x.ps<=7)(h:GuT x.pg C)(hm:C.length<=2^x.pm)(hs:∀bk∈C,lnW (thD x.pk x.pb bk).1<=8*2^x.ps):eZ x (iW (8*2^x.ps) (2^x.pm*(8*2^x.ps)) (C.map (thD x.pk x.pb))):=by
 have c:lnW (iW (8*2^x.ps) (2^x.pm*(8*2^x.ps)) (C.map (thD x.pk x.pb)))=8*2^(x.pm+x.ps):=by
  rw[zH (fun d hd=>by obtain⟨bk,I,rfl⟩:=OJ.mp hd;exact hs bk I) (by rw[be];exact PL _ hm),Rn]
  ac_rfl
 have J:=(bq (iW (8*2^x.ps) (2^x.pm*(8*2^x.ps)) (C.map (thD x.pk x.pb)))).trans c;have U:okC x (ao (iW (8*2^x.ps) (2^x.pm*(8*2^x.ps)) (C.map (thD x.pk x.pb)))).length 0 w8 (iW (8*2^x.ps) (2^x.pm*(8*2^x.ps)) (C.map (thD x.pk x.pb))):=by
  rw[J];refine xa b o (fun d hd=> ?_) w8 yJ
  obtain⟨bk,I,rfl⟩:=OJ.mp hd;exact⟨fun a e=>e9.app b o (Er b o h hm I e) (yd b o _ _),hs bk I⟩
 refine⟨J,U,Aa (fun z=>by rw[Pp] at z;have:=h.ok.n0;rw[z] at this;exact absurd this (by decide)) (fun d hd=> ?_),xW U⟩
 obtain⟨bk,I,rfl⟩:=OJ.mp hd;exact IX (h.ok.blk bk I).2.2
end
section
variable {P : Program} {w : World} {K : Frag} {mg : Str → Option Value} {base : Heap}
structure Rm (H:Hp) (a:Addr) (k:Nat) (b:Int):Prop where
 at_:∃xs,H a=some (.tup (.int k:: .int b::xs))
 room:SpM.Room k b
theorem Pl.rm{H:Hp}{a:Addr}{k:Nat}{b:Int}{m s:Nat}{g:Int}(p:Pl H a k b m s g):Rm H a k b:=⟨⟨_,p.at_⟩,p.room⟩
theorem Rm.mv{H o:Hp}{a:Addr}{k:Nat}{b:Int}(p:Rm H a k b)(e:aA H o):Rm o a k b:=⟨let ⟨xs,h⟩:=p.at_;⟨xs,e _ _ h⟩,p.room⟩
def Ip:Sp:=fun o H Q _=>∃(a:Addr) (k:Nat) (b:Int) (v:Int),o=[.ref a,.int v]/\Rm H a k b/\Q (.int (b+v %2^k)) H
def C9:Sp:=fun o H Q _=>∃(a:Addr) (k:Nat) (b:Int) (v:Int),o=[.ref a,.int v]/\Rm H a k b/\Q (.bl (decide (b<=v/\v<b+2^k))) H
theorem Bg(B:Bi mg)(D:u3 K mg)(d:Has P w K mg base 2 "rest" lW jg):Has P w K mg base 3 "fit_value" yt Ip:=by
 refine D.has AC (fun J H Q E h=> ?_) (fun f U A o s H J Q E e h=> ?_)
 .obtain⟨a,k,b,v,rfl,_⟩:=h
  rfl
 obtain⟨a,k,b,v,rfl,C,q⟩:=h;obtain⟨I,c⟩:=C.at_;have l:=C.room.k20;have i:atI (V.int k::V.int b::I) 0=some (.int k):=aQ (j:=0) rfl;have g:atI (V.int k::V.int b::I) 1=some (.int b):=aQ (j:=1) rfl;refine⟨_,(af (ai (aw aS (pX aj (pv 0) ad) (pcH d e (pa2 (pv 1) (pX aj (pv 0) ad)))))),?_⟩
 try dsimp only[aT]
 walk_at"g";exact q
theorem Ep(B:Bi mg)(D:zV K mg)(g:Has P w K mg base 1 "power_of_two" mB jo):Has P w K mg base 2 "in_room" CK C9:=by
 refine D.has EI (fun J H Q E h=> ?_) (fun f U A o s H J Q E i h=> ?_)
 .obtain⟨a,k,b,v,rfl,_⟩:=h
  rfl
 obtain⟨a,k,b,v,rfl,C,q⟩:=h;obtain⟨I,d⟩:=C.at_;have n:=C.room.k20;have m:atI (V.int k::V.int b::I) 0=some (.int k):=aQ (j:=0) rfl;have l:atI (V.int k::V.int b::I) 1=some (.int b):=aQ (j:=1) rfl;refine⟨_,(af (ai (Ig (pcE Ft (pX aj (pv 0) ad) (pv 1)) (oU (pcE fL (pv 1) (aw aS (pX aj (pv 0) ad) (pcH g i (pa1 (pX aj (pv 0) ad))))))))),?_⟩
 try dsimp only[aT]
 walk_at"g";refine bc (fun c=> ?_) (fun c=> ?_)
 .walk_at"g";have e:decide (b<=v/\v<b+2^k)=decide (v<b+2^k):=O1.mpr ⟨fun h=>h.2,fun h=>⟨c,h⟩⟩
  rw[e] at q;exact q
 .rw[NX (fun h=>c h.1)] at q
  exact q
noncomputable def bxG(bx:List Int)(i:Int):Int:=bx.getD i.toNat 0
noncomputable def kD(pk:Nat)(o:Int)(pm ps:Nat)(k:Nat)(ns bx:List Int):Int:=
 if k=1 then ns.getD 1 0 else if k=10 then(bxG bx (ns.getD 1 0)+ns.getD 2 0) %4294967296 else if k=16 then o+bxG bx (ns.getD 1 0) %2^pk else if k=17 then SpM.aimV pm ps (bxG bx (ns.getD 1 0))
 else SpM.jv (EU k) (bxG bx (ns.getD 1 0)) (bxG bx (ns.getD 2 0))
def makes(k:Nat):Prop:=(1<=k/\k<=10)\/k=16\/k=17
structure BxN (nb:Nat) (bx:List Int):Prop where
 len:bx.length=nb
 rng:∀x∈bx,0<=x/\x<4294967296
abbrev Bxs(bx:List Int):Prop:=BxN 8 bx
theorem BxN.at{C:Nat}{bx:List Int}(h:BxN C bx){i:Int}(U:0<=i)(J:i<C):atI (bx.map V.int) i=some (.int (bxG bx i))/\0<=bxG bx i/\bxG bx i<4294967296:=by
 have o:i.toNat<bx.length:=by rw[h.len];lia
 have I:i=((i.toNat:Nat):Int):=by lia
 have e:bxG bx i=bx[i.toNat]:=by unfold bxG;rw[N9,mC o];rfl
 have r:=h.rng _ (O0 o);refine⟨?_,by rw[e];exact r.1,by rw[e];exact r.2⟩
 rw[e];have q:atI (bx.map V.int) ((i.toNat:Nat):Int)=some (.int bx[i.toNat]):=aQ (by rw[OB,mC o] <;> rfl)
 rw[<- I] at q;exact q
theorem Bxs.at{bx:List Int}(h:Bxs bx){i:Int}(C:0<=i)(o:i<8):atI (bx.map V.int) i=some (.int (bxG bx i))/\0<=bxG bx i/\bxG bx i<4294967296:=BxN.at h C o
def M7(K:Frag):Sp:=fun e H Q _=>∃(I a b:Addr) (U k:Nat) (o J:List Int) (pk:Nat) (C:Int) (c d:Nat),e=[.ref I,.ref a,.ref b]/\Rm H I pk C/\(k=17->∃pg,Pl H I pk C c d pg)/\
 H b=some (.lst (J.map V.int))/\BxN U J/\aC U 262144 k o/\makes k/\SqT K H a (aD k o)/\Q (.int (kD pk C c d k o J)) H
theorem zg(B:Bi mg)(D:sW K mg)(Z:Has P w K mg base 2 "rest" lW jg)(dJ:Has P w K mg base 3 "joined_value" GE LZ)(X:Has P w K mg base 3 "fit_value" yt Ip)
  (Y:Has P w K mg base 3 "aim_value" yt Eh):Has P w K mg base 4 "made_value" CY (M7 K):=by
 refine D.has kS (fun O H Q E h=> ?_) (fun f R A m s H O Q E g h=> ?_)
 .obtain⟨S,a,bl,W,k,n,b,pk,G,p,L,rfl,_⟩:=h
  rfl
 obtain⟨S,a,bl,W,k,n,b,pk,G,p,L,rfl,N,U,hb,o,hv,hm,ha,q⟩:=h;have i0:atI (aD k n) 0=some (.str (aN k)):=jx
 refine⟨_,(aa (psS 3 kS.nd (pX aj (pv 1) ad))
   (aa (ay (pcT aE (pv 3) ax) (af (ai (pX aj (pv 1) ad))) al)
   (aa (psS 4 kS.nd (pX ba (pv 2) (pX aj (pv 1) ad)))
   (aa (ay (pcT aE (pv 3) ax) (af (ai (pcH Z g (pa2 (aw aS (pv 4) (pX aj (pv 1) ad)) ad)))) al)
   (aa (ay (pcT aE (pv 3) ax) (af (ai (pcH X g (pa2 (pv 0) (pv 4))))) al)
   (aa (ay (pcT aE (pv 3) ax) (af (ai (pcH Y g (pa2 (pv 0) (pv 4))))) al)
   (af (ai (pcH dJ g (pa3 (pv 3) (pv 4) (pX ba (pv 2) (pX aj (pv 1) ad)))))))))))),?_⟩
 try dsimp only[aT]
 rcases hv with⟨rfl,rfl⟩|⟨rfl,x,v,rfl,d,i,v0,v1⟩|⟨u,F,x,y,z,rfl,d,i,I,J,z0,z1⟩|⟨u,F,x,y,z,rfl,d,i,I,J,z0,z1⟩|⟨C,z,rfl,z0,z1⟩|⟨rfl,x,z,rfl,d,i,z0,z1⟩|⟨rfl,y,rfl,I,J⟩|⟨C,x,y,rfl,d,i,I,J⟩
 .unfold makes at hm;lia
 .have c:atI (aD 1 [x,v]) 2=some (.int v):=jA;walk_at"g";walk_at"wd";exact q
 .have C:k<19:=by lia
  obtain⟨M,r,b3⟩:=o.at I J;obtain⟨c1,c2,c3⟩:=o.at z0 z1;have c:atI (aD k [x,y,z]) 2=some (.int y):=jA;have T:atI (aD k [x,y,z]) 3=some (.int z):=yE;have e:kD pk G p L k [x,y,z] b=SpM.jv (EU k) (bxG b y) (bxG b z):=by
   unfold kD;rw[fI (by lia),fI (by lia),fI (by lia),fI (by lia)]
   rfl
  rw[e] at q;have es:=Io k u F;walk_at"g";refine bN (sne C (j:=1) (by decide) (by lia)) ?_
  walk_at"g";refine bN (sne C (j:=10) (by decide) (by lia)) ?_
  walk_at"g";refine bN (sne C (j:=16) (by decide) (by lia)) ?_
  walk_at"g";refine bN (sne C (j:=17) (by decide) (by lia)) ?_
  walk_at"g";rw[es];walk_at"g";exact q
 .have C:k<19:=by lia
  have l:k=10:=by unfold makes at hm;lia
  subst l;obtain⟨M,r,b3⟩:=o.at I J;have c:atI (aD 10 [x,y,z]) 2=some (.int y):=jA;have T:atI (aD 10 [x,y,z]) 3=some (.int z):=yE;walk_at"g";walk_at"wd";exact q
 .unfold makes at hm;lia
 .unfold makes at hm;lia
 .unfold makes at hm;lia
 .obtain⟨M,r,b3⟩:=o.at I J;rcases C with rfl | rfl
  .have c:atI (aD 16 [x,y]) 2=some (.int y):=jA;walk_at"g";walk_at"wd";exact q
  .have c:atI (aD 17 [x,y]) 2=some (.int y):=jA;obtain⟨pg,U⟩:=U rfl;walk_at"g";walk_at"wd";exact q
noncomputable def qK(k:Nat)(ns bx:List Int)(p:Int):Int:=if k=13 then ns.getD 0 0 else if k=15 then bxG bx (ns.getD 0 0) else if bxG bx (ns.getD 0 0)≠0 then ns.getD 1 0 else p+1
def dE(kvs:List (Key × V)):Prop:=∀o∈kvs, ∃i v:Int,o=(.inl i,.int v)/\0<=v/\v<4294967296
noncomputable def wV(kvs:List (Key × V))(r:Int):Int:=match km kvs (.inl r) with
 | some (.int v)=>v
 | _=>0
theorem Bc:∀{kvs:List (Key × V)}{k:Key}{x:V},km kvs k=some x->(k,x)∈kvs
 | [],k,x,h=>by cases h
 | p::r,k,x,h=>by
  by_cases e:p.1=k
  .rw[oi e] at h;have o:=N_ h;rw[<- e, <-o];exact N3 ..
  .rw[pq e] at h;exact N2 _ (Bc h)
theorem dE.get{kvs:List (Key × V)}(h:dE kvs)(r:Int):(km kvs (.inl r)).getD (.int 0)= .int (wV kvs r)/\0<=wV kvs r/\wV kvs r<4294967296:=by
 unfold wV
 cases e:km kvs (.inl r) with
 | none=>exact⟨rfl,by decide,by decide⟩
 | some x=>
  obtain⟨i,v,o,v0,v1⟩:=h _ (Bc e);have C:x= .int v:=congrArg Prod.snd o;subst C;exact⟨rfl,v0,v1⟩
theorem dE.put{kvs:List (Key × V)}(h:dE kvs){r v:Int}(v0:0<=v)(v1:v<4294967296):dE (cF kvs (.inl r) (.int v)):=by
 intro C o;unfold cF at o
 split at o
 .obtain⟨x,hx,e⟩:=OJ.mp o
  split at e
  .rename_i ek
   rw[<- e,ek];exact⟨r,v,rfl,v0,v1⟩
  .rw[<- e];exact h x hx
 .rcases Ot.mp o with hx | hx
  .exact h C hx
  .have:C=(.inl r,.int v):=by simpa using hx
   exact⟨r,v,this,v0,v1⟩
theorem BxN.set{C:Nat}{bx:List Int}(h:BxN C bx){i:Nat}{v:Int}(v0:0<=v)(v1:v<4294967296):BxN C (bx.set i v):=
 ⟨by rw[P0];exact h.len,fun x o=>by
  rcases QH o with o | o
  .exact h.rng x o
  .subst o;exact⟨v0,v1⟩⟩
theorem Bxs.set{bx:List Int}(h:Bxs bx){i:Nat}{v:Int}(v0:0<=v)(v1:v<4294967296):Bxs (bx.set i v):=BxN.set h v0 v1
noncomputable def bE(ns bx:List Int):Int:=(bxG bx (ns.getD 1 0)+ns.getD 2 0) %4294967296
def InR(pk:Nat)(o r:Int):Prop:=o<=r/\r<o+2^pk
noncomputable instance {pk:Nat}{pb r:Int}:Decidable (InR pk pb r):=inferInstanceAs (Decidable (_/\_))
theorem M3{H:Hp}{a b:Addr}{u o:HO}{xs:List V}(C:H b=some u)(I:∀ys,u≠ .tup ys/\∀o,u≠ .frz o (.tup ys))(h:SqT K H a xs):SqT K (upd H b o) a xs:=by
 unfold SqT at h ⊢;rcases h with h | h
 .refine .inl ?_
  rcases h with h | ⟨ob,h⟩
  .exact .inl (by rw[aq (fun z=>by rw[z,C] at h;exact(I _).1 (N_ h))];exact h)
  .exact .inr ⟨ob,by rw[aq (fun z=>by rw[z,C] at h;exact(I _).2 _ (N_ h))];exact h⟩
 .exact .inr h
theorem FT{n j:Nat}(h:j<n):ixN n (j:Int)=some j:=by
 unfold ixN;rw[NV (by lia),NV (by lia),Os]
noncomputable abbrev hfs(pl:Addr)(g:Int)(o I C rw:Addr):List (Str × V):=
 [("plan",.ref pl),("gates",.int g),("boxes",.ref o),("memory",.ref I),("replies",.ref C),("rows",.ref rw)]
def Fb(K:Frag)(C:Addr):Sp:=fun i H Q _=>∃(o a l e d c j rw:Addr) (g:Int) (f k:Nat) (J U:List Int) (I:List (Key × V)) (pk:Nat) (b:Int),i=[.ref o,.ref a]/\H o=some (.ins C l (hfs e g d c j rw))/\Rm H e pk b/\
 H d=some (.lst (U.map V.int))/\BxN f U/\aC f 262144 k J/\(k=11\/k=12)/\SqT K H a (aD k J)/\H c=some (.dK I)/\dE I/\I.length<=10000/\
 (¬ InR pk b (bE J U)->∀q,H q=none->Q (.ref q) (upd H q (.tup [.str "beyond",.int (bE J U)])))/\
 (InR pk b (bE J U)->k=11->Q .non (upd H d (.lst ((U.set (J.getD 0 0).toNat (wV I (bE J U))).map V.int))))/\
 (InR pk b (bE J U)->k=12->Q .non (upd H c (.dK (cF I (.inl (bE J U)) (.int (bxG U (J.getD 0 0)))))))
theorem uz{C:Addr}(B:Bi mg)(c:dW K mg "Holding" C)(n:fD K C)(D:jd K C)(W:Has P w K mg base 2 "rest" lW jg)(uh:Has P w K mg base 2 "in_room" CK C9):
  cx P w K mg base 3 C "reach" cY (Fb K C):=by
 refine D.has c.cl iE (fun vs H Q E h=> ?_) (fun f au A u s H vs Q E e h=> ?_)
 .obtain⟨o,a,Z,pl,q,U,rl,rw,g,i,k,M,I,J,pk,p,rfl,_⟩:=h
  rfl
 obtain⟨o,a,Z,pl,q,U,rl,rw,g,i,k,M,I,J,pk,p,rfl,ho,X,O,b,hv,hk,ha,hm,j,m,G,N,v⟩:=h;obtain⟨x,y,z,rfl,Y,x1,S,y1,z0,z1⟩:∃x y z,M=[x,y,z]/\0<=x/\x<i/\0<=y/\y<i/\ -131072<=z/\z<131072:=aC.acc hv (by first | assumption | lia)
 have hc:=c.cl;have n1:=n.boxes;have n2:=n.plan;have n3:=n.memory;have L:k<19:=by lia
 have i0:atI (aD k [x,y,z]) 0=some (.str (aN k)):=jx;have i1:atI (aD k [x,y,z]) 1=some (.int x):=lP;have i2:atI (aD k [x,y,z]) 2=some (.int y):=jA;have i3:atI (aD k [x,y,z]) 3=some (.int z):=yE;obtain⟨b1,b2,b3⟩:=b.at S y1;obtain⟨a1,a2,a3⟩:=b.at Y x1;have R:bE [x,y,z] I=(bxG I y+z) %4294967296:=rfl;rw[R] at G N v;have aP:o≠q:=by rintro rfl;rw[ho] at O;cases O
 have ar:o≠U:=by rintro rfl;rw[ho] at hm;cases hm
 refine⟨_,(aa (psS 2 iE.nd (pX aj (pv 1) ad))
   (aa (psS 3 iE.nd (pcH W e (pa2 (aw aS (pX ba (aV (pv 0) (by rfl)) (pX aj (pv 1) ad)) (pX aj (pv 1) ad)) ad)))
   (aa (ay (gA (cJ (pcH uh e (pa2 (aV (pv 0) (by rfl)) (pv 3))))) (af (ai (aB (pa2 ax (pv 3))))) al)
   (aa (aL (a_ (ay (pcT aE (pX aj (pv 1) ad) ax) (af (gX (HA (xj e) (aV (pv 0) (by rfl)) (pv 3) ad ⟨(by rfl),(by rfl),(by rfl),(by rfl)⟩) (kJ (aV (pv 0) (by rfl)) (pv 2) f_))) (af (wp (xj e) (aV (pv 0) (by rfl)) (pv 3) (pX ba (aV (pv 0) (by rfl)) (pv 2)) (by rfl))))))
   (af (ai eP)))))),?_⟩
 try dsimp only[aT]
 walk_at"g";have l:(bxG I y+z) %2^32=(bxG I y+z) %4294967296:=rfl;rw[l];generalize (bxG I y+z) %4294967296=r at*
 by_cases d:p<=r/\r<p+2^pk
 .rw[NY d];walk_at"g";obtain⟨T,g2,g3⟩:=j.get r;have hD:IsD H U:= .inl ⟨_,.inl hm⟩;have hg:yS H U (.int r) (km J (.inl r)):=yS.k (k:= .inl r) hm;have aH:tE H U (.int r) (.int (bxG I x)) (upd H U (.dK (cF J (.inl r) (.int (bxG I x))))):=tE.k (k:= .inl r) hm (Of m (by decide))
  have ab:ixN (I.map V.int).length x=some x.toNat:=by
   have ek:x=((x.toNat:Nat):Int):=by lia
   rw[ek,be,b.len];exact FT (by lia)
  walk_at"n";refine⟨fun Z' F=>az (Z'=[some (.ref o),some (.ref a),some (.int x),some (.int r)]/\((k=11/\F=upd H q (.lst ((I.set x.toNat (wV J r)).map V.int)))\/(k=12/\F=upd H U (.dK (cF J (.inl r) (.int (bxG I x))))))),?_,?_⟩
  .rcases hk with rfl | rfl
   .walk_at"g";walk_at"wd";rw[T, <-Sb];exact⟨rfl,.inl ⟨rfl,rfl⟩⟩
   .walk_at"g";walk_at"wd";exact⟨rfl,.inr ⟨rfl,rfl⟩⟩
  rintro Z1 H1 ⟨rfl,hH⟩
  rcases hH with⟨rfl,rfl⟩|⟨rfl,rfl⟩
  .walk_at"g";exact N d rfl
  .walk_at"g";exact v d rfl
 .rw[NX d];walk_at"g";exact G d
structure Rep (K:Frag) (H:Hp) (ml:Addr) (v:V) (bs:List Int) (ws:List (Key × V)):Prop where
 ex:∃a b d:Addr,v= .ref a/\SqT K H a [.ref b,.ref d]/\SqT K H b (bs.map V.int)/\H d=some (.dK ws)/\d≠ml
 len:bs.length=7
 rng:∀x∈bs,0<=x/\x<4294967296
 mem:dE ws
 few:ws.length<=100
 nod:(ws.map (·.1)).Nodup
def J8(H o:Hp)(r:Addr)(n:Int)(bx:List Int)(kvs:List (Key × V)):Prop:=∃t d,H t=none/\H d=none/\o r=some (.tup [.int n,.ref t,.ref d])/\o t=some (.tup (bx.map V.int))/\o d=some (.dK kvs)
def Bu(S:List Addr)(H o:Hp):Prop:=∀b u,b ∉ S->H b=some u->o b=some u
def KQ(K:Frag)(C:Addr):Sp:=fun p H Q _=>∃(o m j i b f rw:Addr) (g n:Int) (e:Nat) (d:List Int) (I:List (Key × V)) (c U:List V),p=[.ref o,.int n]/\H o=some (.ins C m (hfs j g i b f rw))/\
 H i=some (.lst (d.map V.int))/\BxN e d/\0<e/\e<=8/\H b=some (.dK I)/\dE I/\I.length<=10000/\H rw=some (.lst c)/\c.length<=10000/\SqL K H f U/\f≠rw/\i≠rw/\
 (g<=n->∀q,H q=none->Q (.ref q) (upd H q (.tup [.str "lost"])))/\
 (n<g->U.length<=c.length->∀q r J,Bu [rw] H J->H q=none->H r=none->J q=some (.tup [.str "asks",.int n])->J rw=some (.lst (c++[.ref r]))->J8 H J r n d I->Q (.ref q) J)/\
 (n<g->∀v,U[c.length]? =some v->∃bs l,Rep K H b v bs l/\∀a r J,Bu [o,i,b,rw] H J->H a=none->H r=none->J o=some (.ins C m (hfs j g a b f rw))->J a=some (.lst ((bs.take e++d.drop 7).map V.int))->
  J b=some (.dK (eC I l))->J rw=some (.lst (c++[.ref r]))->J8 H J r n d I->Q .non J)
theorem wX{C:Addr}(B:Bi mg)(c:dW K mg "Holding" C)(n:fD K C)(D:kQ K C):cx P w K mg base 1 C "ask" C0 (KQ K C):=by
 refine D.has c.cl jP (fun vs H Q E h=> ?_) (fun f dq A cm s H vs Q E hr h=> ?_)
 .obtain⟨o,dx,pl,bl,l,rl,rw,g,n,r,I,a,L,p,rfl,_⟩:=h
  rfl
 obtain⟨o,dx,pl,bl,l,rl,rw,pg,m,r,I,a,L,p,rfl,ho,hb,a6,c',cQ,hm,c6,bY,J,bu,b',cg,b1,q1,q2,q3⟩:=h;have hc:=c.cl;have n1:=n.boxes;have n2:=n.gates;have n3:=n.memory;have n4:=n.rows;have n5:=n.replies
 refine⟨_,(aa (ay (pcT iT (pv 1) (aV (pv 0) (by rfl))) (af (ai (aB (pa1 ax)))) al)
   (aa (psS 2 jP.nd (aM aG (by rfl) B.len bS (pa1 (aV (pv 0) (by rfl)))))
   (aa (bP (jk Oq Ov Ow du (aV (pv 0) (by rfl)) (pa1 (aB (pa3 (pv 1) (bX de (by rfl) B.tuple f8 (pa1 (aV (pv 0) (by rfl)))) (bX tV (by rfl) B.dict FM (pa1 (aV (pv 0) (by rfl)))))))))
   (aa (ay (pcT iT (pv 2) (aM aG (by rfl) B.len bS (pa1 (aV (pv 0) (by rfl))))) (af (ai (aB (pa2 ax (pv 1))))) al)
   (aa (psS 3 jP.nd (pX ba (aV (pv 0) (by rfl)) (pv 2)))
   (aa (cu (pv 0) (aw lE (bX nE (by rfl) B.list AE (pa1 (dR Jo (pX aj (pv 3) ad) gS (d6 (aM aG (by rfl) B.len bS (pa1 (aV (pv 0) (by rfl)))))))) (dR ww (aV (pv 0) (by rfl)) (d6 ad) gS)) (by rfl))
   (aa (bP (jk QX QP PySem.F.type_dict_update F_ (aV (pv 0) (by rfl)) (pa1 (pX aj (pv 3) ad))))
   (af (ai eP))))))))),?_⟩
 try dsimp only[aT]
 walk_at"g";refine bc (fun c1=> ?_) (fun c1=> ?_)
 .walk_at"g";exact q1 c1
 have aP:m<pg:=by lia
 have cz:tyV K "list" (.ref rw) H:= .inl ⟨rfl,_,SqL.of J⟩;walk_at"g";intro j U;have cS:l≠j:=ak hm U;have dm:rw≠j:=ak J U;have dr:=cG (o:= .tup (I.map V.int)) U hm;have c8:=cG (o:= .tup (I.map V.int)) U ho;walk_at"g";intro i x;walk_at"g";intro d G;have S:aA H (upd (upd (upd H j (.tup (I.map V.int))) i (.dK a)) d (.tup [.int m,.ref j,.ref i])):=cy G (cy x (ag U _));have d1:H i=none:=by
  cases e:H i with
  | none=>rfl
  | some u=>rw[cG (o:= .tup (I.map V.int)) U e] at x;cases x
 have r1:H d=none:=by
  cases e:H d with
  | none=>rfl
  | some u=>rw[cG (o:= .dK a) x (cG (o:= .tup (I.map V.int)) U e)] at G;cases G
 have aU:upd (upd (upd H j (.tup (I.map V.int))) i (.dK a)) d (.tup [.int m,.ref j,.ref i]) d=some (.tup [.int m,.ref j,.ref i]):=ae;have aY:upd (upd (upd H j (.tup (I.map V.int))) i (.dK a)) d (.tup [.int m,.ref j,.ref i]) j=some (.tup (I.map V.int)):=cG G (cG x ae);have bp:upd (upd (upd H j (.tup (I.map V.int))) i (.dK a)) d (.tup [.int m,.ref j,.ref i]) i=some (.dK a):=cG G ae;generalize upd (upd (upd H j (.tup (I.map V.int))) i (.dK a)) d (.tup [.int m,.ref j,.ref i])=H1 at*;have Y:=S _ _ J;have cZ:L.length<sizeLine:=Of bu (by decide)
 have y:But rw H1 (upd H1 rw (.lst (L++[V.ref d]))):=But.upd;have R:upd H1 rw (.lst (L++[V.ref d])) rw=some (.lst (L++[V.ref d])):=ae;have a':o≠rw:=by rintro rfl;rw[ho] at J;cases J
 have bh:l≠rw:=by rintro rfl;rw[hm] at J;cases J
 have cc:d≠rw:=(ak J r1).symm;have bb:=y _ _ a' (S _ _ ho);have aH:=y _ _ b1 (S _ _ hb);have bV:=y _ _ bh (S _ _ hm);have ct:=But.seq y cg (S.seq b');have ab:=y _ _ cc aU;have W:=y _ _ (ak J U).symm aY;have Z:=y _ _ (ak J d1).symm bp;have O:Bu [rw] H (upd H1 rw (.lst (L++[V.ref d]))):=fun b u X e=>y _ _ (by simpa using X) (S _ _ e)
 walk_at"g";generalize upd H1 rw (.lst (L++[V.ref d]))=H2 at*;refine bc (fun c2=> ?_) (fun c2=> ?_)
 .walk_at"g";intro q T;have bM:H q=none:=by
   by_cases z:q=rw
   .rw[z,R] at T;cases T
   .cases e:H q with
    | none=>rfl
    | some u=>rw[O q u (by simpa using z) e] at T;cases T
  refine q2 aP (by lia) q d _ (fun b u X e=>cG T (O b u X e)) bM r1 ae (cG T R) ⟨j,i,U,d1,cG T ab,cG T W,cG T Z⟩
 .have hlr:L.length<p.length:=by lia
  obtain⟨v,hv⟩:∃v,p[L.length]? =some v:=⟨_,mC hlr⟩;obtain⟨bs,ws,rep,q4⟩:=q3 aP v hv;obtain⟨ra,rx,rd,rfl,h1,h2,h3,h4⟩:=rep.ex;have da:atI p ((L.length:Nat):Int)=some (.ref ra):=aQ hv;have bT:=But.tup y Y (S.tup h1);have dn:=But.tup y Y (S.tup h2);have bt:rd≠rw:=by rintro rfl;rw[h3] at J;cases J
  have b0:=y _ _ bt (S _ _ h3);have dp:(bs.map V.int).length=7:=by rw[be,rep.len]
  have bA:(I.map V.int).length=r:=by rw[be,a6.len]
  walk_at"g";intro t1 H3 s3 b8;rw[bA,Ir, <-QR] at b8;have dh:=s3 _ _ bb;have c7:=s3 _ _ aH;walk_at"g";intro l1 bW;have b9:upd H3 l1 (.lst ((bs.take r).map V.int)) l1=some (.lst ((bs.take r).map V.int)):=ae;have s4:=cy (o:= .lst ((bs.take r).map V.int)) bW s3;have bF:=s4 _ _ bb;have cH:=s4 _ _ aH;generalize upd H3 l1 (.lst ((bs.take r).map V.int))=H4 at*;walk_at"g";intro l2 ar;have e7:gw (I.map V.int) (some 7) none=(I.drop 7).map V.int:=by
   have:=sQ (xs:=I.map V.int) (n:=7);rw[QS];exact this
  rw[e7];have bL:=cG (o:= .lst ((I.drop 7).map V.int)) ar bF;have c9:=cG (o:= .lst ((I.drop 7).map V.int)) ar b9;have dc:upd H4 l2 (.lst ((I.drop 7).map V.int)) l2=some (.lst ((I.drop 7).map V.int)):=ae;have s5:=cy (o:= .lst ((I.drop 7).map V.int)) ar s4;generalize upd H4 l2 (.lst ((I.drop 7).map V.int))=H5 at*;have dy:((bs.take r).map V.int).length+((I.drop 7).map V.int).length<=sizeLine:=by
   rw[be,be,Oh,OZ,rep.len,a6.len];exact Oc (show _<=100 by lia) (by decide)
  walk_at"g";intro l3 M;rw[<- NZ];have bC:=cG (o:= .lst ((bs.take r++I.drop 7).map V.int)) M bL;have b5:upd H5 l3 (.lst ((bs.take r++I.drop 7).map V.int)) l3=some (.lst ((bs.take r++I.drop 7).map V.int)):=ae;have s6:=cy (o:= .lst ((bs.take r++I.drop 7).map V.int)) M s5;have N:H2 l3=none:=by
   cases e:H2 l3 with
   | none=>rfl
   | some u=>rw[s5 _ _ e] at M;cases M
  generalize upd H5 l3 (.lst ((bs.take r++I.drop 7).map V.int))=H6 at*;walk_at"g";have e6:upd H6 o (.ins C dx (bR "boxes" (.ref l3) (hfs pl pg bl l rl rw))) o=some (.ins C dx (hfs pl pg l3 l rl rw)):=ae;have b6:But o H6 (upd H6 o (.ins C dx (bR "boxes" (.ref l3) (hfs pl pg bl l rl rw)))):=But.upd;have a7:l≠o:=by rintro rfl;rw[ho] at hm;cases hm
  have bw:rd≠o:=by rintro rfl;rw[ho] at h3;cases h3
  have bG:=b6 _ _ a7 (s6 _ _ bV);have dv:=b6 _ _ bw (s6 _ _ b0);have cv:SqT K (upd H6 o (.ins C dx (bR "boxes" (.ref l3) (hfs pl pg bl l rl rw)))) ra [.ref rx,.ref rd]:=M3 bC (fun _=>⟨(fun z=>by cases z),(fun _ z=>by cases z)⟩) (s6.tup bT)
  generalize upd H6 o (.ins C dx (bR "boxes" (.ref l3) (hfs pl pg bl l rl rw)))=H7 at*;have cp:tyV K "dict" (.ref l) H7:= .inr (.inr (.inl ⟨rfl,.inl ⟨_,bG⟩⟩));have cO:a.length+ws.length<=sizeLine:=Oc (Nat.add_le_add bY rep.few) (by decide)
  have cq:l≠rd:=Ox h4;walk_at"g";have au:H l3=none:=by
   by_cases z:l3=rw
   .rw[z,R] at N;cases N
   .cases e:H l3 with
    | none=>rfl
    | some u=>rw[O l3 u (by simpa using z) e] at N;cases N
  have b4:l3≠o:=(ak ho au).symm;have b7:l3≠l:=(ak hm au).symm;have cb:rw≠o:=Ox a';have up:∀b u,b≠o->b≠l->H2 b=some u->upd H7 l (.dK (eC a ws)) b=some u:=fun b u z1 z2 e=>by
   rw[aq z2];exact b6 _ _ z1 (s6 _ _ e)
  refine q4 l3 d _ (fun b u X e=> ?_) au r1 ?_ ?_ ae (up _ _ cb (Ox bh) R) ?_
  .have hn':b≠o/\b≠bl/\b≠l/\b≠rw:=by
    refine⟨fun z=>X (by simp [z]),fun z=>X (by simp [z]),fun z=>X (by simp [z]),fun z=>X (by simp [z])⟩
   exact up b u hn'.1 hn'.2.2.1 (O b u (by simpa using hn'.2.2.2) e)
  .rw[aq (Ox a7)];exact e6
  .rw[aq b7];exact b6 _ _ b4 b5
  .exact⟨j,i,U,d1,up _ _ (ak ho r1).symm (ak hm r1).symm ab,up _ _ (ak ho U).symm (ak hm U).symm W,up _ _ (ak ho d1).symm (ak hm d1).symm Z⟩
structure HSt where
 bx:List Int
 kvs:List (Key × V)
 rows:List (Int × List Int × List (Key × V))
structure Fx where
 pk:Nat
 pb:Int
 pm:Nat
 ps:Nat
 pg:Int
 reps:List (List Int × List (Key × V))
noncomputable def iZ(x:Fx)(k:Nat)(ns:List Int)(st:HSt):Option (Str × List Int) × HSt:=
 if k=18 then
  if x.pg<=ns.getD 0 0 then(some ("lost",[]),st)
  else match x.reps[st.rows.length]? with
   | none=>(some ("asks",[ns.getD 0 0]),{st with rows:=st.rows++[(ns.getD 0 0,st.bx,st.kvs)]})
   | some (bs,ws)=>(none,⟨bs.take st.bx.length++st.bx.drop 7,eC st.kvs ws,st.rows++[(ns.getD 0 0,st.bx,st.kvs)]⟩)
 else if k=11\/k=12 then
  if InR x.pk x.pb (bE ns st.bx) then
   if k=11 then(none,{st with bx:=st.bx.set (ns.getD 0 0).toNat (wV st.kvs (bE ns st.bx))})
   else(none,{st with kvs:=cF st.kvs (.inl (bE ns st.bx)) (.int (bxG st.bx (ns.getD 0 0)))})
  else(some ("beyond",[bE ns st.bx]),st)
 else(none,{st with bx:=st.bx.set (ns.getD 0 0).toNat (kD x.pk x.pb x.pm x.ps k ns st.bx)})
def qJ(H:Hp)(o:Addr):List Addr->List (Int × List Int × List (Key × V))->Prop
 | [],[]=>True
 | r::rs,x::xs=>(∃t d,H r=some (.tup [.int x.1,.ref t,.ref d])/\H t=some (.tup (x.2.1.map V.int))/\H d=some (.dK x.2.2)/\d≠o)/\qJ H o rs xs
 | _,_=>False
theorem qJ.len{H:Hp}{C:Addr}:∀{o:List Addr}{xs:List (Int × List Int × List (Key × V))},qJ H C o xs->o.length=xs.length
 | [],[],_=>rfl
 | _::_,_::_,h=>congrArg (· +1) (qJ.len h.2)
 | [],_::_,h=>h.elim
 | _::_,[],h=>h.elim
def fM(C H:Hp)(o:Addr):List (Addr × Addr)->List (Int × List Int × List (Key × V))->Prop
 | [],[]=>True
 | e::es,x::xs=>(C e.2=none/\e.2≠o/\H e.2=some (.dK x.2.2)/\∃t,H e.1=some (.tup [.int x.1,.ref t,.ref e.2])/\H t=some (.tup (x.2.1.map V.int)))/\fM C H o es xs
 | _,_=>False
theorem fM.mono{i o H I:Hp}{U C:Addr}(J:∀a xs,H a=some (.tup xs)->I a=some (.tup xs))(f:∀a kvs,i a=none->a≠U->H a=some (.dK kvs)->o a=none/\I a=some (.dK kvs)/\a≠C):∀{g:List (Addr × Addr)}{xs:List (Int × List Int × List (Key × V))},fM i H U g xs->fM o I C g xs
 | [],[],_=>True.intro
 | _::_,_::_,h=>by
  obtain⟨⟨a,b,c,t,d,e⟩,r⟩:=h;obtain⟨c1,c2,c3⟩:=f _ _ a b c;exact⟨⟨c1,c3,c2,t,J _ _ d,J _ _ e⟩,fM.mono J f r⟩
 | [],_::_,h=>h.elim
 | _::_,[],h=>h.elim
theorem fM.len{I H:Hp}{C:Addr}:∀{o:List (Addr × Addr)}{xs:List (Int × List Int × List (Key × V))},fM I H C o xs->o.length=xs.length
 | [],[],_=>rfl
 | _::_,_::_,h=>congrArg (· +1) (fM.len h.2)
 | [],_::_,h=>h.elim
 | _::_,[],h=>h.elim
theorem fM.there{I H:Hp}{C:Addr}:∀{o:List (Addr × Addr)}{xs:List (Int × List Int × List (Key × V))},fM I H C o xs->∀d∈o.map (·.2), ∃u,H d=some u
 | [],[],_=>fun d h=>by cases h
 | _::_,_::_,h=>fun d hd=>by
  rcases Od.mp hd with rfl | hd
  .exact⟨_,h.1.2.2.1⟩
  .exact fM.there h.2 d hd
 | [],_::_,h=>h.elim
 | _::_,[],h=>h.elim
theorem fM.push{C H:Hp}{o:Addr}{e:Addr × Addr}{x:Int × List Int × List (Key × V)}(I:C e.2=none/\e.2≠o/\H e.2=some (.dK x.2.2)/\∃t,H e.1=some (.tup [.int x.1,.ref t,.ref e.2])/\H t=some (.tup (x.2.1.map V.int))):∀{J:List (Addr × Addr)}{xs:List (Int × List Int × List (Key × V))},fM C H o J xs->fM C H o (J++[e]) (xs++[x])
 | [],[],_=>⟨I,True.intro⟩
 | _::_,_::_,h=>⟨h.1,fM.push I h.2⟩
 | [],_::_,h=>h.elim
 | _::_,[],h=>h.elim
theorem fM.rows{I H:Hp}{C:Addr}:∀{o:List (Addr × Addr)}{xs:List (Int × List Int × List (Key × V))},fM I H C o xs->qJ H C (o.map (·.1)) xs
 | [],[],_=>True.intro
 | _::_,_::_,h=>by
  obtain⟨⟨a,b,c,t,d,e⟩,r⟩:=h;exact⟨⟨t,_,d,e,c,b⟩,fM.rows r⟩
 | [],_::_,h=>h.elim
 | _::_,[],h=>h.elim
theorem x9{xs:List Addr}{d:Addr}(h:xs.Nodup)(hd:d ∉ xs):(xs++[d]).Nodup:=by
 rw[List.nodup_append]
 exact⟨h,O5.mpr ⟨by simp,QC⟩,fun a C b o=>by
  have e:b=d:=by simpa using o
  rintro rfl
  exact hd (e ▸ C)⟩
structure HoH (C:Addr) (nb:Nat) (H0 H:Hp) (o dx pl rl:Addr) (g:Int) (st:HSt):Prop where
 ex:∃(bl ml rw:Addr) (es:List (Addr × Addr)),H o=some (.ins C dx (hfs pl g bl ml rl rw))/\H bl=some (.lst (st.bx.map V.int))/\H ml=some (.dK st.kvs)/\H rw=some (.lst ((es.map (·.1)).map V.ref))/\H0 o=none/\H0 bl=none/\H0 ml=none/\H0 rw=none/\bl≠rw/\(es.map (·.2)).Nodup/\fM H0 H ml es st.rows
 same:aA H0 H
 bxs:BxN nb st.bx
 mem:dE st.kvs
theorem HoH.grow{C:Addr}{a:Nat}{c H U:Hp}{o d pl b:Addr}{g:Int}{st:HSt}(h:HoH C a c H o d pl b g st)(e:aA H U):HoH C a c U o d pl b g st:=by
 obtain⟨r,n,rw,p,ho,q,hm,I,f,l,m,j,J,i,rows⟩:=h.ex;exact⟨⟨r,n,rw,p,e _ _ ho,e _ _ q,e _ _ hm,e _ _ I,f,l,m,j,J,i,rows.mono (fun _ _ z=>e _ _ z) (fun _ _ z1 z2 z=>⟨z1,e _ _ z,z2⟩)⟩,h.same.trans e,h.bxs,h.mem⟩
theorem HoH.add{C:Addr}{c:Nat}{f H:Hp}{o j pl d:Addr}{g:Int}{st:HSt}(h:HoH C c f H o j pl d g st){b:Addr}(u:HO)(I:H b=none):HoH C c (upd f b u) (upd H b u) o j pl d g st:=by
 obtain⟨x,r,rw,s,ho,i,hm,J,l,p,q,n,U,m,rows⟩:=h.ex;refine⟨⟨x,r,rw,s,cG I ho,cG I i,cG I hm,cG I J,by rw[aq (ak ho I)];exact l,by rw[aq (ak i I)];exact p,by rw[aq (ak hm I)];exact q,by rw[aq (ak J I)];exact n,U,m,rows.mono (fun _ _ z=>cG I z) (fun _ _ z1 z2 z=>⟨by rw[aq (ak z I)];exact z1,cG I z,z2⟩)⟩,fun a v e=> ?_,h.bxs,h.mem⟩
 by_cases z:a=b
 .subst z;rw[ae] at e ⊢;exact e
 .rw[aq z] at e ⊢;exact h.same _ _ e
theorem HoH.write{C:Addr}{l:Nat}{I H:Hp}{o p pl m:Addr}{g:Int}{st:HSt}(h:HoH C l I H o p pl m g st){b:Addr}{u:HO}(n:HO)(j:I b=some u)(r:∀ys,u≠ .tup ys):HoH C l (upd I b n) (upd H b n) o p pl m g st:=by
 obtain⟨A,s,rw,x,ho,y,hm,c,J,d,f,U,i,q,rows⟩:=h.ex;have ne:∀a,I a=none->a≠b:=fun a e=>(ak j e).symm
 refine⟨⟨A,s,rw,x,by rw[aq (ne _ J)];exact ho,by rw[aq (ne _ d)];exact y,by rw[aq (ne _ f)];exact hm,by rw[aq (ne _ U)];exact c,by rw[aq (ne _ J)];exact J,by rw[aq (ne _ d)];exact d,by rw[aq (ne _ f)];exact f,by rw[aq (ne _ U)];exact U,i,q,
  rows.mono (fun a B z=>by rw[aq (fun z2=>by rw[z2,h.same _ _ j] at z;exact r _ (N_ z))];exact z) (fun a _ z1 z2 z=>⟨by rw[aq (ne _ z1)];exact z1,by rw[aq (ne _ z1)];exact z,z2⟩)⟩,fun a v e=> ?_,h.bxs,h.mem⟩
 by_cases z:a=b
 .subst z;rw[ae] at e ⊢;exact e
 .rw[aq z] at e ⊢;exact h.same _ _ e
theorem HoH.take{C:Addr}{l:Nat}{c H:Hp}{o p pl m:Addr}{g:Int}{st:HSt}(h:HoH C l c H o p pl m g st){b:Addr}{u:HO}(I:H b=some u)(j:∃ys,u= .tup ys\/∃U,u= .frz U (.tup ys)):HoH C l (upd c b u) H o p pl m g st/\aA c (upd c b u):=by
 obtain⟨D,A,rw,B,ho,n,hm,J,q,x,y,s,i,r,rows⟩:=h.ex;have n1:∀a f,H a=some (.lst f)->a≠b:=fun a f e=>by
  rintro rfl
  rw[I] at e;obtain⟨ys,rfl | ⟨U,rfl⟩⟩:=j <;> cases e
 have n2:∀a d,H a=some (.dK d)->a≠b:=fun a f e=>by
  rintro rfl
  rw[I] at e;obtain⟨ys,rfl | ⟨U,rfl⟩⟩:=j <;> cases e
 have n3:o≠b:=by
  rintro rfl
  rw[I] at ho;obtain⟨ys,rfl | ⟨U,rfl⟩⟩:=j <;> cases ho
 refine⟨⟨⟨D,A,rw,B,ho,n,hm,J,by rw[aq n3];exact q,by rw[aq (n1 _ _ n)];exact x,by rw[aq (n2 _ _ hm)];exact y,by rw[aq (n1 _ _ J)];exact s,i,r,
  rows.mono (fun _ _ z=>z) (fun a _ z1 z2 z=>⟨by rw[aq (n2 _ _ z)];exact z1,z,z2⟩)⟩,fun a v e=> ?_,h.bxs,h.mem⟩,fun a v e=> ?_⟩
 .by_cases z:a=b
  .subst z;rw[ae] at e;rw[I];exact e
  .rw[aq z] at e;exact h.same _ _ e
 .by_cases z:a=b
  .subst z;rw[ae];have:=h.same _ _ e;rw[I] at this;exact this
  .rw[aq z];exact e
theorem HoH.takeT{C:Addr}{c:Nat}{U H:Hp}{o d pl e:Addr}{g:Int}{st:HSt}(h:HoH C c U H o d pl e g st){b:Addr}{ys:List V}(I:SqT K H b ys):∃J,HoH C c J H o d pl e g st/\aA U J/\SqT K J b ys:=by
 unfold SqT at I ⊢;rcases I with I | I
 .rcases I with I | ⟨ob,I⟩
  .obtain⟨a,b⟩:=h.take I ⟨ys,.inl rfl⟩;exact⟨_,a,b,.inl (.inl ae)⟩
  .obtain⟨a,b⟩:=h.take I ⟨ys,.inr ⟨ob,rfl⟩⟩;exact⟨_,a,b,.inl (.inr ⟨ob,ae⟩)⟩
 .exact⟨U,h,aA.refl _,.inr I⟩
structure EnH (K:Frag) (H0:Hp) (pl rl:Addr) (x:Fx):Prop where
 rm:Rm H0 pl x.pk x.pb
 there:∃u,H0 rl=some u
 reps:∃vs:List V,SqL K H0 rl vs/\vs.length=x.reps.length/\∀(i:Nat) (v:V) (bs:List Int) (ws:List (Key × V)),vs[i]? =some v->x.reps[i]? =some (bs,ws)->(∀ml,H0 ml=none->Rep K H0 ml v bs ws)
theorem Rep.mv{H o:Hp}{C:Addr}{v:V}{bs:List Int}{ws:List (Key × V)}(h:Rep K H C v bs ws)(e:aA H o):Rep K o C v bs ws:=by
 obtain⟨f,U,I,J,d,a,b,c⟩:=h.ex;exact⟨⟨f,U,I,J,e.tup d,e.tup a,e _ _ b,c⟩,h.len,h.rng,h.mem,h.few,h.nod⟩
theorem none_of{H o:Hp}{a:Addr}(e:aA H o)(h:o a=none):H a=none:=by
 cases z:H a with
 | none=>rfl
 | some u=>rw[e _ _ z] at h;cases h
theorem EnH.mv{H o:Hp}{pl C:Addr}{x:Fx}(h:EnH K H pl C x)(e:aA H o):EnH K o pl C x:=by
 obtain⟨I,c,f,g⟩:=h.reps;obtain⟨u,U⟩:=h.there;exact⟨h.rm.mv e,⟨u,e _ _ U⟩,I,e.seq c,f,fun i v bs J a b d hm=>(g i v bs J a b d (none_of e hm)).mv e⟩
def Dm(H:Hp):Option (Str × List Int)->V->Prop
 | none,v=>v= .non
 | some (x,ns),v=>∃q,v= .ref q/\H q=some (.tup (.str x::ns.map V.int))
def FP(K:Frag)(C:Addr):Sp:=fun f H Q _=>∃(I:Nat) (b:Hp) (o a e U d:Addr) (st:HSt) (x:Fx) (k:Nat) (J:List Int),f=[.ref o,.ref a]/\HoH C I b H o e U d x.pg st/\EnH K b U d x/\(k=17->∃pg,Pl b U x.pk x.pb x.pm x.ps pg)/\0<I/\I<=8/\aC I 262144 k J/\
 k≠0/\k≠13/\k≠14/\k≠15/\SqT K H a (aD k J)/\st.kvs.length<=9000/\st.rows.length<=9000/\
 ∀v c,HoH C I b c o e U d x.pg (iZ x k J st).2->Dm c (iZ x k J st).1 v->Q v c
theorem aC.box{o C:Int}{k:Nat}{ns:List Int}(h:aC o C k ns)(hm:makes k):∃x r,ns=x::r/\0<=x/\x<o:=by
 exact h.hd (by unfold makes at hm;lia)
theorem aC.gate{o C:Int}{ns:List Int}(h:aC o C 18 ns):∃n,ns=[n]:=(aC.gat h rfl).imp fun _ h=>h.1
theorem Ah{o:List (Key × V)}:∀{kvs:List (Key × V)},dE kvs->dE o->dE (eC kvs o):=by
 induction o with
 | nil=>intro kvs h _;exact h
 | cons p r ih=>
  intro kvs h hm;obtain⟨i,v,e,v0,v1⟩:=hm p (N3 ..);show dE (eC (cF kvs p.1 p.2) r)
  rw[e];exact ih (h.put v0 v1) (fun C I=>hm C (N2 _ I))
theorem ye{c:Nat}{k:Nat}{ns bx:List Int}{pk:Nat}{J:Int}{pm ps:Nat}(i:aC c 262144 k ns)(hm:makes k)(d:BxN c bx)(R:SpM.Room pk J)(o:k=17->pm+ps<=7):0<=kD pk J pm ps k ns bx/\kD pk J pm ps k ns bx<4294967296:=by
 unfold kD;have l:=R.b0;have j:=R.bW;rcases i with⟨rfl,rfl⟩|⟨rfl,x,v,rfl,U,a,v0,v1⟩|⟨f,g,x,y,z,rfl,U,a,C,I,z0,z1⟩|⟨f,g,x,y,z,rfl,U,a,C,I,z0,z1⟩|⟨b,z,rfl,z0,z1⟩|⟨rfl,x,z,rfl,U,a,z0,z1⟩|⟨rfl,y,rfl,C,I⟩|⟨b,x,y,rfl,U,a,C,I⟩
 .exact absurd hm (by unfold makes;decide)
 .exact⟨v0,v1⟩
 .rw[fI (by lia),fI (by lia),fI (by lia),fI (by lia)]
  obtain⟨_,e,b3⟩:=d.at C I;obtain⟨_,c2,c3⟩:=d.at z0 z1;exact SpM.jv_in (EU k) (v:=bxG bx y) (w:=bxG bx z) ⟨e,b3⟩ ⟨c2,c3⟩
 .have e10:k=10:=by unfold makes at hm;clear o l j;lia
  subst e10;rw[fI (by decide),NV rfl]
  lia
 .rcases b with rfl | rfl <;> exact absurd hm (by unfold makes;decide)
 .exact absurd hm (by unfold makes;decide)
 .exact absurd hm (by unfold makes;decide)
 .rcases b with rfl | rfl
  .rw[fI (by decide),fI (by decide),NV rfl]
   obtain⟨f1,f2⟩:=SpM.fit_in (k:=pk) (base:=J) (bxG bx ([x,y].getD 1 0))
   lia
  .rw[fI (by decide),fI (by decide),fI (by decide),NV rfl]
   obtain⟨f1,f2,f3⟩:=SpM.aim_le (o rfl) (bxG bx ([x,y].getD 1 0))
   lia
theorem Gr{k:Nat}{ns bx:List Int}{pk:Nat}{C:Int}{pm ps:Nat}(J:aC 8 262144 k ns)(hm:makes k)(I:Bxs bx)(R:SpM.Room pk C)(o:pm+ps<=7):0<=kD pk C pm ps k ns bx/\kD pk C pm ps k ns bx<4294967296:=ye J hm I R (fun _=>o)
theorem Em{C:Nat}{bs bx:List Int}(I:BxN C bx)(a:C<=8)(J:bs.length=7)(U:∀x∈bs,0<=x/\x<4294967296):BxN C (bs.take C++bx.drop 7):=by
 refine⟨by rw[NT,Oh,OZ,J,I.len];lia,fun x o=> ?_⟩
 rcases Ot.mp o with o | o
 .exact U x (Ql o)
 .exact I.rng x (List.mem_of_mem_drop o)
theorem ox{C:Addr}(B:Bi mg)(c:dW K mg "Holding" C)(n:fD K C)(D:fT K C)(yB:cx P w K mg base 1 C "ask" C0 (KQ K C))(vT:cx P w K mg base 3 C "reach" cY (Fb K C))
  (mV:Has P w K mg base 4 "made_value" CY (M7 K)):cx P w K mg base 5 C "carry_out" cY (FP K C):=by
 refine D.has c.cl iR (fun vs H Q E h=> ?_) (fun f b' A bT s H vs Q E hr h=> ?_)
 .obtain⟨nb,H0,o,a,dx,pl,rl,st,x,k,U,rfl,_⟩:=h
  rfl
 obtain⟨nb,H0,o,a,dx,pl,rl,st,x,k,U,rfl,I,en,au,b8,bC,hv,k0,cm,b6,cb,ha,cp,b1,q⟩:=h;obtain⟨T,l,rw,G,ho,N,hm,J,o0,b0,W,X,p,nd,rows⟩:=I.ex;have hk:=hv.lt;have hc:=c.cl;have n1:=n.boxes;have n2:=n.plan;have b9:=en.rm.mv I.same;have S:=I.bxs;have b2:=I.mem;have i0:atI (aD k U) 0=some (.str (aN k)):=jx;have bt:T≠o:=by rintro rfl;rw[ho] at N;cases N
 have bL:l≠o:=by rintro rfl;rw[ho] at hm;cases hm
 have bM:rw≠o:=by rintro rfl;rw[ho] at J;cases J
 have Z:T≠l:=by rintro rfl;rw[N] at hm;cases hm
 have bp:l≠rw:=by rintro rfl;rw[hm] at J;cases J
 refine⟨_,(aa (psS 2 iR.nd (pX aj (pv 1) ad))
   (aa (ay (pcT aE (pv 2) ax) (af (ai (cD (yB.mono (by omega)) hr (pv 0) (pa1 (pX aj (pv 1) ad))))) al)
   (aa (aL (a_ (ay (PW.pt (iS (pcT aE (pv 2) ax) (fP (pcT aE (pv 2) ax)))) (af (ai (cD (vT.mono (by omega)) hr (pv 0) (pa1 (pv 1))))) al)))
   (aa (gX (pcH mV hr (pa3 (aV (pv 0) (by rfl)) (pv 1) (aV (pv 0) (by rfl)))) (kJ (aV (pv 0) (by rfl)) (pX aj (pv 1) ad) f_))
   (af (ai eP)))))),?_⟩
 try dsimp only[aT]
 walk_at"g";refine bc (fun c1=> ?_) (fun c1=> ?_)
 .have e:=seq hk (j:=18) (by decide) c1
  subst e;obtain⟨m,rfl⟩:=hv.gate;obtain⟨vs,bw,b5,bb⟩:=en.reps;have aY:=rows.len;have cc:=I.same.seq bw;have ct:rl≠rw:=by
   obtain⟨u,hu⟩:=en.there;exact ak hu X
  have i1:atI (aD 18 [m]) 1=some (.int m):=lP;have bY:((G.map (·.1)).map V.ref).length<=10000:=by rw[be,be];lia
  have a6:st.kvs.length<=10000:=by lia
  have Y:((G.map (·.1)).map V.ref).length=st.rows.length:=by rw[be,be];exact aY
  have g1:x.pg<=m->∀q,H q=none->Q (.ref q) (upd H q (.tup [.str "lost"])):=fun hp qq hq=>by
   have G:iZ x 18 [m] st=(some (("lost":Str),([]:List Int)),st):=by
    unfold iZ;rw[NV rfl];exact NV hp
   rw[G] at q;exact q _ _ (I.grow (ag hq _)) ⟨qq,rfl,ae⟩
  have g2:m<x.pg->vs.length<=((G.map (·.1)).map V.ref).length->∀q r g,Bu [rw] H g->H q=none->H r=none->g q=some (.tup [.str "asks",.int m])->g rw=some (.lst ((G.map (·.1)).map V.ref++[.ref r]))->J8 H g r m st.bx st.kvs->Q (.ref q) g:=fun hp hl qq r g bu hq bF e1 e2 L=>by
   have hn:x.reps[st.rows.length]? =none:=PD (by rw[Y] at hl;lia)
   have i:iZ x 18 [m] st=(some (("asks":Str),[m]),{st with rows:=st.rows++[(m,st.bx,st.kvs)]}):=by
    unfold iZ;rw[NV rfl];refine(fI (by show ¬x.pg<=m;lia)).trans ?_
    rw[hn]
    rfl
   rw[i] at q;obtain⟨tt,dd,t0,d0,f1,f2,f3⟩:=L;have d:∀b u,b≠rw->H b=some u->g b=some u:=fun b u z e=>bu b u (by simpa using z) e
   refine q _ _ ⟨⟨T,l,rw,G++[(r,dd)],d _ _ (Ox bM) ho,d _ _ p N,d _ _ bp hm,by rw[NZ,NZ];exact e2,o0,b0,W,X,p,?_,?_⟩,fun b u e=>d b u (ak e X) (I.same b u e),I.bxs,I.mem⟩ ⟨qq,rfl,e1⟩
   .rw[NZ];exact x9 nd (fun z=>by obtain⟨u,hu⟩:=rows.there _ z;rw[d0] at hu;cases hu)
   .exact fM.push (e:=(r,dd)) (x:=(m,st.bx,st.kvs)) ⟨none_of I.same d0,(ak hm d0).symm,f3,tt,f1,f2⟩ (rows.mono (fun O _ e=>d _ _ (by rintro rfl;rw[J] at e;cases e) e) (fun O _ z1 z2 e=>⟨z1,d _ _ (by rintro rfl;rw[J] at e;cases e) e,z2⟩))
  have g3:m<x.pg->∀v,vs[((G.map (·.1)).map V.ref).length]? =some v->∃bs ws,Rep K H l v bs ws/\∀M r g,Bu [o,T,l,rw] H g->H M=none->H r=none->g o=some (.ins C dx (hfs pl x.pg M l rl rw))->g M=some (.lst ((bs.take nb++st.bx.drop 7).map V.int))->
    g l=some (.dK (eC st.kvs ws))->g rw=some (.lst ((G.map (·.1)).map V.ref++[.ref r]))->J8 H g r m st.bx st.kvs->Q .non g:=fun hp v ab=>by
   rw[Y] at ab;have bG:st.rows.length<vs.length:=(mF.mp ab).1;have bA:st.rows.length<x.reps.length:=by lia
   obtain⟨⟨bs,ws⟩,aH⟩:∃y,x.reps[st.rows.length]? =some y:=⟨_,mC bA⟩;have R:=bb st.rows.length v bs ws ab aH l W;refine⟨bs,ws,R.mv I.same,fun M r g bu bh bF f1 f2 f3 f4 L=> ?_⟩
   have i:iZ x 18 [m] st=(none,⟨bs.take nb++st.bx.drop 7,eC st.kvs ws,st.rows++[(m,st.bx,st.kvs)]⟩):=by
    unfold iZ;rw[NV rfl];refine(fI (by show ¬x.pg<=m;lia)).trans ?_
    rw[aH,S.len]
    rfl
   rw[i] at q;obtain⟨tt,dd,t0,d0,i1,i2,i3⟩:=L;have d:∀b u,b≠o->b≠T->b≠l->b≠rw->H b=some u->g b=some u:=fun b u z1 z2 z3 z4 e=>bu b u (by simp [z1,z2,z3,z4]) e
   refine q _ _ ⟨⟨M,l,rw,G++[(r,dd)],f1,f2,f3,by rw[NZ,NZ];exact f4,o0,none_of I.same bh,W,X,(ak J bh).symm,?_,?_⟩,fun b u e=>d b u (ak e o0) (ak e b0) (ak e W) (ak e X) (I.same b u e),Em S bC R.len R.rng,Ah I.mem R.mem⟩ rfl
   .rw[NZ];exact x9 nd (fun z=>by obtain⟨u,hu⟩:=rows.there _ z;rw[d0] at hu;cases hu)
   .exact fM.push (e:=(r,dd)) (x:=(m,st.bx,st.kvs)) ⟨none_of I.same d0,(ak hm d0).symm,i3,tt,i1,i2⟩ (rows.mono (fun O _ e=>d _ _ (by rintro rfl;rw[ho] at e;cases e) (by rintro rfl;rw[N] at e;cases e) (by rintro rfl;rw[hm] at e;cases e) (by rintro rfl;rw[J] at e;cases e) e) (fun O _ z1 z2 e=>⟨z1,d _ _ (by rintro rfl;rw[ho] at e;cases e) (by rintro rfl;rw[N] at e;cases e) z2 (by rintro rfl;rw[J] at e;cases e) e,z2⟩))
  walk_at"g";exact g3
 have aP:k≠18:=fun e=>c1 (by rw[e];rfl)
 walk_at"n";refine⟨fun Z' g=>az (H=g/\Z'=[some (.ref o),some (.ref a),some (.str (aN k))]/\k≠11/\k≠12),?_,?_⟩
 .by_cases F:k=11\/k=12
  .have a6:st.kvs.length<=10000:=by lia
   have i:iZ x k U st=if InR x.pk x.pb (bE U st.bx) then(if k=11 then(none,{st with bx:=st.bx.set (U.getD 0 0).toNat (wV st.kvs (bE U st.bx))}) else(none,{st with kvs:=cF st.kvs (.inl (bE U st.bx)) (.int (bxG st.bx (U.getD 0 0)))})) else(some (("beyond":Str),[bE U st.bx]),st):=by
    unfold iZ;rw[fI aP,NV F]
   obtain⟨y,hy,y0,y1⟩:∃y,U.getD 0 0=y/\0<=y/\y<nb:=by
    obtain⟨y_,r_,e_,b_⟩:=hv.hd (by lia)
    exact⟨y_,by rw[e_];rfl,b_⟩
   have p1:¬InR x.pk x.pb (bE U st.bx)->∀q,H q=none->Q (.ref q) (upd H q (.tup [.str "beyond",.int (bE U st.bx)])):=fun hn qq hq=>by
    rw[i,fI hn] at q;exact q _ _ (I.grow (ag hq _)) ⟨qq,rfl,ae⟩
   have p2:InR x.pk x.pb (bE U st.bx)->k=11->Q .non (upd H T (.lst ((st.bx.set (U.getD 0 0).toNat (wV st.kvs (bE U st.bx))).map V.int))):=fun hi e11=>by
    rw[i,NV hi,NV e11] at q;obtain⟨_,g2,g3⟩:=I.mem.get (bE U st.bx);exact q _ _ ⟨⟨T,l,rw,G,by rw[aq (Ox bt)];exact ho,ae,by rw[aq (Ox Z)];exact hm,by rw[aq (Ox p)];exact J,o0,b0,W,X,p,nd,rows.mono (fun O _ e=>by rw[aq (fun z=>by rw[z,N] at e;cases e)];exact e) (fun O _ z1 z2 e=>⟨z1,by rw[aq (fun z=>by rw[z,N] at e;cases e)];exact e,z2⟩)⟩,cf b0 I.same,I.bxs.set g2 g3,I.mem⟩ rfl
   have p3:InR x.pk x.pb (bE U st.bx)->k=12->Q .non (upd H l (.dK (cF st.kvs (.inl (bE U st.bx)) (.int (bxG st.bx (U.getD 0 0)))))):=fun hi cq=>by
    rw[i,NV hi,fI (by lia)] at q
    rw[hy] at q ⊢;obtain⟨_,g2,g3⟩:=I.bxs.at y0 y1;exact q _ _ ⟨⟨T,l,rw,G,by rw[aq (Ox bL)];exact ho,by rw[aq Z];exact N,ae,by rw[aq (Ox bp)];exact J,o0,b0,W,X,p,nd,rows.mono (fun O _ e=>by rw[aq (fun z=>by rw[z,hm] at e;cases e)];exact e) (fun O _ z1 z2 e=>⟨z1,by rw[aq z2];exact e,z2⟩)⟩,cf W I.same,I.bxs,I.mem.put g2 g3⟩ rfl
   have bV:=F;rcases F with rfl | rfl
   .walk_at"g";walk_at"wd";exact p3
   .walk_at"g";walk_at"wd";exact p3
  .have a11:k≠11:=fun e=>F (.inl e)
   have ar:k≠12:=fun e=>F (.inr e)
   walk_at"g";refine bN (sne hk (j:=11) (by decide) a11) ?_
   walk_at"g";refine bN (sne hk (j:=12) (by decide) ar) ?_
   exact⟨rfl,rfl,a11,ar⟩
 rintro Z1 H1 ⟨rfl,rfl,F,b7⟩
 have a7:makes k:=by unfold makes;lia
 obtain⟨bi,r,aU,cg,b4⟩:=hv.box a7;have i:iZ x k U st=(none,{st with bx:=st.bx.set (U.getD 0 0).toNat (kD x.pk x.pb x.pm x.ps k U st.bx)}):=by
  unfold iZ;rw[fI aP,fI (by lia)]
 rw[i] at q;have i1:atI (aD k U) 1=some (.int bi):=by rw[aU];exact lP
 have bG:ixN (st.bx.map V.int).length bi=some bi.toNat:=by
  have ek:bi=((bi.toNat:Nat):Int):=by lia
  rw[ek,be,S.len];exact FT (by lia)
 have e0:U.getD 0 0=bi:=by rw[aU];rfl
 have bW:k=17->∃pg,Pl H pl x.pk x.pb x.pm x.ps pg:=fun e=>let ⟨pg,h⟩:=au e;⟨pg,h.mv I.same⟩
 have ms:k=17->x.pm+x.ps<=7:=fun e=>let ⟨pg,h⟩:=au e;h.ms
 walk_at"g";rw[<- Sb];rw[e0] at q;obtain⟨v0,v1⟩:=ye hv a7 S en.rm.room ms;exact q _ _ ⟨⟨T,l,rw,G,by rw[aq (Ox bt)];exact ho,ae,by rw[aq (Ox Z)];exact hm,by rw[aq (Ox p)];exact J,o0,b0,W,X,p,nd,rows.mono (fun O _ e=>by rw[aq (fun z=>by rw[z,N] at e;cases e)];exact e) (fun O _ z1 z2 e=>⟨z1,by rw[aq (fun z=>by rw[z,N] at e;cases e)];exact e,z2⟩)⟩,cf b0 I.same,I.bxs.set v0 v1,I.mem⟩ rfl
def Fo(K:Frag)(C:Addr):Sp:=fun j H Q _=>∃(c:Nat) (J:Hp) (o d e i b f:Addr) (g:Int) (U:List Int) (I:List (Key × V)),j=[.ref o,.ref e,.int g,.ref i,.ref b,.ref f]/\H o=some (.ins C d [])/\J o=none/\aA J H/\
 SqT K J i (U.map V.int)/\J b=some (.dK I)/\BxN c U/\dE I/\∀a,HoH C c J a o d e f g ⟨U,I,[]⟩->Q .non a
theorem qF{C:Addr}(B:Bi mg)(c:dW K mg "Holding" C)(n:fD K C)(D:gj K C):cx P w K mg base 1 C "__init__" DT (Fo K C):=by
 refine D.has c.cl ql (fun vs H Q E h=> ?_) (fun f bp A aY s H vs Q E hr h=> ?_)
 .obtain⟨nb,m,o,J,U,bt,md,r,g,l,b,rfl,_⟩:=h
  rfl
 obtain⟨nb,m,o,J,U,bt,md,r,g,l,b,rfl,ho,p,sm,bb,N,ar,O,q⟩:=h;have hc:=c.cl;have n1:=n.plan;have n2:=n.gates;have n4:=n.boxes;have n5:=n.memory;have n6:=n.replies;have n7:=n.rows
 refine⟨_,(aa (cu (pv 0) (pv 1) (by rfl))
   (aa (cu (pv 0) (pv 2) (by rfl))
   (aa (cu (pv 0) (bX nE (by rfl) B.list AE (pa1 (pv 3))) (by rfl))
   (aa (cu (pv 0) (bX tV (by rfl) B.dict FM (pa1 (pv 4))) (by rfl))
   (aa (cu (pv 0) (pv 5) (by rfl))
   (af (cu (pv 0) (bo dN) (by rfl)))))))),?_⟩
 try dsimp only[aT]
 have s3:aA m (upd (upd H o (.ins C J (bR "plan" (.ref U) []))) o (.ins C J (bR "gates" (.int g) (bR "plan" (.ref U) [])))):=cf p (cf p sm);have y:upd (upd H o (.ins C J (bR "plan" (.ref U) []))) o (.ins C J (bR "gates" (.int g) (bR "plan" (.ref U) []))) o=some (.ins C J [("plan",.ref U),("gates",.int g)]):=ae;walk_at"g";intro I i;generalize upd (upd H o (.ins C J (bR "plan" (.ref U) []))) o (.ins C J (bR "gates" (.int g) (bR "plan" (.ref U) [])))=H3 at*;have a':=cG (o:= .lst (l.map V.int)) i y;have M:upd H3 I (.lst (l.map V.int)) I=some (.lst (l.map V.int)):=ae;have s4:=cy (o:= .lst (l.map V.int)) i s3;have Z:m I=none:=none_of s3 i;have j:I≠o:=(ak y i).symm;generalize upd H3 I (.lst (l.map V.int))=G at*;have W:aA m (upd G o (.ins C J (bR "boxes" (.ref I) [("plan",.ref U),("gates",.int g)]))):=cf p s4;have x:upd G o (.ins C J (bR "boxes" (.ref I) [("plan",.ref U),("gates",.int g)])) o=some (.ins C J [("plan",.ref U),("gates",.int g),("boxes",.ref I)]):=ae;have R:upd G o (.ins C J (bR "boxes" (.ref I) [("plan",.ref U),("gates",.int g)])) I=some (.lst (l.map V.int)):=by rw[aq j];exact M
 have a6:=W _ _ N;walk_at"g";generalize upd G o (.ins C J (bR "boxes" (.ref I) [("plan",.ref U),("gates",.int g)]))=H5 at*;intro a e;have a7:=cG (o:= .dK b) e x;have aU:=cG (o:= .dK b) e R;have X:upd H5 a (.dK b) a=some (.dK b):=ae;have s6:=cy (o:= .dK b) e W;have aP:m a=none:=none_of W e;have u:a≠o:=(ak x e).symm;generalize upd H5 a (.dK b)=z at*;walk_at"g";intro rw d;have v:upd (upd z o (.ins C J (bR "memory" (.ref a) [("plan",.ref U),("gates",.int g),("boxes",.ref I)]))) o (.ins C J (bR "replies" (.ref r) (bR "memory" (.ref a) [("plan",.ref U),("gates",.int g),("boxes",.ref I)]))) o=some (.ins C J [("plan",.ref U),("gates",.int g),("boxes",.ref I),("memory",.ref a),("replies",.ref r)]):=ae;have s8:aA m (upd (upd z o (.ins C J (bR "memory" (.ref a) [("plan",.ref U),("gates",.int g),("boxes",.ref I)]))) o (.ins C J (bR "replies" (.ref r) (bR "memory" (.ref a) [("plan",.ref U),("gates",.int g),("boxes",.ref I)])))):=cf p (cf p s6);have F:upd (upd z o (.ins C J (bR "memory" (.ref a) [("plan",.ref U),("gates",.int g),("boxes",.ref I)]))) o (.ins C J (bR "replies" (.ref r) (bR "memory" (.ref a) [("plan",.ref U),("gates",.int g),("boxes",.ref I)]))) I=some (.lst (l.map V.int)):=by rw[aq j,aq j];exact aU
 have L:upd (upd z o (.ins C J (bR "memory" (.ref a) [("plan",.ref U),("gates",.int g),("boxes",.ref I)]))) o (.ins C J (bR "replies" (.ref r) (bR "memory" (.ref a) [("plan",.ref U),("gates",.int g),("boxes",.ref I)]))) a=some (.dK b):=by rw[aq u,aq u];exact X
 generalize upd (upd z o (.ins C J (bR "memory" (.ref a) [("plan",.ref U),("gates",.int g),("boxes",.ref I)]))) o (.ins C J (bR "replies" (.ref r) (bR "memory" (.ref a) [("plan",.ref U),("gates",.int g),("boxes",.ref I)])))=H8 at*;have bh:=cG (o:= .lst []) d v;have Y:=cG (o:= .lst []) d F;have T:=cG (o:= .lst []) d L;have au:upd H8 rw (.lst []) rw=some (.lst []):=ae;have s9:=cy (o:= .lst []) d s8;have S:m rw=none:=none_of s8 d;have aH:rw≠o:=(ak v d).symm;have ab:I≠rw:=ak F d;generalize upd H8 rw (.lst [])=H9 at*;walk_at"g";refine q _ ⟨⟨I,a,rw,[],ae,?_,?_,?_,p,Z,aP,S,ab,QC,True.intro⟩,cf p s9,ar,O⟩
 .rw[aq j];exact Y
 .rw[aq u];exact T
 .rw[aq aH];exact au
structure MSt where
 p:Int
 bx:List Int
 kvs:List (Key × V)
 rows:List (Int × List Int × List (Key × V))
noncomputable def fj(x:Fx)(k:Nat)(ns:List Int)(st:MSt):Option (Str × List Int) × MSt:=
 if k=0 then(some ("stopped",[]),st)
 else if k=18 then
  if x.pg<=ns.getD 0 0 then(some ("lost",[]),st)
  else match x.reps[st.rows.length]? with
   | none=>(some ("asks",[ns.getD 0 0]),{st with rows:=st.rows++[(ns.getD 0 0,st.bx,st.kvs)]})
   | some (bs,ws)=>(none,⟨st.p+1,bs++[bxG st.bx 7],eC st.kvs ws,st.rows++[(ns.getD 0 0,st.bx,st.kvs)]⟩)
 else if k=11\/k=12 then
  if InR x.pk x.pb (bE ns st.bx) then
   if k=11 then(none,{st with p:=st.p+1,bx:=st.bx.set (ns.getD 0 0).toNat (wV st.kvs (bE ns st.bx))})
   else(none,{st with p:=st.p+1,kvs:=cF st.kvs (.inl (bE ns st.bx)) (.int (bxG st.bx (ns.getD 0 0)))})
  else(some ("beyond",[bE ns st.bx]),st)
 else if k=13\/k=14\/k=15 then(none,{st with p:=qK k ns st.bx st.p})
 else(none,{st with p:=st.p+(if k=1 then 2 else 1),bx:=st.bx.set (ns.getD 0 0).toNat (kD x.pk x.pb x.pm x.ps k ns st.bx)})
structure En (K:Frag) (H0:Hp) (pl rl:Addr) (x:Fx):Prop where
 plan:Pl H0 pl x.pk x.pb x.pm x.ps x.pg
 there:∃u,H0 rl=some u
 reps:∃vs:List V,SqL K H0 rl vs/\vs.length=x.reps.length/\∀(i:Nat) (v:V) (bs:List Int) (ws:List (Key × V)),vs[i]? =some v->x.reps[i]? =some (bs,ws)->(∀ml,H0 ml=none->Rep K H0 ml v bs ws)
theorem En.h{C:Hp}{pl o:Addr}{x:Fx}(h:En K C pl o x):EnH K C pl o x:=⟨h.plan.rm,h.there,h.reps⟩
noncomputable def MSt.h(st:MSt):HSt:=⟨st.bx,st.kvs,st.rows⟩
theorem Kj{x:Fx}{k:Nat}{ns:List Int}{st:MSt}(a:Bxs st.bx)(g:∀y∈x.reps,y.1.length=7)(k0:k≠0)(j:k≠13)(c:k≠14)(d:k≠15):
  (fj x k ns st).1=(iZ x k ns st.h).1/\(fj x k ns st).2.h=(iZ x k ns st.h).2/\(fj x k ns st).2.p=(match (iZ x k ns st.h).1 with | none=>st.p+(if k=1 then 2 else 1) | some _=>st.p):=by
 unfold fj iZ;rw[fI k0]
 by_cases C:k=18
 .subst C;rw[NV rfl,NV rfl]
  by_cases I:x.pg<=ns.getD 0 0
  .rw[NV I,NV I];exact⟨rfl,rfl,rfl⟩
  .rw[fI I,fI I];show _/\_/\_
   cases e:x.reps[st.rows.length]? with
   | none=>
    have U:x.reps[st.h.rows.length]? =none:=e;rw[U];exact⟨rfl,rfl,rfl⟩
   | some bw=>
    obtain⟨bs,b⟩:=bw;have U:x.reps[st.h.rows.length]? =some (bs,b):=e;rw[U];refine⟨rfl,?_,rfl⟩
    have l:bs.length=7:=g _ (N4 e);have i:bs.take st.h.bx.length++st.h.bx.drop 7=bs++[bxG st.bx 7]:=by
     have f:st.h.bx.length=8:=a.len;rw[f,Q6 (by lia)]
     congr 1
     have:st.bx.length=8:=a.len;show st.bx.drop 7=[st.bx.getD 7 0]
     rw[Pd (by lia),Pz (by lia),N9,mC (by lia)]
     rfl
    show HSt.mk (bs++[bxG st.bx 7]) _ _=HSt.mk (bs.take st.h.bx.length++st.h.bx.drop 7) _ _
    rw[i]
    rfl
 .rw[fI C,fI C]
  by_cases o:k=11\/k=12
  .rw[NV o,NV o];have k1:k≠1:=by lia
   by_cases J:InR x.pk x.pb (bE ns st.bx)
   .have hi':InR x.pk x.pb (bE ns st.h.bx):=J;rw[NV J,NV hi']
    by_cases e11:k=11
    .rw[NV e11,NV e11];exact⟨rfl,rfl,by rw[fI k1]⟩
    .rw[fI e11,fI e11];exact⟨rfl,rfl,by rw[fI k1]⟩
   .have hi':¬InR x.pk x.pb (bE ns st.h.bx):=J;rw[fI J,fI hi'];exact⟨rfl,rfl,rfl⟩
  .rw[fI o,fI o,fI (by lia)]
   exact⟨rfl,rfl,rfl⟩
noncomputable abbrev mfs(cd:Addr)(p:Int)(o:Addr)(t:Int):List (Str × V):=[("code",.ref cd),("place",.int p),("holding",.ref o),("turns",.int t)]
structure MaH (C C2:Addr) (H0 H:Hp) (m dm cd o dx pl rl:Addr) (g:Int) (st:MSt) (t:Int):Prop where
 ex:∃Hm,aA H0 Hm/\H0 m=none/\Hm m=some (.ins C2 dm (mfs cd st.p o t))/\HoH C 8 Hm H o dx pl rl g st.h
theorem MaH.same{C J:Addr}{I H:Hp}{m c cd o U pl b:Addr}{g:Int}{st:MSt}{t:Int}(h:MaH C J I H m c cd o U pl b g st t):aA I H:=by
 obtain⟨_,a,_,_,d⟩:=h.ex;exact a.trans d.same
theorem MaH.bxs{C I:Addr}{a H:Hp}{m b cd o J pl U:Addr}{g:Int}{st:MSt}{t:Int}(h:MaH C I a H m b cd o J pl U g st t):Bxs st.bx:=by
 obtain⟨_,_,_,_,d⟩:=h.ex;exact d.bxs
theorem MaH.mem{C I:Addr}{a H:Hp}{m b cd o J pl U:Addr}{g:Int}{st:MSt}{t:Int}(h:MaH C I a H m b cd o J pl U g st t):dE st.kvs:=by
 obtain⟨_,_,_,_,d⟩:=h.ex;exact d.mem
theorem MaH.at{C I:Addr}{b H:Hp}{m J cd o U pl a:Addr}{g:Int}{st:MSt}{t:Int}(h:MaH C I b H m J cd o U pl a g st t):H m=some (.ins I J (mfs cd st.p o t)):=by
 obtain⟨_,_,_,c,d⟩:=h.ex;exact d.same _ _ c
theorem MaH.grow{C i:Addr}{f H I:Hp}{m U cd o j pl J:Addr}{g:Int}{st:MSt}{t:Int}(h:MaH C i f H m U cd o j pl J g st t)(e:aA H I):MaH C i f I m U cd o j pl J g st t:=by
 obtain⟨l,a,b,c,d⟩:=h.ex;exact⟨l,a,b,c,d.grow e⟩
theorem MaH.put{C J:Addr}{f H:Hp}{m I cd o i pl e:Addr}{g:Int}{st:MSt}{t:Int}(h:MaH C J f H m I cd o i pl e g st t)(U t':Int):MaH C J f (upd H m (.ins J I (mfs cd U o t'))) m I cd o i pl e g {st with p:=U} t':=by
 obtain⟨j,a,b,c,d⟩:=h.ex;exact⟨_,cf b a,b,ae,d.write _ c (fun _ z=>by cases z)⟩
def Me(K:Frag)(C i:Addr):Sp:=fun b H Q _=>∃(m a f cd o j c U e d rw:Addr) (p t g:Int) (k:Nat) (I J:List Int),b=[.ref m,.ref a]/\H m=some (.ins i f (mfs cd p o t))/\H o=some (.ins C j (hfs c g U e d rw))/\
 aC 8 262144 k I/\(k=13\/k=14\/k=15)/\SqT K H a (aD k I)/\H U=some (.lst (J.map V.int))/\Bxs J/\Q (.int (qK k I J p)) H
theorem mh{C U:Addr}(B:Bi mg)(O:dW K mg "Holding" C)(G:fD K C)(c:dW K mg "Machine" U)(n:hX K U)(D:eM K U):cx P w K mg base 1 U "place_ahead" cY (Me K C U):=by
 refine D.has c.cl gP (fun L H Q E h=> ?_) (fun f M A r s H L Q E hr h=> ?_)
 .obtain⟨m,a,W,cd,o,dx,N,bl,T,S,rw,p,t,g,k,u,j,rfl,_⟩:=h
  rfl
 obtain⟨m,a,W,cd,o,dx,N,bl,T,S,rw,p,t,g,k,u,j,rfl,ab,ho,Y,hm,ha,hb,I,q⟩:=h;have hc:=c.cl;have ar:=O.cl;have n1:=n.holding;have n2:=n.place;have n3:=G.boxes;have i0:atI (aD k u) 0=some (.str (aN k)):=jx
 refine⟨_,(aa (ay (pcT aE (pX aj (pv 1) ad) ax) (af (ai (pX aj (pv 1) ad))) al)
   (aa (psS 2 gP.nd (pX ba (aV (aV (pv 0) (by rfl)) (by rfl)) (pX aj (pv 1) ad)))
   (aa (ay (pcT aE (pX aj (pv 1) ad) ax) (af (ai (pv 2))) al)
   (af (ai (wC (pcT vb (pv 2) ad) (pX aj (pv 1) ad) (aw aS (aV (pv 0) (by rfl)) ad))))))),?_⟩
 try dsimp only[aT]
 rcases Y with⟨rfl,rfl⟩|⟨rfl,x,v,rfl,J,b,v0,v1⟩|⟨R,X,x,y,z,rfl,J,b,i,l,z0,z1⟩|⟨R,X,x,y,z,rfl,J,b,i,l,z0,z1⟩|⟨Z,z,rfl,z0,z1⟩|⟨rfl,x,z,rfl,J,b,z0,z1⟩|⟨rfl,y,rfl,i,l⟩|⟨Z,x,y,rfl,J,b,i,l⟩
 .lia
 .lia
 .lia
 .lia
 .have e:k=13:=by lia
  subst e;have F:atI (aD 13 [z]) 1=some (.int z):=lP;walk_at"g";walk_at"wd";exact q
 .obtain⟨b1,b2,b3⟩:=I.at J b;have F:atI (aD 14 [x,z]) 1=some (.int x):=lP;have i2:atI (aD 14 [x,z]) 2=some (.int z):=jA;walk_at"g";walk_at"wd"
  by_cases d:bxG j x=0
  .have e:qK 14 [x,z] j p=p+1:=by
    unfold qK;rw[fI (by decide),fI (by decide),fI (fun h=>h d)]
   rw[e] at q;refine FI (by rw[d]) ?_
   walk_at"g";exact q
  .have e:qK 14 [x,z] j p=z:=by
    unfold qK;rw[fI (by decide),fI (by decide)]
    exact NV d
   rw[e] at q;rw[NX (fun h=>d (by injection h))]
   walk_at"g";exact q
 .obtain⟨b1,b2,b3⟩:=I.at i l;have F:atI (aD 15 [y]) 1=some (.int y):=lP;walk_at"g";walk_at"wd";exact q
 .lia
def L_(K:Frag)(C e:Addr):Sp:=fun g H Q _=>∃(c:Hp) (m a d cd o f J b:Addr) (st:MSt) (t:Int) (x:Fx) (k:Nat) (I:List Int),g=[.ref m,.ref a]/\MaH C e c H m d cd o f J b x.pg st t/\En K c J b x/\aC 8 262144 k I/\SqT K H a (aD k I)/\st.kvs.length<=9000/\st.rows.length<=9000/\
 ∀v U,MaH C e c U m d cd o f J b x.pg (fj x k I st).2 t->Dm U (fj x k I st).1 v->Q v U
theorem yZ{C J:Addr}(B:Bi mg)(cH:dW K mg "Holding" C)(nH:fD K C)(c:dW K mg "Machine" J)(n:hX K J)(D:lX K J)(bC:Has P w K mg base 1 "length_of" cV (Ga K))(qA:cx P w K mg base 5 C "carry_out" cY (FP K C))
  (nY:cx P w K mg base 1 J "place_ahead" cY (Me K C J)):cx P w K mg base 6 J "do" cY (L_ K C J):=by
 refine D.has c.cl lz (fun vs H Q E h=> ?_) (fun f bV A bb s H vs Q E Z h=> ?_)
 .obtain⟨H0,m,a,T,cd,o,dx,pl,rl,st,t,x,k,U,rfl,_⟩:=h
  rfl
 obtain⟨H0,m,a,T,cd,o,dx,pl,rl,st,t,x,k,U,rfl,g,en,hv,ha,a7,ab,q⟩:=h;have W:=hv.lt;have hc:=c.cl;have b1:=cH.cl;have n1:=n.holding;have n2:=n.place;have bT:=g.at;have i0:atI (aD k U) 0=some (.str (aN k)):=jx
 refine⟨_,(aa (psS 2 lz.nd (pX aj (pv 1) ad))
   (aa (ay (pcT aE (pv 2) ax) (af (ai (aB (pa1 ax)))) al)
   (aa (aL (a_ (ay (PW.pt (iS (pcT aE (pv 2) ax) (iS (pcT aE (pv 2) ax) (fP (pcT aE (pv 2) ax))))) (aa (cu (pv 0) (cD (nY.mono (by omega)) Z (pv 0) (pa1 (pv 1))) (by rfl))
   (af (ai eP))) al)))
   (aa (psS 3 lz.nd (cD (qA.mono (by omega)) Z (aV (pv 0) (by rfl)) (pa1 (pv 1))))
   (aa (aL (a_ (ay (pY (ut (pv 3))) (af (cu (pv 0) (aw aS (aV (pv 0) (by rfl)) (pcH bC Z (pa1 (pv 1)))) (by rfl))) al)))
   (af (ai (pv 3)))))))),?_⟩
 try dsimp only[aT]
 walk_at"g";refine bc (fun c0=> ?_) (fun c0=> ?_)
 .have e:=seq W (j:=0) (by decide) c0
  subst e;have Y:fj x 0 U st=(some (("stopped":Str),([]:List Int)),st):=NV rfl;rw[Y] at q;walk_at"g";intro qq hq;exact q _ _ (g.grow (ag hq _)) ⟨qq,rfl,ae⟩
 have k0:k≠0:=fun e=>c0 (by rw[e];rfl)
 walk_at"n";refine⟨fun M S=>az (H=S/\M=[some (.ref m),some (.ref a),some (.str (aN k)),none]/\k≠13/\k≠14/\k≠15),?_,?_⟩
 .by_cases kj:k=13\/k=14\/k=15
  .obtain⟨Hm,N,F,d,hh⟩:=g.ex;obtain⟨bl,ml,rw,Y,ho,hb,hm,bF,o0,b0,m1,w0,bG,nd,rows⟩:=hh.ex;have bL:=g.bxs;have a':fj x k U st=(none,{st with p:=qK k U st.bx st.p}):=by
    unfold fj;rw[fI k0,fI (by lia),fI (by lia),NV kj]
   rw[a'] at q;have bA:H bl=some (.lst (st.bx.map V.int)):=hb;have fin:Q .non (upd H m (.ins J T (mfs cd (qK k U st.bx st.p) o t))):=q _ _ (g.put _ _) rfl;clear hb;rcases kj with rfl | rfl | rfl
   .walk_at"g";walk_at"wd";exact fin
   .walk_at"g";walk_at"wd";exact fin
   .walk_at"g";walk_at"wd";exact fin
  .have a13:k≠13:=fun e=>kj (.inl e)
   have r:k≠14:=fun e=>kj (.inr (.inl e))
   have L:k≠15:=fun e=>kj (.inr (.inr e))
   walk_at"g";refine bN (sne W (j:=13) (by decide) a13) ?_
   walk_at"g";refine bN (sne W (j:=14) (by decide) r) ?_
   walk_at"g";refine bN (sne W (j:=15) (by decide) L) ?_
   exact⟨rfl,rfl,a13,r,L⟩
 rintro Z2 H2 ⟨rfl,rfl,a6,au,aU⟩
 obtain⟨Hm,N,F,d,O⟩:=g.ex;obtain⟨H1,hh,u,ar⟩:=O.takeT ha;clear O;have I:=u _ _ d;have bt:=en.h.mv (N.trans u);have bu:k=17->∃pg,Pl H1 pl x.pk x.pb x.pm x.ps pg:=fun _=>⟨_,en.plan.mv (N.trans u)⟩
 have h7:∀y∈x.reps,y.1.length=7:=fun y hy=>by
  obtain⟨vs,R,e2,l⟩:=en.reps;obtain⟨i,hi,ey⟩:=List.mem_iff_getElem.mp hy;have aH:i<vs.length:=by lia
  exact(l i _ y.1 y.2 (mC aH) (by rw[mC hi,ey]) m F).len
 obtain⟨R,e2,l⟩:=Kj (ns:=U) g.bxs h7 k0 a6 au aU;have bW:0<8:=by decide
 have bY:8<=8:=by decide
 have bh:st.h.kvs.length<=9000:=a7;have bp:st.h.rows.length<=9000:=ab;obtain⟨bl,ml,rw,Y,ho,hx⟩:=hh.ex;clear hx;walk_at"g";intro v S b X;have bM:=b.same _ _ I;have bw:=b.same.tup ar
 cases hst:(iZ x k U st.h).1 with
 | none=>
  rw[hst] at X R l;have aP:v= .non:=X;subst aP;walk_at"g";refine⟨fun M G=>az (G=upd S m (.ins J T (mfs cd (st.p+(if k=1 then 2 else 1)) o t))/\M=[some (.ref m),some (.ref a),some (.str (aN k)),some .non]),?_,?_⟩
  .walk_at"g";exact⟨rfl,rfl⟩
  rintro Z3 G ⟨rfl,rfl⟩
  walk_at"g";refine q _ _ ⟨⟨upd H1 m (.ins J T (mfs cd (st.p+(if k=1 then 2 else 1)) o t)),cf F (N.trans u),F,ae.trans ?_,?_⟩⟩ (by rw[R];rfl)
  .rw[l]
  .rw[e2];exact b.write _ I (fun _ z=>by cases z)
 | some ee=>
  rw[hst] at X R l;obtain⟨q3,rfl,aY⟩:=X;walk_at"g";refine⟨fun M G=>az (G=S/\M=[some (.ref m),some (.ref a),some (.str (aN k)),some (.ref q3)]),?_,?_⟩
  .walk_at"g";exact⟨rfl,rfl⟩
  rintro Z3 G ⟨rfl,rfl⟩
  walk_at"g";refine q _ _ ⟨⟨H1,N.trans u,F,?_,?_⟩⟩ (by rw[R];exact⟨q3,rfl,aY⟩)
  .rw[l];exact I
  .rw[e2];exact b
noncomputable def fJ(x:Fx)(ws:List Int):Nat->MSt->Int->(Str × List Int) × MSt × Int
 | 0,st,t=>match lI ws st.p with
  | none=>(("lost",[]),st,t)
  | some _=>(("spent",[]),st,t)
 | n+1,st,t=>match lI ws st.p with
  | none=>(("lost",[]),st,t)
  | some (k,ns)=>match fj x k ns st with
   | (some e,st')=>(e,st',t+1)
   | (none,st')=>fJ x ws n st' (t+1)
structure BdS (x:Fx) (st:MSt) (t:Int):Prop where
 r:st.rows.length<=x.reps.length
 m:(st.kvs.length:Int)<=2000+t+100*(st.rows.length:Int)
structure Hg (x:Fx):Prop where
 few:x.reps.length<=20
 wr:∀y∈x.reps,y.2.length<=100
theorem xh(kvs:List (Key × V))(k:Key)(v:V):(cF kvs k v).length<=kvs.length+1:=by
 unfold cF
 split
 .rw[be];lia
 .rw[NT];exact NW _
theorem HC{x:Fx}{k:Nat}{ns:List Int}{st:MSt}{t:Int}(I:Hg x)(h:BdS x st t)(o:(fj x k ns st).1=none):BdS x (fj x k ns st).2 (t+1):=by
 have C:=h.r;have c:=h.m
 revert o
 unfold fj
 split
 .intro o;cases o
 .split
  .split
   .intro o;cases o
   .split
    .intro o;cases o
    .rename_i bs ws e
     intro _;have J:st.rows.length<x.reps.length:=(mF.mp e).1;have hw:=I.wr _ (N4 e);have a:=iJ ws st.kvs;refine⟨?_,?_⟩
     .show(st.rows++[_]).length<=_
      rw[NT];exact J
     .show((eC st.kvs ws).length:Int)<=2000+(t+1)+100*((st.rows++[_]).length:Int)
      rw[NT];have U:ws.length<=100:=hw
      simp only[N6,OM]
      lia
  .split
   .split
    .split
     .intro _;exact⟨C,by show(st.kvs.length:Int)<=2000+(t+1)+100*(st.rows.length:Int);lia⟩
     .intro _;have b:=xh st.kvs (.inl (bE ns st.bx)) (.int (bxG st.bx (ns.getD 0 0)));exact⟨C,by show((cF st.kvs _ _).length:Int)<=2000+(t+1)+100*(st.rows.length:Int);lia⟩
    .intro o;cases o
   .split
    .intro _;exact⟨C,by show(st.kvs.length:Int)<=2000+(t+1)+100*(st.rows.length:Int);lia⟩
    .intro _;exact⟨C,by show(st.kvs.length:Int)<=2000+(t+1)+100*(st.rows.length:Int);lia⟩
def FD(K:Frag)(C d:Addr):Sp:=fun f H Q _=>∃(J:Hp) (m c cd o e U b:Addr) (st:MSt) (t:Int) (x:Fx) (I:List Int) (n:Nat),f=[.ref m,.int (t+n)]/\MaH C d J H m c cd o e U b x.pg st t/\En K J U b x/\Hg x/\BdS x st t/\0<=t/\t+n<=1000/\
 SqL K J cd (I.map V.int)/\(∀y∈I,0<=y/\y<4294967296)/\∀v a,MaH C d J a m c cd o e U b x.pg (fJ x I n st t).2.1 (fJ x I n st t).2.2->Dm a (some (fJ x I n st t).1) v->Q v a
theorem tY{C b:Addr}(B:Bi mg)(c:dW K mg "Machine" b)(n:hX K b)(D:ix K b)(cO:Has P w K mg base 6 "instruction_at" Gj (LH K))(Bb:cx P w K mg base 6 b "do" cY (L_ K C b)):
  cx P w K mg base 7 b "run_on" Co (FD K C b):=by
 refine D.has c.cl ff (fun vs H Q E h=> ?_) (fun f bu A aY s H vs Q E hr h=> ?_)
 .obtain⟨M,m,u,cd,o,N,R,O,st,t,x,U,nn,rfl,_⟩:=h
  rfl
 obtain⟨M,m,u,cd,o,N,R,O,st,t,x,U,nn,rfl,ma,en,fx,bd,t0,t1,aU,T,q⟩:=h;have hc:=c.cl;have n1:=n.code;have n2:=n.place;have n3:=n.turns;have bl:∀y∈U,0<=y:=fun y hy=>(T y hy).1
 refine⟨_,(aa (psS 2 ff.nd eP)
   (aa (aL (kc Oj (pY (ut (pv 2))) (aa (psS 3 ff.nd (pcH cO hr (pa2 (aV (pv 0) (by rfl)) (aV (pv 0) (by rfl)))))
   (aa (ay (pY (ut (pv 3))) (af (ai (aB (pa1 ax)))) al)
   (aa (ay (pcT iT (aV (pv 0) (by rfl)) (pv 1)) (af (ai (aB (pa1 ax)))) al)
   (aa (cu (pv 0) (aw aS (aV (pv 0) (by rfl)) ad) (by rfl))
   (af (psS 2 ff.nd (cD (Bb.mono (by omega)) hr (pv 0) (pa1 (pv 3)))))))))))
   (af (ai (pv 2))))),?_⟩
 try dsimp only[aT]
 walk_at"g"
 refine⟨fun mm Z l=>(∃(L:Nat) (I:MSt) (J:Int) (i:Option V),mm=L+1/\J+L=t+nn/\0<=J/\MaH C b M l m u cd o N R O x.pg I J/\BdS x I J/\fJ x U L I J=fJ x U nn st t/\Z=[some (.ref m),some (.int (t+nn)),some .non,i])\/
  (∃(v:V) (i:Option V),mm=0/\v≠ .non/\MaH C b M l m u cd o N R O x.pg (fJ x U nn st t).2.1 (fJ x U nn st t).2.2/\Dm l (some (fJ x U nn st t).1) v/\Z=[some (.ref m),some (.int (t+nn)),some v,i]),⟨nn+1,.inl ⟨nn,st,t,_,rfl,rfl,t0,ma,bd,rfl,rfl⟩⟩,?_⟩
 rintro mm Z H1 (⟨L,I,J,i,rfl,ht,tp,d,F,er,rfl⟩|⟨v,i,rfl,aH,d,ev,rfl⟩)
 .have ho:=d.at;have bp:=d.same.seq aU;refine⟨_,rfl,_,rfl,Dg rfl ?_⟩
  walk_at"n"
  refine⟨fun Z' l=>az ((∃(n2:Nat) (I:MSt) (J:Int) (i:Option V),n2+1<L+1/\J+n2=t+nn/\0<=J/\MaH C b M l m u cd o N R O x.pg I J/\BdS x I J/\fJ x U n2 I J=fJ x U nn st t/\Z'=[some (.ref m),some (.int (t+nn)),some .non,i])\/
   (∃(v:V) (i:Option V),v≠ .non/\MaH C b M l m u cd o N R O x.pg (fJ x U nn st t).2.1 (fJ x U nn st t).2.2/\Dm l (some (fJ x U nn st t).1) v/\Z'=[some (.ref m),some (.int (t+nn)),some v,i])),fun Z' l h=> ?_,?_⟩
  .rcases h.out with⟨n2,st2,t2,i2,a1,a2,a3,a4,a5,a6,a7⟩|⟨v2,i2,a1,a2,a3,a4⟩
   .exact⟨n2+1,a1,.inl ⟨n2,st2,t2,i2,rfl,a2,a3,a4,a5,a6,a7⟩⟩
   .exact⟨0,by lia,.inr ⟨v2,i2,rfl,a1,a2,a3,a4⟩⟩
  walk_at"g";intro v H2 ab Y;have g:=d.grow ab;have aP:=g.at
  cases hins:lI U I.p with
  | none=>
   rw[hins] at Y;have hv:v= .non:=Y;subst hv;have a:fJ x U nn st t=((("lost":Str),([]:List Int)),I,J):=by
    rw[<- er]
    cases L with
    | zero=>unfold fJ;rw[hins]
    | succ n2=>unfold fJ;rw[hins]
   rw[a] at q;walk_at"g";intro qq hq;exact q _ _ (g.grow (ag hq _)) ⟨qq,rfl,ae⟩
  | some kn=>
   obtain⟨k,X⟩:=kn;rw[hins] at Y;obtain⟨ia,rfl,ar⟩:=Y;have a':=uS T hins;walk_at"g"
   cases L with
   | zero=>
    have a:fJ x U nn st t=((("spent":Str),([]:List Int)),I,J):=by
     rw[<- er];unfold fJ;rw[hins]
    rw[a] at q;refine Dg (by lia) ?_
    walk_at"g";intro qq hq;exact q _ _ (g.grow (ag hq _)) ⟨qq,rfl,ae⟩
   | succ n2=>
    refine bN (by lia) ?_
    have bt:MaH C b M (upd H2 m (.ins b u (mfs cd I.p o (J+1)))) m u cd o N R O x.pg I (J+1):=g.put I.p (J+1);have bb:SqT K (upd H2 m (.ins b u (mfs cd I.p o (J+1)))) ia (aD k X):=M3 aP (fun _=>⟨(fun z=>by cases z),(fun _ z=>by cases z)⟩) ar
    have f1:=F.r;have f2:=F.m;have f3:=fx.few;have bw:I.kvs.length<=9000:=by lia
    have bh:I.rows.length<=9000:=by lia
    walk_at"g";intro v3 H3 G j;have a:fJ x U nn st t=match fj x k X I with | (some e,st2)=>(e,st2,J+1) | (none,st2)=>fJ x U n2 st2 (J+1):=by
     rw[<- er]
     conv=>lhs;unfold fJ
     rw[hins]
    have W:=HC (k:=k) (ns:=X) fx F;walk_at"g"
    cases hst:fj x k X I with
    | mk e1 st2=>
     rw[hst] at a G j W
     cases e1 with
     | none=>
      have au:v3= .non:=j;subst au;exact az.mk (Or.inl ⟨n2,st2,J+1,_,by lia,by lia,by lia,G,W rfl,a.symm,rfl⟩)
     | some ee=>
      have S:fJ x U nn st t=(ee,st2,J+1):=a;refine az.mk (Or.inr ⟨v3,_,?_,by rw[S];exact G,by rw[S];exact j,rfl⟩)
      obtain⟨q3,rfl,_⟩:=j;intro z
      cases z
 .walk_at"g";rw[NX aH];walk_at"g";exact q _ _ d ev
def IG(K:Frag)(C d:Addr):Sp:=fun f H Q _=>∃(J I:Hp) (m c cd o e U b:Addr) (p g:Int) (st:HSt),f=[.ref m,.ref cd,.int p,.ref o]/\I m=some (.ins d c [])/\J m=none/\aA J I/\HoH C 8 I H o e U b g st/\
 ∀a,MaH C d J a m c cd o e U b g ⟨p,st.bx,st.kvs,st.rows⟩ 0->Q .non a
theorem qB{C I:Addr}(B:Bi mg)(c:dW K mg "Machine" I)(n:hX K I)(D:gm K I):cx P w K mg base 1 I "__init__" BX (IG K C I):=by
 refine D.has c.cl qp (fun d H Q E h=> ?_) (fun f e A a s H d Q E G h=> ?_)
 .obtain⟨y,x,m,U,cd,o,F,i,l,p,g,st,rfl,_⟩:=h
  rfl
 obtain⟨y,x,m,U,cd,o,F,i,l,p,g,st,rfl,hm,J,sm,b,q⟩:=h;have L:=c.cl;have n2:=n.code;have n3:=n.place;have n4:=n.holding;have n5:=n.turns;have ho:=b.same _ _ hm
 refine⟨_,(aa (cu (pv 0) (pv 1) (by rfl))
   (aa (cu (pv 0) (pv 2) (by rfl))
   (aa (cu (pv 0) (pv 3) (by rfl))
   (af (cu (pv 0) ad (by rfl)))))),?_⟩
 try dsimp only[aT]
 walk_at"g";have j:=b.write (.ins I U [("code",.ref cd)]) hm (fun _ z=>by cases z)
 have u:=j.write (.ins I U [("code",.ref cd),("place",.int p)]) ae (fun _ z=>by cases z)
 have v:=u.write (.ins I U [("code",.ref cd),("place",.int p),("holding",.ref o)]) ae (fun _ z=>by cases z)
 have r:=v.write (.ins I U [("code",.ref cd),("place",.int p),("holding",.ref o),("turns",.int 0)]) ae (fun _ z=>by cases z)
 exact q _ ⟨⟨_,cf J (cf J (cf J (cf J sm))),J,ae,r⟩⟩
structure HJ (H0 H:Hp) (q:Addr) (R:(Str × List Int) × MSt × Int):Prop where
 ex:∃(eq sq tb db rw:Addr) (rs:List Addr),H q=some (.tup [.ref eq,.ref sq,.ref rw,.int R.2.2])/\H eq=some (.tup (.str R.1.1::R.1.2.map V.int))/\H sq=some (.tup [.int R.2.1.p,.ref tb,.ref db])/\H tb=some (.tup (R.2.1.bx.map V.int))/\H db=some (.dK R.2.1.kvs)/\
  H rw=some (.lst (rs.map V.ref))/\H0 rw=none/\H0 db=none/\qJ H db rs R.2.1.rows
structure EG (H0 H:Hp) (q:Addr) (R:(Str × List Int) × MSt × Int):Prop where
 ex:∃(eq sq tb db rw:Addr) (es:List (Addr × Addr)),H q=some (.tup [.ref eq,.ref sq,.ref rw,.int R.2.2])/\H eq=some (.tup (.str R.1.1::R.1.2.map V.int))/\H sq=some (.tup [.int R.2.1.p,.ref tb,.ref db])/\H tb=some (.tup (R.2.1.bx.map V.int))/\H db=some (.dK R.2.1.kvs)/\
  H rw=some (.lst ((es.map (·.1)).map V.ref))/\H0 rw=none/\H0 db=none/\(es.map (·.2)).Nodup/\fM H0 H db es R.2.1.rows
theorem EG.weak{C H:Hp}{q:Addr}{R:(Str × List Int) × MSt × Int}(h:EG C H q R):HJ C H q R:=by
 obtain⟨J,sq,g,e,rw,l,c,d,f,i,I,a,b,U,j,o⟩:=h.ex;exact⟨J,sq,g,e,rw,_,c,d,f,i,I,a,b,U,o.rows⟩
def KP(K:Frag):Sp:=fun d H Q _=>∃(U cd sa c a b:Addr) (p:Int) (I:List Int) (o:List (Key × V)) (x:Fx) (C:List Int) (n:Nat),d=[.ref U,.ref cd,.ref sa,.ref b,.int n]/\SqT K H sa [.int p,.ref c,.ref a]/\SqT K H c (I.map V.int)/\H a=some (.dK o)/\Bxs I/\dE o/\o.length<=2000/\
 En K H U b x/\Hg x/\n<=1000/\SqL K H cd (C.map V.int)/\(∀y∈C,0<=y/\y<4294967296)/\∀q J,aA H J->HJ H J q (fJ x C n ⟨p,I,o,[]⟩ 0)->dE (fJ x C n ⟨p,I,o,[]⟩ 0).2.1.kvs->Bxs (fJ x C n ⟨p,I,o,[]⟩ 0).2.1.bx->Q (.ref q) J
def HV(K:Frag):Sp:=fun d H Q _=>∃(U cd sa c a b:Addr) (p:Int) (I:List Int) (o:List (Key × V)) (x:Fx) (C:List Int) (n:Nat),d=[.ref U,.ref cd,.ref sa,.ref b,.int n]/\SqT K H sa [.int p,.ref c,.ref a]/\SqT K H c (I.map V.int)/\H a=some (.dK o)/\Bxs I/\dE o/\o.length<=2000/\
 En K H U b x/\Hg x/\n<=1000/\SqL K H cd (C.map V.int)/\(∀y∈C,0<=y/\y<4294967296)/\∀q J,aA H J->EG H J q (fJ x C n ⟨p,I,o,[]⟩ 0)->dE (fJ x C n ⟨p,I,o,[]⟩ 0).2.1.kvs->Bxs (fJ x C n ⟨p,I,o,[]⟩ 0).2.1.bx->Q (.ref q) J
theorem Ed{vs:List V}{H:Hp}{Q:VK}{E:XK}(h:KP K vs H Q E):HV K vs H Q E:=by
 obtain⟨c,cd,sa,z,l,s,p,u,o,x,e,n,r,v,y,A,d,i,m,g,f,C,J,U,I⟩:=h;exact⟨c,cd,sa,z,l,s,p,u,o,x,e,n,r,v,y,A,d,i,m,g,f,C,J,U,fun q j a b=>I q j a b.weak⟩
theorem K7{o:Addr}{n:Nat}:V.ref o::([V.int (n:Int)]++[])=[V.ref o,V.int ((0:Int)+(n:Int))]:=by rw[Int.zero_add];rfl
theorem Jp{C d:Addr}(B:Bi mg)(dn:dW K mg "Holding" C)(N:fD K C)(eK:dW K mg "Machine" d)(n:hX K d)(D:KL K mg)(su:cx P w K mg base 1 C "__init__" DT (Fo K C))
  (rE:cx P w K mg base 1 d "__init__" BX (IG K C d)) (ul:cx P w K mg base 7 d "run_on" Co (FD K C d)):Has P w K mg base 8 "run" C5 (HV K):=by
 refine D.has wG (fun vs H Q E h=> ?_) (fun f bW A bw s H vs Q E S h=> ?_)
 .obtain⟨pl,cd,sa,bt,md,rl,p,O,U,x,ws,nn,rfl,_⟩:=h
  rfl
 obtain⟨pl,cd,sa,bt,md,rl,p,O,U,x,ws,nn,rfl,au,ar,X,aY,Y,bY,en,fx,bM,bp,T,q⟩:=h;have hc:=eK.cl;have b2:=dn.cl;have n1:=n.place;have n2:=n.turns;have n3:=N.boxes;have n4:=N.memory;have n5:=N.rows;have bC:=en.plan.at_;have p4:atI [V.int x.pk,V.int x.pb,V.int x.pm,V.int x.ps,V.int x.pg] 4=some (.int x.pg):=aQ (j:=4) rfl
 refine⟨_,(aa (psS 5 wG.nd (x_ dn (su.mono (by omega)) S (by rfl) (pa5 (pv 0) (pX aj (pv 0) ad) (pX aj (pv 2) ad) (pX aj (pv 2) ad) (pv 3))))
   (aa (psS 6 wG.nd (x_ eK (rE.mono (by omega)) S (by rfl) (pa3 (pv 1) (pX aj (pv 2) ad) (pv 5))))
   (aa (psS 7 wG.nd (cD (ul.mono (by omega)) S (pv 6) (pa1 (pv 4))))
   (aa (psS 8 wG.nd (aB (pa3 (aV (pv 6) (by rfl)) (bX de (by rfl) B.tuple f8 (pa1 (aV (pv 5) (by rfl)))) (aV (pv 5) (by rfl)))))
   (af (ai (aB (pa4 (pv 7) (pv 8) (aV (pv 5) (by rfl)) (aV (pv 6) (by rfl)))))))))),?_⟩
 try dsimp only[aT]
 walk_at"g";intro o W ho aU bu;have bb:upd H W (.own o) o=none:=by rw[aq (Ox bu)];exact ho
 refine⟨8,H,o,W,pl,bt,md,rl,x.pg,O,U,rfl,ae,ho,cy bb (ag aU _),ar,X,aY,Y,fun H1 J=>⟨rfl,?_⟩⟩
 have bA:=J.same.tup au;walk_at"g";intro m L i y z;have bh:upd H1 L (.own m) m=none:=by rw[aq (Ox z)];exact i
 have b:H m=none:=none_of J.same i;have l:H L=none:=none_of J.same y;refine⟨H,_,m,L,cd,o,W,pl,rl,p,x.pg,_,rfl,ae,b,?_,(J.add (.own m) y).add (.ins d L []) bh,fun H2 r=>⟨rfl,?_⟩⟩
 .exact cy (by rw[aq (Ox z)];exact b) (ag l _)
 have bL:=r.at;walk_at"g";refine⟨K7,r,en,fx,⟨Ou _,by show(U.length:Int)<=2000+0+100*((0:Nat):Int);lia⟩,OX 0,by lia,bp,T,fun v M I ev=> ?_⟩
 obtain⟨eq,rfl,a7⟩:=ev;generalize fJ x ws nn ⟨p,O,U,[]⟩ 0=R at*;have a6:=I.at;obtain⟨Hm,s0,m0,bV,hh⟩:=I.ex;obtain⟨bl,u,rw,es,a',hb,aP,aH,o0,b0,m1,w0,bT,nd,rows⟩:=hh.ex;have bG:M bl=some (.lst (R.2.1.bx.map V.int)):=hb;have G:M u=some (.dK R.2.1.kvs):=aP;clear hb;walk_at"g";intro F c;have Z:=cG (o:= .tup (R.2.1.bx.map V.int)) c a6;have ab:=cG (o:= .tup (R.2.1.bx.map V.int)) c a';walk_at"g";intro sq a;have b1:=cG (o:= .tup [.int R.2.1.p,.ref F,.ref u]) a Z;have bF:=cG (o:= .tup [.int R.2.1.p,.ref F,.ref u]) a ab;walk_at"g";intro qq hq;have g:aA M (upd (upd (upd M F (.tup (R.2.1.bx.map V.int))) sq (.tup [.int R.2.1.p,.ref F,.ref u])) qq (.tup [.ref eq,.ref sq,.ref rw,.int R.2.2])):=cy hq (cy a (ag c _));refine q qq _ (I.same.trans g) ⟨⟨eq,sq,F,u,rw,es,ae,g _ _ a7,cG hq ae,cG hq (cG a ae),g _ _ G,g _ _ aH,none_of s0 w0,none_of s0 m1,nd,rows.mono (fun _ _ e=>g _ _ e) (fun _ _ z1 z2 e=>⟨none_of s0 z1,g _ _ e,z2⟩)⟩⟩ I.mem I.bxs
theorem DB{x:Pn}{kn:Ins}{r:List Ins}:∀{pre:List Ins}{at_:Nat}{sp:List SpM.Span},(bB x at_ sp (pre++kn::r))[lnW pre]? =some (some (aJ (at_+lnW pre) (dM x at_ sp pre)))
 | [],_,_=>rfl
 | j::p,at_,sp=>by
  have ih:=DB (x:=x) (kn:=kn) (r:=r) (pre:=p) (at_:=at_+a8 j.1) (sp:=ck x.pk x.pb x.pm x.ps j.1 j.2 (aJ at_ sp));have o:dM x at_ sp (j::p)=dM x (at_+a8 j.1) (ck x.pk x.pb x.pm x.ps j.1 j.2 (aJ at_ sp)) p:=rfl;rw[bg, <-O2,o];show(some (aJ at_ sp)::((if j.1=1 then[none] else[])++bB x _ _ (p++kn::r)))[a8 j.1+lnW p]? =_
  by_cases k1:j.1=1
  .have e:a8 j.1=2:=by unfold a8;rw[NV k1]
   rw[NV k1];rw[e] at ih ⊢;rw[show 2+lnW p=lnW p+1+1 by lia,OR,List.cons_append,Q8,OR]
   exact ih
  .have e:a8 j.1=1:=by unfold a8;rw[fI k1]
   rw[fI k1];rw[e] at ih ⊢;rw[show 1+lnW p=lnW p+1 by lia,OR,Q8]
   exact ih
theorem rM{x:Pn}{T:Int}{b:Nat}(C:b %8=0):∀{is:List Ins}{at_:Nat}{sp:List SpM.Span},okC x T at_ sp is->at_<=b->b<at_+lnW is->∃pre kn r,is=pre++kn::r/\at_+lnW pre=b
 | [],at_,_,_,h1,h2=>absurd h2 (by show ¬b<at_+0;lia)
 | kn::r,at_,sp,h,h1,h2=>by
  by_cases e:b=at_
  .exact⟨[],kn,r,rfl,by show at_+0=b;lia⟩
  .have hl:=h.2.1;rw[bg] at h2;obtain⟨pre,o,U,I,J⟩:=rM C (is:=r) (at_:=at_+a8 kn.1) h.2.2.2 (by lia) (by lia)
   exact⟨kn::pre,o,U,by rw[I];rfl,by rw[bg, <-O2];exact J⟩
structure qy (bx:List Int) (sp:List SpM.Span):Prop where
 len:bx.length=8
 sl:sp.length=8
 inn:∀i,0<=i->i<8->SpM.In (bxG bx i) (spG sp i)
theorem wx{bx:List Int}{i:Int}(h:bx.length=8)(C:0<=i)(o:i<8):bxG bx i∈bx:=by
 unfold bxG;rw[N9,mC (by lia)]
 exact O0 _
theorem qy.w8{bx:List Int}(h:Bxs bx):qy bx w8:=by
 refine⟨h.len,rfl,fun i C o=> ?_⟩
 have hm:=h.rng _ (wx h.len C o);have e:spG My.w8 i=SpM.whole:=by
  unfold spG My.w8;rw[N9,Pq]
  split <;> rfl
 rw[e];exact SpM.In_whole hm.1 hm.2
theorem qy.here{bx:List Int}{sp:List SpM.Span}{a:Nat}(h:qy bx sp)(o:Bxs bx):qy bx (aJ a sp):=by
 unfold aJ
 split
 .exact qy.w8 o
 .exact h
theorem E1{bx:List Int}{a i v:Int}(h:bx.length=8)(a0:0<=a)(a1:a<8)(C:0<=i)(o:i<8):bxG (bx.set a.toNat v) i=if i=a then v else bxG bx i:=by
 unfold bxG;rw[N9,QJ]
 by_cases e:i=a
 .rw[NV (by lia),NV (by lia),NV e]
  rfl
 .rw[fI (by lia),fI e,N9]
theorem Ly{sp:List SpM.Span}{a i:Int}{s:SpM.Span}(h:sp.length=8)(a0:0<=a)(a1:a<8)(C:0<=i)(o:i<8):spG (sp.set a.toNat s) i=if i=a then s else spG sp i:=by
 unfold spG;rw[N9,QJ]
 by_cases e:i=a
 .rw[NV (by lia),NV (by lia),NV e]
  rfl
 .rw[fI (by lia),fI e,N9]
theorem qy.set{bx:List Int}{sp:List SpM.Span}{a v:Int}{s:SpM.Span}(h:qy bx sp)(a0:0<=a)(a1:a<8)(I:SpM.In v s):qy (bx.set a.toNat v) (sp.set a.toNat s):=by
 refine⟨by rw[P0];exact h.len,by rw[P0];exact h.sl,fun i C o=> ?_⟩
 rw[E1 h.len a0 a1 C o,Ly h.sl a0 a1 C o]
 split
 .exact I
 .exact h.inn i C o
theorem JE{pk:Nat}{c:Int}{pm ps k:Nat}{ns bx:List Int}{sp:List SpM.Span}(f:SpM.Room pk c)(b:pm+ps<=7)(i:aC 8 262144 k ns)(hm:mk8 k)(j:k≠11)(a:Sp8 sp)(I:qy bx sp):SpM.In (kD pk c pm ps k ns bx) (dk pk c pm ps k ns sp):=by
 unfold mk8 at hm;unfold kD dk;rcases i with⟨rfl,rfl⟩|⟨rfl,x,v,rfl,J,U,v0,v1⟩|⟨e,g,x,y,z,rfl,J,U,o,C,z0,z1⟩|⟨e,g,x,y,z,rfl,J,U,o,C,z0,z1⟩|⟨d,z,rfl,z0,z1⟩|⟨rfl,x,z,rfl,J,U,z0,z1⟩|⟨rfl,y,rfl,o,C⟩|⟨d,x,y,rfl,J,U,o,C⟩
 .lia
 .exact SpM.In_single v
 .rw[fI (by lia),fI (by lia),fI (by lia),fI (by lia),fI (by lia),fI (by lia),fI (by lia),fI (by lia),fI (by lia)]
  exact SpM.In_j _ (a.at o C).2 (a.at z0 z1).2 (I.inn y o C) (I.inn z z0 z1)
 .obtain rfl:k=10:=by lia
  exact SpM.In_more (a.at o C).2 (I.inn y o C) z
 .lia
 .lia
 .lia
 .rcases d with rfl | rfl
  .exact SpM.In_fit f (I.inn y o C)
  .exact SpM.In_aim b (I.inn y o C)
noncomputable def wM(pk:Nat)(o:Int)(C:Key × V):Bool:=match C.1 with
 | .inl i=> !decide (InR pk o i)
 | .inr _=>true
noncomputable abbrev bey(pk:Nat)(o:Int)(kvs:List (Key × V)):List (Key × V):=kvs.filter (wM pk o)
theorem FR{pk:Nat}{I i:Int}{v:V}(o:∀u,wM pk I (.inl i,u)=false):∀r:List (Key × V),List.filter (wM pk I) (List.map (fun C=>if C.1=Sum.inl i then(C.1,v) else C) r)=List.filter (wM pk I) r
 | []=>rfl
 | a::r=>by
  rw[OD,PR,PR,FR o r]
  by_cases e:a.1=Sum.inl i
  .obtain⟨k,u⟩:=a;have e:k=Sum.inl i:=e;subst e;rw[NV rfl,o,o,fI (by decide),fI (by decide)]
  .rw[fI e]
theorem Ff{pk:Nat}{o i:Int}{v:V}(h:InR pk o i)(kvs:List (Key × V)):bey pk o (cF kvs (.inl i) v)=bey pk o kvs:=by
 have C:∀u,wM pk o (.inl i,u)=false:=fun u=>by
  show(!decide (InR pk o i))=false
  rw[NY h]
  rfl
 unfold cF bey
 split
 .exact FR C kvs
 .rw[QF,PR,C]
  simp
def rR(pk:Nat)(C:Int)(ws:List (Key × V)):Prop:=∀o∈ws, ∃i,o.1= .inl i/\InR pk C i
theorem zY{pk:Nat}{o:Int}:∀{ws:List (Key × V)}(kvs:List (Key × V)),rR pk o ws->bey pk o (eC kvs ws)=bey pk o kvs
 | [],_,_=>rfl
 | kv::r,kvs,h=>by
  obtain⟨i,e,I⟩:=h kv N3;have J:eC kvs (kv::r)=eC (cF kvs kv.1 kv.2) r:=rfl;rw[J,zY (ws:=r) _ (fun x C=>h x (N2 _ C)),e]
  exact Ff I kvs
structure JR (pk:Nat) (pb:Int) (r:List Int × List (Key × V)):Prop where
 len:r.1.length=7
 rng:∀y∈r.1,0<=y/\y<4294967296
 room:rR pk pb r.2
structure oS (x:Pn) (is:List Ins) (p:Int) (bx:List Int):Prop where
 bxs:Bxs bx
 here:∃pre kn r,is=pre++kn::r/\p=(lnW pre:Nat)/\qy bx (aJ (lnW pre) (dM x 0 w8 pre))
theorem oS.bundle{x:Pn}{is:List Ins}{b:Nat}{bx:List Int}(J:eZ x is)(C:b %8=0)(a:b<lnW is)(h:Bxs bx):oS x is (b:Nat) bx:=by
 obtain⟨o,U,r,I,c⟩:=rM C J.ok (Ou _) (by lia)
 refine⟨h,o,U,r,I,by lia,?_⟩
 have:lnW o %8=0:=by lia
 unfold aJ;rw[NV this];exact qy.w8 h
theorem C8{pk:Nat}{o pg T:Int}{k:Nat}{ns:List Int}{sp:List SpM.Span}(h:aK pk o pg T k ns sp=none):(mk8 k->ns.getD 0 0≠7)/\((k=11\/k=12)->¬lN pk o ns sp)/\((k=13\/k=14)->tgt k ns %8=0/\tgt k ns<T)/\
  (k=15->(spG sp (ns.getD 0 0)).hi<T/\3<=(spG sp (ns.getD 0 0)).z)/\(k=18->ns.getD 0 0<pg):=by
 unfold aK at h
 split at h
 .cases h
 .split at h
  .cases h
  .split at h
   .cases h
   .split at h
    .cases h
    .split at h
     .cases h
     .rename_i a b c d e
      refine⟨fun z w=>a ⟨z,w⟩,fun z w=>b ⟨z,w⟩,fun z=> ?_,fun z=> ?_,fun z=> ?_⟩
      .have:¬(tgt k ns %8≠0\/T<=tgt k ns):=fun w=>c ⟨z,w⟩
       lia
      .have:¬(T<=(spG sp (ns.getD 0 0)).hi\/(spG sp (ns.getD 0 0)).z<3):=fun w=>d ⟨z,w⟩
       lia
      .have:¬pg<=ns.getD 0 0:=fun w=>e ⟨z,w⟩
       lia
structure K9 (x:Pn) (is:List Ins) (st st':MSt) (e:Option (Str × List Int)):Prop where
 go:e=none->oS x is st'.p st'.bx
 fin:∀z,e=some z->(z.1="stopped"\/z.1="asks")/\st'.bx=st.bx/\st'.p=st.p
 b7:bxG st'.bx 7=bxG st.bx 7
 out:bey x.pk x.pb st'.kvs=bey x.pk x.pb st.kvs
 rows:st'.rows=st.rows\/∃n,st'.rows=st.rows++[(n,st.bx,st.kvs)]
theorem zU{x:Pn}{kn:Ins}:∀{is:List Ins}{at_:Nat}{sp:List SpM.Span},dM x at_ sp (is++[kn])=ck x.pk x.pb x.pm x.ps kn.1 kn.2 (aJ (at_+lnW is) (dM x at_ sp is))
 | [],at_,sp=>rfl
 | j::r,at_,sp=>by
  have ih:=zU (x:=x) (kn:=kn) (is:=r) (at_:=at_+a8 j.1) (sp:=ck x.pk x.pb x.pm x.ps j.1 j.2 (aJ at_ sp));rw[bg, <-O2];exact ih
theorem oS.next{x:Pn}{is pre r:List Ins}{kn:Ins}{bx:List Int}(b:eZ x is)(e:is=pre++kn::r)(J:¬(kn.1=0\/kn.1=13\/kn.1=15))(C:Bxs bx)(U:qy bx (ck x.pk x.pb x.pm x.ps kn.1 kn.2 (aJ (lnW pre) (dM x 0 w8 pre)))):oS x is ((lnW pre:Nat)+(a8 kn.1:Nat):Int) bx:=by
 cases r with
 | nil=>
  obtain⟨d,k2,I,c⟩:=b.last;rw[e] at I;obtain⟨_,o⟩:=List.append_inj' I rfl
  injection o with o
  subst o;exact absurd c J
 | cons kn' r'=>
  have a:lnW (pre++[kn])=lnW pre+a8 kn.1:=by rw[dg,iQ]
  refine⟨C,pre++[kn],kn',r',by rw[e,On];rfl,by rw[a];push_cast;rfl,?_⟩
  rw[zU,OU];exact U.here C
theorem Cf{x:Pn}{k:Nat}{ns bx:List Int}{sp:List SpM.Span}{v:Int}(C:aC 8 262144 k ns)(hm:mk8 k)(o:qy bx sp)(I:SpM.In v (dk x.pk x.pb x.pm x.ps k ns sp)):qy (bx.set (ns.getD 0 0).toNat v) (ck x.pk x.pb x.pm x.ps k ns sp):=by
 obtain⟨a,r,rfl,a0,a1⟩:=gG C hm;unfold ck;rw[fI (by unfold mk8 at hm;lia),NV hm]
 exact o.set a0 a1 I
theorem HQ{bx:List Int}{a v:Int}(h:bx.length=8)(a0:0<=a)(a1:a<8)(o:a≠7):bxG (bx.set a.toNat v) 7=bxG bx 7:=by
 rw[E1 h a0 a1 (by decide) (by decide),fI (Ox o)]
theorem E_{x:Pn}{T:Int}{kn:Ins}{r:List Ins}:∀{pre:List Ins}{at_:Nat}{sp:List SpM.Span},okC x T at_ sp (pre++kn::r)->okC x T at_ sp pre
 | [],_,_,_=>True.intro
 | _::p,_,_,h=>⟨h.1,h.2.1,h.2.2.1,E_ (pre:=p) h.2.2.2⟩
theorem yq{x:Pn}{reps:List (List Int × List (Key × V))}{is:List Ins}(N:SpM.Room x.pk x.pb)(G:x.pm+x.ps<=7)(D:eZ x is)(R:∀r∈reps,JR x.pk x.pb r){st:MSt}(h:oS x is st.p st.bx)(hm:dE st.kvs):
  ∃kn sp,lI (ao is) st.p=some kn/\0<=st.p/\st.p<lnW is/\(bB x 0 w8 is)[st.p.toNat]? =some (some sp)/\qy st.bx sp/\Sp8 sp/\VI kn/\K9 x is st (fj ⟨x.pk,x.pb,x.pm,x.ps,x.pg,reps⟩ kn.1 kn.2 st).2 (fj ⟨x.pk,x.pb,x.pm,x.ps,x.pg,reps⟩ kn.1 kn.2 st).1:=by
 obtain⟨v,o,kn,r,e,E,B⟩:=h;have ok:=D.ok;rw[e] at ok;obtain⟨f,ar,Y⟩:=E7 ok;rw[OU] at Y ar;have eT:(ao (o++kn::r)).length=8*2^(x.pm+x.ps):=by rw[<- e];exact D.len
 rw[eT] at Y;have eW:lnW is=8*2^(x.pm+x.ps):=by rw[<- bq];exact D.len
 have ab:okC x ((ao (o++kn::r)).length) 0 w8 o:=E_ ok;have h8:Sp8 (aJ (lnW o) (dM x 0 w8 o)):=gU (xV N G ab yJ);refine⟨kn,aJ (lnW o) (dM x 0 w8 o),?_,by lia,?_,?_,B,h8,f,?_⟩
 .rw[E,e];exact JV f
 .rw[E,e,dg,bg];have:=iK kn.1
  lia
 .rw[E,e,Os,DB,OU]
 obtain⟨f1,f2,f3,f4,f5⟩:=C8 Y
 replace f1:=az.mk f1;replace f2:=az.mk f2;replace f3:=az.mk f3;replace f4:=az.mk f4;replace f5:=az.mk f5
 obtain⟨k,L⟩:=kn;dsimp only at*;have l8:=v.len;unfold fj
 by_cases k0:k=0
 .rw[NV k0];exact⟨fun z=>(by cases z),fun z U=>by cases U;exact⟨.inl rfl,rfl,rfl⟩,rfl,rfl,.inl rfl⟩
 rw[fI k0]
 by_cases c:k=18
 .rw[NV c,fI (by have:=f5.out c;show ¬x.pg<=_;lia)]
  dsimp only
  cases Z:reps[st.rows.length]? with
  | none=>exact⟨fun z=>(by cases z),fun z U=>by cases U;exact⟨.inr rfl,rfl,rfl⟩,rfl,rfl,.inr ⟨_,rfl⟩⟩
  | some rp=>
   obtain⟨bs,ws⟩:=rp;have H:=R _ (N4 Z);have rl:bs.length=7:=H.len;have rr:∀y∈bs,0<=y/\y<4294967296:=H.rng;have au:=v.rng _ (wx (i:=7) l8 (by decide) (by decide))
   have T:Bxs (bs++[bxG st.bx 7]):=⟨by rw[NT,rl];rfl,fun y O=>by
    rcases Ot.mp O with O | O
    .exact rr y O
    .rw[Og.mp O];exact au⟩
   have e7:bxG (bs++[bxG st.bx 7]) 7=bxG st.bx 7:=by
    show(bs++[bxG st.bx 7]).getD 7 0=_
    rw[N9,Oe (by lia),rl]
    rfl
   dsimp only;refine⟨fun _=> ?_,fun z U=>(by cases U),e7,zY _ H.room,.inr ⟨_,rfl⟩⟩
   have C:a8 k=1:=by unfold a8;rw[fI (by lia)]
   have I:=oS.next (bx:=bs++[bxG st.bx 7]) D e (by show ¬(k=0\/k=13\/k=15);lia) T (by
    dsimp only;unfold ck;rw[NV c];refine⟨T.len,rfl,fun i i0 i1=> ?_⟩
    by_cases i7:i=7
    .subst i7;rw[e7];exact B.inn 7 (by decide) (by decide)
    .have hm:=T.rng _ (wx T.len i0 i1);have ew:spG (List.replicate 7 SpM.whole++[spG (aJ (lnW o) (dM x 0 w8 o)) 7]) i=SpM.whole:=by
      unfold spG;rw[N9,Oo (by rw[OA];lia),Pq,NV (by lia)]
      rfl
     rw[ew]
     exact SpM.In_whole hm.1 hm.2)
   dsimp only at I;rw[C] at I;rw[E];exact I
 rw[fI c]
 by_cases l:k=11\/k=12
 .rw[NV l];obtain⟨a,b,n,rfl,a0,a1,W,X,n0,n1⟩:=f.acc l;have ho:=f2.out l;unfold lN at ho;have ho:¬((spG (aJ (lnW o) (dM x 0 w8 o)) b).lo+n<x.pb\/x.pb+2^x.pk<=(spG (aJ (lnW o) (dM x 0 w8 o)) b).hi+n):=ho;have g:=B.inn b W X;have i1:=g.lo;have i2:=g.hi;have r0:=N.b0;have r1:=N.bW;have Z:bE [a,b,n] st.bx=bxG st.bx b+n:=by
   show(bxG st.bx b+n) %4294967296=_
   exact PH (by lia) (by lia)
  have S:InR x.pk x.pb (bE [a,b,n] st.bx):=by rw[Z];exact⟨by lia,by lia⟩
  rw[NV S];have C:a8 k=1:=by unfold a8;rw[fI (by lia)]
  by_cases F:k=11
  .rw[NV F];have J:=hm.get (bE [a,b,n] st.bx);have n7:a≠7:=f1.out (by unfold mk8;lia)
   refine⟨fun _=> ?_,fun z U=>(by cases U),HQ l8 a0 a1 n7,rfl,.inl rfl⟩
   have I:=oS.next (bx:=st.bx.set a.toNat (wV st.kvs (bE [a,b,n] st.bx))) D e (by show ¬(k=0\/k=13\/k=15);lia) (v.set J.2.1 J.2.2) (by
    refine Cf (x:=x) (k:=k) (ns:=[a,b,n]) f (by unfold mk8;lia) B ?_
    unfold dk;rw[fI (by lia),NV F]
    exact SpM.In_whole J.2.1 J.2.2)
   dsimp only at I;rw[C] at I;rw[E];exact I
  .rw[fI F];refine⟨fun _=> ?_,fun z U=>(by cases U),rfl,Ff S _,.inl rfl⟩
   have I:=oS.next (bx:=st.bx) D e (by show ¬(k=0\/k=13\/k=15);lia) v (by
    dsimp only;unfold ck;rw[fI c,fI (by unfold mk8;lia)]
    exact B)
   dsimp only at I;rw[C] at I;rw[E];exact I
 rw[fI l]
 by_cases kj:k=13\/k=14\/k=15
 .rw[NV kj];refine⟨fun _=> ?_,fun z U=>(by cases U),rfl,rfl,.inl rfl⟩
  show oS x is (qK k L st.bx st.p) st.bx
  have j:∀p:Int,0<=p->p %8=0->p<((8*2^(x.pm+x.ps):Nat):Int)->oS x is p st.bx:=fun p p0 p1 p2=>by
   obtain⟨q,rfl⟩:∃q:Nat,p=q:=OE (by first | assumption | lia)
   exact oS.bundle D (by lia) (by lia) v
  unfold qK
  by_cases d:k=13
  .rw[NV d];obtain⟨n,rfl,n0,n1⟩:=f.jmp d;have u:=f3.out (.inl d);unfold tgt at u;rw[NV d] at u;exact j _ n0 u.1 u.2
  rw[fI d]
  by_cases A:k=15
  .rw[NV A];obtain⟨b,rfl,W,X⟩:=f.thr A;have h4:=f4.out A;have h4:(spG (aJ (lnW o) (dM x 0 w8 o)) b).hi<((8*2^(x.pm+x.ps):Nat):Int)/\3<=(spG (aJ (lnW o) (dM x 0 w8 o)) b).z:=h4;have g:=B.inn b W X;have hd:(8:Int)∣bxG st.bx b:=Po (SpM.pdvd (a:=3) h4.2) g.dv;have h9:=g.hi;have h0:=(v.rng _ (wx l8 W X)).1;exact j (bxG st.bx b) h0 (by lia) (by lia)
  rw[fI A];have Q:k=14:=by lia
  obtain⟨a,n,rfl,a0,a1,n0,n1⟩:=f.jif Q
  split
  .have u:=f3.out (.inr Q);unfold tgt at u;rw[fI d] at u;exact j _ n0 u.1 u.2
  .have C:a8 k=1:=by unfold a8;rw[fI (by lia)]
   have I:=oS.next (bx:=st.bx) D e (by show ¬(k=0\/k=13\/k=15);lia) v (by
    dsimp only;unfold ck;rw[fI c,fI (by unfold mk8;lia)]
    exact B)
   dsimp only at I;rw[C] at I;rw[E];exact I
 rw[fI kj];have aH:=f.lt19;have m:mk8 k:=by unfold mk8;lia
 have M:makes k:=by unfold makes;lia
 have vr:=Gr f M v N G;obtain⟨a,rr,s,a0,a1⟩:=gG f m;have s:L=a::rr:=s;have n7:a≠7:=by have:=f1.out m;rw[s] at this;exact this
 refine⟨fun _=> ?_,fun z U=>(by cases U),?_,rfl,.inl rfl⟩
 .have I:=oS.next (bx:=st.bx.set (L.getD 0 0).toNat (kD x.pk x.pb x.pm x.ps k L st.bx)) D e (by show ¬(k=0\/k=13\/k=15);lia) (v.set vr.1 vr.2) (Cf (x:=x) f m B (JE N G f m (by lia) h8 B))
  dsimp only at I;have hl:((a8 k:Nat):Int)=if k=1 then 2 else 1:=by unfold a8;split <;> rfl
  rw[hl] at I;rw[E];exact I
 .show bxG (st.bx.set (L.getD 0 0).toNat _) 7=_
  rw[s];exact HQ l8 a0 a1 n7
theorem rZ{kvs:List (Key × V)}{k:Key}{v:V}(C:(kvs.map (·.1)).Nodup):((cF kvs k v).map (·.1)).Nodup:=by
 by_cases h:(kvs.any fun o=>decide (o.1=k))=true
 .unfold cF;rw[NV h,R_];have e:kvs.map ((fun x=>x.1) ∘ fun o=>if o.1=k then(o.1,v) else o)=kvs.map (·.1):=by
   apply List.map_congr_left
   intro p _;show(if p.1=k then(p.1,v) else p).1=p.1
   split <;> rfl
  rw[e];exact C
 .refine JX v C ?_
  cases hv:km kvs k with
  | none=>rfl
  | some y=>
   exact absurd (Qf.mpr ⟨_,Bc hv,NY rfl⟩) h
theorem wrB{d c:Addr}{H C:Hp}{o:HO}(J:H c=none)(b:But d H C):But d H (upd C c o):=fun x y I e=>by
 rw[aq (ak e J)];exact b _ _ I e
theorem JW{d p:Addr}{H C:Hp}(b:But d H C)(n:p≠d)(h:C p=none):H p=none:=by
 cases e:H p with
 | none=>rfl
 | some o=>
  have:=b _ _ n e;rw[h] at this
  cases this
theorem Pl.wrD{H:Hp}{a c:Addr}{k:Nat}{b:Int}{m s:Nat}{g:Int}{kvs:List (Key × V)}{o:HO}(h:Pl H a k b m s g)(C:H c=some (.dK kvs)):Pl (upd H c o) a k b m s g:=
 ⟨by rw[aq (fun z=>by have:=h.at_;rw[z,C] at this;cases this)];exact h.at_,h.room,h.ms⟩
structure RpA (H:Hp) (v:V) (bs:List Int) (ws:List (Key × V)):Prop where
 ex:∃ra rb rd:Addr,v= .ref ra/\H ra=some (.tup [.ref rb,.ref rd])/\H rb=some (.tup (bs.map V.int))/\H rd=some (.dK ws)
 len:bs.length=7
 rng:∀x∈bs,0<=x/\x<4294967296
 mem:dE ws
 few:ws.length<=8
 nod:(ws.map (·.1)).Nodup
def kR(H:Hp)(ys:List V)(reps:List (List Int × List (Key × V))):Prop:=ys.length=reps.length/\∀(i:Nat) (v:V) (bs:List Int) (o:List (Key × V)),ys[i]? =some v->reps[i]? =some (bs,o)->RpA H v bs o
theorem RpA.mono{H o:Hp}{v:V}{bs:List Int}{ws:List (Key × V)}(h:RpA H v bs ws)(C:∀a xs,H a=some (.tup xs)->o a=some (.tup xs))(e:∀a kvs,H a=some (.dK kvs)->o a=some (.dK kvs)):RpA o v bs ws:=by
 obtain⟨f,U,I,J,d,b,c⟩:=h.ex;exact⟨⟨f,U,I,J,C _ _ d,C _ _ b,e _ _ c⟩,h.len,h.rng,h.mem,h.few,h.nod⟩
theorem kR.mono{H o:Hp}{ys:List V}{reps:List (List Int × List (Key × V))}(h:kR H ys reps)(C:∀a xs,H a=some (.tup xs)->o a=some (.tup xs))(J:∀a kvs,H a=some (.dK kvs)->o a=some (.dK kvs)):kR o ys reps:=
 ⟨h.1,fun i v bs I a b=>(h.2 i v bs I a b).mono C J⟩
theorem kR.same{H o:Hp}{ys:List V}{reps:List (List Int × List (Key × V))}(h:kR H ys reps)(e:aA H o):kR o ys reps:=h.mono (fun _ _ h=>e _ _ h) (fun _ _ h=>e _ _ h)
theorem kR.wr{H:Hp}{c:Addr}{I:List V}{o:HO}{ys:List V}{reps:List (List Int × List (Key × V))}(h:kR H ys reps)(C:H c=some (.lst I)):kR (upd H c o) ys reps:=h.mono (fun a J h=>by rw[aq (fun z=>by rw[z,C] at h;cases h)];exact h) (fun a J h=>by rw[aq (fun z=>by rw[z,C] at h;cases h)];exact h)
theorem kR.snoc{H:Hp}{ys:List V}{reps:List (List Int × List (Key × V))}{v:V}{bs:List Int}{ws:List (Key × V)}(h:kR H ys reps)(J:RpA H v bs ws):kR H (ys++[v]) (reps++[(bs,ws)]):=by
 refine⟨by rw[NT,NT,h.1];rfl,fun i w o C a b=> ?_⟩
 by_cases I:i<ys.length
 .rw[Oo I] at a;rw[Oo (by rw[<- h.1];exact I)] at b
  exact h.2 i w o C a b
 .rw[Oe (by lia)] at a
  rw[Oe (by rw[<- h.1];lia), <-h.1] at b
  have U:i - ys.length=0:=by
   have:=(mF.mp a).1
   simp at this
   lia
  rw[U] at a b;obtain rfl:v=w:=by simpa using a
  obtain⟨rfl,rfl⟩:bs=o/\ws=C:=by simpa using b
  exact J
theorem kR.en{H:Hp}{pl C:Addr}{k:Nat}{b:Int}{m s:Nat}{g:Int}{ys:List V}{reps:List (List Int × List (Key × V))}(c:Pl H pl k b m s g)(I:H C=some (.lst ys))(h:kR H ys reps):En K H pl C ⟨k,b,m,s,g,reps⟩:=
 ⟨c,⟨_,I⟩,ys,SqL.of I,h.1,fun i v bs d a j q o=>by
  have r:=h.2 i v bs d a j;obtain⟨f,p,U,n,e,l,J⟩:=r.ex
  exact⟨⟨f,p,U,n,SqT.of e,SqT.of l,J,ak J o⟩,r.len,r.rng,r.mem,Oc r.few (by decide),r.nod⟩⟩
theorem rR.put{pk:Nat}{C i:Int}{v:V}{ws:List (Key × V)}(h:rR pk C ws)(I:InR pk C i):rR pk C (cF ws (.inl i) v):=by
 intro J o;unfold cF at o
 split at o
 .obtain⟨u,hu,e⟩:=OJ.mp o
  split at e
  .rename_i e1
   exact⟨i,by rw[<- e];exact e1,I⟩
  .rw[<- e];exact h u hu
 .rcases Ot.mp o with o | o
  .exact h J o
  .rw[Og.mp o];exact⟨i,rfl,I⟩
theorem FU{bx:List Int}(h:Bxs bx)(i:Int):0<=bxG bx i/\bxG bx i<4294967296:=by
 unfold bxG;rw[N9]
 cases e:bx[i.toNat]? with
 | none=>exact⟨by decide,by decide⟩
 | some v=>exact h.rng v (N4 e)
theorem BU{o:List (Key × V)}:∀{kvs:List (Key × V)},(kvs.map (·.1)).Nodup->((eC kvs o).map (·.1)).Nodup:=by
 induction o with
 | nil=>intro kvs h;exact h
 | cons p r ih=>
  intro kvs h;show((eC (cF kvs p.1 p.2) r).map (·.1)).Nodup
  exact ih (rZ h)
theorem GW{x:Fx}{k:Nat}{ns:List Int}{st:MSt}(o:Bxs st.bx):(fj x k ns st).2.kvs=st.kvs\/(∃r∈x.reps,(fj x k ns st).2.kvs=eC st.kvs r.2)\/∃i v,(fj x k ns st).2.kvs=cF st.kvs (.inl i) (.int v)/\0<=v/\v<4294967296:=by
 unfold fj
 split
 .exact .inl rfl
 .split
  .split
   .exact .inl rfl
   .split
    .exact .inl rfl
    .rename_i e
     exact .inr (.inl ⟨_,N4 e,rfl⟩)
  .split
   .split
    .split
     .exact .inl rfl
     .exact .inr (.inr ⟨_,_,rfl,(FU o _).1,(FU o _).2⟩)
    .exact .inl rfl
   .split
    .exact .inl rfl
    .exact .inl rfl
structure xK (x:Pn) (b7:Int) (kv0:List (Key × V)) (L:Nat) (bx:List Int) (kvs:List (Key × V)):Prop where
 bxs:Bxs bx
 b7:bxG bx 7=b7
 out:bey x.pk x.pb kvs=bey x.pk x.pb kv0
 mem:dE kvs
 nod:(kvs.map (·.1)).Nodup
 len:kvs.length<=L
theorem xK.le{x:Pn}{b7:Int}{kv0:List (Key × V)}{L M:Nat}{bx:List Int}{kvs:List (Key × V)}(h:xK x b7 kv0 L bx kvs)(e:L<=M):xK x b7 kv0 M bx kvs:=⟨h.bxs,h.b7,h.out,h.mem,h.nod,Oc h.len e⟩
theorem E5{x:Pn}{reps:List (List Int × List (Key × V))}{is:List Ins}{b7:Int}{kv0:List (Key × V)}(f:SpM.Room x.pk x.pb)(a:x.pm+x.ps<=7)(q:eZ x is)(C:∀r∈reps,JR x.pk x.pb r)(o:∀r∈reps,dE r.2/\r.2.length<=8):
  ∀(n:Nat) (st:MSt) (t:Int) (L:Nat),oS x is st.p st.bx->xK x b7 kv0 L st.bx st.kvs->(∀y∈st.rows,xK x b7 kv0 L y.2.1 y.2.2)->∀R,R=fJ ⟨x.pk,x.pb,x.pm,x.ps,x.pg,reps⟩ (ao is) n st t->
   (R.1.1="stopped"\/R.1.1="spent"\/R.1.1="asks")/\xK x b7 kv0 (L+8*n) R.2.1.bx R.2.1.kvs/\∀y∈R.2.1.rows,xK x b7 kv0 (L+8*n) y.2.1 y.2.2
 | 0,st,t,L,hs,h,hr,R,e=>by
  obtain⟨s,A,l,_⟩:=yq (reps:=reps) f a q C hs h.mem;unfold fJ at e;rw[l] at e;dsimp only at e;subst e;exact⟨.inr (.inl rfl),h,hr⟩
 | n+1,st,t,L,hs,h,hr,R,e=>by
  obtain⟨s,A,l,_,_,_,_,_,_,U⟩:=yq (reps:=reps) f a q C hs h.mem;obtain⟨k,d⟩:=s;have c:=GW (x:=⟨x.pk,x.pb,x.pm,x.ps,x.pg,reps⟩) (k:=k) (ns:=d) h.bxs;unfold fJ at e;rw[l] at e;dsimp only at e U
  cases hst:fj ⟨x.pk,x.pb,x.pm,x.ps,x.pg,reps⟩ k d st with
  | mk e1 J=>
   rw[hst] at e U c;dsimp only at e U c;have j:Bxs J.bx:=by
    cases e1 with
    | none=>exact(U.go rfl).bxs
    | some z=>
     rw[(U.fin z rfl).2.1];exact h.bxs
   have g:xK x b7 kv0 (L+8) J.bx J.kvs:=by
    refine⟨j,U.b7.trans h.b7,U.out.trans h.out,?_,?_,?_⟩
    .rcases c with z | ⟨r,hr,z⟩|⟨i,v,z,v0,v1⟩
     .rw[z];exact h.mem
     .rw[z];exact Ah h.mem (o r hr).1
     .rw[z];exact h.mem.put v0 v1
    .rcases c with z | ⟨r,hr,z⟩|⟨i,v,z,v0,v1⟩
     .rw[z];exact h.nod
     .rw[z];exact BU h.nod
     .rw[z];exact rZ h.nod
    .have hl:=h.len;rcases c with z | ⟨r,hr,z⟩|⟨i,v,z,v0,v1⟩
     .rw[z];lia
     .rw[z];have B:=iJ r.2 st.kvs;have g:=(o r hr).2
      lia
     .rw[z];have B:=xh st.kvs (.inl i) (.int v)
      lia
   have b:∀y∈J.rows,xK x b7 kv0 (L+8) y.2.1 y.2.2:=by
    rcases U.rows with z | ⟨m,z⟩
    .rw[z];exact fun y I=>(hr y I).le (by lia)
    .rw[z];intro y I;rcases Ot.mp I with I | I
     .exact(hr y I).le (by lia)
     .rw[Og.mp I];exact h.le (by lia)
   cases e1 with
   | some z=>
    dsimp only at e;subst e;have u:=(U.fin z rfl).1;exact⟨u.elim .inl fun w=> .inr (.inr w),g.le (by lia),fun y I=>(b y I).le (by lia)⟩
   | none=>
    dsimp only at e;obtain⟨f1,f2,f3⟩:=E5 f a q C o n J _ (L+8) (U.go rfl) g b R e;exact⟨f1,f2.le (by lia),fun y I=>(f3 y I).le (by lia)⟩
theorem A4{x:Pn}{T:Int}:∀{is:List Ins}{p q:Nat}{sp:List SpM.Span},p %8=q %8->okC x T p sp is->okC x T q sp is
 | [],_,_,_,_,_=>True.intro
 | kn::r,p,q,sp,e,h=>by
  have I:aJ p sp=aJ q sp:=by unfold aJ;rw[e]
  obtain⟨J,U,C,o⟩:=h;rw[I] at C o;exact⟨J,by lia,C,A4 (by lia) o⟩
theorem uq{x:Pn}:∀{is:List Ins}{p q:Nat}{sp:List SpM.Span},p %8=q %8->bB x p sp is=bB x q sp is
 | [],_,_,_,_=>rfl
 | kn::r,p,q,sp,e=>by
  have o:aJ p sp=aJ q sp:=by unfold aJ;rw[e]
  show some (aJ p sp)::(_++bB x _ _ r)=some (aJ q sp)::(_++bB x _ _ r)
  rw[o,uq (p:=p+a8 kn.1) (q:=q+a8 kn.1) (by lia)]
theorem E6{x:Pn}{T:Int}{p:Nat}{sp sp':List SpM.Span}(e:p %8=0):∀{is:List Ins},okC x T p sp is->okC x T p sp' is
 | [],_=>True.intro
 | kn::r,h=>by
  have I:aJ p sp=aJ p sp':=by unfold aJ;rw[NV e,NV e]
  obtain⟨J,U,o,C⟩:=h;rw[I] at o C;exact⟨J,U,o,C⟩
theorem Ad{x:Pn}{p:Nat}{sp sp':List SpM.Span}(e:p %8=0):∀{is:List Ins},bB x p sp is=bB x p sp' is
 | []=>rfl
 | kn::r=>by
  have o:aJ p sp=aJ p sp':=by unfold aJ;rw[NV e,NV e]
  show some (aJ p sp)::(_++bB x _ _ r)=some (aJ p sp')::(_++bB x _ _ r)
  rw[o]
theorem sX{x:Pn}{b:List Ins}:∀{a:List Ins}{p:Nat}{sp:List SpM.Span},bB x p sp (a++b)=bB x p sp a++bB x (p+lnW a) (dM x p sp a) b
 | [],_,_=>rfl
 | kn::r,p,sp=>by
  have ih:=sX (x:=x) (b:=b) (a:=r) (p:=p+a8 kn.1) (sp:=ck x.pk x.pb x.pm x.ps kn.1 kn.2 (aJ p sp));rw[bg, <-O2];show some (aJ p sp)::(_++bB x _ _ (r++b))=some (aJ p sp)::(_++bB x _ _ r)++_
  rw[ih,List.cons_append,On]
  rfl
theorem A8{x:Pn}{T:Int}{b:List Ins}:∀{a:List Ins}{p:Nat}{sp:List SpM.Span},okC x T p sp (a++b)->okC x T p sp a/\okC x T (p+lnW a) (dM x p sp a) b
 | [],_,_,h=>⟨True.intro,h⟩
 | kn::r,p,sp,h=>by
  obtain⟨I,c,C,U⟩:=h;obtain⟨o,J⟩:=A8 (a:=r) U;rw[bg, <-O2];exact⟨⟨I,c,C,o⟩,J⟩
theorem uL(a b:List Ins):ao (a++b)=ao a++ao b:=by
 unfold ao;rw[OW]
theorem DO{x:Pn}{is:List Ins}{p:Nat}{sp:List SpM.Span}:(bB x p sp is).length=lnW is:=by rw[qi,bq]
structure Bun (x:Pn) (T:Nat) (bs:List Ins) (ws:List Int) (tds:List (Option (List SpM.Span))):Prop where
 ok:okC x (T:Int) 0 w8 bs
 ln:lnW bs=8
 ws:ao bs=ws
 td:bB x 0 w8 bs=tds
theorem BS{x:Pn}{T:Int}{b:Nat}{is:List Ins}(o:b %8=0)(h:okC x T 0 w8 is)(C:b<=lnW is):∃pre r,is=pre++r/\lnW pre=b:=by
 by_cases e:b<lnW is
 .obtain⟨pre,kn,r,e1,e2⟩:=rM o h (Ou _) (by lia)
  exact⟨pre,kn::r,e1,by lia⟩
 .exact⟨is,[],(Oz _).symm,by lia⟩
theorem Gf{x:Pn}{is:List Ins}{T j:Nat}(f:eZ x is)(e:(ao is).length=T)(D:8*j+8<=T):∃bs,Bun x T bs (((ao is).drop (8*j)).take 8) (((bB x 0 w8 is).drop (8*j)).take 8)/\(8*j+8=T->∃pre kn,bs=pre++[kn]/\(kn.1=0\/kn.1=13\/kn.1=15)):=by
 have ok:=f.ok;have g:lnW is=T:=by rw[<- bq];exact e
 rw[e] at ok;obtain⟨pre,r,I,l1⟩:=BS (b:=8*j) (by lia) ok (by lia)
 rw[I] at ok;obtain⟨A,U⟩:=A8 ok;rw[OU,l1] at U;have o:okC x (T:Int) 0 w8 r:=E6 (by decide) (A4 (by lia) U)
 have i:8<=lnW r:=by rw[I,dg] at g;lia
 obtain⟨bs,J,C,l2⟩:=BS (b:=8) (by decide) o i
 rw[C] at o;have c:=(A8 o).1;have m:ao is=ao pre++(ao bs++ao J):=by rw[I,C,uL,uL]
 have y:bB x 0 w8 is=bB x 0 w8 pre++(bB x 0 w8 bs++bB x 8 (dM x 0 w8 bs) J):=by
  rw[I,C,sX,OU,l1,uq (p:=8*j) (q:=0) (by lia),Ad (sp:=dM x 0 w8 pre) (sp':=w8) (by decide),sX,OU,l2]
 refine⟨bs,⟨c,l2,?_,?_⟩,fun z=> ?_⟩
 .rw[m, <-l1, <-bq,List.drop_left, <-l2, <-bq,Rr]
 .rw[y];have l:(bB x 0 w8 pre).length=8*j:=by rw[DO,l1]
  have n:(bB x 0 w8 bs).length=8:=by rw[DO,l2]
  rw[<- l,List.drop_left, <-n,Rr]
 .have h0:lnW J=0:=by rw[I,C,dg,dg] at g;lia
  have v:J=[]:=by
   cases J with
   | nil=>rfl
   | cons k t=>
    rw[bg] at h0;have:=iK k.1
    lia
  obtain⟨B,k2,a,s⟩:=f.last;rw[v,Oz] at C;rw[I,C] at a
  cases List.eq_nil_or_concat bs with
  | inl z=>rw[z] at l2;exact absurd l2 (by decide)
  | inr z=>
   obtain⟨u,k3,z⟩:=z;rw[List.concat_eq_append] at z;rw[z, <-On] at a;obtain⟨_,d⟩:=List.append_inj' a rfl
   injection d with d
   exact⟨u,k3,z,by rw[d];exact s⟩
structure Pt (x:Pn) (T:Nat) (is:List Ins) (n:Nat):Prop where
 ok:okC x (T:Int) 0 w8 is
 ln:lnW is=8*n
theorem Pt.snoc{x:Pn}{T n:Nat}{is bs:List Ins}{ws:List Int}{o:List (Option (List SpM.Span))}(h:Pt x T is n)(b:Bun x T bs ws o):Pt x T (is++bs) (n+1)/\ao (is++bs)=ao is++ws/\bB x 0 w8 (is++bs)=bB x 0 w8 is++o:=by
 have e:0+lnW is=8*n:=by rw[OU,h.ln]
 refine⟨⟨tI h.ok ?_,by rw[dg,h.ln,b.ln];lia⟩,by rw[uL,b.ws],?_⟩
 .rw[e];exact A4 (p:=0) (by lia) (E6 (by decide) b.ok)
 .rw[sX,e,uq (p:=8*n) (q:=0) (by lia),Ad (sp:=dM x 0 w8 is) (sp':=w8) (by decide),b.td]
theorem TdA.drop{H:Hp}:∀(n:Nat) {vs:List V}{r:List (Option (List SpM.Span))},TdA K H vs r->TdA K H (vs.drop n) (r.drop n)
 | 0,_,_,h=>h
 | n+1,[],[],h=>h
 | n+1,_::vs,none::r,h=>TdA.drop n (vs:=vs) (r:=r) h.2
 | n+1,_::vs,some _::r,h=>TdA.drop n (vs:=vs) (r:=r) h.2
 | _+1,[],none::_,h=>h.elim
 | _+1,[],some _::_,h=>h.elim
 | _+1,_::_,[],h=>h.elim
theorem TdA.take{H:Hp}:∀(n:Nat) {vs:List V}{r:List (Option (List SpM.Span))},TdA K H vs r->TdA K H (vs.take n) (r.take n)
 | 0,_,_,_=>True.intro
 | n+1,[],[],h=>h
 | n+1,_::vs,none::r,h=>⟨h.1,TdA.take n (vs:=vs) (r:=r) h.2⟩
 | n+1,_::vs,some _::r,h=>⟨h.1,TdA.take n (vs:=vs) (r:=r) h.2⟩
 | _+1,[],none::_,h=>h.elim
 | _+1,[],some _::_,h=>h.elim
 | _+1,_::_,[],h=>h.elim
def SpL(K:Frag)(H:Hp)(a:Addr)(sp:List SpM.Span):Prop:=∃o,SqL K H a (o.map V.ref)/\SpA H o sp
def Lm(K:Frag):Sp:=fun I H Q _=>∃(a:Addr) (k:Nat) (C:List Int),I=[.ref a]/\k<19/\SqT K H a (aD k C)/\∀o,aA H o->Q (.bl (decide (mk8 k))) o
theorem yR(B:Bi mg)(D:sP K mg):Has P w K mg base 1 "_law_makes" Ab (Lm K):=by
 refine D.has zq (fun U H Q E h=> ?_) (fun f b A o s H U Q E j h=> ?_)
 .obtain⟨a,k,C,rfl,_⟩:=h
  rfl
 obtain⟨a,k,C,rfl,d,i,q⟩:=h;have g:atI (aD k C) 0=some (.str (aN k)):=jx;refine⟨_,(af (ai (FJ ju (pX aj (pv 0) ad) (bo (bD (by rfl))) (by rfl)))),?_⟩
 try dsimp only[aT]
 walk_at"g";intro p J;have l1:upd H p (.lst [.str "stop",.str "store",.str "jump",.str "jumpif",.str "through",.str "gate"]) p=some (.lst [.str "stop",.str "store",.str "jump",.str "jumpif",.str "through",.str "gate"]):=ae;have c:=ag J (.lst [.str "stop",.str "store",.str "jump",.str "jumpif",.str "through",.str "gate"]);generalize upd H p (.lst [.str "stop",.str "store",.str "jump",.str "jumpif",.str "through",.str "gate"])=I at*;walk_at"g";have e:(!inV (.str (aN k)) [.str "stop",.str "store",.str "jump",.str "jumpif",.str "through",.str "gate"])=decide (mk8 k):=by
  rw[Bj k d]
  by_cases h:mk8 k
  .rw[NX (fun z=>z h),NY h]
   rfl
  .rw[NY h,NX h]
   rfl
 rw[NV rfl,e];exact q I c
def Kv(K:Frag):Sp:=fun d H Q _=>∃(U sa a:Addr) (c:Int) (k:Nat) (o:List Int) (C:List SpM.Span) (pk:Nat) (J:Int) (b e:Nat) (pg:Int),d=[.ref U,.ref sa,.ref a,.int c]/\Pl H U pk J b e pg/\aC 8 262144 k o/\SqT K H a (aD k o)/\SpL K H sa C/\Sp8 C/\∀I,aA H I->Q (fV (aK pk J pg c k o C)) I
theorem MY:∀k,k<19->inV (.str (aN k)) [.str "load",.str "store"]=decide (k=11\/k=12):=by decide +kernel
theorem Mp:∀k,k<19->inV (.str (aN k)) [.str "jump",.str "jumpif"]=decide (k=13\/k=14):=by decide +kernel
theorem BN(B:Bi mg)(D:yo K mg)(fF:Has P w K mg base 1 "_law_makes" Ab (Lm K)):Has P w K mg base 2 "_law_why" Ck (Kv K):=by
 refine D.has iV (fun vs H Q E h=> ?_) (fun f bC A bl s H vs Q E hr h=> ?_)
 .obtain⟨W,sa,a,c,k,I,o,pk,J,pm,ps,pg,rfl,_⟩:=h
  rfl
 obtain⟨W,sa,a,c,k,I,o,pk,J,pm,ps,pg,rfl,aY,Z,ha,⟨as,a7,bb⟩,h8,q⟩:=h;have i0:atI (aD k I) 0=some (.str (aN k)):=jx;have b:=Z.lt
 refine⟨_,(aa (psS 4 iV.nd (pX aj (pv 2) ad))
   (aa (aL (a_ (ay (PW.pt (fZ (cJ (pcH fF hr (pa1 (pv 2)))) (dH (pcT aE (pX aj (pv 2) ad) ad)))) (af (ai ax)) al)))
   (aa (aL (a_ (ay (gR iu (pv 4) (bo (bD (by rfl))) (by rfl)) (aa (gX (pX ba (pv 1) (pX aj (pv 2) ad)) (rN (n:=3) (by rfl) (cj (aR (i:=5) iV.nd (by rfl) (by left;rfl)) (cj (aR (i:=6) iV.nd (by rfl) (by left;rfl)) (cj (aR (i:=7) iV.nd (by rfl) (by left;rfl)) nJ)))))
   (af (ay (PW.pt (iS (pcT fL (aw aS (pv 5) (pX aj (pv 2) ad)) (pX aj (pv 0) ad)) (fP (pcT iT (aw aS (pv 6) (pX aj (pv 2) ad)) (aw aS (pX aj (pv 0) ad) (aw nB ad (pX aj (pv 0) ad))))))) (af (ai ax)) al))) al)))
   (aa (aL (a_ (ay (PW.pt (fZ (gR iu (pv 4) (bo (bD (by rfl))) (by rfl)) (dH (PW.pt (iS (pcT zX (aw cW (pX aj (pv 2) (nz (v:= -1) (by rfl))) ad) ad) (fP (pcT iT (pX aj (pv 2) (nz (v:= -1) (by rfl))) (pv 3)))))))) (af (ai ax)) al)))
   (aa (aL (a_ (ay (PW.pt (fZ (pcT aE (pv 4) ax) (dH (PW.pt (iS (pcT iT (pX aj (pX ba (pv 1) (pX aj (pv 2) ad)) ad) (pv 3)) (fP (pcT fL (pX aj (pX ba (pv 1) (pX aj (pv 2) ad)) ad) ad))))))) (af (ai ax)) al)))
   (aa (aL (a_ (ay (PW.pt (fZ (pcT aE (pv 4) ax) (dH (pcT iT (pX aj (pv 2) ad) (pX aj (pv 0) ad))))) (af (ai ax)) al)))
   (af (ai eP)))))))),?_⟩
 try dsimp only[aT]
 have U:∀{C:Hp},aA H C->Pl C W pk J pm ps pg/\SqT K C a (aD k I)/\SqL K C sa (as.map V.ref)/\SpA C as o:=fun e=>⟨aY.mv e,e.tup ha,e.seq a7,bb.same e⟩
 walk_at"g";refine⟨fun F C=>az (aA H C/\F=[some (.ref W),some (.ref sa),some (.ref a),some (.int c),some (.str (aN k)),none,none,none]/\¬(mk8 k/\I.getD 0 0=7)),?_,?_⟩
 .walk_at"g";intro H1 S;obtain⟨ab,au,M,L⟩:=U S
  by_cases hm:mk8 k
  .obtain⟨x,r,rfl,X,Y⟩:=gG Z hm;have i1:atI (aD k (x::r)) 1=some (.int x):=lP;rw[NY hm];walk_at"g";refine bc (fun c7=> ?_) (fun c7=> ?_)
   .have e:aK pk J pg c k (x::r) o=some ("host":Str):=NV ⟨hm,V.int.inj c7⟩;rw[e] at q;walk_at"g";exact q _ S
   .exact az.mk ⟨S,rfl,fun z=>c7 (by rw[show x=7 from z.2])⟩
  .rw[NX hm];walk_at"g";exact az.mk ⟨S,rfl,fun z=>hm z.1⟩
 rintro Z1 H1 ⟨S,rfl,n1⟩
 obtain⟨ab,au,M,L⟩:=U S;walk_at"n";refine⟨fun F C=>az (aA H C/\(∃y5 y6 y7,F=[some (.ref W),some (.ref sa),some (.ref a),some (.int c),some (.str (aN k)),y5,y6,y7])/\¬((k=11\/k=12)/\lN pk J I o)),?_,?_⟩
 .walk_at"g";intro p2 bh;have l2:upd H1 p2 (.lst [.str "load",.str "store"]) p2=some (.lst [.str "load",.str "store"]):=ae;have N:=S.trans (ag bh (.lst [.str "load",.str "store"]));generalize upd H1 p2 (.lst [.str "load",.str "store"])=H2 at*;obtain⟨g,R,m,d⟩:=U N;walk_at"g";rw[fI (show ¬false=true by decide),MY k b]
  by_cases u:k=11\/k=12
  .rw[NY u];obtain⟨x,y,z,rfl,X,Y,O,T,z0,z1⟩:∃x y z,I=[x,y,z]/\0<=x/\x<8/\0<=y/\y<8/\ -131072<=z/\z<131072:=aC.acc Z (by first | assumption | lia)
   obtain⟨b1,e1,t1,v1⟩:=SpT.at (a:=sa) d h8 O T;have i2:atI (aD k [x,y,z]) 2=some (.int y):=jA;have i3:atI (aD k [x,y,z]) 3=some (.int z):=yE;have aU:=g.at_;have bt:=g.room.k20;have p0:atI [V.int pk,V.int J,V.int pm,V.int ps,V.int pg] 0=some (.int pk):=aQ (j:=0) rfl;have p1:atI [V.int pk,V.int J,V.int pm,V.int ps,V.int pg] 1=some (.int J):=aQ (j:=1) rfl;have ho:lN pk J [x,y,z] o->∀C,aA H C->Q (.str "beyond") C:=fun hz=>by
    have e:aK pk J pg c k [x,y,z] o=some ("beyond":Str):=by
     unfold aK;rw[fI n1,NV ⟨u,hz⟩]
    rw[e] at q;exact q
   have aP:(1:Int)*2^((pk:Int)).toNat=2^pk:=by rw[PM,Os]
   have bw:xB 1 (pk:Int):=⟨by lia,by lia,by lia⟩
   walk_at"g"
   by_cases c1:(spG o y).lo+z<J
   .rw[NY c1];walk_at"g";exact ho (.inl c1) _ N
   .rw[NX c1];walk_at"g";refine bc (fun c2=> ?_) (fun c2=> ?_)
    .rw[aP] at c2;walk_at"g";exact ho (.inr c2) _ N
    .rw[aP] at c2;exact az.mk ⟨N,⟨_,_,_,rfl⟩,fun w=>w.2.elim c1 c2⟩
  .rw[NX u];walk_at"g";exact az.mk ⟨N,⟨_,_,_,rfl⟩,fun z=>u z.1⟩
 rintro Z2 H2 ⟨N,⟨y5,y6,y7,rfl⟩,n2⟩
 clear ab au M L;obtain⟨g,R,m,d⟩:=U N;walk_at"n";refine⟨fun F C=>az (aA H C/\F=[some (.ref W),some (.ref sa),some (.ref a),some (.int c),some (.str (aN k)),y5,y6,y7]/\¬((k=13\/k=14)/\(tgt k I %8≠0\/c<=tgt k I))),?_,?_⟩
 .walk_at"g";intro p3 a6;have l3:upd H2 p3 (.lst [.str "jump",.str "jumpif"]) p3=some (.lst [.str "jump",.str "jumpif"]):=ae;have l:=N.trans (ag a6 (.lst [.str "jump",.str "jumpif"]));generalize upd H2 p3 (.lst [.str "jump",.str "jumpif"])=H3 at*;clear g R m d;obtain⟨ar,aH,G,p⟩:=U l;walk_at"g";rw[fI (show ¬false=true by decide),Mp k b]
  by_cases kj:k=13\/k=14
  .rw[NY kj];have ho:(tgt k I %8≠0\/c<=tgt k I)->∀C,aA H C->Q (.str "target") C:=fun hz=>by
    have e:aK pk J pg c k I o=some ("target":Str):=by
     unfold aK;rw[fI n1,fI n2,NV ⟨kj,hz⟩]
    rw[e] at q;exact q
   have hl:atI (aD k I) (-1)=some (.int (tgt k I))/\0<=tgt k I:=by
    clear ho n2;rcases Z with⟨rfl,rfl⟩|⟨rfl,x,v,rfl,X,Y,v0,v1⟩|⟨h1,h2,x,y,z,rfl,X,Y,O,T,z0,z1⟩|⟨h1,h2,x,y,z,rfl,X,Y,O,T,z0,z1⟩|⟨hk,z,rfl,z0,z1⟩|⟨rfl,x,z,rfl,X,Y,z0,z1⟩|⟨rfl,y,rfl,O,T⟩|⟨hk,x,y,rfl,X,Y,O,T⟩
    .lia
    .lia
    .lia
    .lia
    .obtain rfl:k=13:=by lia
     exact⟨rfl,z0⟩
    .exact⟨rfl,z0⟩
    .lia
    .lia
   have bA:=hl.1;walk_at"g"
   by_cases c1:tgt k I %8 >0
   .rw[NY c1];walk_at"g";exact ho (.inl (by lia)) _ l
   .rw[NX c1];walk_at"g";refine bc (fun c2=> ?_) (fun c2=> ?_)
    .walk_at"g";exact ho (.inr c2) _ l
    .exact az.mk ⟨l,rfl,fun w=>w.2.elim (fun h=>by have:=hl.2;lia) c2⟩
  .rw[NX kj];walk_at"g";exact az.mk ⟨l,rfl,fun z=>kj z.1⟩
 rintro Z3 H3 ⟨l,rfl,n3⟩
 clear g R m d;obtain⟨ar,aH,G,p⟩:=U l;walk_at"n";refine⟨fun F C=>az (aA H C/\F=[some (.ref W),some (.ref sa),some (.ref a),some (.int c),some (.str (aN k)),y5,y6,y7]/\¬(k=15/\(c<=(spG o (I.getD 0 0)).hi\/(spG o (I.getD 0 0)).z<3))),?_,?_⟩
 .by_cases kt:k=15
  .subst kt;obtain⟨y,rfl,O,T⟩:∃y,I=[y]/\0<=y/\y<8:=aC.thr Z (by first | rfl | assumption)
   have ho:(c<=(spG o y).hi\/(spG o y).z<3)->∀C,aA H C->Q (.str "way") C:=fun hz=>by
    have e:aK pk J pg c 15 [y] o=some ("way":Str):=by
     unfold aK;rw[fI n1,fI n2,fI n3,NV ⟨rfl,hz⟩]
    rw[e] at q;exact q
   obtain⟨b1,e1,t1,v1⟩:=SpT.at (a:=sa) p h8 O T;have i1:atI (aD 15 [y]) 1=some (.int y):=lP;have j1:atI [V.int (spG o y).lo,V.int (spG o y).hi,V.int (spG o y).z] 1=some (.int (spG o y).hi):=lP;have j2:atI [V.int (spG o y).lo,V.int (spG o y).hi,V.int (spG o y).z] 2=some (.int (spG o y).z):=jA;walk_at"g";walk_at"wd"
   by_cases c1:c<=(spG o y).hi
   .rw[NY c1];walk_at"g";exact ho (.inl c1) _ l
   .rw[NX c1];walk_at"g";refine bc (fun c2=> ?_) (fun c2=> ?_)
    .walk_at"g";exact ho (.inr (by lia)) _ l
    .exact az.mk ⟨l,rfl,fun w=>w.2.elim c1 (fun h=>c2 (by have h':(spG o y).z<3:=h;lia))⟩
  .walk_at"g";refine bN (sne b (j:=15) (by decide) kt) ?_
   exact az.mk ⟨l,rfl,fun z=>kt z.1⟩
 rintro Z4 H4 ⟨s4,rfl,n4⟩
 clear ar aH G p;obtain⟨a',bx,bu,bp⟩:=U s4;walk_at"n";refine⟨fun F C=>az (aA H C/\F=[some (.ref W),some (.ref sa),some (.ref a),some (.int c),some (.str (aN k)),y5,y6,y7]/\¬(k=18/\pg<=I.getD 0 0)),?_,?_⟩
 .by_cases kg:k=18
  .subst kg;obtain⟨y,rfl⟩:∃y,I=[y]:=(aC.gat Z rfl).imp fun _ h=>h.1
   have i1:atI (aD 18 [y]) 1=some (.int y):=lP;have aU:=a'.at_;have p4:atI [V.int pk,V.int J,V.int pm,V.int ps,V.int pg] 4=some (.int pg):=aQ (j:=4) rfl;walk_at"g";walk_at"wd";refine bc (fun cg=> ?_) (fun cg=> ?_)
   .have e:aK pk J pg c 18 [y] o=some ("gate":Str):=by
     unfold aK;rw[fI n1,fI n2,fI n3,fI n4,NV ⟨rfl,cg⟩]
    rw[e] at q;walk_at"g";exact q _ s4
   .exact az.mk ⟨s4,rfl,fun z=>cg z.2⟩
  .walk_at"g";refine bN (sne b (j:=18) (by decide) kg) ?_
   exact az.mk ⟨s4,rfl,fun z=>kg z.1⟩
 rintro Z5 H5 ⟨s5,rfl,n5⟩
 have e:aK pk J pg c k I o=none:=by
  unfold aK;rw[fI n1,fI n2,fI n3,fI n4,fI n5]
 rw[e] at q;walk_at"g";exact q _ s5
def KH(K:Frag):Sp:=fun e H Q _=>∃(U sa a:Addr) (k:Nat) (C:List Int) (I:List SpM.Span) (pk:Nat) (b:Int) (J d:Nat) (pg:Int),e=[.ref U,.ref sa,.ref a]/\Pl H U pk b J d pg/\aC 8 262144 k C/\SqT K H a (aD k C)/\SpL K H sa I/\Sp8 I/\
 ∀p c o,aA H o->H p=none->o p=some (.lst (c.map V.ref))->SpA o c (ck pk b J d k C I)->Q (.ref p) o
theorem SpA.set{H:Hp}{a:Addr}{s:SpM.Span}(h:Tr H a s):∀(n:Nat) {as:List Addr}{o:List SpM.Span},SpA H as o->SpA H (as.set n a) (o.set n s)
 | _,[],[],_=>True.intro
 | 0,_::_,_::_,hh=>⟨h,hh.2⟩
 | n+1,_::_,_::_,hh=>⟨hh.1,SpA.set h n hh.2⟩
 | _,[],_::_,hh=>hh.elim
 | _,_::_,[],hh=>hh.elim
theorem SpA.wr{H:Hp}{b:Addr}{J:List V}{o:HO}{as:List Addr}{C:List SpM.Span}(I:H b=some (.lst J))(h:SpA H as C):SpA (upd H b o) as C:=h.mono (fun U a e=>by rw[aq (fun z=>by rw[z,I] at e;cases e)];exact e)
theorem wK(B:Bi mg)(D:qZ K mg)(fF:Has P w K mg base 1 "_law_makes" Ab (Lm K))(bV:Has P w K mg base 2 "single" ph jN)(aU:Has P w K mg base 1 "whole_span" [] m_)(gJ:Has P w K mg base 5 "more_span" Ag EQ)(ii:Has P w K mg base 4 "fit_span" nR HU)
  (hV:Has P w K mg base 4 "aim_span" nR Hs) (eL:Has P w K mg base 6 "joined_span" Aj Lh):Has P w K mg base 7 "_law_behind" Cq (KH K):=by
 refine D.has gY (fun vs H Q E h=> ?_) (fun f bL A bt s H vs Q E R h=> ?_)
 .obtain⟨pl,sa,a,k,p,c,pk,X,W,Y,pg,rfl,_⟩:=h
  rfl
 obtain⟨pl,sa,a,k,p,c,pk,X,W,Y,pg,rfl,a',hv,ha,⟨J,bl,ar⟩,h8,q⟩:=h;have i0:atI (aD k p) 0=some (.str (aN k)):=jx;have U:=hv.lt;have aY:J.length=8:=by rw[ar.len];exact h8.len
 refine⟨_,(aa (psS 3 gY.nd (bX nE (by rfl) B.list AE (pa1 (pv 1))))
   (aa (psS 4 gY.nd (pX aj (pv 2) ad))
   (aa (ay (pcT aE (pv 4) ax) (af (ai (aw lE (mY (by rfl) (by rfl) (by rfl) (bk (sc0:=ah iP) (N0:=["_law_plan","_law_spans","_law_instruction","_law_found","_law_sort","_law_a"]) ["_law_k"] 1 []) (dt (by rfl) B.range (pa1 ad)) (fun _ _ _ _=>(aR (i:=0) (show List.Nodup (["_law_k"]:List Str) by decide) (by rfl) (by left;rfl))) (fun _ _ _ _=>(dL (aU.mono (by omega)) R (by rfl)))) (dR ww (pv 3) (d6 ad) gS)))) al)
   (aa (ay (gA (cJ (pcH fF R (pa1 (pv 2))))) (af (ai (pv 3))) al)
   (aa (psS 5 gY.nd (pX aj (pv 2) ad))
   (aa (aL (a_ (ay (pcT aE (pv 4) ax) (af (gX (pcH bV R (pa1 (pX aj (pv 2) ad))) (kJ (pv 3) (pv 5) f_))) (af (ay (pcT aE (pv 4) ax) (af (gX (pcH gJ R (pa2 (pX ba (pv 1) (pX aj (pv 2) ad)) (pX aj (pv 2) ad))) (kJ (pv 3) (pv 5) f_))) (af (ay (pcT aE (pv 4) ax) (af (gX (dL (aU.mono (by omega)) R (by rfl)) (kJ (pv 3) (pv 5) f_))) (af (ay (pcT aE (pv 4) ax) (af (gX (pcH ii R (pa2 (pv 0) (pX ba (pv 1) (pX aj (pv 2) ad)))) (kJ (pv 3) (pv 5) f_))) (af (ay (pcT aE (pv 4) ax) (af (gX (pcH hV R (pa2 (pv 0) (pX ba (pv 1) (pX aj (pv 2) ad)))) (kJ (pv 3) (pv 5) f_))) (af (gX (pcH eL R (pa3 (pv 4) (pX ba (pv 1) (pX aj (pv 2) ad)) (pX ba (pv 1) (pX aj (pv 2) ad)))) (kJ (pv 3) (pv 5) f_))))))))))))))
   (af (ai (pv 3))))))))),?_⟩
 try dsimp only[aT]
 walk_at"g";intro u G;have Z:=ag G (.lst (J.map V.ref));have l1:upd H u (.lst (J.map V.ref)) u=some (.lst (J.map V.ref)):=ae;generalize upd H u (.lst (J.map V.ref))=H1 at*;have bh:=Z.tup ha;have a7:=a'.mv Z;have au:=Z.seq bl;have O:=ar.same Z;walk_at"g";refine bc (fun c1=> ?_) (fun c1=> ?_)
 .obtain rfl:=seq U (j:=18) (by decide) c1
  have eb:ck pk X W Y 18 p c=List.replicate 7 SpM.whole++[spG c 7]:=NV rfl;rw[eb] at q;walk_at"g";intro p2 a6;refine jL (fun i ys H'=>az (i<=7/\∃bs:List Addr,ys=bs.map V.ref/\SpA H' bs (List.replicate i SpM.whole)/\H' p2=some (.lst ys)/\aA H1 H')) ⟨Ou _,[],rfl,True.intro,ae,ag a6 _⟩ ?_ ?_
  .rintro i ys S F hF hi ⟨hi7,bs,rfl,N,l2,g⟩
   have bA:i<7:=by simpa using hi
   refine⟨Wk.none Wk.refl,?_⟩
   walk_at"g";intro o I C b;have l3:=C _ _ l2;refine⟨l3,?_,hF _ _ ⟨by lia,bs++[o],by simp,?_,ae,cf a6 (g.trans C)⟩⟩
   .rw[be,N.len,OA];exact Of (show i<=100 by lia) (by decide)
   .rw[PP];exact SpA.app (show SpA _ [o] [SpM.whole] from⟨by show upd I p2 _ o=_;rw[aq (fun z=>by have m:I o=_:=b;rw[z,l3] at m;cases m)];exact b,True.intro⟩) ((N.same C).wr l3)
  rintro ys S ⟨_,bs,rfl,N,l2,g⟩
  have T:SpA S bs (List.replicate 7 SpM.whole):=N;have bp:bs.length=7:=by rw[T.len];rfl
  have l12:=g _ _ l1;walk_at"g";intro p4 bb;have e7:gw (J.map V.ref) (some 7) none=(J.drop 7).map V.ref:=by
   have:=sQ (xs:=J.map V.ref) (n:=7);rw[<- QS] at this;exact this
  rw[e7];have s4:=ag bb (.lst ((J.drop 7).map V.ref));have l4:upd S p4 (.lst ((J.drop 7).map V.ref)) p4=some (.lst ((J.drop 7).map V.ref)):=ae;generalize upd S p4 (.lst ((J.drop 7).map V.ref))=H4 at*;have bG:=s4 _ _ l2;have bx:(bs.map V.ref).length+((J.drop 7).map V.ref).length<=sizeLine:=Oc (show _<=100 by rw[be,be,OZ,bp,aY];decide) (by decide)
  walk_at"g";intro p5 ab;rw[<- NZ];have S5:=((Z.trans g).trans s4).trans (ag ab (.lst ((bs++J.drop 7).map V.ref)));refine q p5 (bs++J.drop 7) _ S5 (aA.free ((Z.trans g).trans s4) ab) ae ?_
  have e1:[spG c 7]=c.drop 7:=by
   have h7:7<c.length:=by rw[h8.len];decide
   rw[Pd h7,Pz (by rw[h8.len];decide)]
   unfold spG;rw[N9,mC (show(7:Int).toNat<c.length from h7)]
   rfl
  rw[e1];exact SpA.app (SpA.drop 7 (ar.same S5)) (T.same (s4.trans (ag ab _)))
 have aH:k≠18:=fun e=>c1 (by rw[e];rfl)
 walk_at"g";intro S g;have l2:=g _ _ l1;have S2:=Z.trans g
 by_cases hm:mk8 k
 .rw[NY hm];obtain⟨x,r,aP,x0,x1⟩:=gG hv hm;have ex:p.getD 0 0=x:=by rw[aP];rfl
  have i1:atI (aD k p) 1=some (.int x):=by rw[aP];exact lP
  have bC:=g.tup bh;have bw:=a7.mv g;have bu:=g.seq au;have d:=O.same g;have eb:ck pk X W Y k p c=c.set x.toNat (dk pk X W Y k p c):=by
   unfold ck;rw[fI aH,NV hm,ex]
  rw[eb] at q;have bF:ixN (J.map V.ref).length x=some x.toNat:=by
   have ek:x=((x.toNat:Nat):Int):=by lia
   rw[ek,be,aY];unfold ixN;rw[NV (by lia),NV (by lia),Os]
  have fin:∀o I,aA S I->Tr I o (dk pk X W Y k p c)->Q (.ref u) (upd I u (.lst ((J.map V.ref).set x.toNat (.ref o)))):=fun o I C b=>by
   have l3:=C _ _ l2;have e:(J.map V.ref).set x.toNat (.ref o)=(J.set x.toNat o).map V.ref:=by rw[Sb]
   rw[e];refine q u (J.set x.toNat o) _ (cf G (S2.trans C)) G ae ?_
   refine SpA.set ?_ _ ((d.same C).wr l3)
   show upd I u _ o=_
   rw[aq (fun z=>by have m:I o=_:=b;rw[z,l3] at m;cases m)]
   exact b
  walk_at"g";refine⟨fun Z' H'=>az (∃o I,aA S I/\Tr I o (dk pk X W Y k p c)/\H'=upd I u (.lst ((J.map V.ref).set x.toNat (.ref o)))/\Z'=[some (.ref pl),some (.ref sa),some (.ref a),some (.ref u),some (.str (aN k)),some (.int x)]),?_,?_⟩
  .unfold mk8 at hm;rcases hv with⟨rfl,rfl⟩|⟨rfl,l,v,rfl,L,M,v0,v1⟩|⟨h1,h2,l,y,z,rfl,L,M,y0,y1,z0,z1⟩|⟨h1,h2,l,y,z,rfl,L,M,y0,y1,z0,z1⟩|⟨hk,z,rfl,z0,z1⟩|⟨rfl,l,z,rfl,L,M,z0,z1⟩|⟨rfl,y,rfl,y0,y1⟩|⟨hk,l,y,rfl,L,M,y0,y1⟩
   .lia
   .have i2:atI (aD 1 [l,v]) 2=some (.int v):=jA;walk_at"g";walk_at"wd";intro o I C b;have l3:=C _ _ l2;walk_at"g";exact az.mk ⟨o,I,C,b,rfl,rfl⟩
   .obtain⟨b1,e1,t1,v1⟩:=SpT.at (a:=sa) d h8 y0 y1;obtain⟨b2,e2,t2,v2⟩:=SpT.at (a:=sa) d h8 z0 z1;have i2:atI (aD k [l,y,z]) 2=some (.int y):=jA;have i3:atI (aD k [l,y,z]) 3=some (.int z):=yE;have e:dk pk X W Y k [l,y,z] c=SpM.jS (EU k) (spG c y) (spG c z):=by
     unfold dk;rw[fI (by lia),fI (by lia),fI (by lia),fI (by lia),fI (by lia)]
     rfl
    have es:=Io k h1 h2;walk_at"g";refine bN (sne U (j:=1) (by decide) (by lia)) ?_
    walk_at"g";refine bN (sne U (j:=10) (by decide) (by lia)) ?_
    walk_at"g";refine bN (sne U (j:=11) (by decide) (by lia)) ?_
    walk_at"g";refine bN (sne U (j:=16) (by decide) (by lia)) ?_
    walk_at"g";refine bN (sne U (j:=17) (by decide) (by lia)) ?_
    walk_at"g";rw[es];walk_at"g";intro o I C b;have l3:=C _ _ l2;rw[<- es];walk_at"g";exact az.mk ⟨o,I,C,by rw[e];exact b,rfl,rfl⟩
   .obtain⟨b1,e1,t1,v1⟩:=SpT.at (a:=sa) d h8 y0 y1;obtain rfl | rfl:k=10\/k=11:=by lia
    .have i2:atI (aD 10 [l,y,z]) 2=some (.int y):=jA;have i3:atI (aD 10 [l,y,z]) 3=some (.int z):=yE;walk_at"g";walk_at"wd";intro o I C b;have l3:=C _ _ l2;walk_at"g";exact az.mk ⟨o,I,C,b,rfl,rfl⟩
    .walk_at"g";walk_at"wd";intro o I C b;have l3:=C _ _ l2;walk_at"g";exact az.mk ⟨o,I,C,b,rfl,rfl⟩
   .lia
   .lia
   .lia
   .obtain⟨b1,e1,t1,v1⟩:=SpT.at (a:=sa) d h8 y0 y1;rcases hk with rfl | rfl
    .have i2:atI (aD 16 [l,y]) 2=some (.int y):=jA;walk_at"g";walk_at"wd";intro o I C b;have l3:=C _ _ l2;walk_at"g";exact az.mk ⟨o,I,C,b,rfl,rfl⟩
    .have i2:atI (aD 17 [l,y]) 2=some (.int y):=jA;walk_at"g";walk_at"wd";intro o I C b;have l3:=C _ _ l2;walk_at"g";exact az.mk ⟨o,I,C,b,rfl,rfl⟩
  rintro Z3 H4 ⟨o,I,C,b,rfl,rfl⟩
  walk_at"g";exact fin o I C b
 .rw[NX hm];have eb:ck pk X W Y k p c=c:=by
   unfold ck;rw[fI aH,fI hm]
  rw[eb] at q;walk_at"g";exact q u J S S2 G l2 (O.same g)
theorem aO.ne{H:Hp}{d p:Addr}(h:aO H d)(C:H p=none):p≠d:=by
 obtain⟨n,o,h⟩:=h;exact(ak h C).symm
theorem aO.tup{H C:Hp}{d a:Addr}{xs:List V}(h:aO H d)(b:But d H C)(e:H a=some (.tup xs)):C a=some (.tup xs):=by
 obtain⟨n,o,I⟩:=h;exact b _ _ (by rintro rfl;rw[I] at e;cases e) e
theorem Pl.dl{H o:Hp}{a d:Addr}{k:Nat}{b:Int}{m s:Nat}{g:Int}(p:Pl H a k b m s g)(e:But d H o)(hd:aO H d):Pl o a k b m s g:=⟨hd.tup e p.at_,p.room,p.ms⟩
def AF:Sp:=fun C H Q _=>∃(d a:Addr) (k:Nat) (b:Int) (m s:Nat) (g:Int),C=[.ref d,.ref a]/\aO H d/\Pl H a k b m s g/\∀(v:Int) o,0<=v->v<4294967296->aO o d->But d H o->Q (.int v) o
theorem xQ(B:Bi mg)(D:qV K mg)(U:Has P w K mg base 1 "_law_draw" iU g_):Has P w K mg base 2 "_law_number" lG AF:=by
 refine D.has oM (fun X H Q E h=> ?_) (fun f F A J s H X Q E c h=> ?_)
 .obtain⟨d,a,k,b,m,s,g,rfl,_⟩:=h
  rfl
 obtain⟨d,a,k,b,m,S,g,rfl,W,x,q⟩:=h
 refine⟨_,((aa (psS 2 oM.nd (pcH U c (pa2 (pv 0) ad)))
   (aa (ay (pcT aE (pv 2) ad) (af (ai (pcH U c (pa2 (pv 0) (bU (v:=4294967296) (by rfl)))))) al)
   (aa (ay (pcT aE (pv 2) ad) (af (ai (aw nB ad (pcH U c (pa2 (pv 0) ad))))) al)
   (aa (ay (pcT fL (pv 2) ad) (af (ai (aw cW (aw cC (aw aS (pX aj (pv 1) ad) (pcH U c (pa2 (pv 0) (aw aS (aw nB ad (pX aj (pv 1) ad)) ad)))) (pcH U c (pa2 (pv 0) ad))) (bU (v:=4294967296) (by rfl))))) al)
   (af (ai (pcH U c (pa2 (pv 0) ad)))))))):PSs (i6 CX0 P w K mg base ["_law_deal_here","_law_plan","_law_form"] "_law_number" (ah iI) f F A J s H E).nox (_::_) _),?_⟩
 try dsimp only[aT]
 walk_at"g";intro f1 H1 Z ar r l;have G:=x.dl l W;walk_at"g";refine bc (fun c0=> ?_) (fun c0=> ?_)
 .walk_at"g";intro w C i y o I;exact q _ C i y o (l.trans I)
 walk_at"g";refine bc (fun c1=> ?_) (fun c1=> ?_)
 .walk_at"g";intro w C i y o I;obtain⟨w,rfl⟩:∃n:Nat,w=n:=OE (by first | assumption | lia)
  have L:xB 1 (w:Int):=⟨by lia,by lia,by decide⟩
  have ew:(1:Int)*2^((w:Int)).toNat=2^w:=by rw[PM,Os]
  have h1:=SpM.pp w;have h2:(2:Int)^w<=2^31:=SpM.ple (by lia)
  walk_at"g";show Q (.int (1*2^((w:Int)).toNat)) C
  rw[ew];exact q _ C (Ph h1) (by have ab:(2:Int)^31=2147483648:=(by decide);lia) o (l.trans I)
 walk_at"g";refine bc (fun c4=> ?_) (fun c4=> ?_)
 .have hk:=x.room.k20;have r0:=x.room.b0;have r1:=x.room.bW;have O:(1:Int)*2^((k:Int)).toNat=2^k:=by rw[PM,Os]
  have R:(2:Int)^k<=2^20:=SpM.ple (by lia)
  have z:=SpM.pp k;rw[<- O] at R z r1;have L:xB 1 (k:Int):=⟨by lia,by lia,by decide⟩
  have T:=G.at_;have p0:atI [V.int k,V.int b,V.int m,V.int S,V.int g] 0=some (.int k):=aQ (j:=0) rfl;have p1:atI [V.int k,V.int b,V.int m,V.int S,V.int g] 1=some (.int b):=aQ (j:=1) rfl;have N:=az.mk r;have p:(0:Int)<1*2^((k:Int)).toNat+2:=by lia
  have e:(1:Int)*2^((k:Int)).toNat+2<=2^100:=by lia
  clear r;walk_at"g";refine⟨N.out,p,e,?_⟩
  clear p e;intro w C i y o I;walk_at"g";intro u H5 u0 u1 M Y;walk_at"g";exact q _ H5 (by lia) (by lia) M ((l.trans I).trans Y)
 .walk_at"g";intro w C i y o I;exact q _ C i (by lia) o (l.trans I)
def Iu:Sp:=fun C H Q _=>∃d:Addr,C=[.ref d]/\aO H d/\∀(v:Int) o, -131072<=v->v<131072->aO o d->But d H o->Q (.int v) o
theorem AK(B:Bi mg)(D:u5 K mg)(J:Has P w K mg base 1 "_law_draw" iU g_):Has P w K mg base 2 "_law_part" qL Iu:=by
 refine D.has tG (fun e H Q E h=> ?_) (fun f I A C s H e Q E b h=> ?_)
 .obtain⟨d,rfl,_⟩:=h
  rfl
 obtain⟨d,rfl,p,q⟩:=h
 refine⟨_,((aa (psS 1 tG.nd (pcH J b (pa2 (pv 0) ad)))
   (aa (ay (pcT aE (pv 1) ad) (af (ai (aw cC (pcH J b (pa2 (pv 0) (bU (v:=262144) (by rfl)))) (bU (v:=131072) (by rfl))))) al)
   (af (ai (aw cC (pcH J b (pa2 (pv 0) ad)) ad))))):PSs (i6 CX0 P w K mg base ["_law_deal_here","_law_form"] "_law_part" (ah kH) f I A C s H E).nox (_::_) _),?_⟩
 try dsimp only[aT]
 walk_at"g";intro f1 n g l m c;walk_at"g";refine bc (fun c0=> ?_) (fun c0=> ?_)
 .walk_at"g";intro w U i j o a;walk_at"g";exact q _ U (by lia) (by lia) o (c.trans a)
 .walk_at"g";intro w U i j o a;walk_at"g";exact q _ U (by lia) (by lia) o (c.trans a)
noncomputable def Ml:List Nat:=[1,2,3,4,5,6,7,8,9,10,11,12,13,14,15,16,17,18,0,11,12,16]
theorem Lq{r:Int}(a:0<=r)(U:r<22):∃k,k<19/\atI [V.str "put",V.str "add",V.str "sub",V.str "and",V.str "or",V.str "xor",V.str "less",V.str "left",V.str "right",V.str "more",V.str "load",V.str "store",V.str "jump",V.str "jumpif",V.str "through",V.str "fit",V.str "aim",V.str "gate",V.str "stop",V.str "load",V.str "store",V.str "fit"] r=some (.str (aN k)):=by
 have J:r.toNat<22:=by lia
 have I:r=((r.toNat:Nat):Int):=by lia
 have:∀j,j<22->∃k,k<19/\([V.str "put",V.str "add",V.str "sub",V.str "and",V.str "or",V.str "xor",V.str "less",V.str "left",V.str "right",V.str "more",V.str "load",V.str "store",V.str "jump",V.str "jumpif",V.str "through",V.str "fit",V.str "aim",V.str "gate",V.str "stop",V.str "load",V.str "store",V.str "fit"]:List V)[j]? =some (.str (aN k)):=by
  intro j C;have h:∀j,j<22->Ml.getD j 0<19/\([V.str "put",V.str "add",V.str "sub",V.str "and",V.str "or",V.str "xor",V.str "less",V.str "left",V.str "right",V.str "more",V.str "load",V.str "store",V.str "jump",V.str "jumpif",V.str "through",V.str "fit",V.str "aim",V.str "gate",V.str "stop",V.str "load",V.str "store",V.str "fit"]:List V)[j]? =some (.str (aN (Ml.getD j 0))):=by decide +kernel
  exact⟨_,h j C⟩
 obtain⟨k,o,e⟩:=this _ J;refine⟨k,o,?_⟩
 have q:=aQ e;rw[<- I] at q;exact q
theorem LN:∀k,k<19->inV (.str (aN k)) [.str "add",.str "sub",.str "and",.str "or",.str "xor",.str "less",.str "left",.str "right"]=decide (2<=k/\k<=9):=by decide +kernel
theorem HR:∀k,k<19->inV (.str (aN k)) [.str "more",.str "load",.str "store"]=decide (10<=k/\k<=12):=by decide +kernel
theorem MH:∀k,k<19->inV (.str (aN k)) [.str "fit",.str "aim"]=decide (k=16\/k=17):=by decide +kernel
def IF:Sp:=fun I H Q _=>∃(d a:Addr) (k:Nat) (b:Int) (m s:Nat) (g t:Int),I=[.ref d,.ref a,.int t]/\aO H d/\Pl H a k b m s g/\8<=t/\t<=1024/\∀p (C:Nat × List Int) o,aC 8 262144 C.1 C.2->o p=some (.tup (aD C.1 C.2))->aO o d->But d H o->Q (.ref p) o
theorem CS(B:Bi mg)(D:xJ K mg)(F:Has P w K mg base 1 "_law_draw" iU g_)(cq:Has P w K mg base 2 "_law_number" lG AF)(pW:Has P w K mg base 2 "_law_part" qL Iu):
  Has P w K mg base 3 "_law_any" CM IF:=by
 refine D.has i8 (fun vs H Q E h=> ?_) (fun f bF A X s H vs Q E U h=> ?_)
 .obtain⟨d,a,k,b,m,s,g,t,rfl,_⟩:=h
  rfl
 obtain⟨d,a,pk,b,m,sx,g,t,rfl,hD,pl,t0,t1,q⟩:=h
 refine⟨_,((aa (psS 3 i8.nd (pX ba (bo (bD (by rfl))) (pcH F U (pa2 (pv 0) ad))))
   (aa (psS 4 i8.nd (pcH F U (pa2 (pv 0) ad)))
   (aa (psS 5 i8.nd (pcH F U (pa2 (pv 0) ad)))
   (aa (ay (pcT aE (pv 3) ax) (af (ai (aB (pa3 (pv 3) (pv 4) (pcH cq U (pa2 (pv 0) (pv 1))))))) al)
   (aa (ay (gR iu (pv 3) (bo (bD (by rfl))) (by rfl)) (af (ai (aB (pa4 (pv 3) (pv 4) (pv 5) (pcH F U (pa2 (pv 0) ad)))))) al)
   (aa (ay (gR iu (pv 3) (bo (bD (by rfl))) (by rfl)) (af (ai (aB (pa4 (pv 3) (pv 4) (pv 5) (pcH pW U (pa1 (pv 0))))))) al)
   (aa (ay (gR iu (pv 3) (bo (bD (by rfl))) (by rfl)) (af (ai (aB (pa3 (pv 3) (pv 4) (pv 5))))) al)
   (aa (psS 6 i8.nd (pX ba (bo (pa2 (aw bH ad (pcH F U (pa2 (pv 0) (aw cE (pv 2) ad)))) (pcH F U (pa2 (pv 0) (bU (v:=262144) (by rfl)))))) (aw cE (pcH F U (pa2 (pv 0) ad)) ad)))
   (aa (ay (pcT aE (pv 3) ax) (af (ai (aB (pa2 (pv 3) (pv 6))))) al)
   (aa (ay (pcT aE (pv 3) ax) (af (ai (aB (pa3 (pv 3) (pv 4) (pv 6))))) al)
   (aa (ay (pcT aE (pv 3) ax) (af (ai (aB (pa2 (pv 3) (pv 5))))) al)
   (aa (ay (pcT aE (pv 3) ax) (af (ai (aB (pa2 (pv 3) (pX ba (bo (pa2 (pcH F U (pa2 (pv 0) ad)) (pcH F U (pa2 (pv 0) (bU (v:=262144) (by rfl)))))) (aw cE (pcH F U (pa2 (pv 0) ad)) ad)))))) al)
   (af (ai (aB (pa1 (pv 3))))))))))))))))):PSs (i6 CX0 P w K mg base ["_law_deal_here","_law_plan","_law_total","_law_sort","_law_a","_law_b","_law_place"] "_law_any" (ah ni) f bF A X s H E).nox (_::_) _),?_⟩
 try dsimp only[aT]
 walk_at"g";intro p1 O;have bp:=hD.up (o:= .lst [.str "put",.str "add",.str "sub",.str "and",.str "or",.str "xor",.str "less",.str "left",.str "right",.str "more",.str "load",.str "store",.str "jump",.str "jumpif",.str "through",.str "fit",.str "aim",.str "gate",.str "stop",.str "load",.str "store",.str "fit"]) O;have l1:upd H p1 (.lst [.str "put",.str "add",.str "sub",.str "and",.str "or",.str "xor",.str "less",.str "left",.str "right",.str "more",.str "load",.str "store",.str "jump",.str "jumpif",.str "through",.str "fit",.str "aim",.str "gate",.str "stop",.str "load",.str "store",.str "fit"]) p1=some (.lst [.str "put",.str "add",.str "sub",.str "and",.str "or",.str "xor",.str "less",.str "left",.str "right",.str "more",.str "load",.str "store",.str "jump",.str "jumpif",.str "through",.str "fit",.str "aim",.str "gate",.str "stop",.str "load",.str "store",.str "fit"]):=ae;have g1:But d H (upd H p1 (.lst [.str "put",.str "add",.str "sub",.str "and",.str "or",.str "xor",.str "less",.str "left",.str "right",.str "more",.str "load",.str "store",.str "jump",.str "jumpif",.str "through",.str "fit",.str "aim",.str "gate",.str "stop",.str "load",.str "store",.str "fit"])):=(ag O _).but;have n1:=hD.ne O;generalize upd H p1 (.lst [.str "put",.str "add",.str "sub",.str "and",.str "or",.str "xor",.str "less",.str "left",.str "right",.str "more",.str "load",.str "store",.str "jump",.str "jumpif",.str "through",.str "fit",.str "aim",.str "gate",.str "stop",.str "load",.str "store",.str "fit"])=H1 at*;walk_at"g";intro r H2 r0 r1 bA g2;have l2:=g2 _ _ n1 l1;obtain⟨k,I,ek⟩:=Lq r0 r1;have G2:=g1.trans g2;walk_at"g";intro x H3 x0 x1 bC g3;walk_at"g";intro y H4 y0 y1 a' g4;have G4:=(G2.trans g3).trans g4;have cc:=pl.dl G4 hD;clear ek l1 l2 r0 r1;walk_at"g";refine bc (fun c0=> ?_) (fun c0=> ?_)
 .obtain rfl:=seq I (j:=1) (by decide) c0
  walk_at"g";intro v H5 v0 v1 L g5;walk_at"g";intro p C;exact q p (1,[x,v]) _ (.inr (.inl ⟨rfl,x,v,rfl,x0,x1,v0,v1⟩)) ae (L.up C) (bI C (G4.trans g5))
 have k1:k≠1:=fun e=>c0 (by rw[e];rfl)
 walk_at"g";intro p5 aP;have l5:upd H4 p5 (.lst [.str "add",.str "sub",.str "and",.str "or",.str "xor",.str "less",.str "left",.str "right"]) p5=some (.lst [.str "add",.str "sub",.str "and",.str "or",.str "xor",.str "less",.str "left",.str "right"]):=ae;have L:=a'.up (o:= .lst [.str "add",.str "sub",.str "and",.str "or",.str "xor",.str "less",.str "left",.str "right"]) aP;have G5:=bI (o:= .lst [.str "add",.str "sub",.str "and",.str "or",.str "xor",.str "less",.str "left",.str "right"]) aP G4;generalize upd H4 p5 (.lst [.str "add",.str "sub",.str "and",.str "or",.str "xor",.str "less",.str "left",.str "right"])=H5 at*;walk_at"g";rw[fI (show ¬false=true by decide),LN k I]
 by_cases k2:2<=k/\k<=9
 .rw[NY k2];walk_at"g";intro z H6 z0 z1 G g6;walk_at"g";intro p C;exact q p (k,[x,y,z]) _ (.inr (.inr (.inl ⟨k2.1,k2.2,x,y,z,rfl,x0,x1,y0,y1,z0,z1⟩))) ae (G.up C) (bI C (G5.trans g6))
 rw[NX k2];walk_at"g";intro p6 aU;have l6:upd H5 p6 (.lst [.str "more",.str "load",.str "store"]) p6=some (.lst [.str "more",.str "load",.str "store"]):=ae;have G:=L.up (o:= .lst [.str "more",.str "load",.str "store"]) aU;have G6:=bI (o:= .lst [.str "more",.str "load",.str "store"]) aU G5;generalize upd H5 p6 (.lst [.str "more",.str "load",.str "store"])=H6 at*;walk_at"g";rw[fI (show ¬false=true by decide),HR k I]
 by_cases k3:10<=k/\k<=12
 .rw[NY k3];walk_at"g";intro z H7 z0 z1 n g7;walk_at"g";intro p C;exact q p (k,[x,y,z]) _ (.inr (.inr (.inr (.inl ⟨k3.1,k3.2,x,y,z,rfl,x0,x1,y0,y1,z0,z1⟩)))) ae (n.up C) (bI C (G6.trans g7))
 rw[NX k3];walk_at"g";intro p7 ab;have l7:upd H6 p7 (.lst [.str "fit",.str "aim"]) p7=some (.lst [.str "fit",.str "aim"]):=ae;have n:=G.up (o:= .lst [.str "fit",.str "aim"]) ab;have G7:=bI (o:= .lst [.str "fit",.str "aim"]) ab G6;generalize upd H6 p7 (.lst [.str "fit",.str "aim"])=H7 at*;walk_at"g";rw[fI (show ¬false=true by decide),MH k I]
 by_cases k4:k=16\/k=17
 .rw[NY k4];walk_at"g";intro p C;exact q p (k,[x,y]) _ (.inr (.inr (.inr (.inr (.inr (.inr (.inr ⟨k4,x,y,rfl,x0,x1,y0,y1⟩))))))) ae (n.up C) (bI C G7)
 rw[NX k4];clear l5 l6 l7;have a6:(0:Int)<t / 8:=by lia
 have aH:t / 8<=2^100:=by lia
 have bh:=az.mk n;have tH:=az.mk (And.intro t0 t1);clear n G L a' bC bA bp t0 t1;walk_at"g";refine⟨bh.out,a6,aH,?_⟩
 clear a6 aH;intro w H8 w0 w1 b6 g8;have bM:az (w<t / 8):=az.mk w1;clear w1;have b2:wY 8 w:= .inl ⟨by decide,by decide⟩
 walk_at"g";intro W H9 b0 cp Z g9;walk_at"g";intro Y i;have l10:upd H9 Y (.lst [.int (8*w),.int W]) Y=some (.lst [.int (8*w),.int W]):=ae;have bY:=Z.up (o:= .lst [.int (8*w),.int W]) i;have bG:=Z.ne i;have bl:=bI (o:= .lst [.int (8*w),.int W]) i ((G7.trans g8).trans g9);generalize upd H9 Y (.lst [.int (8*w),.int W])=b' at*;walk_at"g";intro r b9 r0 r1 J bb;have l11:=bb _ _ bG l10;have c:=bl.trans bb;obtain⟨v,hv,ev⟩:=HF [8*w,W] (r:=r / 3) (by lia) (by show _<(2:Int);lia)
 change atI [V.int (8*w),V.int W] (r / 3)=some (V.int v) at ev
 have M:0<=v/\v<262144:=by
  have h1:=bM.out;obtain⟨h2,h3⟩:=tH.out
  simp only[Od,Oy,O7] at hv
  lia
 have bw:tJ r 3:=⟨by lia,by decide⟩
 walk_at"g";refine bc (fun c5=> ?_) (fun c5=> ?_)
 .obtain rfl:=seq I (j:=13) (by decide) c5
  walk_at"g";intro p C;exact q p (13,[v]) _ (.inr (.inr (.inr (.inr (.inl ⟨.inl rfl,v,rfl,M.1,M.2⟩))))) ae (J.up C) (bI C c)
 have cO:k≠13:=fun e=>c5 (by rw[e];rfl)
 walk_at"g";refine bc (fun c6=> ?_) (fun c6=> ?_)
 .obtain rfl:=seq I (j:=14) (by decide) c6
  walk_at"g";intro p C;exact q p (14,[x,v]) _ (.inr (.inr (.inr (.inr (.inr (.inl ⟨rfl,x,v,rfl,x0,x1,M.1,M.2⟩)))))) ae (J.up C) (bI C c)
 have cb:k≠14:=fun e=>c6 (by rw[e];rfl)
 walk_at"g";refine bc (fun c7=> ?_) (fun c7=> ?_)
 .obtain rfl:=seq I (j:=15) (by decide) c7
  walk_at"g";intro p C;exact q p (15,[y]) _ (.inr (.inr (.inr (.inr (.inr (.inr (.inl ⟨rfl,y,rfl,y0,y1⟩))))))) ae (J.up C) (bI C c)
 have cv:k≠15:=fun e=>c7 (by rw[e];rfl)
 walk_at"g";refine bc (fun c8=> ?_) (fun c8=> ?_)
 .obtain rfl:=seq I (j:=18) (by decide) c8
  clear l10 l11 ev hv bw;walk_at"g";intro R b8 cg b5 bT bt;walk_at"g";intro T au cz ct N bL;walk_at"g";intro S l;have l14:upd au S (.lst [.int R,.int T]) S=some (.lst [.int R,.int T]):=ae;have bV:=N.up (o:= .lst [.int R,.int T]) l;have bu:=N.ne l;have bx:=bI (o:= .lst [.int R,.int T]) l ((c.trans bt).trans bL);generalize upd au S (.lst [.int R,.int T])=cm at*;walk_at"g";intro r2 b4 cH b1 a7 ar;have l15:=ar _ _ bu l14;obtain⟨u,hu,eu⟩:=HF [R,T] (r:=r2 / 3) (by lia) (by show _<(2:Int);lia)
  change atI [V.int R,V.int T] (r2 / 3)=some (V.int u) at eu
  have aY:0<=u/\u<262144:=by
   simp only[Od,Oy,O7] at hu
   lia
  have bW:tJ r2 3:=⟨by lia,by decide⟩
  walk_at"g";intro p C;exact q p (18,[u]) _ (.inr (.inr (.inr (.inr (.inl ⟨.inr rfl,u,rfl,aY.1,aY.2⟩))))) ae (a7.up C) (bI C (bx.trans ar))
 have b7:k≠18:=fun e=>c8 (by rw[e];rfl)
 obtain rfl:k=0:=by lia
 walk_at"g";intro p C;exact q p (0,[]) _ (.inl ⟨rfl,rfl⟩) ae (J.up C) (bI C c)
noncomputable def gK(k:Nat)(ns:List Int):Option Str->Nat × List Int
 | none=>(k,ns)
 | some x=>if x="host" then(k,6::ns.tail) else if x="beyond" then(16,[ns.getD 1 0 %7,ns.getD 1 0]) else if x="target" then(k,ns.dropLast++[0]) else if x="way" then(17,[ns.getD 0 0 %7,ns.getD 0 0]) else(10,[0,0,0])
def G3(K:Frag):Sp:=fun U H Q _=>∃(a:Addr) (w:Str) (k:Nat) (o:List Int) (I:List SpM.Span) (pk:Nat) (J pg c:Int),U=[.ref a,.str w]/\aC 8 262144 k o/\SqT K H a (aD k o)/\aK pk J pg c k o I=some w/\
 ∀p C,aA H C->SqT K C p (aD (gK k o (some w)).1 (gK k o (some w)).2)->Q (.ref p) C
theorem ky{pk:Nat}{o pg c:Int}{k:Nat}{ns:List Int}{sp:List SpM.Span}{w:Str}(h:aK pk o pg c k ns sp=some w):
  (w="host"/\mk8 k/\ns.getD 0 0=7)\/(w="beyond"/\(k=11\/k=12))\/(w="target"/\(k=13\/k=14))\/(w="way"/\k=15)\/(w="gate"/\k=18):=by
 unfold aK at h
 split at h
 .rename_i z;exact .inl ⟨(N_ h).symm,z.1,z.2⟩
 split at h
 .rename_i z;exact .inr (.inl ⟨(N_ h).symm,z.1⟩)
 split at h
 .rename_i z;exact .inr (.inr (.inl ⟨(N_ h).symm,z.1⟩))
 split at h
 .rename_i z;exact .inr (.inr (.inr (.inl ⟨(N_ h).symm,z.1⟩)))
 split at h
 .rename_i z;exact .inr (.inr (.inr (.inr ⟨(N_ h).symm,z.1⟩)))
 .cases h
theorem wW(B:Bi mg)(D:qW K mg):Has P w K mg base 1 "_law_mended" CI (G3 K):=by
 refine D.has o4 (fun vs H Q E h=> ?_) (fun f W A b s H vs Q E hr h=> ?_)
 .obtain⟨a,w,k,d,sp,pk,pb,pg,c,rfl,_⟩:=h
  rfl
 obtain⟨a,wy,k,d,sp,pk,pb,pg,c,rfl,g,ha,hf,q⟩:=h;have i0:atI (aD k d) 0=some (.str (aN k)):=jx;have ab:=g.lt
 refine⟨_,((aa (psS 2 o4.nd (pX aj (pv 0) ad))
   (aa (ay (pcT aE (pv 1) ax) (af (ai (aw v_ (aB (pa2 (pv 2) ad)) (dR nh (pv 0) (d6 ad) gS)))) al)
   (aa (ay (pcT aE (pv 1) ax) (af (ai (aB (pa3 ax (aw cW (pX aj (pv 0) ad) ad) (pX aj (pv 0) ad))))) al)
   (aa (ay (pcT aE (pv 1) ax) (af (ai (aw v_ (dR nh (pv 0) gS (d6 (nz (v:= -1) (by rfl)))) (aB (pa1 ad))))) al)
   (aa (ay (pcT aE (pv 1) ax) (af (ai (aB (pa3 ax (aw cW (pX aj (pv 0) ad) ad) (pX aj (pv 0) ad))))) al)
   (af (ai (aB (bD (by rfl)))))))))):PSs (i6 CX0 P w K mg base ["_law_instruction","_law_why_here","_law_sort"] "_law_mended" (ah iL) f W A b s H E).nox (_::_) _),?_⟩
 try dsimp only[aT]
 rcases ky hf with⟨rfl,hm,h7⟩|⟨rfl,j⟩|⟨rfl,j⟩|⟨rfl,rfl⟩|⟨rfl,rfl⟩
 .obtain⟨x,r,rfl,x0,x1⟩:=gG g hm;have o:gK k (x::r) (some ("host":Str))=(k,6::r):=rfl;rw[o] at q;have M:r.length<=10:=by
   rcases g with⟨rfl,e⟩|⟨rfl,C,v,e,_⟩|⟨G,L,C,y,z,e,_⟩|⟨G,L,C,y,z,e,_⟩|⟨j,z,e,_⟩|⟨rfl,C,z,e,_⟩|⟨rfl,y,e,_⟩|⟨j,C,y,e,_⟩
   all_goals
    have e':=congrArg List.length e
    simp only[N6,OM] at e'
    lia
  walk_at"g";walk_at"wd";intro X O;have Z:=ag O (.tup [.str (aN k),.int 6]);have t1:SqT K (upd H X (.tup [.str (aN k),.int 6])) X [.str (aN k),.int 6]:=SqT.of ae;generalize upd H X (.tup [.str (aN k),.int 6])=H1 at*;have aH:=Z.tup ha;walk_at"g";refine⟨(fun z=>by have:=z.1;have e:HT.sIx (aD k (x::r)).length 0 (some 2)=min 2 (aD k (x::r)).length:=HT.sIx_nat _ 0 2;rw[e] at this;unfold aD at this;simp only[N6] at this;lia),fun J U=> ?_⟩
  have S:gw (aD k (x::r)) (some 2) none=r.map V.int:=by
   have:=sQ (xs:=aD k (x::r)) (n:=2);exact this
  rw[S];have F:=ag U (.tup (r.map V.int));have t2:SqT K (upd H1 J (.tup (r.map V.int))) J (r.map V.int):=SqT.of ae;generalize upd H1 J (.tup (r.map V.int))=N at*;have au:=F.tup t1;have aP:[V.str (aN k),V.int 6].length+(r.map V.int).length<=sizeLine:=Oc (show _<=100 by rw[be];simp only[N6,OM];lia) (by decide)
  walk_at"g";intro l H3 u t3;exact q l H3 ((Z.trans F).trans u) t3
 .obtain⟨x,y,z,rfl,x0,x1,y0,y1,z0,z1⟩:∃x y z,d=[x,y,z]/\0<=x/\x<8/\0<=y/\y<8/\ -131072<=z/\z<131072:=aC.acc g (by first | assumption | lia)
  have o:gK k [x,y,z] (some ("beyond":Str))=(16,[y %7,y]):=rfl;rw[o] at q;have i2:atI (aD k [x,y,z]) 2=some (.int y):=jA;walk_at"g";walk_at"wd";intro p i;exact q p _ (ag i _) (SqT.of ae)
 .have hl:∃r z,d=r++[z]/\r.length<=10:=by
   rcases g with⟨rfl,e⟩|⟨rfl,C,v,e,_⟩|⟨G,L,C,y,z,e,_⟩|⟨G,L,C,y,z,e,_⟩|⟨j,z,e,_⟩|⟨rfl,C,z,e,_⟩|⟨rfl,y,e,_⟩|⟨j,C,y,e,_⟩
   .lia
   .lia
   .lia
   .lia
   .exact⟨[],z,e,by decide⟩
   .exact⟨[C],z,e,(show 1<=10 by decide)⟩
   .lia
   .lia
  obtain⟨r,z,rfl,M⟩:=hl;have o:gK k (r++[z]) (some ("target":Str))=(k,r++[0]):=by
   show(k,(r++[z]).dropLast++[0])=_
   rw[List.dropLast_concat]
  rw[o] at q;have I:aD k (r++[z])=aD k r++[V.int z]:=by
   unfold aD;rw[NZ]
   rfl
  have m:(aD k (r++[z])).length=r.length+2:=by
   rw[I,NT];unfold aD
   simp only[N6,be,OM]
  have T:HT.sIx (aD k (r++[z])).length (aD k (r++[z])).length (some (-1))=r.length+1:=by
   rw[m];have e:HT.sIx (r.length+2) (r.length+2) (some (-1))=((-1:Int)+((r.length+2:Nat):Int)).toNat:=rfl;rw[e]
   lia
  walk_at"g";walk_at"wd";intro J U;have S:gw (aD k (r++[z])) none (some (-1))=aD k r:=by
   unfold gw;rw[T];show((aD k (r++[z])).drop 0).take (r.length+1 - 0)=_
   rw[Rq,Q3,I];exact List.take_left' (by unfold aD;rw[N6,be])
  rw[S];have F:=ag U (.tup (aD k r));have t2:SqT K (upd H J (.tup (aD k r))) J (aD k r):=SqT.of ae;generalize upd H J (.tup (aD k r))=N at*;walk_at"g";intro l R;have u:=ag R (.tup [.int 0]);have t3:SqT K (upd N l (.tup [.int 0])) l [.int 0]:=SqT.of ae;generalize upd N l (.tup [.int 0])=H3 at*;have ar:=u.tup t2;have aU:(aD k r).length+[V.int 0].length<=sizeLine:=Oc (show _<=100 by unfold aD;rw[N6,be];simp only[N6,OM];lia) (by decide)
  walk_at"g";intro Y H4 s4 t4;refine q Y H4 ((F.trans u).trans s4) ?_
  have e:aD k (r++[0])=aD k r++[V.int 0]:=by
   unfold aD;rw[NZ]
   rfl
  show SqT K H4 Y (aD k (r++[0]))
  rw[e];exact t4
 .obtain⟨y,rfl⟩:∃y,d=[y]:=(aC.thr g rfl).imp fun _ h=>h.1
  have o:gK 15 [y] (some ("way":Str))=(17,[y %7,y]):=rfl;rw[o] at q;have i1:atI (aD 15 [y]) 1=some (.int y):=lP;walk_at"g";walk_at"wd";intro p i;exact q p _ (ag i _) (SqT.of ae)
 .have o:gK 18 d (some ("gate":Str))=(10,[0,0,0]):=rfl;rw[o] at q;walk_at"g";walk_at"wd";intro p i;exact q p _ (ag i _) (SqT.of ae)
theorem gB{pk:Nat}{o pg c:Int}{k:Nat}{ns:List Int}{sp:List SpM.Span}(I:¬(mk8 k/\ns.getD 0 0=7))(b:k≠11/\k≠12)(C:(k=13\/k=14)->tgt k ns=0/\0<c)(a:k≠15)(J:k≠18):aK pk o pg c k ns sp=none:=by
 unfold aK;rw[fI I,fI (by lia),fI (fun z=>by obtain⟨e,U⟩:=C z.1;have:=z.2;rw[e] at this;lia),fI (by lia),fI (by lia)]
theorem wS{pk:Nat}{g pg c:Int}{k:Nat}{ns:List Int}{sp:List SpM.Span}{w:Str}(b:aC 8 262144 k ns)(f:aK pk g pg c k ns sp=some w):aC 8 262144 (gK k ns (some w)).1 (gK k ns (some w)).2:=by
 rcases ky f with⟨rfl,hm,i⟩|⟨rfl,d⟩|⟨rfl,d⟩|⟨rfl,rfl⟩|⟨rfl,rfl⟩
 .have e:gK k ns (some ("host":Str))=(k,6::ns.tail):=rfl;rw[e];unfold mk8 at hm;rcases b with⟨rfl,rfl⟩|⟨rfl,x,v,rfl,I,J,v0,v1⟩|⟨U,a,x,y,z,rfl,I,J,o,C,z0,z1⟩|⟨U,a,x,y,z,rfl,I,J,o,C,z0,z1⟩|⟨d,z,rfl,z0,z1⟩|⟨rfl,x,z,rfl,I,J,z0,z1⟩|⟨rfl,y,rfl,o,C⟩|⟨d,x,y,rfl,I,J,o,C⟩
  .lia
  .exact .inr (.inl ⟨rfl,6,v,rfl,by decide,by decide,v0,v1⟩)
  .exact .inr (.inr (.inl ⟨U,a,6,y,z,rfl,by decide,by decide,o,C,z0,z1⟩))
  .exact .inr (.inr (.inr (.inl ⟨U,a,6,y,z,rfl,by decide,by decide,o,C,z0,z1⟩)))
  .lia
  .lia
  .lia
  .exact .inr (.inr (.inr (.inr (.inr (.inr (.inr ⟨d,6,y,rfl,by decide,by decide,o,C⟩))))))
 .obtain⟨x,y,z,rfl,I,J,o,C,z0,z1⟩:∃x y z,ns=[x,y,z]/\0<=x/\x<8/\0<=y/\y<8/\ -131072<=z/\z<131072:=aC.acc b (by first | assumption | lia)
  exact .inr (.inr (.inr (.inr (.inr (.inr (.inr ⟨.inl rfl,y %7,y,rfl,by lia,by lia,o,C⟩))))))
 .rcases b with⟨rfl,rfl⟩|⟨rfl,x,v,rfl,I,J,v0,v1⟩|⟨U,a,x,y,z,rfl,I,J,o,C,z0,z1⟩|⟨U,a,x,y,z,rfl,I,J,o,C,z0,z1⟩|⟨hk',z,rfl,z0,z1⟩|⟨rfl,x,z,rfl,I,J,z0,z1⟩|⟨rfl,y,rfl,o,C⟩|⟨hk',x,y,rfl,I,J,o,C⟩
  .lia
  .lia
  .lia
  .lia
  .exact .inr (.inr (.inr (.inr (.inl ⟨hk',0,rfl,by decide,by decide⟩))))
  .exact .inr (.inr (.inr (.inr (.inr (.inl ⟨rfl,x,0,rfl,I,J,by decide,by decide⟩)))))
  .lia
  .lia
 .obtain⟨y,rfl,o,C⟩:∃y,ns=[y]/\0<=y/\y<8:=aC.thr b (by first | rfl | assumption)
  exact .inr (.inr (.inr (.inr (.inr (.inr (.inr ⟨.inr rfl,y %7,y,rfl,by lia,by lia,o,C⟩))))))
 .show aC 8 262144 10 [0,0,0]
  exact .inr (.inr (.inr (.inl ⟨by decide,by decide,0,0,0,rfl,by decide,by decide,by decide,by decide,by decide,by decide⟩)))
theorem zx{pk:Nat}{o pg c:Int}{k:Nat}{ns:List Int}{sp:List SpM.Span}{w:Str}(d:0<c)(j:aC 8 262144 k ns)(f:aK pk o pg c k ns sp=some w):
  aK pk o pg c (gK k ns (some w)).1 (gK k ns (some w)).2 sp=none\/(w=("host":Str)/\aK pk o pg c (gK k ns (some w)).1 (gK k ns (some w)).2 sp=some ("beyond":Str)):=by
 rcases ky f with⟨rfl,hm,m⟩|⟨rfl,l⟩|⟨rfl,l⟩|⟨rfl,rfl⟩|⟨rfl,rfl⟩
 .have e:gK k ns (some ("host":Str))=(k,6::ns.tail):=rfl;rw[e];have n1:¬(mk8 k/\(6::ns.tail).getD 0 0=7):=fun z=>absurd z.2 (by show ¬(6:Int)=7;decide)
  by_cases b:(k=11\/k=12)/\lN pk o (6::ns.tail) sp
  .right
   refine⟨rfl,?_⟩
   show aK pk o pg c k (6::ns.tail) sp=_
   unfold aK;rw[fI n1,NV b]
  .left
   show aK pk o pg c k (6::ns.tail) sp=_
   unfold mk8 at hm;unfold aK;rw[fI n1,fI b,fI (by lia),fI (by lia),fI (by lia)]
 .left
  show aK pk o pg c 16 [ns.getD 1 0 %7,ns.getD 1 0] sp=none
  refine gB (fun z=> ?_) ⟨by decide,by decide⟩ (fun z=>by lia) (by decide) (by decide)
  have:ns.getD 1 0 %7=7:=z.2
  lia
 .left
  rcases j with⟨rfl,rfl⟩|⟨rfl,x,v,rfl,C,I,v0,v1⟩|⟨g,i,x,y,z,rfl,C,I,U,a,z0,z1⟩|⟨g,i,x,y,z,rfl,C,I,U,a,z0,z1⟩|⟨J,z,rfl,z0,z1⟩|⟨rfl,x,z,rfl,C,I,z0,z1⟩|⟨rfl,y,rfl,U,a⟩|⟨J,x,y,rfl,C,I,U,a⟩
  .lia
  .lia
  .lia
  .lia
  .obtain rfl:k=13:=by lia
   show aK pk o pg c 13 [0] sp=none
   exact gB (fun z=>by unfold mk8 at z;lia) ⟨by decide,by decide⟩ (fun _=>⟨rfl,d⟩) (by decide) (by decide)
  .show aK pk o pg c 14 [x,0] sp=none
   exact gB (fun z=>by unfold mk8 at z;lia) ⟨by decide,by decide⟩ (fun _=>⟨rfl,d⟩) (by decide) (by decide)
  .lia
  .lia
 .left
  show aK pk o pg c 17 [ns.getD 0 0 %7,ns.getD 0 0] sp=none
  refine gB (fun z=> ?_) ⟨by decide,by decide⟩ (fun z=>by lia) (by decide) (by decide)
  have:ns.getD 0 0 %7=7:=z.2
  lia
 .left
  show aK pk o pg c 10 [0,0,0] sp=none
  exact gB (fun z=>absurd z.2 (by show ¬(0:Int)=7;decide)) ⟨by decide,by decide⟩ (fun z=>by lia) (by decide) (by decide)
noncomputable def dY(x:Pn)(c:Int)(sp:List SpM.Span)(kn:Nat × List Int):Nat × List Int:=gK kn.1 kn.2 (aK x.pk x.pb x.pg c kn.1 kn.2 sp)
theorem Dr{x:Pn}{c:Int}{sp:List SpM.Span}{kn:Nat × List Int}(o:aC 8 262144 kn.1 kn.2):aC 8 262144 (dY x c sp kn).1 (dY x c sp kn).2:=by
 unfold dY
 cases e:aK x.pk x.pb x.pg c kn.1 kn.2 sp with
 | none=>exact o
 | some w=>exact wS o e
theorem He{x:Pn}{c:Int}{sp:List SpM.Span}{kn:Nat × List Int}(I:0<c)(C:aC 8 262144 kn.1 kn.2):aK x.pk x.pb x.pg c (dY x c sp (dY x c sp kn)).1 (dY x c sp (dY x c sp kn)).2 sp=none:=by
 have same:∀kn:Nat × List Int,aK x.pk x.pb x.pg c kn.1 kn.2 sp=none->dY x c sp kn=kn:=fun kn e=>by unfold dY;rw[e];rfl
 cases e:aK x.pk x.pb x.pg c kn.1 kn.2 sp with
 | none=>rw[same kn e,same kn e];exact e
 | some w=>
  have o:dY x c sp kn=gK kn.1 kn.2 (some w):=by unfold dY;rw[e]
  have v1:=wS C e;rcases zx I C e with h | ⟨rfl,h⟩
  .rw[o,same _ h];exact h
  .have e2:dY x c sp (dY x c sp kn)=gK (dY x c sp kn).1 (dY x c sp kn).2 (some ("beyond":Str)):=by
    show gK (dY x c sp kn).1 (dY x c sp kn).2 (aK x.pk x.pb x.pg c (dY x c sp kn).1 (dY x c sp kn).2 sp)=_
    rw[o,h]
   rw[e2,o];rcases zx I v1 h with h2 | ⟨z,_⟩
   .exact h2
   .exact absurd z (by decide)
theorem zu{x:Pn}{c:Int}{sp:List SpM.Span}{kn:Nat × List Int}(h:(dY x c sp kn).1=1):kn.1=1:=by
 unfold dY at h
 cases e:aK x.pk x.pb x.pg c kn.1 kn.2 sp with
 | none=>rw[e] at h;exact h
 | some w=>
  rw[e] at h;rcases ky e with⟨rfl,hm,C⟩|⟨rfl,o⟩|⟨rfl,o⟩|⟨rfl,o⟩|⟨rfl,o⟩
  .exact h
  .exact absurd h (by show ¬(16:Nat)=1;decide)
  .exact h
  .exact absurd h (by show ¬(17:Nat)=1;decide)
  .exact absurd h (by show ¬(10:Nat)=1;decide)
noncomputable def gc(x:Pn)(c:Int)(sp:List SpM.Span)(kn:Nat × List Int):Nat->Nat × List Int
 | 0=>kn
 | n+1=>dY x c sp (gc x c sp kn n)
theorem oy{x:Pn}{c:Int}{sp:List SpM.Span}{kn:Nat × List Int}(o:aC 8 262144 kn.1 kn.2):∀n,aC 8 262144 (gc x c sp kn n).1 (gc x c sp kn n).2
 | 0=>o
 | n+1=>Dr (oy o n)
theorem xI{x:Pn}{c:Int}{sp:List SpM.Span}{kn:Nat × List Int}(e:aK x.pk x.pb x.pg c kn.1 kn.2 sp=none):dY x c sp kn=kn:=by unfold dY;rw[e];rfl
theorem xy{is:List (Nat × List Int)}{kn:Nat × List Int}:ao (is++[kn])=ao is++c_ kn.1 kn.2:=by
 unfold ao;rw[OW]
 congr 1
 exact Oz _
theorem DX{x:Pn}{kn:Nat × List Int}:∀{is:List (Nat × List Int)}{at_:Nat}{sp:List SpM.Span},dM x at_ sp (is++[kn])=ck x.pk x.pb x.pm x.ps kn.1 kn.2 (aJ (at_+(ao is).length) (dM x at_ sp is))
 | [],at_,sp=>rfl
 | j::r,at_,sp=>by
  have ih:=DX (x:=x) (kn:=kn) (is:=r) (at_:=at_+a8 j.1) (sp:=ck x.pk x.pb x.pm x.ps j.1 j.2 (aJ at_ sp));rw[wQ, <-O2];exact ih
theorem FC{x:Pn}{o:Int}{kn:Nat × List Int}:∀{is:List (Nat × List Int)}{at_:Nat}{sp:List SpM.Span},okC x o at_ sp is->aC 8 262144 kn.1 kn.2->(at_+(ao is).length) %8+a8 kn.1<=8->
  aK x.pk x.pb x.pg o kn.1 kn.2 (aJ (at_+(ao is).length) (dM x at_ sp is))=none->okC x o at_ sp (is++[kn])
 | [],at_,sp,_,h1,h2,h3=>⟨h1,h2,h3,True.intro⟩
 | j::r,at_,sp,h,h1,h2,h3=>by
  rw[wQ, <-O2] at h2 h3;exact⟨h.1,h.2.1,h.2.2.1,FC (is:=r) h.2.2.2 h1 h2 h3⟩
theorem SpT.but{H o:Hp}{a d:Addr}{ys:List V}{sp:List SpM.Span}(e:But d H o)(hd:H d=some (.lst ys))(h:SpT K H a sp):SpT K o a sp:=by
 obtain⟨I,C,J⟩:=h;exact⟨I,e.tup hd C,J.mono (fun U b z=>e _ _ (fun w=>by rw[w,hd] at z;cases z) z)⟩
theorem TdA.but{H o:Hp}{d:Addr}{ys:List V}(e:But d H o)(hd:H d=some (.lst ys)):∀{vs:List V}{r:List (Option (List SpM.Span))},TdA K H vs r->TdA K o vs r
 | [],[],_=>True.intro
 | _::_,none::_,h=>⟨h.1,TdA.but e hd h.2⟩
 | _::_,some _::_,h=>⟨let ⟨a,h1,h2⟩:=h.1;⟨a,h1,h2.but e hd⟩,TdA.but e hd h.2⟩
 | [],none::_,h=>h.elim
 | [],some _::_,h=>h.elim
 | _::_,[],h=>h.elim
structure Bs (K:Frag) (x:Pn) (H0 H:Hp) (d pl cd lp td:Addr) (is:List (Nat × List Int)):Prop where
 plan:Pl H pl x.pk x.pb x.pm x.ps x.pg
 deal:aO H d
 but:But d H0 H
 code:H cd=some (.lst ((ao is).map V.int))
 places:∃us,H lp=some (.lst us)/\us.length<=(ao is).length
 told:∃vs,H td=some (.lst vs)/\vs.length=(ao is).length
 f1:H0 cd=none
 f2:H0 lp=none
 f3:H0 td=none
 n1:cd≠lp
 n2:cd≠td
 n3:lp≠td
 dd:aO H0 d
structure Ss (H0 H:Hp) (lp td sa:Addr) (sp:List SpM.Span):Prop where
 at_:∃as:List Addr,H sa=some (.lst (as.map V.ref))/\SpA H as sp
 f:H0 sa=none
 n1:sa≠lp
 n2:sa≠td
theorem Bs.mv{x:Pn}{I H C:Hp}{d pl cd J U:Addr}{is:List (Nat × List Int)}(h:Bs K x I H d pl cd J U is)(e:But d H C)(hd:aO C d):Bs K x I C d pl cd J U is:=by
 obtain⟨n,o,f⟩:=h.deal;obtain⟨n0,c,b⟩:=h.dd;have ne:∀{a:Addr},I a=none->a≠d:=fun z w=>by rw[w,b] at z;cases z
 refine⟨h.plan.dl e h.deal,hd,h.but.trans e,e _ _ (ne h.f1) h.code,?_,?_,h.f1,h.f2,h.f3,h.n1,h.n2,h.n3,h.dd⟩
 .obtain⟨us,z1,z2⟩:=h.places;exact⟨us,e _ _ (ne h.f2) z1,z2⟩
 .obtain⟨vs,z1,z2⟩:=h.told;exact⟨vs,e _ _ (ne h.f3) z1,z2⟩
theorem Ss.mv{C H J:Hp}{d I U sa:Addr}{sp:List SpM.Span}(h:Ss C H I U sa sp)(e:But d H J)(hd:aO H d)(a:aO C d):Ss C J I U sa sp:=by
 obtain⟨n,o,b⟩:=hd;obtain⟨n0,j,c⟩:=a;obtain⟨g,z1,z2⟩:=h.at_;exact⟨⟨g,e _ _ (fun w=>by have:=h.f;rw[w,c] at this;cases this) z1,z2.mono (fun l i z=>e _ _ (fun w=>by rw[w,b] at z;cases z) z)⟩,h.f,h.n1,h.n2⟩
theorem Bs.sm{x:Pn}{J H o:Hp}{d pl cd C I:Addr}{is:List (Nat × List Int)}(h:Bs K x J H d pl cd C I is)(e:aA H o):Bs K x J o d pl cd C I is:=h.mv e.but (jC e h.deal)
theorem Ss.sm{J H o:Hp}{C I sa:Addr}{sp:List SpM.Span}(h:Ss J H C I sa sp)(e:aA H o):Ss J o C I sa sp:=by
 obtain⟨U,z1,z2⟩:=h.at_;exact⟨⟨U,e _ _ z1,z2.same e⟩,h.f,h.n1,h.n2⟩
theorem Ss.spl{I H:Hp}{o C sa:Addr}{sp:List SpM.Span}(h:Ss I H o C sa sp):SpL K H sa sp:=let ⟨as,z1,z2⟩:=h.at_;⟨as,SqL.of z1,z2⟩
theorem Bs.new{x:Pn}{I H:Hp}{d pl cd J U p:Addr}{is:List (Nat × List Int)}(h:Bs K x I H d pl cd J U is)(C:H p=none):I p=none:=by
 cases e:I p with
 | none=>rfl
 | some o=>
  by_cases z:p=d
  .obtain⟨n,o',h1⟩:=h.deal;rw[z,h1] at C
   cases C
  .have:=h.but _ _ z e;rw[C] at this
   cases this
theorem IH{C H:Hp}{d p:Addr}{o:HO}(J:C p=none)(h:But d C H):But d C (upd H p o):=fun b u I e=>by rw[aq (ak e J)];exact h b u I e
structure Bm (K:Frag) (x:Pn) (H0 H:Hp) (d pl cd lp td sa ia:Addr) (cs:List Int) (us vs:List V) (sh:List SpM.Span) (k:Nat) (ns:List Int):Prop where
 plan:Pl H pl x.pk x.pb x.pm x.ps x.pg
 deal:aO H d
 but:But d H0 H
 code:H cd=some (.lst (cs.map V.int))
 places:H lp=some (.lst us)
 told:H td=some (.lst vs)
 sp:Ss H0 H lp td sa sh
 ia:SqT K H ia (aD k ns)
theorem Bm.sm{x:Pn}{b H I:Hp}{d pl cd C U sa J:Addr}{o:List Int}{us vs:List V}{a:List SpM.Span}{k:Nat}{ns:List Int}(h:Bm K x b H d pl cd C U sa J o us vs a k ns)(e:aA H I):Bm K x b I d pl cd C U sa J o us vs a k ns:=
 ⟨h.plan.mv e,jC e h.deal,h.but.trans e.but,e _ _ h.code,e _ _ h.places,e _ _ h.told,h.sp.sm e,e.tup h.ia⟩
theorem Bm.wlp{x:Pn}{C H:Hp}{d pl cd o I sa a:Addr}{U:List Int}{us us' vs:List V}{c:List SpM.Span}{k:Nat}{ns:List Int}(h:Bm K x C H d pl cd o I sa a U us vs c k ns)(g:aO C d)(f:C o=none)(n1:cd≠o)(n3:o≠I):
  Bm K x C (upd H o (.lst us')) d pl cd o I sa a U us' vs c k ns:=by
 have e:But o H (upd H o (.lst us')):=But.upd;obtain⟨n0,n,b⟩:=g;have i:d≠o:=fun z=>by rw[z,f] at b;cases b
 obtain⟨J,m,j⟩:=h.deal;obtain⟨l,z1,z2⟩:=h.sp.at_;exact⟨h.plan.but e h.places,⟨J,m,by rw[aq i];exact j⟩,IH f h.but,by rw[aq n1];exact h.code,ae,by rw[aq n3.symm];exact h.told,⟨⟨l,by rw[aq h.sp.n1];exact z1,z2.wr h.places⟩,h.sp.f,h.sp.n1,h.sp.n2⟩,e.tup h.places h.ia⟩
theorem Bm.wtd{x:Pn}{C H:Hp}{d pl cd I o sa a:Addr}{U:List Int}{us vs vs':List V}{c:List SpM.Span}{k:Nat}{ns:List Int}(h:Bm K x C H d pl cd I o sa a U us vs c k ns)(g:aO C d)(f:C o=none)(n2:cd≠o)(n3:I≠o):
  Bm K x C (upd H o (.lst vs')) d pl cd I o sa a U us vs' c k ns:=by
 have e:But o H (upd H o (.lst vs')):=But.upd;obtain⟨n0,n,b⟩:=g;have i:d≠o:=fun z=>by rw[z,f] at b;cases b
 obtain⟨J,m,j⟩:=h.deal;obtain⟨l,z1,z2⟩:=h.sp.at_;exact⟨h.plan.but e h.told,⟨J,m,by rw[aq i];exact j⟩,IH f h.but,by rw[aq n2];exact h.code,by rw[aq n3];exact h.places,ae,⟨⟨l,by rw[aq h.sp.n2];exact z1,z2.wr h.told⟩,h.sp.f,h.sp.n1,h.sp.n2⟩,e.tup h.told h.ia⟩
def Wy(x:Pn)(T:Nat)(C:List SpM.Span)(H:Hp)(y:V):Prop:=∃(a:Addr) (o:Nat × List Int),y= .ref a/\H a=some (.tup (aD o.1 o.2))/\aC 8 262144 o.1 o.2/\aK x.pk x.pb x.pg (T:Int) o.1 o.2 C=none/\(o.1=0\/o.1=13\/o.1=15)
theorem Wy.but{x:Pn}{T:Nat}{C:List SpM.Span}{H o:Hp}{y:V}{d:Addr}(e:But d H o)(hd:aO H d)(h:Wy x T C H y):Wy x T C o y:=let ⟨a,kn,h1,h2,h3⟩:=h;⟨a,kn,h1,hd.tup e h2,h3⟩
theorem MK(l:List V){r:Int}(J:0<=r)(I:r<l.length):∃y,y∈l/\atI l r=some y:=by
 have o:r.toNat<l.length:=by lia
 have C:r=((r.toNat:Nat):Int):=by lia
 refine⟨l[r.toNat],O0 o,?_⟩
 have q:atI l ((r.toNat:Nat):Int)=some l[r.toNat]:=aQ (mC o);rw[<- C] at q;exact q
def J3(K:Frag):Sp:=fun a H Q _=>∃(d C:Addr) (x:Pn),a=[.ref d,.ref C]/\aO H d/\Pl H C x.pk x.pb x.pm x.ps x.pg/\x.pm+x.ps<=7/\
 ∀(p cd J U:Addr) (I:List (Nat × List Int)) (b:List V) (o:Hp),eZ x I->Bs K x H o d C cd J U I->o p=some (.tup [.ref cd,.ref J,.ref U])->Q (.ref p) o
def BW(K:Frag)(x:Pn)(T:Nat)(c b:Hp)(d pl I a:Addr)(m:Nat)(Z:St):Prop:=∃(o:List (Nat × List Int)) (cd sa:Addr) (f e J:Option V),m=T - (ao o).length/\okC x (T:Int) 0 w8 o/\(ao o).length<=T/\
 ((ao o).length=T->∃U C,o=U++[C]/\(C.1=0\/C.1=13\/C.1=15))/\Sp8 (dM x 0 w8 o)/\((ao o).length %8≠0->Ss c b I a sa (dM x 0 w8 o))/\Bs K x c b d pl cd I a o/\
 Z=[some (.ref d),some (.ref pl),some (.int (T:Int)),some (.ref cd),some (.ref I),some (.ref a),some (.ref sa),f,e,J]
theorem zr(B:Bi mg)(D:ue K mg)(am:Has P w K mg base 1 "_law_draw" iU g_)(rQ:Has P w K mg base 3 "_law_any" CM IF)
  (aU:Has P w K mg base 1 "whole_span" [] m_) (rF:Has P w K mg base 2 "_law_why" Ck (Kv K)) (kM:Has P w K mg base 1 "_law_mended" CI (G3 K))
  (d_:Has P w K mg base 5 "words_of" cV (J4 K)) (kZ:Has P w K mg base 7 "_law_behind" Cq (KH K)):Has P w K mg base 8 "_law_built" lG (J3 K):=by
 refine D.has aZ (fun vs H Q E h=> ?_) (fun f g9 A gr s H vs Q E hr h=> ?_)
 .obtain⟨d,pl,x,rfl,_⟩:=h
  rfl
 obtain⟨d,pl,x,rfl,hD,cS,f',q⟩:=h;have fa:=cS.at_;have p2:atI [V.int x.pk,V.int x.pb,V.int x.pm,V.int x.ps,V.int x.pg] 2=some (.int x.pm):=aQ (j:=2) rfl;have p3:atI [V.int x.pk,V.int x.pb,V.int x.pm,V.int x.ps,V.int x.pg] 3=some (.int x.ps):=aQ (j:=3) rfl;have fo:xB 8 ((x.pm:Int)+(x.ps:Int)):=⟨by lia,by lia,by decide⟩
 refine⟨_,(aa (psS 2 aZ.nd (aw nB ad (aw aS (pX aj (pv 1) ad) (pX aj (pv 1) ad))))
   (aa (psS 3 aZ.nd (bo dN))
   (aa (psS 4 aZ.nd (bo dN))
   (aa (psS 5 aZ.nd (bo dN))
   (aa (psS 6 aZ.nd (bo dN))
   (aa (aL (kc Oj (pcT fL (aM aG (by rfl) B.len bS (pa1 (pv 3))) (pv 2)) (aa (aL (a_ (ay (pcT aE (aw cW (aM aG (by rfl) B.len bS (pa1 (pv 3))) ad) ad) (af (wc (i:=6) (by rfl) (by rfl) (by rfl) (bk (sc0:=ah jw) (N0:=["_law_deal_here","_law_plan","_law_total","_law_code","_law_places","_law_told","_law_spans","_law_instruction","_law_k","_law_why_here"]) ["_law_k"] 1 []) aZ.nd (by rfl) (by left;rfl) (dt (by rfl) B.range (pa1 ad)) (fun _ _ _ _=>(aR (i:=0) (show List.Nodup (["_law_k"]:List Str) by decide) (by rfl) (by left;rfl))) (fun _ _ _ _=>(dL (aU.mono (by omega)) hr (by rfl))))) al)))
   (aa (psS 7 aZ.nd (pcH rQ hr (pa3 (pv 0) (pv 1) (pv 2))))
   (aa (aL (a_ (ay (pcT aE (aM aG (by rfl) B.len bS (pa1 (pv 3))) (aw cC (pv 2) ad)) (af (psS 7 aZ.nd (pX ba (bo (pa2 (aB (pa1 ax)) (aB (pa2 ax (aw bH ad (pcH am hr (pa2 (pv 0) (aw cE (pv 2) ad)))))))) (pcH am hr (pa2 (pv 0) ad))))) al)))
   (aa (aL (a_ (ay (PW.pt (fZ (pcT aE (pX aj (pv 7) ad) ax) (dH (pcT aE (aw cW (aM aG (by rfl) B.len bS (pa1 (pv 3))) ad) ad)))) (af (psS 7 aZ.nd (aB (pa4 ax (pX aj (pv 7) ad) ad ad)))) al)))
   (aa (eQ Oj (by rfl) (dG (dt (by rfl) B.range (pa1 ad))) (aR (i:=8) aZ.nd (by rfl) (by left;rfl)) (aa (psS 9 aZ.nd (pcH rF hr (pa4 (pv 1) (pv 6) (pv 7) (pv 2))))
   (af (aL (a_ (ay (pY (wq (pv 9))) (af (psS 7 aZ.nd (pcH kM hr (pa2 (pv 7) (pv 9))))) al))))))
   (aa (aL (a_ (ay (PW.pt (fZ (pcT aE (aM aG (by rfl) B.len bS (pa1 (pv 3))) (aw cC (pv 2) ad)) (dH (pcT aE (pX aj (pv 7) ad) ax)))) (af (psS 7 aZ.nd (aB (pa1 ax)))) al)))
   (aa (bP (jk Oq Ov Ow du (pv 4) (pa1 (aM aG (by rfl) B.len bS (pa1 (pv 3))))))
   (aa (bP (jk Oq Ov Ow du (pv 5) (pa1 (bX de (by rfl) B.tuple f8 (pa1 (pv 6))))))
   (aa (psS 3 aZ.nd (aw lE (pv 3) (pcH d_ hr (pa1 (pv 7)))))
   (aa (aL (a_ (ay (pcT fL (aM aG (by rfl) B.len bS (pa1 (pv 5))) (aM aG (by rfl) B.len bS (pa1 (pv 3)))) (af (bP (jk Oq Ov Ow du (pv 5) (pa1 eP)))) al)))
   (af (psS 6 aZ.nd (pcH kZ hr (pa3 (pv 1) (pv 6) (pv 7)))))))))))))))))
   (af (ai (aB (pa3 (pv 3) (pv 4) (pv 5))))))))))),?_⟩
 try dsimp only[aT]
 walk_at"g";obtain⟨T,hT⟩:∃T:Nat,T=8*2^(x.pm+x.ps):=⟨_,rfl⟩;have dV:(8:Int)*2^((x.pm:Int)+(x.ps:Int)).toNat=(T:Int):=by
  rw[hT,Int.natCast_mul,Int.natCast_pow]
  rfl
 have T8:8<=T:=by
  have:1<=2^(x.pm+x.ps):=QG
  lia
 have gu:T<=1024:=by
  have:2^(x.pm+x.ps)<=2^7:=OI (by decide) f'
  lia
 have Tm:T %8=0:=by lia
 replace hT:=az.mk hT
 have dc:=cS;clear fa fo p2 p3 cS;intro cd dm;have c0:H cd=none:=dm;have s1:=ag dm (.lst []);have l1:upd H cd (.lst []) cd=some (.lst []):=ae;generalize upd H cd (.lst [])=H1 at*;walk_at"g";intro L cq;have fv:=s1.free cq;have n1:=ak l1 cq;have s2:=ag cq (.lst []);have l2:upd H1 L (.lst []) L=some (.lst []):=ae;generalize upd H1 L (.lst [])=H2 at*;have l12:=s2 _ _ l1;have S2:=s1.trans s2;walk_at"g";intro u bG;have fu:=S2.free bG;have n2:=ak l12 bG;have n3:=ak l2 bG;have s3:=ag bG (.lst []);have l3:upd H2 u (.lst []) u=some (.lst []):=ae;generalize upd H2 u (.lst [])=H3 at*;have l13:=s3 _ _ l12;have dS:=s3 _ _ l2;have S3:=S2.trans s3;walk_at"g";intro sa dT;have s4:=ag dT (.lst []);generalize upd H3 sa (.lst [])=H4 at*;have S4:=S3.trans s4;walk_at"g";refine⟨fun m Z l=>BW K x T H l d pl L u m Z,⟨T,[],cd,sa,none,none,none,rfl,True.intro,Ou _,(fun z=>by have:0=T:=z;lia),yJ,(fun z=>absurd rfl z),⟨dc.mv S4,jC S4 hD,S4.but,s4 _ _ l13,⟨[],s4 _ _ dS,Ou _⟩,⟨[],s4 _ _ l3,rfl⟩,c0,fv,fu,n1,n2,n3,hD⟩,?_⟩,?_⟩
 .rw[<- dV]
  rfl
 clear s1 s2 s3 s4 l1 l2 l3 l12 l13 dS S2 S3 S4 dm cq bG dT n1 n2 n3 c0 dV;clear H1 H2 H3 H4 sa cd;intro m Z H3 g;refine br fun R C=> ?_
 obtain⟨I,cd,sa,i7,i9,cO,rfl,c',hc,dv,h8,ew,hb,rfl⟩:=g;refine C ?_
 have dh:=hb.code;walk_at"g";refine bc (fun c=> ?_) (fun c=> ?_)
 .have hlt:(ao I).length<T:=by rw[be] at c;lia
  walk_at"n";refine⟨fun Z' l=>az (∃m',m' < T - (ao I).length/\BW K x T H l d pl L u m' Z'),fun Z' l h=>h.out,?_⟩
  obtain⟨J,bT⟩:∃J,J=aJ (ao I).length (dM x 0 w8 I):=⟨_,rfl⟩;have fl:Sp8 J:=by rw[bT];exact gU h8
  clear c;walk_at"n";refine⟨fun Z' l=>az (∃eF:Addr,Ss H l L u eF J/\Bs K x H l d pl cd L u I/\Z'=[some (.ref d),some (.ref pl),some (.int (T:Int)),some (.ref cd),some (.ref L),some (.ref u),some (.ref eF),i7,i9,cO]),?_,?_⟩
  .walk_at"g";refine bc (fun c8=> ?_) (fun c8=> ?_)
   .have e8:J=w8:=by
     rw[bT];exact NV (by have h:(((((ao I).map V.int).length:Nat):Int)) %8=0:=V.int.inj c8;rw[be] at h;lia)
    clear c8;walk_at"g";intro pc bM;refine jL (fun i ys l=>az (i<=8/\∃bs:List Addr,ys=bs.map V.ref/\SpA l bs (List.replicate i SpM.whole)/\l pc=some (.lst ys)/\aA H3 l)) ⟨Ou _,[],rfl,True.intro,ae,ag bM _⟩ ?_ ?_
    .intro i ys H2 F hF hi g;refine br fun R C=> ?_
     obtain⟨hk,bs,rfl,cc,l2,s2⟩:=g;refine C ?_
     have hh:i<8:=by simpa using hi
     refine⟨Wk.none Wk.refl,?_⟩
     walk_at"g";intro p3 H4 s3 t3;have l3:=s3 _ _ l2;refine⟨l3,?_,hF _ _ ⟨by lia,bs++[p3],by simp,?_,ae,cf bM (s2.trans s3)⟩⟩
     .rw[be,cc.len,OA];exact Of (show i<=100 by lia) (by decide)
     .rw[PP];exact SpA.app (show SpA _ [p3] [SpM.whole] from⟨by show upd H4 pc _ p3=_;rw[aq (fun z=>by have d9:H4 p3=_:=t3;rw[z,l3] at d9;cases d9)];exact t3,True.intro⟩) ((cc.same s3).wr l3)
    intro ys H4 g;refine br fun R C=> ?_
    obtain⟨_,bs,rfl,cc,l4,s4⟩:=g;refine C ?_
    refine br fun R C=> ?_
    obtain⟨us,z1,_⟩:=hb.places;refine C ?_
    refine br fun R C=> ?_
    obtain⟨vs,z2,_⟩:=hb.told;refine C ?_
    exact az.mk ⟨pc,⟨⟨bs,l4,by rw[e8];exact cc⟩,hb.new bM,(ak z1 bM).symm,(ak z2 bM).symm⟩,hb.sm s4,rfl⟩
   .have c8':(ao I).length %8≠0:=fun z=>c8 (by rw[be];show V.int ((((ao I).length:Nat):Int) %8)=V.int 0;rw[show(((ao I).length:Nat):Int) %8=0 by lia])
    have e8:J=dM x 0 w8 I:=by rw[bT];exact fI c8'
    exact az.mk ⟨sa,by rw[e8];exact ew c8',hb,rfl⟩
  clear hb dh ew;intro Z4 H4 g;refine br fun R C=> ?_
  obtain⟨M,ea,b4,rfl⟩:=g;refine C ?_
  have d':=b4.deal;have e4:=b4.plan;walk_at"g";intro ia kn H5 hv bp ej g5;have b5:=b4.mv g5 ej;have cz:=ea.mv g5 d' hD;clear d' e4 g5 ea b4;have dp:=b5.code;walk_at"g"
  refine⟨fun Z' l=>az (∃(W:Addr) (U:Nat × List Int),aC 8 262144 U.1 U.2/\l W=some (.tup (aD U.1 U.2))/\((ao I).length+1=T->aK x.pk x.pb x.pg (T:Int) U.1 U.2 J=none/\(U.1=0\/U.1=13\/U.1=15))/\Bs K x H l d pl cd L u I/\Ss H l L u M J/\
   Z'=[some (.ref d),some (.ref pl),some (.int (T:Int)),some (.ref cd),some (.ref L),some (.ref u),some (.ref M),some (.ref W),i9,cO]),?_,?_⟩
  .walk_at"g";refine bc (fun cl=> ?_) (fun cl=> ?_)
   .walk_at"g";intro S ec;have s7:=ag ec (.tup [.str "stop"]);have dJ:upd H5 S (.tup [.str "stop"]) S=some (.tup (aD 0 [])):=ae;generalize upd H5 S (.tup [.str "stop"])=H7 at*;have b7:=b5.sm s7;have b':=cz.sm s7;have gs:tJ (T:Int) 8:=⟨by lia,by decide⟩
    have ez:(0:Int)<(T:Int) / 8:=by lia
    have d2:(T:Int) / 8<=2^100:=by lia
    walk_at"g";refine⟨b7.deal,ez,d2,?_⟩
    clear ez d2;intro r H8 r0 r1 eT g8;have g4:wY 8 r:= .inl ⟨by decide,by decide⟩
    have b8:=b7.mv g8 eT;have ab:=b'.mv g8 b7.deal hD;have dX:=b7.deal.tup g8 dJ;have f7:aC 8 262144 13 [8*r]:= .inr (.inr (.inr (.inr (.inl ⟨.inl rfl,_,rfl,by lia,by lia⟩))))
    have fS:aK x.pk x.pb x.pg (T:Int) 13 [8*r] J=none:=by
     unfold aK;have e:tgt 13 [8*r]=8*r:=rfl;rw[fI (fun z=>by have:=z.1;unfold mk8 at this;lia),fI (by lia),fI (fun z=>by have:=z.2;rw[e] at this;lia),fI (by lia),fI (by lia)]
    have rH:az (r<(T:Int) / 8):=az.mk r1;clear r1;walk_at"g";intro pj fX;have s9:=ag fX (.tup [.str "jump",.int (8*r)]);have e6:upd H8 pj (.tup [.str "jump",.int (8*r)]) pj=some (.tup (aD 13 [8*r])):=ae;generalize upd H8 pj (.tup [.str "jump",.int (8*r)])=H9 at*;have eg:=s9 _ _ dX;walk_at"g";intro bL ct;have aH:=ag ct (.lst [.ref S,.ref pj]);have l10:upd H9 bL (.lst [.ref S,.ref pj]) bL=some (.lst [.ref S,.ref pj]):=ae;have dr:∀y∈[V.ref S,V.ref pj],Wy x T J (upd H9 bL (.lst [.ref S,.ref pj])) y:=by
     intro y hy
     simp only[Od,Oy,O7] at hy
     rcases hy with rfl | rfl
     .exact⟨S,(0,[]),rfl,aH _ _ eg,.inl ⟨rfl,rfl⟩,gB (fun z=>by have:=z.1;unfold mk8 at this;lia) ⟨by decide,by decide⟩ (fun z=>by lia) (by decide) (by decide),.inl rfl⟩
     .exact⟨pj,(13,[8*r]),rfl,aH _ _ e6,f7,fS,.inr (.inl rfl)⟩
    have cb:=b8.sm (s9.trans aH);have el:=ab.sm (s9.trans aH);have nw:bL≠d:=(ak (show H9 d=some _ from(b8.sm s9).deal.choose_spec.choose_spec) ct).symm;generalize upd H9 bL (.lst [.ref S,.ref pj])=d4 at*;have gJ:=cb.deal;walk_at"g";intro r2 eX fO ep ee cg;refine br fun R C=> ?_
    obtain⟨y,hy,ey⟩:=MK [V.ref S,V.ref pj] fO ep;refine C ?_
    refine br fun R C=> ?_
    obtain⟨fW,d5,rfl,eh,dA,d0,ei⟩:=(dr y hy).but cg cb.deal;refine C ?_
    have l12:=cg _ _ nw l10;clear ep;walk_at"g";exact az.mk ⟨fW,d5,dA,eh,(fun _=>⟨d0,ei⟩),cb.mv cg ee,el.mv cg cb.deal hD,rfl⟩
   .exact az.mk ⟨ia,kn,hv,bp,(fun z=>absurd (show V.int _=V.int _ by rw[be];congr 1;lia) cl),b5,cz,rfl⟩
  clear b5 cz hv bp ej dp;intro Z6 H6 g;refine br fun R C=> ?_
  obtain⟨dP,fe,bl,a',bF,b6,bY,rfl⟩:=g;refine C ?_
  walk_at"n"
  refine⟨fun Z' l=>az (∃(W:Addr) (U:Nat × List Int),aC 8 262144 U.1 U.2/\SqT K l W (aD U.1 U.2)/\((ao I).length+1=T->aK x.pk x.pb x.pg (T:Int) U.1 U.2 J=none/\(U.1=0\/U.1=13\/U.1=15))/\((ao I).length %8=7->U.1≠1)/\Bs K x H l d pl cd L u I/\Ss H l L u M J/\
   Z'=[some (.ref d),some (.ref pl),some (.int (T:Int)),some (.ref cd),some (.ref L),some (.ref u),some (.ref M),some (.ref W),i9,cO]),?_,?_⟩
  .refine br fun R C=> ?_
   obtain⟨k6,cH⟩:=fe;refine C ?_
   dsimp only at bl a' bF;have i0:atI (aD k6 cH) 0=some (.str (aN k6)):=jx;have e7:=b6.code;have a6:=bl.lt
   by_cases k1:k6=1
   .subst k1;obtain⟨a,v,rfl,a0,a1⟩:∃a v,cH=[a,v]/\0<=a/\a<8:=by
     refine br fun R C=> ?_
     obtain⟨a,v,e_,a0,a1,_⟩:=aC.put bl rfl;refine C ?_
     exact⟨a,v,e_,a0,a1⟩
    have i1:atI (aD 1 [a,v]) 1=some (.int a):=lP;walk_at"g";walk_at"wd";refine bc (fun c7=> ?_) (fun c7=> ?_)
    .walk_at"g";intro pm cQ;have sm:=ag cQ (.tup [.str "more",.int a,.int 7,.int 1]);have lm:SqT K (upd H6 pm (.tup [.str "more",.int a,.int 7,.int 1])) pm (aD 10 [a,7,1]):=SqT.of ae;exact az.mk ⟨pm,(10,[a,7,1]),.inr (.inr (.inr (.inl ⟨(by show 10<=10;decide),(by show 10<=12;decide),_,_,_,rfl,a0,a1,by decide,by decide,by decide,by decide⟩))),lm,(fun z=>by have:=(bF z).2;lia),(fun _=>by show 10≠1;decide),b6.sm sm,bY.sm sm,rfl⟩
    .exact az.mk ⟨dP,(1,[a,v]),bl,SqT.of a',bF,(fun z=>absurd (show V.int ((((((ao I).map V.int).length:Nat):Int)) %8)=V.int 7 by rw[be];congr 1;lia) c7),b6,bY,rfl⟩
   .walk_at"g";refine bN (sne a6 (j:=1) (by decide) k1) ?_
    exact az.mk ⟨dP,(k6,cH),bl,SqT.of a',bF,(fun _=>k1),b6,bY,rfl⟩
  clear b6 bY bl a' bF;intro Z7 H7 g;refine br fun R C=> ?_
  obtain⟨fU,b,cm,cv,eb,dC,b7,b',rfl⟩:=g;refine C ?_
  walk_at"g"
  refine⟨h_ (fun i Z' l=>az (i<=2/\∃(W:Addr) (fc d3:Option V),SqT K l W (aD (gc x (T:Int) J b i).1 (gc x (T:Int) J b i).2)/\Bs K x H l d pl cd L u I/\Ss H l L u M J/\
   Z'=[some (.ref d),some (.ref pl),some (.int (T:Int)),some (.ref cd),some (.ref L),some (.ref u),some (.ref M),some (.ref W),fc,d3])) ⟨Ou _,fU,_,_,cv,b7,b',rfl⟩ ?_ ?_⟩
  .intro i Z8 H8 hi g;refine br fun R C=> ?_
   obtain⟨_,bC,cZ,bx,au,b8,ab,rfl⟩:=g;refine C ?_
   have hl:i<2:=by simpa using hi
   have aY:=oy (x:=x) (c:=(T:Int)) (sp:=J) cm i;have e1:gc x (T:Int) J b (i+1)=gK (gc x (T:Int) J b i).1 (gc x (T:Int) J b i).2 (aK x.pk x.pb x.pg (T:Int) (gc x (T:Int) J b i).1 (gc x (T:Int) J b i).2 J):=rfl;rw[e1];generalize gc x (T:Int) J b i=dn at*;refine br fun R C=> ?_
   obtain⟨k8,bu⟩:=dn;refine C ?_
   dsimp only at aY au;have gT:=b8.plan;have gv:SpL K H8 M J:=ab.spl;walk_at"g";intro H9 s9;have eH:=s9.tup au;have b9:=b8.sm s9;have bw:=ab.sm s9;walk_at"n";refine⟨_,?_,fun Z' l h=>h⟩
   cases ef:aK x.pk x.pb x.pg (T:Int) k8 bu J with
   | none=>
    walk_at"g";exact az.mk ⟨by lia,bC,_,_,eH,b9,bw,rfl⟩
   | some wy=>
    walk_at"g";intro e' bV aH ek;exact az.mk ⟨by lia,e',_,_,ek,b9.sm aH,bw.sm aH,rfl⟩
  clear b7 b' cv;intro Z8 H8 g;refine br fun R C=> ?_
  obtain⟨_,bC,cZ,bx,au,b8,ab,rfl⟩:=g;refine C ?_
  have e2:gc x (T:Int) J b 2=dY x (T:Int) J (dY x (T:Int) J b):=rfl;have aY:=oy (x:=x) (c:=(T:Int)) (sp:=J) cm 2;have Y:SqT K H8 bC (aD (gc x (T:Int) J b 2).1 (gc x (T:Int) J b 2).2):=au;have cp:aK x.pk x.pb x.pg (T:Int) (gc x (T:Int) J b 2).1 (gc x (T:Int) J b 2).2 J=none:=by rw[e2];exact He (by lia) cm
  have c9:(ao I).length+1=T->((gc x (T:Int) J b 2).1=0\/(gc x (T:Int) J b 2).1=13\/(gc x (T:Int) J b 2).1=15):=fun z=>by
   refine br fun R C=> ?_
   obtain⟨z1,z2⟩:=eb z;refine C ?_
   rw[e2,xI z1,xI z1];exact z2
  have c6:(ao I).length %8=7->(gc x (T:Int) J b 2).1≠1:=fun z w=>by
   rw[e2] at w;exact dC z (zu (zu w))
  clear au e2 eb dC cm;generalize gc x (T:Int) J b 2=dn at*;clear b;refine br fun R C=> ?_
  obtain⟨k8,bu⟩:=dn;refine C ?_
  dsimp only at aY Y cp c9 c6;walk_at"n"
  refine⟨fun Z' l=>az (∃(W:Addr) (k:Nat) (O:List Int),aC 8 262144 k O/\SqT K l W (aD k O)/\aK x.pk x.pb x.pg (T:Int) k O J=none/\(ao I).length %8+a8 k<=8/\(ao I).length+a8 k<=T/\((ao I).length+a8 k=T->(k=0\/k=13\/k=15))/\Bs K x H l d pl cd L u I/\Ss H l L u M J/\
   Z'=[some (.ref d),some (.ref pl),some (.int (T:Int)),some (.ref cd),some (.ref L),some (.ref u),some (.ref M),some (.ref W),cZ,bx]),?_,?_⟩
  .have i0:atI (aD k8 bu) 0=some (.str (aN k8)):=jx;have fm:=b8.code;have a6:=aY.lt;walk_at"g";refine bc (fun c2=> ?_) (fun c2=> ?_)
   .have hl2:(ao I).length+2=T:=by
     have h:(((((ao I).map V.int).length:Nat):Int))=(T:Int) - 2:=V.int.inj c2;rw[be] at h
     lia
    by_cases k1:k8=1
    .subst k1;walk_at"g";walk_at"wd";intro pm cQ;have sm:=ag cQ (.tup [.str "stop"]);have lm:SqT K (upd H8 pm (.tup [.str "stop"])) pm (aD 0 []):=SqT.of ae;have e1:a8 0=1:=rfl;exact az.mk ⟨pm,0,[],.inl ⟨rfl,rfl⟩,lm,gB (fun z=>by have:=z.1;unfold mk8 at this;lia) ⟨by decide,by decide⟩ (fun z=>by lia) (by decide) (by decide),by lia,by lia,(fun z=> .inl rfl),b8.sm sm,ab.sm sm,rfl⟩
    .have e1:a8 k8=1:=fI k1;walk_at"g";refine bN (sne a6 (j:=1) (by decide) k1) ?_
     exact az.mk ⟨bC,k8,bu,aY,Y,cp,by lia,by lia,(fun z=>by lia),b8,ab,rfl⟩
   .have hl2:(ao I).length+2≠T:=fun z=>c2 (show V.int (((((ao I).map V.int).length:Nat):Int))=V.int ((T:Int) - 2) by rw[be];congr 1;lia)
    have e1:a8 k8<=2/\(k8≠1->a8 k8=1):=by
     unfold a8
     split <;> lia
    have e3:(ao I).length %8=7->a8 k8=1:=fun z=>e1.2 (c6 z)
    exact az.mk ⟨bC,k8,bu,aY,Y,cp,by lia,by lia,(fun z=>c9 (by lia)),b8,ab,rfl⟩
  clear b8 ab Y aY cp c9 c6;intro Z9 H9 g;refine br fun R C=> ?_
  obtain⟨ia,k,O,hv,bp,hf,fi,gW,eU,b9,bw,rfl⟩:=g;refine C ?_
  refine br fun R C=> ?_
  obtain⟨us,l9,ha⟩:=b9.places;refine C ?_
  refine br fun R C=> ?_
  obtain⟨vs,t9,fx⟩:=b9.told;refine C ?_
  have m9:Bm K x H H9 d pl cd L u M ia (ao I) us vs J k O:=⟨b9.plan,b9.deal,b9.but,b9.code,l9,t9,bw,bp⟩;have f1:=b9.f1;have f2:=b9.f2;have f3:=b9.f3;have n1:=b9.n1;have n2:=b9.n2;have n3:=b9.n3;clear b9 bw bp t9;have eI:tyV K "list" (.ref L) H9:= .inl ⟨rfl,_,SqL.of l9⟩;have gL:us.length<sizeLine:=Of (show us.length<=1024 by lia) (by decide)
  have dq:=m9.code;walk_at"g";have bW:=m9.wlp (us':=us++[V.int ((((ao I).map V.int).length:Nat):Int)]) hD f2 n1 n3;clear m9 dq eI l9;have gz:(us++[V.int ((((ao I).map V.int).length:Nat):Int)]).length<=(ao I).length+1:=by rw[NT];simp only[N6,OM];lia
  generalize us++[V.int ((((ao I).map V.int).length:Nat):Int)]=b1 at*;generalize upd H9 L (.lst b1)=bV at*;have l10:=bW.told;have dz:tyV K "list" (.ref u) bV:= .inl ⟨rfl,_,SqL.of l10⟩;refine br fun R C=> ?_
  obtain⟨as,es,da⟩:=bW.sp.at_;refine C ?_
  walk_at"g";intro tp e0;have gb:=ag e0 (.tup (as.map V.ref));have hg:upd bV tp (.tup (as.map V.ref)) tp=some (.tup (as.map V.ref)):=ae;have dy:=bW.sm gb;generalize upd bV tp (.tup (as.map V.ref))=d4 at*;clear bW es da dz l10;have l11:=dy.told;have eS:vs.length<sizeLine:=Of (show vs.length<=1024 by lia) (by decide)
  have dx:=dy.wtd (vs':=vs++[.ref tp]) hD f3 n2 n3;clear dy;have a7:(vs++[V.ref tp]).length=(ao I).length+1:=by rw[NT,fx];rfl
  have eB:=dx.ia;have a6:=hv.lt;have g6:k=1->2<=O.length:=fun z=>by
   refine br fun R C=> ?_
   obtain⟨a,v,e_,_⟩:=aC.put hv z;refine C ?_
   rw[e_];exact NW 2
  walk_at"g";clear l11;generalize vs++[V.ref tp]=bA at*;generalize upd d4 u (.lst bA)=eX at*;intro pw dK eW lw er;have aP:=dx.sm er;have b0:=aP.code;have ed:((ao I).map V.int).length+((c_ k O).map V.int).length<=sizeLine:=Oc (show _<=1100 by rw[be,be,gp];lia) (by decide)
  clear dx eB;walk_at"g";intro N X;have eu:(ao I).map V.int++(c_ k O).map V.int=(ao (I++[(k,O)])).map V.int:=by rw[xy,NZ]
  rw[eu];have d7:=ag X (.lst ((ao (I++[(k,O)])).map V.int));have fy:upd dK N (.lst ((ao (I++[(k,O)])).map V.int)) N=some (.lst ((ao (I++[(k,O)])).map V.int)):=ae;have ar:=aP.sm d7;have et:H N=none:=by
   cases e:H N with
   | none=>rfl
   | some o=>
    by_cases z:N=d
    .refine br fun R C=> ?_
     obtain⟨n,o',h1⟩:=aP.deal;refine C ?_
     rw[z,h1] at X
     cases X
    .have:=aP.but _ _ z e;rw[X] at this
     cases this
  have ft:N≠L:=(ak aP.places X).symm;have d1:N≠u:=(ak aP.told X).symm;generalize upd dK N (.lst ((ao (I++[(k,O)])).map V.int))=d8 at*;have G:Bm K x H d8 d pl N L u M ia (ao (I++[(k,O)])) b1 bA J k O:=⟨ar.plan,ar.deal,ar.but,fy,ar.places,ar.told,ar.sp,ar.ia⟩;clear ar aP b0 er d7 lw eW X eu ed;have bb:(ao (I++[(k,O)])).length=(ao I).length+a8 k:=by rw[xy,NT,gp]
  walk_at"n";refine⟨fun Z' l=>az (∃b2:List V,Bm K x H l d pl N L u M ia (ao (I++[(k,O)])) b1 b2 J k O/\b2.length=(ao (I++[(k,O)])).length/\Z'=[some (.ref d),some (.ref pl),some (.int (T:Int)),some (.ref N),some (.ref L),some (.ref u),some (.ref M),some (.ref ia),cZ,bx]),?_,?_⟩
  .have l15:=G.told;have eK:=G.code;have fB:tyV K "list" (.ref u) d8:= .inl ⟨rfl,_,SqL.of l15⟩;have fw:bA.length<sizeLine:=Of (show bA.length<=1100 by lia) (by decide)
   walk_at"g";refine bc (fun cl=> ?_) (fun cl=> ?_)
   .have k1:k=1:=by
     rw[be,bb,a7] at cl;unfold a8 at cl
     split at cl
     .assumption
     .lia
    have e2:a8 k=2:=NV k1;walk_at"g";exact az.mk ⟨_,G.wtd (vs':=bA++[.non]) hD f3 d1 n3,by rw[NT,a7,bb,e2];rfl,rfl⟩
   .have k1:k≠1:=fun z=>cl (by rw[be,bb,a7,z];show(((ao I).length+1:Nat):Int)<(((ao I).length+2:Nat):Int);lia)
    have e2:a8 k=1:=fI k1;exact az.mk ⟨_,G,by rw[a7,bb,e2],rfl⟩
  clear G;intro g' eR g;refine br fun R C=> ?_
  obtain⟨b2,G,e5,rfl⟩:=g;refine C ?_
  have gF:=G.plan;have gE:=G.ia;have eN:SpL K eR M J:=G.sp.spl;walk_at"g";intro sb fb hj eL bt fF fp;have bh:=G.sm eL;have gi:H sb=none:=by
   cases e:H sb with
   | none=>rfl
   | some o=>
    by_cases z:sb=d
    .refine br fun R C=> ?_
     obtain⟨n,o',h1⟩:=G.deal;refine C ?_
     rw[z,h1] at bt
     cases bt
    .have:=G.but _ _ z e;rw[bt] at this
     cases this
  have eG:dM x 0 w8 (I++[(k,O)])=ck x.pk x.pb x.pm x.ps k O J:=by rw[DX,OU, <-bT]
  have g7:1<=a8 k:=by unfold a8;split <;> lia
  refine az.mk ⟨T - (ao (I++[(k,O)])).length,by lia,I++[(k,O)],N,sb,_,_,_,rfl,FC c' hv (by rw[OU];exact fi) (by rw[OU, <-bT];exact hf),by lia,(fun z=>⟨I,(k,O),rfl,eU (by lia)⟩),by rw[eG];exact se dc.room dc.ms hv fl,(fun _=> ?_),?_,rfl⟩
  .rw[eG];exact⟨⟨fb,fF,fp⟩,gi,(ak G.places bt).symm,(ak G.told bt).symm⟩
  .exact⟨bh.plan,bh.deal,bh.but,bh.code,⟨b1,bh.places,by lia⟩,⟨b2,bh.told,e5⟩,et,f2,f3,ft,d1,n3,hD⟩
 .have hlT:(ao I).length=T:=by rw[be] at c;lia
  walk_at"g";intro p hp;have sp:=ag hp (.tup [.ref cd,.ref L,.ref u]);refine q p cd L u I [] _ ⟨by rw[hlT,hT.out],by rw[hlT];exact c',dv hlT,xW c'⟩ (hb.sm sp) ae
theorem sG{o k:Nat}{g:Int}{ns:List Int}(v:aC 6 262144 k ns)(C:k≠16)(I:k≠17)(a:k=13->ns.getD 0 0<o)(U:k=14->ns.getD 1 0<o)(J:k=18->ns.getD 0 0<g):GI o g (k,ns):=⟨v,⟨C,I⟩,a,U,J⟩
theorem aO.sq{H C:Hp}{d a:Addr}{xs:List V}(h:aO H d)(b:But d H C)(e:SqT K H a xs):SqT K C a xs:=by
 obtain⟨n,o,I⟩:=h;exact b.tup I e
def Fk:Sp:=fun U H Q _=>∃(d rm:Addr) (I:Nat) (J:Int) (C:Nat),U=[.ref d,.ref rm,.int C]/\aO H d/\H rm=some (.tup [.int I,.int J])/\I<=20/\0<C/\C<=16/\∀(v:Int) o,0<=v->v<4294967296->aO o d->But d H o->Q (.int v) o
theorem zn(B:Bi mg)(D:tj K mg)(j:Has P w K mg base 1 "_law_draw" iU g_):Has P w K mg base 2 "_law_handy" ["_law_deal_here","_law_room","_law_blocks_here"] Fk:=by
 refine D.has qH (fun z H Q E h=> ?_) (fun f r A c s H z Q E m h=> ?_)
 .obtain⟨d,rm,g,O,L,rfl,_⟩:=h
  rfl
 obtain⟨d,rm,g,O,L,rfl,y,p,N,n0,n1,q⟩:=h
 refine⟨_,((aa (psS 3 qH.nd (pcH j m (pa2 (pv 0) ad)))
   (aa (ay (pcT aE (pv 3) ad) (af (ai (pcH j m (pa2 (pv 0) (bU (v:=4294967296) (by rfl)))))) al)
   (aa (ay (pcT fL (pv 3) ad) (af (ai (pcH j m (pa2 (pv 0) (pv 2))))) al)
   (aa (ay (pcT aE (pv 3) ad) (af (ai (pcH j m (pa2 (pv 0) ad)))) al)
   (af (ai (aw cW (aw aS (pX aj (pv 1) ad) (pcH j m (pa2 (pv 0) (aw nB ad (pX aj (pv 1) ad))))) (bU (v:=4294967296) (by rfl))))))))):PSs (i6 CX0 P w K mg base ["_law_deal_here","_law_room","_law_blocks_here","_law_form"] "_law_handy" (ah jB) f r A c s H E).nox (_::_) _),?_⟩
 try dsimp only[aT]
 walk_at"g";intro f1 R F M C l;have x:=y.tup l p;walk_at"g";refine bc (fun c5=> ?_) (fun c5=> ?_)
 .walk_at"g";intro w J i n o U;exact q _ J i n o (l.trans U)
 walk_at"g";refine bc (fun c0=> ?_) (fun c0=> ?_)
 .have a:=az.mk C;clear C;have e:=az.mk (And.intro n0 n1);clear n0 n1;walk_at"g";refine⟨a.out,by have:=e.out;lia,by have:=e.out;lia,?_⟩
  intro w J i n o U;exact q _ J i (by have:=e.out;lia) o (l.trans U)
 walk_at"g";refine bc (fun c1=> ?_) (fun c1=> ?_)
 .walk_at"g";intro w J i n o U;exact q _ J i (by lia) o (l.trans U)
 have u:(1:Int)*2^((g:Int)).toNat=2^g:=by rw[PM,Os]
 have b:(2:Int)^g<=2^20:=SpM.ple N;have I:=SpM.pp g;rw[<- u] at b I;have G:xB 1 (g:Int):=⟨by lia,by lia,by decide⟩
 have a:=az.mk C;have e:=az.mk (And.intro b I);clear C n0 n1 b I;walk_at"g";refine⟨a.out,e.out.2,by have:=e.out.1;lia,?_⟩
 intro w J i n o U;walk_at"g";exact q _ J (by lia) (by lia) o (l.trans U)
def Dv:Sp:=fun C H Q _=>∃d:Addr,C=[.ref d]/\aO H d/\∀(v:Int) o, -131072<=v->v<131072->aO o d->But d H o->Q (.int v) o
theorem A6(B:Bi mg)(D:vf K mg)(C:Has P w K mg base 1 "_law_draw" iU g_):Has P w K mg base 2 "_law_near" qL Dv:=by
 refine D.has tP (fun g H Q E h=> ?_) (fun f i A c s H g Q E a h=> ?_)
 .obtain⟨d,rfl,_⟩:=h
  rfl
 obtain⟨d,rfl,p,q⟩:=h
 refine⟨_,(aa (psS 1 tP.nd (pcH C a (pa2 (pv 0) ad)))
   (aa (ay (pcT aE (pv 1) ad) (af (ai (aw cC (pcH C a (pa2 (pv 0) (bU (v:=262144) (by rfl)))) (bU (v:=131072) (by rfl))))) al)
   (aa (ay (pcT fL (pv 1) ad) (af (ai (aw cC (pcH C a (pa2 (pv 0) ad)) ad))) al)
   (af (ai ad))))),?_⟩
 try dsimp only[aT]
 walk_at"g";intro f1 e j n b I;walk_at"g";refine bc (fun c0=> ?_) (fun c0=> ?_)
 .walk_at"g";intro w J l m o U;walk_at"g";exact q _ J (by lia) (by lia) o (I.trans U)
 walk_at"g";refine bc (fun c0=> ?_) (fun c0=> ?_)
 .walk_at"g";intro w J l m o U;walk_at"g";exact q _ J (by lia) (by lia) o (I.trans U)
 .walk_at"g";exact q _ e (by lia) (by lia) b I
def FY:Sp:=fun J H Q _=>∃(d:Addr) (C:Nat),J=[.ref d,.int C]/\aO H d/\0<C/\C<=16/\∀p (I:Ins) o,(∀g,GI C g I)->hG I.1->o p=some (.tup (aD I.1 I.2))->aO o d->But d H o->Q (.ref p) o
theorem zk(B:Bi mg)(D:sK K mg)(a:Has P w K mg base 1 "_law_draw" iU g_):Has P w K mg base 2 "_law_ender" ["_law_deal_here","_law_blocks_here"] FY:=by
 refine D.has qS (fun r H Q E h=> ?_) (fun f u A m s H r Q E j h=> ?_)
 .obtain⟨d,n,rfl,_⟩:=h
  rfl
 obtain⟨d,n,rfl,L,n0,n1,q⟩:=h
 refine⟨_,(aa (psS 2 qS.nd (pcH a j (pa2 (pv 0) ad)))
   (aa (ay (pcT fL (pv 2) ad) (af (ai (aB (pa2 ax (pcH a j (pa2 (pv 0) (pv 1))))))) al)
   (aa (ay (pcT aE (pv 2) ad) (af (ai (aB (pa2 ax (pcH a j (pa2 (pv 0) ad)))))) al)
   (af (ai (aB (pa1 ax))))))),?_⟩
 try dsimp only[aT]
 walk_at"g";intro f1 G v y I c;walk_at"g";refine bc (fun c0=> ?_) (fun c0=> ?_)
 .have hDH:=az.mk I;clear I;have U:=az.mk (And.intro n0 n1);clear n0 n1;walk_at"g";refine⟨hDH.out,by have:=U.out;lia,by have:=U.out;lia,?_⟩
  intro z x b J C i;have l:=az.mk J;clear J;walk_at"g";intro p o;have F:=U.out.2;have z1:=l.out;exact q p (13,[z]) _ (fun g=>sG (.inr (.inr (.inr (.inr (.inl ⟨.inl rfl,z,rfl,b,by lia⟩))))) (by decide) (by decide) (fun _=>by show z<n;lia) (fun e=>absurd e (by decide)) (fun e=>absurd e (by decide))) (.inr (.inl rfl)) ae (C.up o) (bI o (c.trans i))
 walk_at"g";refine bc (fun c1=> ?_) (fun c1=> ?_)
 .walk_at"g";intro z x b J C i;walk_at"g";intro p o;exact q p (15,[z]) _ (fun g=>sG (.inr (.inr (.inr (.inr (.inr (.inr (.inl ⟨rfl,z,rfl,b,J⟩))))))) (by decide) (by decide) (fun e=>absurd e (by decide)) (fun e=>absurd e (by decide)) (fun e=>absurd e (by decide))) (.inr (.inr rfl)) ae (C.up o) (bI o (c.trans i))
 .walk_at"g";intro p o;exact q p (0,[]) _ (fun g=>sG (.inl ⟨rfl,rfl⟩) (by decide) (by decide) (fun e=>absurd e (by decide)) (fun e=>absurd e (by decide)) (fun e=>absurd e (by decide))) (.inl rfl) ae (I.up o) (bI o c)
noncomputable abbrev tb1:List V:=[.str "put",.str "put",.str "add",.str "sub",.str "and",.str "or",.str "xor",.str "less",.str "left",.str "right",.str "more",.str "more",.str "load",.str "load"]
noncomputable abbrev tb2:List V:=[.str "load",.str "store",.str "store",.str "store",.str "jumpif",.str "gate"]
noncomputable def tbK:List Nat:=[1,1,2,3,4,5,6,7,8,9,10,10,11,11,11,12,12,12,14,18]
theorem M6{r:Int}(U:0<=r)(J:r<20):∃k,((1<=k/\k<=12)\/k=14\/k=18)/\atI (tb1++tb2) r=some (.str (aN k)):=by
 have I:r.toNat<20:=by lia
 have C:r=((r.toNat:Nat):Int):=by lia
 have h:∀j,j<20->((1<=tbK.getD j 0/\tbK.getD j 0<=12)\/tbK.getD j 0=14\/tbK.getD j 0=18)/\(tb1++tb2)[j]? =some (.str (aN (tbK.getD j 0))):=by decide +kernel
 obtain⟨o,e⟩:=h _ I;refine⟨_,o,?_⟩
 have q:=aQ e;rw[<- C] at q;exact q
def FN:Sp:=fun b H Q _=>∃(d rm:Addr) (U:Nat) (a:Int) (I:Nat) (o:Int),b=[.ref d,.ref rm,.int I,.int o]/\aO H d/\H rm=some (.tup [.int U,.int a])/\U<=20/\0<I/\I<=16/\0<=o/\o<=16/\∀p (J:Ins) C,GI I o J->¬hG J.1->C p=some (.tup (aD J.1 J.2))->aO C d->But d H C->Q (.ref p) C
theorem q_(B:Bi mg)(D:kG K mg)(l:Has P w K mg base 1 "_law_draw" iU g_)(mG:Has P w K mg base 2 "_law_handy" ["_law_deal_here","_law_room","_law_blocks_here"] Fk)(oV:Has P w K mg base 2 "_law_near" qL Dv):
  Has P w K mg base 3 "_law_guests_own" ["_law_deal_here","_law_room","_law_blocks_here","_law_gates"] FN:=by
 refine D.has cn (fun vs H Q E h=> ?_) (fun f bl A T s H vs Q E b h=> ?_)
 .obtain⟨d,rm,rk,rb,nb,gt,rfl,_⟩:=h
  rfl
 obtain⟨d,rm,rk,rb,nb,gt,rfl,hD,bh,bw,n0,n1,t0,t1,q⟩:=h;have X:=az.mk (And.intro n0 n1);have tH:=az.mk (And.intro t0 t1);clear n0 n1 t0 t1
 refine⟨_,((aa (psS 4 cn.nd (bo (bD (by rfl))))
   (aa (psS 4 cn.nd (aw lE (pv 4) (bo (bD (by rfl)))))
   (aa (psS 5 cn.nd (pX ba (pv 4) (pcH l b (pa2 (pv 0) ad))))
   (aa (psS 6 cn.nd (pcH l b (pa2 (pv 0) ad)))
   (aa (psS 7 cn.nd (pX ba (bo (pa2 (pcH l b (pa2 (pv 0) ad)) (pcH l b (pa2 (pv 0) ad)))) (bX C_ (by rfl) B.int LP (pa1 (pcE zX (pcH l b (pa2 (pv 0) ad)) ad)))))
   (aa (ay (pcT aE (pv 5) ax) (af (ai (aB (pa3 (pv 5) (pv 6) (pcH mG b (pa3 (pv 0) (pv 1) (pv 2))))))) al)
   (aa (ay (gR iu (pv 5) (bo (bD (by rfl))) (by rfl)) (af (ai (aB (pa4 (pv 5) (pv 6) (pv 7) (pcH oV b (pa1 (pv 0))))))) al)
   (aa (ay (pcT aE (pv 5) ax) (af (ai (aB (pa3 (pv 5) (pv 6) (pcH l b (pa2 (pv 0) (pv 2))))))) al)
   (aa (aL (a_ (ay (PW.pt (fZ (pcT aE (pv 5) ax) (dH (pcT zX (pv 3) ad)))) (af (ai (aB (pa2 (pv 5) (pcH l b (pa2 (pv 0) (pv 3))))))) al)))
   (aa (ay (pcT aE (pv 5) ax) (af (ai (aB (pa4 ax (pv 6) (pv 7) ad)))) al)
   (af (ai (aB (pa4 (pv 5) (pv 6) (pv 7) (pcH l b (pa2 (pv 0) ad)))))))))))))))):PSs (i6 CX0 P w K mg base ["_law_deal_here","_law_room","_law_blocks_here","_law_gates","_law_words","_law_sort","_law_a","_law_b"] "_law_guests_own" (ah fg) f bl A T s H E).nox (_::_) _),?_⟩
 try dsimp only[aT]
 walk_at"g";intro p1 ar;have ab:=hD.up (o:= .lst tb1) ar;have l1:upd H p1 (.lst tb1) p1=some (.lst tb1):=ae;have g1:But d H (upd H p1 (.lst tb1)):=(ag ar _).but;generalize upd H p1 (.lst tb1)=H1 at*;walk_at"g";intro p2 S;have G:=ab.up (o:= .lst tb2) S;have l2:upd H1 p2 (.lst tb2) p2=some (.lst tb2):=ae;have l12:=ag S (.lst tb2) _ _ l1;have g2:But d H (upd H1 p2 (.lst tb2)):=bI S g1;generalize upd H1 p2 (.lst tb2)=H2 at*;have hz:tb1.length+tb2.length<=sizeLine:=by decide
 walk_at"g";intro p3 L;have bb:=G.up (o:= .lst (tb1++tb2)) L;have l3:upd H2 p3 (.lst (tb1++tb2)) p3=some (.lst (tb1++tb2)):=ae;have g3:But d H (upd H2 p3 (.lst (tb1++tb2))):=bI L g2;have n3:=G.ne L;generalize upd H2 p3 (.lst (tb1++tb2))=H3 at*;clear l1 l2 l12 ab G g1 g2;walk_at"g";intro r H4 r0 r1 bp g4;have l4:=g4 _ _ n3 l3;obtain⟨k,hk,ek⟩:=M6 r0 r1;have g:k<19:=by lia
 have G4:=g3.trans g4;walk_at"g";intro x H5 x0 x1 bu g5;walk_at"g";intro M H6 Y aH aY g6;walk_at"g";intro N H7 aP a' R g7;have G7:=((G4.trans g5).trans g6).trans g7;walk_at"g";intro p8 O;have a7:=R.up (o:= .lst [.int M,.int N]) O;have l8:upd H7 p8 (.lst [.int M,.int N]) p8=some (.lst [.int M,.int N]):=ae;have G8:=bI (o:= .lst [.int M,.int N]) O G7;have n8:=R.ne O;generalize upd H7 p8 (.lst [.int M,.int N])=H8 at*;clear ek l3 l4 r0 r1 bb bp bu aY R g4 g5 g6 g7;walk_at"g";intro u H9 u0 u1 aU g9;have l9:=g9 _ _ n8 l8;have G9:=G8.trans g9;have bx:=hD.tup G9 bh;obtain⟨y,y0,y6,ey⟩:∃y,0<=y/\y<6/\atI [V.int M,V.int N] (if decide (0<u)=true then 1 else 0)=some (.int y):=by
  by_cases c:0<u
  .exact⟨N,aP,by lia,by rw[NY c];rfl⟩
  .exact⟨M,Y,aH,by rw[NX c];rfl⟩
 clear l8 Y aH aP a' a7 g9;walk_at"g";refine bc (fun c0=> ?_) (fun c0=> ?_)
 .obtain rfl:=seq g (j:=1) (by decide) c0
  have n0:=X.out.1;have n1:=X.out.2;walk_at"g";intro v au v0 v1 I bt;walk_at"g";intro p J;exact q p (1,[x,v]) _ (sG (.inr (.inl ⟨rfl,x,v,rfl,x0,x1,v0,v1⟩)) (by decide) (by decide) (fun e=>absurd e (by decide)) (fun e=>absurd e (by decide)) (fun e=>absurd e (by decide))) (by unfold hG;show ¬(_\/_\/_);lia) ae (I.up J) (bI J (G9.trans bt))
 have k1:k≠1:=fun e=>c0 (by rw[e];rfl)
 walk_at"g";intro W i;have l10:upd H9 W (.lst [.str "more",.str "load",.str "store"]) W=some (.lst [.str "more",.str "load",.str "store"]):=ae;have I:=aU.up (o:= .lst [.str "more",.str "load",.str "store"]) i;have a:=bI (o:= .lst [.str "more",.str "load",.str "store"]) i G9;generalize upd H9 W (.lst [.str "more",.str "load",.str "store"])=au at*;walk_at"g";rw[fI (show ¬false=true by decide),HR k g]
 by_cases k3:10<=k/\k<=12
 .rw[NY k3];walk_at"g";intro z F z0 z1 C U;walk_at"g";intro p J;exact q p (k,[x,y,z]) _ (sG (.inr (.inr (.inr (.inl ⟨k3.1,k3.2,x,y,z,rfl,x0,x1,y0,y6,z0,z1⟩)))) (by lia) (by lia) (fun e=>by lia) (fun e=>by lia) (fun e=>by lia)) (by unfold hG;show ¬(k=0\/k=13\/k=15);lia) ae (C.up J) (bI J (a.trans U))
 rw[NX k3];clear l10;walk_at"g";refine bc (fun c1=> ?_) (fun c1=> ?_)
 .obtain rfl:=seq g (j:=14) (by decide) c1
  have m:=az.mk I;clear I;walk_at"g";refine⟨m.out,by have:=X.out;lia,by have:=X.out;lia,?_⟩
  intro z F z0 z1 C U;have n:=az.mk z1;clear z1;walk_at"g";intro p J;have z1:=n.out;have bA:=X.out.2;exact q p (14,[x,z]) _ (sG (.inr (.inr (.inr (.inr (.inr (.inl ⟨rfl,x,z,rfl,x0,x1,z0,by lia⟩)))))) (by decide) (by decide) (fun e=>absurd e (by decide)) (fun _=>by show z<nb;lia) (fun e=>absurd e (by decide))) (by unfold hG;show ¬(_\/_\/_);lia) ae (C.up J) (bI J (a.trans U))
 have bG:k≠14:=fun e=>c1 (by rw[e];rfl)
 walk_at"n";refine⟨fun Z' H'=>az (H'=au/\Z'=[some (.ref d),some (.ref rm),some (.int nb),some (.int gt),some (.ref p3),some (.str (aN k)),some (.int x),some (.int y)]/\(k=18->gt<=0)),?_,?_⟩
 .walk_at"g";refine bc (fun c2=> ?_) (fun c2=> ?_)
  .walk_at"g";refine bc (fun c3=> ?_) (fun c3=> ?_)
   .obtain rfl:=seq g (j:=18) (by decide) c2
    have m:=az.mk I;clear I;have a6:=az.mk c3;clear c3;walk_at"g";refine⟨m.out,a6.out,by have:=tH.out;lia,?_⟩
    intro z F z0 z1 C U;have n:=az.mk z1;clear z1;walk_at"g";intro p J;have z1:=n.out;have bF:=tH.out.2;exact q p (18,[z]) _ (sG (.inr (.inr (.inr (.inr (.inl ⟨.inr rfl,z,rfl,z0,by lia⟩))))) (by decide) (by decide) (fun e=>absurd e (by decide)) (fun e=>absurd e (by decide)) (fun _=>z1)) (by unfold hG;show ¬(_\/_\/_);lia) ae (C.up J) (bI J (a.trans U))
   .exact⟨rfl,rfl,fun _=>by lia⟩
  .exact C3 ⟨rfl,rfl,fun e=>absurd (by rw[e];rfl) c2⟩
 rintro Z' H' ⟨rfl,rfl,hg⟩
 walk_at"g";refine bc (fun c2=> ?_) (fun c2=> ?_)
 .walk_at"g";intro p J;exact q p (10,[x,y,0]) _ (sG (.inr (.inr (.inr (.inl ⟨by decide,by decide,x,y,0,rfl,x0,x1,y0,y6,by decide,by decide⟩)))) (by decide) (by decide) (fun e=>absurd e (by decide)) (fun e=>absurd e (by decide)) (fun e=>absurd e (by decide))) (by unfold hG;show ¬(_\/_\/_);lia) ae (I.up J) (bI J a)
 have bC:k≠18:=fun e=>c2 (by rw[e];rfl)
 walk_at"g";intro z F z0 z1 C U;walk_at"g";intro p J;have Z:2<=k/\k<=9:=by lia
 exact q p (k,[x,y,z]) _ (sG (.inr (.inr (.inl ⟨Z.1,Z.2,x,y,z,rfl,x0,x1,y0,y6,z0,z1⟩))) (by lia) (by lia) (fun e=>by lia) (fun e=>by lia) (fun e=>by lia)) (by unfold hG;show ¬(k=0\/k=13\/k=15);lia) ae (C.up J) (bI J (a.trans U))
theorem eE.dl{H o:Hp}{d:Addr}{C:List Addr}{is:List Ins}(hd:aO H d)(b:But d H o)(h:eE K H C is):eE K o C is:=h.mono fun _ _ z=>hd.sq b z
theorem GSt.mono{H C:Hp}{o:List Addr}{I:List (List Ins)}(f:∀t xs,SqT K H t xs->SqT K C t xs)(h:GSt K H o I):GSt K C o I:=⟨h.1,fun j b bk U c=>by
 obtain⟨J,a,d⟩:=h.2 j b bk U c
 exact⟨J,f _ _ a,d.mono f⟩⟩
theorem GSt.snoc{H:Hp}{o:List Addr}{J:List (List Ins)}{b:Addr}{bk:List Ins}(h:GSt K H o J)(U:GBk K H b bk):GSt K H (o++[b]) (J++[bk]):=by
 refine⟨by rw[NT,NT,h.1];rfl,fun a y e C I=> ?_⟩
 by_cases z:a<o.length
 .rw[Oo z] at C;rw[Oo (by have:=h.1;lia)] at I
  exact h.2 a y e C I
 .have za:a=o.length:=by
   have:=(mF.mp C).1;rw[NT,Pc] at this
   lia
  subst za;rw[Oe (by lia),Pm] at C
  rw[h.1,Oe (by lia),Pm] at I
  cases C
  cases I
  exact U
theorem FK{H:Hp}{p t:Addr}{xs ys:List V}{o:HO}(C:H p=some (.lst ys))(h:SqT K H t xs):SqT K (upd H p o) t xs:=But.tup (d:=p) But.upd C h
def Jy(K:Frag):Sp:=fun d H Q _=>∃(a rm:Addr) (b:List Int) (U:Nat) (c C:Int),d=[.ref a,.ref rm,.int C]/\SqL K H a (b.map V.int)/\H rm=some (.tup [.int U,.int c])/\U<=20/\0<=C/\C<=16/\
 ∀(g:Addr) (o:List Addr) (J:List (List Ins)) I,aA H I->SqT K I g (o.map V.ref)->GSt K I o J->GuT C J->J.length<=4->(∀bk∈J,bk.length<=8)->Q (.ref g) I
theorem w_(B:Bi mg)(D:qI K mg)(dX:Has P w K mg base 1 "_law_deal" Cv (Ik K))(am:Has P w K mg base 1 "_law_draw" iU g_)(gW:Has P w K mg base 3 "_law_guests_own" ["_law_deal_here","_law_room","_law_blocks_here","_law_gates"] FN)
  (mM:Has P w K mg base 2 "_law_ender" ["_law_deal_here","_law_blocks_here"] FY):Has P w K mg base 4 "_law_blocks" E2 (Jy K):=by
 refine D.has cT (fun vs H Q E h=> ?_) (fun f c7 A cv s H vs Q E hr h=> ?_)
 .obtain⟨a,rm,ns,rk,rb,gt,rfl,_⟩:=h
  rfl
 obtain⟨a,rm,ns,rk,rb,gt,rfl,hS,cb,cO,t0,t1,q⟩:=h;have tH:=az.mk (And.intro t0 t1);clear t0 t1
 refine⟨_,(aa (psS 3 cT.nd (pcH dX hr (pa2 (pv 0) ad)))
   (aa (psS 4 cT.nd (aw aS ad (pcH am hr (pa2 (pv 3) ad))))
   (aa (psS 5 cT.nd (bo dN))
   (aa (eQ Oj (by rfl) (dG (dt (by rfl) B.range (pa1 (pv 4)))) (aR (i:=6) cT.nd (by rfl) (by left;rfl)) (aa (psS 3 cT.nd (pcH dX hr (pa2 (pv 0) (aw aS ad (pv 6)))))
   (aa (wc (i:=7) (by rfl) (by rfl) (by rfl) (bk (sc0:=ah iM) (N0:=["_law_script","_law_room","_law_gates","_law_deal_here","_law_many","_law_guest","_law_number_here","_law_block"]) ["_law_at","_law_deal_here","_law_room","_law_many","_law_gates"] 1 [3,1,4,2]) cT.nd (by rfl) (by left;rfl) (dt (by rfl) B.range (pa1 (pcH am hr (pa2 (pv 3) ad)))) (fun _ _ _ _=>(aR (i:=0) (show List.Nodup (["_law_at","_law_deal_here","_law_room","_law_many","_law_gates"]:List Str) by decide) (by rfl) (by left;rfl))) (fun _ _ _ _=>(pcH gW hr (pa4 (pv 1) (pv 2) (pv 3) (pv 4)))))
   (af (bP (jk Oq Ov Ow du (pv 5) (pa1 (bX de (by rfl) B.tuple f8 (pa1 (aw lE (pv 7) (bo (pa1 (pcH mM hr (pa2 (pv 3) (pv 4)))))))))))))))
   (af (ai (bX de (by rfl) B.tuple f8 (pa1 (pv 5))))))))),?_⟩
 try dsimp only[aT]
 walk_at"g";intro d1 H1 f1 bY s1;walk_at"g";intro m0 H4 cq cp cm g4;have S4:aA H H4:=But.same s1 f1 g4;clear bY s1 cm g4;obtain⟨r,b9⟩:∃r:Nat,1+m0=r:=OE (by lia)
 have bx:0<r:=by lia
 have W:r<=4:=by lia
 clear cq cp;walk_at"g";intro p5 bp;have S5:=S4.trans (ag bp (.lst []));have l5:upd H4 p5 (.lst []) p5=some (.lst []):=ae;have cc:=S4.free bp;generalize upd H4 p5 (.lst [])=H5 at*;dsimp only;rw[b9];have C:=az.mk (And.intro bx W);clear bx W S4;have ct: -(2^62)<=(r:Int)/\(r:Int)<2^62:=by have:=C.out;lia
 walk_at"g"
 refine⟨h_ (n:=r) (fun i Z S=>az (∃y1 y2 y3,Z=[some (.ref a),some (.ref rm),some (.int gt),y1,some (.int r),some (.ref p5),y2,y3]/\aA H S/\∃(U:List Addr) (gs:List (List Ins)),S p5=some (.lst (U.map V.ref))/\GSt K S U gs/\gs.length=i/\∀bk∈gs,(∀o∈bk,GI r gt o)/\bk.length<=8/\∃L o,bk=L++[o]/\hG o.1/\∀o∈L, ¬hG o.1))
  ⟨_,_,_,rfl,S5,[],[],l5,⟨rfl,fun j b bk e=>by simp at e⟩,rfl,fun bk l=>by cases l⟩ ?_ ?_⟩
 .rintro i Z H6 hi ⟨y1,y2,y3,rfl,S6,U,gs,l6,hg6,hlen,hall⟩
  have cz:i<16:=by have:=C.out;lia
  have c6:=S6.seq hS;clear hi;walk_at"g";intro d7 H7 f7 cg s7;have S7:=S6.trans s7;have aU:=S6.free f7;have l7:=s7 _ _ l6;have b5:=hg6.same s7;walk_at"g";intro c H8 c0 c1 O g8;have S8:aA H H8:=But.same S7 aU g8;have a6:p5≠d7:=ak l6 f7;have l8:=g8 _ _ a6 l7;have b4:=b5.mono fun _ _ z=>cg.sq g8 z
  have c9: -(2^62)<=c/\c<2^62:=by lia
  walk_at"g";intro p9 x;have ar:=O.ne x;have cZ:=(ak l8 x).symm;refine jL (lo:=0) (n:=c.toNat) (fun j ys S=>az (But d7 H8 S)/\aO S d7/\S p9=some (.lst ys)/\∃(d:List Addr) (T:List Ins),ys=d.map V.ref/\eE K S d T/\T.length=j/\∀o∈T,GI r gt o/\¬hG o.1)
   ⟨⟨(ag x _).but⟩,jC (ag x _) O,ae,[],[],rfl,True.intro,rfl,fun o J=>by cases J⟩ ?_ ?_
  .rintro j ys H9 F hF hj ⟨⟨g9⟩,hD9,l9,d,T,rfl,hin,hil,hgi⟩
   have hz:(d.map V.ref).length<sizeLine:=by
    rw[be,hin.len,hil];exact N8 (show j<100 by lia) (by decide)
   have cQ:H9 rm=some (.tup [.int rk,.int rb]):=O.tup g9 (S8 _ _ cb);have n0:=C.out.1;have n1:r<=16:=by have:=C.out.2;lia
   have t0:=tH.out.1;have t1:=tH.out.2;walk_at"g";intro p o G gi nl au X I;have l10:=I _ _ ar l9;walk_at"g";refine hF _ _ ⟨⟨fun b u l e=> ?_⟩,?_,ae,d++[p],T++[o],by rw[NZ];rfl,?_,by rw[NT,hil];rfl,fun k J=> ?_⟩
   .have nb9:=ak e x;rw[aq nb9];exact I _ _ l (g9 _ _ l e)
   .obtain⟨u,v,e⟩:=X;exact⟨u,v,by rw[aq ar.symm];exact e⟩
   .exact((show eE K G [p] [o] from⟨SqT.of au,True.intro⟩).app (hin.dl hD9 I)).mono fun _ _ z=>FK l10 z
   .rcases Ot.mp J with J | J
    .exact hgi k J
    .rw[Og.mp J];exact⟨gi,nl⟩
  .rintro ys H9 ⟨⟨g9⟩,hD9,l9,d,T,rfl,hin,hil,hgi⟩
   have S9:aA H H9:=But.same S8 aU g9;have bL:=g9 _ _ a6 l8;have b7:=b4.mono fun _ _ z=>O.sq g9 z
   have n0:=C.out.1;have n1:r<=16:=by have:=C.out.2;lia
   have cS:tyV K "list" (.ref p5) H9:= .inl ⟨rfl,_,SqL.of bL⟩;walk_at"g";intro m o G gi lk au X I;have bV:aA H G:=But.same S9 aU I;have bM:=I _ _ a6 bL;have a':=I _ _ ar l9;have aY:=hin.dl hD9 I;have bA:=b7.mono fun _ _ z=>hD9.sq I z
   walk_at"g";intro aP bw;have e11:=ag bw (.lst [.ref m]);have cH:=e11 _ _ a';have l11:upd G aP (.lst [.ref m]) aP=some (.lst [.ref m]):=ae;have bC:=e11 _ _ bM;have hz:(d.map V.ref).length+[V.ref m].length<=sizeLine:=by
    rw[be,hin.len,hil];exact Oc (show c.toNat+1<=100 by lia) (by decide)
   have b2:=bV.trans e11;have ab:=aY.same e11;have b':=e11 _ _ au;have bh:=bA.same e11;generalize upd G aP (.lst [.ref m])=bu at*;walk_at"g";intro a7 bF;have N:=ag bF (.lst (d.map V.ref++[.ref m]));have bT:=N _ _ bC;have l12:upd bu a7 (.lst (d.map V.ref++[.ref m])) a7=some (.lst (d.map V.ref++[.ref m])):=ae;have b8:=b2.trans N;have aH:=ab.same N;have b6:=N _ _ b';have bG:=bh.same N;generalize upd bu a7 (.lst (d.map V.ref++[.ref m]))=bl at*;walk_at"g";intro R bb;have y:=ag bb (.tup (d.map V.ref++[.ref m]));have M:=y _ _ bT;have l13:upd bl R (.tup (d.map V.ref++[.ref m])) R=some (.tup (d.map V.ref++[.ref m])):=ae;have b0:=b8.trans y;have Y:=aH.same y;have bW:=y _ _ b6;have bt:=bG.same y;generalize upd bl R (.tup (d.map V.ref++[.ref m]))=b1 at*;have c8:(U.map V.ref).length<sizeLine:=by
    rw[be,hg6.1,hlen];exact N8 (show i<100 by lia) (by decide)
   walk_at"g";refine⟨_,_,_,rfl,fh cc b0,U++[R],gs++[T++[o]],?_,?_,by rw[NT,hlen];rfl,fun bk l=> ?_⟩
   .rw[ae,NZ]
    rfl
   .refine(bt.mono fun _ _ z=>FK M z).snoc ⟨d++[m],?_,?_⟩
    .rw[NZ];exact FK M (SqT.of l13)
    .exact((show eE K b1 [m] [o] from⟨SqT.of bW,True.intro⟩).app Y).mono fun _ _ z=>FK M z
   .rcases Ot.mp l with l | l
    .exact hall bk l
    .rw[Og.mp l];refine⟨fun k J=> ?_,by rw[NT,hil];show c.toNat+1<=8;lia,T,o,rfl,lk,fun k J=>(hgi k J).2⟩
     rcases Ot.mp J with J | J
     .exact(hgi k J).1
     .rw[Og.mp J];exact gi gt
 .rintro Z H6 ⟨y1,y2,y3,rfl,S6,U,gs,l6,hg6,hlen,hall⟩
  walk_at"g";intro g hg;have e7:=ag hg (.tup (U.map V.ref));refine q g U gs _ (S6.trans e7) (SqT.of ae) (hg6.same e7) ⟨⟨by rw[hlen];exact C.out.1,by rw[hlen];have:=C.out.2;lia,fun bk l=> ?_⟩,fun bk l i hi o J=> ?_⟩ (by rw[hlen];exact C.out.2) fun bk l=>(hall bk l).2.1
  .obtain⟨h1,h2,L,o,h3,h4,_⟩:=hall bk l;rw[hlen];exact⟨h1,by lia,L,o,h3,h4⟩
  .obtain⟨h1,h2,L,k2,rfl,_,h5⟩:=hall bk l;rw[NT,Pc] at hi;rw[Oo (by lia)] at J
   exact h5 o (N4 J)
theorem aO.wr{d c:Addr}{H:Hp}{o:HO}(h:aO H d)(n:c≠d):aO (upd H c o) d:=by
 obtain⟨x,y,e⟩:=h;exact⟨x,y,by rw[aq n.symm];exact e⟩
theorem NH(k:Nat):(1:Int)*2^((k:Int)).toNat=2^k:=by rw[PM,Os]
def AU:Sp:=fun J H Q _=>∃(d a:Addr) (k:Nat) (b:Int) (m s:Nat) (g:Int) (I:Bool),J=[.ref d,.ref a,.bl I]/\aO H d/\Pl H a k b m s g/\∀(c:Addr) (o:List (Key × V)) C,H c=none->C c=some (.dK o)->dE o->(o.map (·.1)).Nodup->o.length<=8->(I=false->rR k b o)->aO C d->But d H C->Q (.ref c) C
theorem wE(B:Bi mg)(D:qR K mg)(am:Has P w K mg base 1 "_law_draw" iU g_):Has P w K mg base 2 "_law_memory" ["_law_deal_here","_law_plan","_law_wide"] AU:=by
 refine D.has fk (fun vs H Q E h=> ?_) (fun f bC A bp s H vs Q E hr h=> ?_)
 .obtain⟨d,a,k,b,m,s,g,Y,rfl,_⟩:=h
  rfl
 obtain⟨d,a,k,b,m,sx,g,Y,rfl,hD,pl,q⟩:=h;have hk:=pl.room.k20;have T:=NH k;have bt:xB 1 (k:Int):=⟨by lia,by lia,by decide⟩
 have a7:(2:Int)^k<=2^20:=SpM.ple (by lia)
 have bb:=SpM.pp k;have bA:(0:Int)<1*2^((k:Int)).toNat:=by rw[T];exact bb
 have bx:(1:Int)*2^((k:Int)).toNat<=2^100:=by rw[T];exact Int.le_trans a7 (by decide)
 have p0:atI [V.int k,V.int b,V.int m,V.int sx,V.int g] 0=some (.int k):=aQ (j:=0) rfl;have p1:atI [V.int k,V.int b,V.int m,V.int sx,V.int g] 1=some (.int b):=aQ (j:=1) rfl;clear a7
 refine⟨_,(aa (psS 3 fk.nd Cc)
   (aa (eQ Oj (by rfl) (dG (dt (by rfl) B.range (pa1 (pcH am hr (pa2 (pv 0) ad))))) (aR (i:=4) fk.nd (by rfl) (by left;rfl)) (aa (psS 5 fk.nd (aw aS (pX aj (pv 1) ad) (pcH am hr (pa2 (pv 0) (aw nB ad (pX aj (pv 1) ad))))))
   (aa (aL (a_ (ay (PW.pt (fZ (Hd (pv 2) (by intro _;rfl)) (dH (pcT aE (pcH am hr (pa2 (pv 0) ad)) ad)))) (af (psS 5 fk.nd (pcH am hr (pa2 (pv 0) (bU (v:=4294967296) (by rfl)))))) al)))
   (af (wp (xj hr) (pv 3) (pv 5) (pcH am hr (pa2 (pv 0) (bU (v:=4294967296) (by rfl)))) (by rfl))))))
   (af (ai (pv 3))))),?_⟩
 try dsimp only[aT]
 walk_at"g";intro c hc;have J:c≠d:=hD.ne hc;have aH:=hD.up (o:= .dK []) hc;have a6:upd H c (.dK []) c=some (.dK []):=ae;have b0:But d H (upd H c (.dK [])):=(ag hc _).but;have au:=pl.mv (ag hc (.dK []));generalize upd H c (.dK [])=H0 at*;walk_at"g";intro n H1 n0 n1 ar b1;have aP:=b1 _ _ J a6;have B1:=b0.trans b1;have ab:=au.dl b1 aH;clear a6 aH au b0 b1;walk_at"g";refine⟨h_ (fun i Z G=>az (∃(C:List (Key × V)) (x4 x5:Option V),C.length<=i/\dE C/\(C.map (·.1)).Nodup/\(Y=false->rR k b C)/\G c=some (.dK C)/\aO G d/\Pl G a k b m sx g/\But d H G/\Z=[some (.ref d),some (.ref a),some (.bl Y),some (.ref c),x4,x5])) ⟨[],_,_,Ou _,(fun x hx=>absurd hx (by simp)),QC,(fun _ x hx=>absurd hx (by simp)),aP,ar,ab,B1,rfl⟩ ?_ ?_⟩
 .clear aP ar ab B1;intro i Z H2 hi l;refine br fun G_ p=> ?_
  obtain⟨C,x4,x5,hl,S,W,X,F,L,y,b2,rfl⟩:=l;refine p ?_
  have bu:i<8:=by simp at hi;lia
  have aU:=y.at_;walk_at"g";intro r H3 r0 r1 U b3;rw[T] at r1;have I:=y.dl b3 L;have e:=b3 _ _ J F;have B3:=b2.trans b3;have aY:InR k b (b+r):=⟨by lia,by lia⟩
  clear F L y b2 b3 aU;walk_at"g";refine⟨fun Z' G=>az (∃R:Int,(Y=false->InR k b R)/\G c=some (.dK C)/\aO G d/\Pl G a k b m sx g/\But d H G/\Z'=[some (.ref d),some (.ref a),some (.bl Y),some (.ref c),some (.int (0+(i:Int))),some (.int R)]),?_,?_⟩
  .walk_at"g"
   cases Y with
   | false=>
    walk_at"g";exact az.mk ⟨_,fun _=>aY,e,U,I,B3,rfl⟩
   | true=>
    walk_at"g";intro z H4 z0 z1 N O;have M:=I.dl O U;have u:=O _ _ J e;have B4:=B3.trans O;walk_at"g";refine bc (fun cz=> ?_) (fun cz=> ?_)
    .walk_at"g";intro v H5 v0 v1 bh b5;walk_at"g";exact az.mk ⟨_,(fun z=>by cases z),b5 _ _ J u,bh,M.dl b5 N,B4.trans b5,rfl⟩
    .walk_at"g";exact az.mk ⟨_,(fun z=>by cases z),u,N,M,B4,rfl⟩
  clear e U I B3 aY r0 r1;clear H3;intro Z3 H3 l;refine br fun G_ p=> ?_
  obtain⟨R,a',e,U,I,B3,rfl⟩:=l;refine p ?_
  walk_at"g";intro v H4 v0 v1 N O;have M:=I.dl O U;have u:=O _ _ J e;have B4:=B3.trans O;clear e U I B3 O;have bF:tE H4 c (.int R) (.int v) (upd H4 c (.dK (cF C (.inl R) (.int v)))):=tE.k (k:= .inl R) u (Of (show C.length<=100 by lia) (by decide))
  walk_at"g";have bw:=xh C (.inl R) (.int v);exact az.mk ⟨cF C (.inl R) (.int v),_,_,by lia,S.put v0 v1,rZ W,(fun z=>(X z).put (a' z)),ae,N.wr J,M.wrD u,wrB hc B4,rfl⟩
 .intro Z H2 l;refine br fun G_ p=> ?_
  obtain⟨C,x4,x5,hl,S,W,X,F,L,y,b2,rfl⟩:=l;refine p ?_
  walk_at"g";exact q c C H2 hc F S W (by lia) X L b2
def MI(ws:List Int):Prop:=∀y∈ws,0<=y/\y<4294967296
theorem aO.keepT{H C:Hp}{d a:Addr}{o:HO}(h:aO H d)(b:But d H C)(e:H a=some o)(I:∀xs,o≠ .lst xs):C a=some o:=b _ _ (fun z=>by
 obtain⟨x,y,J⟩:=h;rw[z,J] at e
 cases e
 exact I _ rfl) e
theorem kR.dl{H o:Hp}{d:Addr}{ys:List V}{reps:List (List Int × List (Key × V))}(h:kR H ys reps)(hd:aO H d)(e:But d H o):kR o ys reps:=h.mono (fun _ _ h=>hd.keepT e h (fun _ z=>by cases z)) (fun _ _ h=>hd.keepT e h (fun _ z=>by cases z))
def DE:Sp:=fun J H Q _=>∃(d a:Addr) (k:Nat) (b:Int) (m s:Nat) (g:Int),J=[.ref d,.ref a]/\aO H d/\Pl H a k b m s g/\∀(c:Addr) (I:List V) (o:List (List Int × List (Key × V))) C,H c=none->C c=some (.lst I)->kR C I o->(∀r∈o,JR k b r)->o.length<=4->aO C d->But d H C->Q (.ref c) C
theorem vC(B:Bi mg)(D:oP K mg)(am:Has P w K mg base 1 "_law_draw" iU g_)
  (eI:Has P w K mg base 2 "_law_memory" ["_law_deal_here","_law_plan","_law_wide"] AU) (cq:Has P w K mg base 2 "_law_number" lG AF):Has P w K mg base 3 "_law_replies" ["_law_deal_here","_law_plan"] DE:=by
 refine D.has gf (fun vs H Q E h=> ?_) (fun f bY A bG s H vs Q E u h=> ?_)
 .obtain⟨d,a,k,b,m,s,g,rfl,_⟩:=h
  rfl
 obtain⟨d,a,k,b,m,sx,g,rfl,hD,pl,q⟩:=h
 refine⟨_,(aa (psS 2 gf.nd (bo dN))
   (aa (eQ Oj (by rfl) (dG (dt (by rfl) B.range (pa1 (pcH am u (pa2 (pv 0) ad))))) (aR (i:=3) gf.nd (by rfl) (by left;rfl)) (aa (psS 4 gf.nd (bX de (by rfl) B.tuple f8 (pa1 (mY (by rfl) (by rfl) (by rfl) (bk (sc0:=ah gZ) (N0:=["_law_deal_here","_law_plan","_law_replies_here","_law_k","_law_boxes"]) ["_law_box","_law_deal_here","_law_plan"] 1 [0,1]) (dt (by rfl) B.range (pa1 ad)) (fun _ _ _ _=>(aR (i:=0) (show List.Nodup (["_law_box","_law_deal_here","_law_plan"]:List Str) by decide) (by rfl) (by left;rfl))) (fun _ _ _ _=>(pcH cq u (pa2 (pv 1) (pv 2))))))))
   (af (bP (jk Oq Ov Ow du (pv 2) (pa1 (aB (pa2 (pv 4) (pcH eI u (pa3 (pv 0) (pv 1) vq))))))))))
   (af (ai (pv 2))))),?_⟩
 try dsimp only[aT]
 walk_at"g";intro c hc;have S:c≠d:=hD.ne hc;have bT:=hD.up (o:= .lst []) hc;have bC:upd H c (.lst []) c=some (.lst []):=ae;have b0:But d H (upd H c (.lst [])):=(ag hc _).but;generalize upd H c (.lst [])=H0 at*;walk_at"g";intro n H1 n0 n1 bp b1;have bt:=b1 _ _ S bC;have B1:=b0.trans b1;have bb:=pl.dl B1 hD;walk_at"g";refine⟨h_ (fun i Z p=>az (∃(M:List V) (C:List (List Int × List (Key × V))) (x3 x4:Option V),C.length=i/\p c=some (.lst M)/\kR p M C/\(∀r∈C,JR k b r)/\aO p d/\Pl p a k b m sx g/\But d H p/\Z=[some (.ref d),some (.ref a),some (.ref c),x3,x4])) ⟨[],[],_,_,rfl,bt,⟨rfl,fun i v bs ws z=>by simp at z⟩,(fun r u=>by cases u),bp,bb,B1,rfl⟩ ?_ ?_⟩
 .rintro i Z H2 hi ⟨M,C,x3,x4,hl,hc2,hrp,hro,hD2,pl2,b2,rfl⟩
  have bL:i<4:=by simp at hi;lia
  walk_at"g";intro pc I;have N:pc≠d:=hD2.ne I;refine jL (fun i T p=>az (∃bs:List Int,T=bs.map V.int/\bs.length=i/\MI bs/\p pc=some (.lst T)/\p c=some (.lst M)/\kR p M C/\aO p d/\Pl p a k b m sx g/\But d H p)) ⟨[],rfl,rfl,(fun y hy=>by cases hy),ae,cG I hc2,hrp.same (ag I _),hD2.up I,pl2.mv (ag I _),bI I b2⟩ ?_ ?_
  .rintro j T H3 F hF hj ⟨bs,rfl,J,O,l3,W,e,x,R,b3⟩
   have bM:j<7:=by simpa using hj
   refine⟨Wk.none Wk.refl,?_⟩
   walk_at"g";intro v H4 v0 v1 l b4;have l4:=b4 _ _ N l3;have L:=b4 _ _ S W;have U:=e.dl x b4;refine⟨l4,?_,hF _ _ (az.mk ⟨bs++[v],by simp,by simp [J],?_,ae,?_,U.wr l4,l.wr N,(R.dl b4 x).but But.upd l4,?_⟩)⟩
   .rw[be,J];exact Of (show j<=100 by lia) (by decide)
   .intro y hy;rcases Ot.mp hy with hy | hy
    .exact O y hy
    .rw[Og.mp hy];exact⟨v0,v1⟩
   .rw[aq (ak hc2 I)];exact L
   .exact wrB (JW b2 N I) (b3.trans b4)
  rintro T H3 ⟨bs,rfl,J,O,l3,W,e,x,R,b3⟩
  have J:bs.length=7:=J;walk_at"g";intro G X;have s4:=ag X (.tup (bs.map V.int));have t4:upd H3 G (.tup (bs.map V.int)) G=some (.tup (bs.map V.int)):=ae;have L:=s4 _ _ W;have U:=e.same s4;have l:=x.up (o:= .tup (bs.map V.int)) X;have au:=R.mv s4;have b4:But d H (upd H3 G (.tup (bs.map V.int))):=bI X b3;clear l3 W e x R b3 hc2 hrp hD2 pl2 I N;generalize upd H3 G (.tup (bs.map V.int))=H4 at*;clear s4 X H3;have aP:tyV K "list" (.ref c) H4:= .inl ⟨rfl,_,SqL.of L⟩;have aH:=au;walk_at"g";intro dm kw H5 bW aU bx bu bw bA a' b5;have a6:=b5 _ _ S L;have ab:=U.dl l b5;have aY:=au.dl b5 l;have t5:=l.tup b5 t4;have B5:=b4.trans b5;clear L U l au aH t4 b4 b5 aP;walk_at"g";intro tq ar;have s6:=ag ar (.tup [.ref G,.ref dm]);have q6:upd H5 tq (.tup [.ref G,.ref dm]) tq=some (.tup [.ref G,.ref dm]):=ae;have a7:=s6 _ _ a6;have Y:=ab.same s6;have t6:=s6 _ _ t5;have bF:=s6 _ _ aU;have bl:=a'.up (o:= .tup [.ref G,.ref dm]) ar;have bh:=aY.mv s6;have B6:But d H (upd H5 tq (.tup [.ref G,.ref dm])):=bI ar B5;clear a6 ab a' aY t5 B5 aU;generalize upd H5 tq (.tup [.ref G,.ref dm])=H6 at*;have bV:M.length<sizeLine:=Of (show M.length<=100 by rw[Y.1];lia) (by decide)
  have rv:RpA H6 (.ref tq) bs kw:=⟨⟨tq,G,dm,rfl,q6,t6,bF⟩,J,O,bx,bw,bu⟩;walk_at"g";refine az.mk ⟨M++[.ref tq],C++[(bs,kw)],_,_,by rw[NT,hl];rfl,ae,(Y.snoc rv).wr a7,?_,bl.wr S,bh.but But.upd a7,wrB hc B6,rfl⟩
  intro r u;rcases Ot.mp u with u | u
  .exact hro r u
  .rw[Og.mp u];exact⟨J,O,bA rfl⟩
 .rintro Z H2 ⟨M,C,x3,x4,hl,hc2,hrp,hro,hD2,pl2,b2,rfl⟩
  walk_at"g";exact q c M C H2 hc hc2 hrp hro (by lia) hD2 b2
noncomputable def nzF(o:Key × V):Bool:=match o.2 with
 | .int v=> !decide (v=0)
 | _=>true
noncomputable def kq(k:Nat)(b:Int)(kvs:List (Key × V)):List (Key × V):=(bey k b kvs).filter nzF
def Kz:Sp:=fun U H Q _=>∃(J I:Addr) (k:Nat) (b:Int) (m s:Nat) (g:Int) (o:List (Key × V)),U=[.ref J,.ref I]/\Pl H J k b m s g/\H I=some (.dK o)/\dE o/\(o.map (·.1)).Nodup/\o.length<=5000/\∀(c:Addr) C,aA H C->H c=none->C c=some (.dK (kq k b o))->Q (.ref c) C
theorem I0{k:Nat}{b:Int}{kvs:List (Key × V)}{i:Nat}{o:Key × V}(h:kvs[i]? =some o):bey k b (kvs.take (i+1))=bey k b (kvs.take i)++(if wM k b o=true then[o] else[]):=by
 have C:=(mF.mp h).1;have e:kvs[i]=o:=(mF.mp h).2;unfold bey;rw[List.take_succ_eq_append_getElem C,QF,e]
 congr 1
 rw[PR]
 rfl
theorem GM{k:Nat}{b:Int}{kvs:List (Key × V)}{i:Nat}{o:Key × V}(h:kvs[i]? =some o):kq k b (kvs.take (i+1))=kq k b (kvs.take i)++(if wM k b o=true/\nzF o=true then[o] else[]):=by
 unfold kq;rw[I0 h,QF]
 congr 1
 by_cases C:wM k b o=true
 .rw[NV C,PR]
  by_cases I:nzF o=true
  .rw[NV I,NV ⟨C,I⟩]
   rfl
  .rw[fI I,fI (fun z=>I z.2)]
   rfl
 .rw[fI C,fI (fun z=>C z.1)]
  rfl
theorem IU{kvs:List (Key × V)}{k:Key}{v:V}(h:∀o∈kvs,o.1≠k):cF kvs k v=kvs++[(k,v)]:=by
 unfold cF;rw[fI];intro z;obtain⟨o,C,I⟩:=Qf.mp z;exact h o C (Pk I)
theorem EN{kvs:List (Key × V)}(J:(kvs.map (·.1)).Nodup){i:Nat}{o:Key × V}(h:kvs[i]? =some o):∀u∈kvs.take i,u.1≠o.1:=by
 intro u U e;obtain⟨j,I,C⟩:=List.getElem_of_mem U;rw[Oh] at I;have a:=(mF.mp h).1;have b:kvs[i]=o:=(mF.mp h).2;rw[List.getElem_take] at C;have z:=(List.pairwise_iff_getElem.mp J) j i (by rw[be];lia) (by rw[be];exact a) (by lia)
 apply z
 rw[List.getElem_map,List.getElem_map,C,b];exact e
theorem uu{i j:Int}(h:i=j):(!decide (V.int i=V.int j))=false:=by rw[h,NY rfl];rfl
theorem Im{i j:Int}(h:i≠j):(!decide (V.int i=V.int j))=true:=by rw[NX (fun z=>h (V.int.inj z))];rfl
theorem xH(B:Bi mg)(D:qN K mg):Has P w K mg base 1 "_law_beyond" ["_law_plan","_law_memory_here"] Kz:=by
 refine D.has jX (fun vs H Q E h=> ?_) (fun f a7 A aU s H vs Q E hr h=> ?_)
 .obtain⟨N,U,k,b,m,s,g,C,rfl,_⟩:=h
  rfl
 obtain⟨N,U,k,b,m,sx,g,C,rfl,d,J,ab,hn,hz,q⟩:=h;have hk:=d.room.k20;have au:(1:Int)*2^((k:Int)).toNat=2^k:=by rw[PM,Os]
 have a6:xB 1 (k:Int):=⟨by lia,by lia,by decide⟩
 have p0:atI [V.int k,V.int b,V.int m,V.int sx,V.int g] 0=some (.int k):=aQ (j:=0) rfl;have p1:atI [V.int k,V.int b,V.int m,V.int sx,V.int g] 1=some (.int b):=aQ (j:=1) rfl
 refine⟨_,(aa (psS 2 jX.nd Cc)
   (aa (Kl (eQ Oj (by rfl) (dG (JF (pv 1))) (aR (i:=3) jX.nd (by rfl) (by left;rfl)) (af (ay (PW.pt (fZ (pcT vb (E4 (xj hr) (pv 1) (pv 3) (by intro _ _;rfl)) ad) (dH (gA (Jb Ft fL (pX aj (pv 0) ad) (pv 3) (aw aS (pX aj (pv 0) ad) (aw nB ad (pX aj (pv 0) ad)))))))) (af (wp (xj hr) (pv 2) (pv 3) (E4 (xj hr) (pv 1) (pv 3) (by intro _ _;rfl)) (by rfl))) al))))
   (af (ai (pv 2))))),?_⟩
 try dsimp only[aT]
 walk_at"g";intro c r;have l:U≠c:=ak J r;have M:N≠c:=ak d.at_ r;have Y:N≠U:=fun z=>by have:=d.at_;rw[z,J] at this;cases this
 have s1:=ag r (.dK []);have c1:upd H c (.dK []) c=some (.dK []):=ae;have aY:=s1 _ _ J;have S:=s1 _ _ d.at_;generalize upd H c (.dK [])=H1 at*;walk_at"g";intro o;refine⟨HB (a:=U) (o:=o) (kvs:=C) (fun i Z y=>az (∃W:Option V,i<=C.length/\y c=some (.dK (kq k b (C.take i)))/\y U=some (.frz o (.dK C))/\y N=some (.tup [.int k,.int b,.int m,.int sx,.int g])/\(∀x u,x≠U->H x=some u->y x=some u)/\Z=[some (.ref N),some (.ref U),some (.ref c),W])) ?_ ?_ ?_ ?_⟩
 .refine⟨none,Ou _,?_,ae,?_,fun x u L e=> ?_,rfl⟩
  .rw[aq l.symm];exact c1
  .rw[aq Y];exact S
  .rw[aq L];exact s1 _ _ e
 .rintro i Z y hi ⟨W,_,_,h,_⟩
  exact h
 .rintro i k0 x0 Z H8 hkv ⟨W,hi7,k1,k2,k3,k4,rfl⟩
  obtain⟨I,v,G,v0,v1⟩:=ab _ (N4 hkv);obtain⟨rfl,rfl⟩:k0= .inl I/\x0= .int v:=⟨congrArg Prod.fst G,congrArg Prod.snd G⟩;have n:i<C.length:=(mF.mp hkv).1;have X:=GM (k:=k) (b:=b) hkv;have O:v≠0->¬InR k b I->cF (kq k b (C.take i)) (.inl I) (.int v)=kq k b (C.take (i+1)):=fun zv z=>by
   have hb:wM k b (.inl I,.int v)=true:=by
    show(!decide (InR k b I))=true
    rw[NX z]
    rfl
   have aH:nzF (.inl I,.int v)=true:=by
    show(!decide (v=0))=true
    rw[NX zv]
    rfl
   rw[X,NV ⟨hb,aH⟩];exact IU (fun kv hk=>EN hn hkv kv (PB.mp (PB.mp hk).1).1)
  have aP:InR k b I->kq k b (C.take i)=kq k b (C.take (i+1)):=fun z=>by
   have hb:¬wM k b (.inl I,.int v)=true:=by
    show ¬(!decide (InR k b I))=true
    rw[NY z]
    decide
   rw[X,fI (fun w=>hb w.1),Oz]
  have ar:v=0->kq k b (C.take i)=kq k b (C.take (i+1)):=fun z=>by
   rw[X,fI (fun w=>by have p:=w.2;rw[z] at p;have h3:nzF (.inl I,.int 0)=false:=rfl;rw[h3] at p;cases p),Oz]
  have F:(kq k b (C.take i)).length<sizeLine:=by
   have T:=Re (wM k b) (C.take i);rw[Oh] at T;have p:=Re nzF (bey k b (C.take i));exact Of (show(List.filter nzF (bey k b (C.take i))).length<=5000 by lia) (by decide)
  have bb:yS H8 U (.int I) (some (.int v)):= .inl ⟨C,.inl I,.inr ⟨o,k2⟩,rfl,(wT hn (N4 hkv)).symm⟩;have a':tE H8 c (.int I) (.int v) (upd H8 c (.dK (cF (kq k b (C.take i)) (.inl I) (.int v)))):=tE.k (k:= .inl I) k1 F;clear F X;walk_at"g"
  by_cases R:v=0
  .refine xS (uu R) ?_
   walk_at"g";refine az.mk ⟨_,n,?_,k2,k3,k4,rfl⟩
   rw[<- ar R];exact k1
  .refine Ky (Im R) ?_
   walk_at"g";refine bc (fun c1=> ?_) (fun c1=> ?_)
   .walk_at"g";rw[au]
    by_cases c2:I<b+2^k
    .rw[NY c2];walk_at"g";refine az.mk ⟨_,n,?_,k2,k3,k4,rfl⟩
     rw[<- aP ⟨c1,c2⟩];exact k1
    .rw[NX c2];walk_at"g";refine az.mk ⟨_,n,?_,?_,?_,(fun x u L e=> ?_),rfl⟩
     .rw[ae,O R (fun z=>c2 z.2)]
     .rw[aq l];exact k2
     .rw[aq M];exact k3
     .rw[aq (ak e r)];exact k4 x u L e
   .walk_at"g";refine az.mk ⟨_,n,?_,?_,?_,(fun x u L e=> ?_),rfl⟩
    .rw[ae,O R (fun z=>c1 z.1)]
    .rw[aq l];exact k2
    .rw[aq M];exact k3
    .rw[aq (ak e r)];exact k4 x u L e
 .rintro Z H7 ⟨W,hi7,T,p,h3,h4,rfl⟩
  rw[Oi] at T;have h0:∀(o:Obj) (v:HO),H U≠some (.frz o v):=fun o v z=>by rw[J] at z;cases z
  refine⟨U,o,C,p,h0,?_⟩
  walk_at"g";refine q c _ (fun x u e=> ?_) r (by rw[aq l.symm];exact T)
  by_cases z:x=U
  .subst z;rw[ae, <-J,e]
  .rw[aq z];exact h4 x u z e
theorem qJ.get{H:Hp}{C:Addr}:∀{o:List Addr}{xs:List (Int × List Int × List (Key × V))},qJ H C o xs->∀(j:Nat) y,xs[j]? =some y->∃r t d,o[j]? =some r/\H r=some (.tup [.int y.1,.ref t,.ref d])/\H t=some (.tup (y.2.1.map V.int))/\H d=some (.dK y.2.2)/\d≠C
 | [],[],_,j,y,e=>by simp at e
 | r::_,x::_,h,j,y,e=>by
  cases j with
  | zero=>
   obtain rfl:x=y:=by simpa using e
   obtain⟨t,d,I⟩:=h.1;exact⟨r,t,d,rfl,I⟩
  | succ j=>exact qJ.get h.2 j y (by simpa using e)
 | [],_::_,h,_,_,_=>h.elim
 | _::_,[],h,_,_,_=>h.elim
theorem zE{k:Nat}{b:Int}{kvs:List (Key × V)}(h:dE kvs):zw (kq k b kvs):=fun o C=>by
 obtain⟨i,v,rfl,_⟩:=h o (PB.mp (PB.mp C).1).1;exact⟨v,rfl⟩
theorem xK.bn{x:Pn}{b7:Int}{kv0:List (Key × V)}{L:Nat}{bx:List Int}{kvs:List (Key × V)}(h:xK x b7 kv0 L bx kvs):kq x.pk x.pb kvs=kq x.pk x.pb kv0:=congrArg (List.filter nzF) h.out
def LF(K:Frag):Sp:=fun J H Q _=>∃(d I cd:Addr) (x:Pn) (C:List Ins),J=[.ref d,.ref I,.ref cd]/\aO H d/\Pl H I x.pk x.pb x.pm x.ps x.pg/\H cd=some (.lst ((ao C).map V.int))/\cd≠d/\eZ x C/\∀o,But d H o->Q (.bl true) o
theorem pP(B:Bi mg)(D:jq K mg)(am:Has P w K mg base 1 "_law_draw" iU g_)(cq:Has P w K mg base 2 "_law_number" ["_law_deal_here","_law_plan"] AF)(eI:Has P w K mg base 2 "_law_memory" ["_law_deal_here","_law_plan","_law_wide"] AU)(jO:Has P w K mg base 3 "_law_replies" ["_law_deal_here","_law_plan"] DE)
  (eG:Has P w K mg base 1 "_law_beyond" ["_law_plan","_law_memory_here"] Kz) (bh:Has P w K mg base 8 "run" C5 (KP K)):Has P w K mg base 9 "_law_keeps_within" ["_law_deal_here","_law_plan","_law_code"] (LF K):=by
 refine D.has a9 (fun vs H Q E h=> ?_) (fun f ea A d3 s H vs Q E M h=> ?_)
 .obtain⟨d,pl,cd,x,is,rfl,_⟩:=h
  rfl
 obtain⟨d,pl,cd,x,is,rfl,hD,dm,dC,bb,co,q⟩:=h
 refine⟨_,(aa (psS 3 a9.nd (bX de (by rfl) B.tuple f8 (pa1 (mY (by rfl) (by rfl) (by rfl) (bk (sc0:=ah dI) (N0:=["_law_deal_here","_law_plan","_law_code","_law_boxes","_law_memory_here","_law_place","_law_end","_law_stand","_law_rows","_law_turns","_law_row"]) ["_law_box","_law_deal_here","_law_plan"] 1 [0,1]) (dt (by rfl) B.range (pa1 ad)) (fun _ _ _ _=>(aR (i:=0) (show List.Nodup (["_law_box","_law_deal_here","_law_plan"]:List Str) by decide) (by rfl) (by left;rfl))) (fun _ _ _ _=>(pcH cq M (pa2 (pv 1) (pv 2))))))))
   (aa (psS 4 a9.nd (pcH eI M (pa3 (pv 0) (pv 1) vq)))
   (aa (psS 5 a9.nd (aw bH ad (pcH am M (pa2 (pv 0) (aw cE (aM aG (by rfl) B.len bS (pa1 (pv 2))) ad)))))
   (aa (gX (pcH bh M (pa5 (pv 1) (pv 2) (aB (pa3 (pv 5) (pv 3) (pv 4))) (pcH jO M (pa2 (pv 0) (pv 1))) ad)) (rN (n:=4) (by rfl) (cj (aR (i:=6) a9.nd (by rfl) (by left;rfl)) (cj (aR (i:=7) a9.nd (by rfl) (by left;rfl)) (cj (aR (i:=8) a9.nd (by rfl) (by left;rfl)) (cj (aR (i:=9) a9.nd (by rfl) (by left;rfl)) nJ))))))
   (aa (aL (a_ (ay (PW.pt (iS (gR ju (pX aj (pv 6) ad) (bo (bD (by rfl))) (by rfl)) (fP (pcT vb (pX aj (pX aj (pv 7) ad) ad) (pX aj (pv 3) ad))))) (af (ai vq)) al)))
   (aa (eQ Oj (by rfl) (dG (tO (pv 8))) (aR (i:=10) a9.nd (by rfl) (by left;rfl)) (af (ay (PW.pt (iS (pcT vb (pX aj (pX aj (pv 10) ad) ad) (pX aj (pv 3) ad)) (fP (pcT (Ek (G0 M)) (pcH eG M (pa2 (pv 1) (pX aj (pv 10) ad))) (pcH eG M (pa2 (pv 1) (pv 4))))))) (af (ai vq)) al)))
   (af (ai (pcE (EZ (G0 M)) (pcH eG M (pa2 (pv 1) (pX aj (pv 7) ad))) (pcH eG M (pa2 (pv 1) (pv 4)))))))))))),?_⟩
 try dsimp only[aT]
 walk_at"g";intro pc S;have bC:pc≠d:=hD.ne S;refine jL (fun i ys H'=>az (∃bs:List Int,ys=bs.map V.int/\bs.length=i/\MI bs/\H' pc=some (.lst ys)/\aO H' d/\Pl H' pl x.pk x.pb x.pm x.ps x.pg/\But d H H')) ⟨[],rfl,rfl,(fun y m=>by cases m),ae,hD.up S,dm.mv (ag S _),(ag S _).but⟩ ?_ ?_
 .rintro j ys H3 F hF hj ⟨bs,rfl,U,au,l3,aP,aH,b3⟩
  have d8:j<8:=by simpa using hj
  refine⟨Wk.none Wk.refl,?_⟩
  walk_at"g";intro v H4 v0 v1 ab b4;have l4:=b4 _ _ bC l3;refine⟨l4,?_,hF _ _ (az.mk ⟨bs++[v],by simp,by simp [U],?_,ae,ab.wr bC,(aH.dl b4 aP).but But.upd l4,wrB S (b3.trans b4)⟩)⟩
  .rw[be,U];exact Of (show j<=100 by lia) (by decide)
  .intro y m;rcases Ot.mp m with m | m
   .exact au y m
   .rw[Og.mp m];exact⟨v0,v1⟩
 rintro ys H3 ⟨c,rfl,U,au,l3,aP,aH,b3⟩
 have U:c.length=8:=U;have bt:Bxs c:=⟨U,au⟩;walk_at"g";intro G bA;have s4:=ag bA (.tup (c.map V.int));have t4:upd H3 G (.tup (c.map V.int)) G=some (.tup (c.map V.int)):=ae;have ab:=aP.up (o:= .tup (c.map V.int)) bA;have cp:=aH.mv s4;have b4:But d H (upd H3 G (.tup (c.map V.int))):=bI bA b3;clear l3 aP aH b3 U au;generalize upd H3 G (.tup (c.map V.int))=H4 at*;walk_at"g";intro md I H5 d9 b0 bu dz bp _ b b5;have a':=cp.dl b5 ab;have t5:=ab.tup b5 t4;have B5:=b4.trans b5;have bV:=B5 _ _ bb dC;clear ab cp t4 b4 b5 s4;have c':(ao is).length=8*2^(x.pm+x.ps):=co.len;have c7:1<=2^(x.pm+x.ps)/\2^(x.pm+x.ps)<=2^7:=⟨QG,OI (by decide) a'.ms⟩
 have cS:tJ ((((ao is).map V.int).length:Nat):Int) 8:=⟨by lia,by decide⟩
 have ct:(0:Int)<((((ao is).map V.int).length:Nat):Int) / 8:=by rw[be];lia
 have b9:((((ao is).map V.int).length:Nat):Int) / 8<=2^100:=by rw[be];lia
 have a7:=az.mk b;clear b;walk_at"g";refine⟨a7.out,ct,b9,?_⟩
 clear ct b9 cS;intro u H6 u0 u1 bL b6;have hu:0<=8*u/\8*u<(ao is).length/\(8*u) %8=0:=by
  rw[be] at u1
  lia
 clear u1 c7 c';have cz:oS x is (8*u) c:=by
  obtain⟨v,ev⟩:∃v:Nat,8*u=v:=OE hu.1;rw[ev];have h2:=hu.2;refine oS.bundle co (by lia) ?_ bt
  rw[bq] at h2
  lia
 have b:=a7.out;have bF:=a'.dl b6 b;have t6:=b.tup b6 t5;have B6:=B5.trans b6;have cQ:=b6 _ _ bb bV;have cZ:=b.keepT b6 b0 (fun _ z=>by cases z)
 have d5:wY 8 u:= .inl ⟨by decide,by decide⟩
 clear a7 b a' t5 B5 bV b6 b0 hu u0;walk_at"g";intro sa bl;have s7:=ag bl (.tup [.int (8*u),.ref G,.ref md]);have bM:upd H6 sa (.tup [.int (8*u),.ref G,.ref md]) sa=some (.tup [.int (8*u),.ref G,.ref md]):=ae;have Y:=bL.up (o:= .tup [.int (8*u),.ref G,.ref md]) bl;have bT:=bF.mv s7;have t7:=s7 _ _ t6;have bG:=s7 _ _ cQ;have cH:=s7 _ _ cZ;have B7:But d H (upd H6 sa (.tup [.int (8*u),.ref G,.ref md])):=bI bl B6;clear bL bF t6 cQ cZ B6 s7;generalize upd H6 sa (.tup [.int (8*u),.ref G,.ref md])=H7 at*;walk_at"g";intro rl ys O H8 d7 l8 ar cO cm d' b8;have X:=bT.dl b8 Y;have t8:=SqT.of (K:=K) (Y.tup b8 t7);have dn:=SqT.of (K:=K) (Y.tup b8 bM);have dA:=SqL.of (K:=K) (b8 _ _ bb bG);have cv:=Y.keepT b8 cH (fun _ z=>by cases z)
 have B8:=B7.trans b8;clear Y bT t7 bG cH bM B7 b8;have hx:∀r∈O,dE r.2/\r.2.length<=8:=fun y m=>by
  obtain⟨j,hj⟩:=List.getElem?_of_mem m;have dT:j<ys.length:=by rw[ar.1];exact(mF.mp hj).1
  have z:=ar.2 j _ y.1 y.2 (mC dT) hj;exact⟨z.mem,z.few⟩
 have dx:=kR.en (K:=K) X l8 ar;have d0:Hg ⟨x.pk,x.pb,x.pm,x.ps,x.pg,O⟩:=⟨Oc cm (by decide),fun y m=>Oc (hx y m).2 (by decide)⟩
 have d1:I.length<=2000:=by lia
 have dr:=co.rng;walk_at"g";intro rq H9 s9 e bW cb;obtain⟨R,eR⟩:∃R,R=fJ ⟨x.pk,x.pb,x.pm,x.ps,x.pg,O⟩ (ao is) 60 ⟨8*u,c,I,[]⟩ 0:=⟨_,rfl⟩;obtain⟨fin,p,dX⟩:=E5 (b7:=bxG c 7) (kv0:=I) X.room X.ms co cO hx 60 ⟨8*u,c,I,[]⟩ 0 8 cz ⟨bt,rfl,rfl,bu,dz,bp⟩ (fun y m=>by cases m) R eR
 have e:HJ H8 H9 rq R:=by rw[eR];exact e
 clear bW cb eR cz cO hx dx d0 d1 dr ar cm;obtain⟨eq,sq,tb2,db,a6,rs,c1,c2,c3,c4,c5,c6,_,_,c9⟩:=e.ex;have dc:=X.mv s9;have t9:=s9.tup t8;have dp:=s9 _ _ cv;have B9:But d H H9:=B8.trans s9.but;clear e dn dA l8 X t8 cv s9 B8;walk_at"g";have j7:atI (R.2.1.bx.map V.int) 7=some (.int (bxG R.2.1.bx 7)):=(Bxs.at p.bxs (by decide) (by decide)).1
 have k7:atI (c.map V.int) 7=some (.int (bxG c 7)):=(Bxs.at bt (by decide) (by decide)).1
 have e7:=p.b7;have c8:inV (.str R.1.1) [.str "stopped",.str "spent",.str "asks"]=true:=by
  rcases fin with h | h | h
  .rw[h];decide +kernel
  .rw[h];decide +kernel
  .rw[h];decide +kernel
 have f1:=SqT.of (K:=K) c2;have f3:=SqT.of (K:=K) c3;have f4:=SqT.of (K:=K) c4;walk_at"n";refine⟨fun Z' H'=>az (aA H9 H'/\Z'=[some (.ref d),some (.ref pl),some (.ref cd),some (.ref G),some (.ref md),some (.int (8*u)),some (.ref eq),some (.ref sq),some (.ref a6),some (.int R.2.2),none]),?_,?_⟩
 .walk_at"g";intro pu d2;have C:=ag d2 (.lst [.str "stopped",.str "spent",.str "asks"]);have l10:SqL K (upd H9 pu (.lst [.str "stopped",.str "spent",.str "asks"])) pu [.str "stopped",.str "spent",.str "asks"]:=SqL.of ae;generalize upd H9 pu (.lst [.str "stopped",.str "spent",.str "asks"])=cg at*;walk_at"g";rw[c8];walk_at"g";have g3:=C.tup f3;have g4:=C.tup f4;have g9:=C.tup t9;walk_at"g";refine xS (uu e7) ?_
  walk_at"g";exact az.mk ⟨C,rfl⟩
 clear f1 f4 j7 c8 fin;rintro ed cg ⟨C,rfl⟩
 have aY:=dc.mv C;have dJ:=C.tup t9;have aU:=C _ _ dp;have b':=SqL.of (K:=K) (C _ _ c6);walk_at"g";refine⟨yv (K:=K) (a:=a6) (xs:=rs.map V.ref) (fun i Z H'=>az (aA cg H'/\∃y,Z=[some (.ref d),some (.ref pl),some (.ref cd),some (.ref G),some (.ref md),some (.int (8*u)),some (.ref eq),some (.ref sq),some (.ref a6),some (.int R.2.2),y])) ⟨aA.refl _,_,rfl⟩ (fun i Z H' _ h=>h.out.1.seq b') ?_ ?_⟩
 .rintro i v Z H11 hv ⟨s11,y0,rfl⟩
  obtain⟨r,er,rfl⟩:=dw hv;have dV:rs.length=R.2.1.rows.length:=c9.len;obtain⟨y,ey⟩:∃y,R.2.1.rows[i]? =some y:=⟨_,mC (by have:=(mF.mp er).1;lia)⟩
  obtain⟨r',ty,dy,g1,g2,g3,g4,_⟩:=qJ.get c9 i y ey;obtain rfl:r'=r:=N_ (g1.symm.trans er);have W:=dX y (N4 ey);have l:=C.trans s11;have h2:=SqT.of (K:=K) (l _ _ g2);have h3:=SqT.of (K:=K) (l _ _ g3);have h4:=l _ _ g4;have d4:=s11.tup dJ;have T:=s11 _ _ aU;have L:=aY.mv s11;have m7:atI (y.2.1.map V.int) 7=some (.int (bxG y.2.1 7)):=(Bxs.at W.bxs (by decide) (by decide)).1
  have w1:=W.mem;have w2:=W.nod;have w3:y.2.2.length<=5000:=Oc W.len (by decide)
  have w4:I.length<=5000:=Oc bp (by decide)
  clear g1 g2 g3 g4 hv er ey dV;have sH:=az.mk s11;clear s11;walk_at"g";refine xS (uu W.b7) ?_
  walk_at"g";intro b1 dv J dq l12;have cc:=L.mv J;have da:=J _ _ T;walk_at"g";intro b2 N g dh l13;have bY:=J.trans g;have bw:Rd N b1 (.dK (kq x.pk x.pb y.2.2)):= .inl (g _ _ l12);have dP:Rd N b2 (.dK (kq x.pk x.pb I)):= .inl l13;rw[W.bn] at bw;have dS:zw (kq x.pk x.pb I):=zE bu;walk_at"g";refine xS rfl ?_
  walk_at"g";exact az.mk ⟨(sH.out.trans J).trans g,_,rfl⟩
 .rintro Z H11 ⟨s11,y0,rfl⟩
  have l:=C.trans s11;have ec:=s11.tup (C.tup f3);have eb:=l _ _ c5;have L:=aY.mv s11;have T:=s11 _ _ aU;have w1:=p.mem;have w2:=p.nod;have w3:R.2.1.kvs.length<=5000:=Oc p.len (by decide)
  have w4:I.length<=5000:=Oc bp (by decide)
  walk_at"g";intro b1 dv J dq l12;have cc:=L.mv J;have da:=J _ _ T;walk_at"g";intro b2 N g dh l13;have bY:=(l.trans J).trans g;have bw:Rd N b1 (.dK (kq x.pk x.pb R.2.1.kvs)):= .inl (g _ _ l12);have dP:Rd N b2 (.dK (kq x.pk x.pb I)):= .inl l13;rw[p.bn] at bw;have dS:zw (kq x.pk x.pb I):=zE bu;walk_at"g";exact q _ (B9.trans bY.but)
theorem FV{xs:List V}{a:Nat}(h:8*a+8<=xs.length):gw xs (some (8*(a:Int))) (some (8*(a:Int)+8))=(xs.drop (8*a)).take 8:=by
 unfold gw;have o:(8*(a:Int))=((8*a:Nat):Int):=by lia
 have C:((8*a:Nat):Int)+8=((8*a+8:Nat):Int):=by lia
 rw[o,C,HT.sIx_nat,HT.sIx_nat,P3 h,P3 (show 8*a<=xs.length by lia)]
 congr 1
 lia
structure Cd (K:Frag) (x:Pn) (d:Addr) (H:Hp) (cs ts:List Addr) (iss:List (List Ins)):Prop where
 lc:cs.length=iss.length
 lt:ts.length=iss.length
 at_:∀(j:Nat) (is:List Ins),iss[j]? =some is->eZ x is/\∃c t vs,cs[j]? =some c/\ts[j]? =some t/\c≠d/\t≠d/\H c=some (.lst ((ao is).map V.int))/\H t=some (.lst vs)/\TdA K H vs (bB x 0 w8 is)
theorem Cd.mv{x:Pn}{d:Addr}{H J:Hp}{I C:List Addr}{o:List (List Ins)}(h:Cd K x d H I C o)(f:aO H d)(e:But d H J):Cd K x d J I C o:=by
 obtain⟨u,v,hd⟩:=f;refine⟨h.lc,h.lt,fun j q b=> ?_⟩
 obtain⟨r,c,t,g,n,p,U,a,i,l,m⟩:=h.at_ j q b;exact⟨r,c,t,g,n,p,U,a,e _ _ U i,e _ _ a l,m.but e hd⟩
def MJ(K:Frag):Sp:=fun I H Q _=>∃(d a U:Addr) (x:Pn) (e c:List Addr) (o:List (List Ins)),I=[.ref d,.ref a,.ref U]/\aO H d/\a≠d/\U≠d/\H a=some (.lst (e.map V.ref))/\H U=some (.lst (c.map V.ref))/\0<o.length/\o.length<=3/\x.pm+x.ps<=7/\Cd K x d H e c o/\
 ∀(p b sa:Addr) (J:List Ins) (I:List V) C,But d H C->C p=some (.tup [.ref b,.ref sa])->C b=some (.lst ((ao J).map V.int))->C sa=some (.lst I)->TdA K C I (bB x 0 w8 J)->eZ x J->Q (.ref p) C
theorem qa(B:Bi mg)(D:jl K mg)(am:Has P w K mg base 1 "_law_draw" iU g_):Has P w K mg base 2 "_law_put_together" ["_law_deal_here","_law_codes","_law_told"] (MJ K):=by
 refine D.has aW (fun J H Q E h=> ?_) (fun f ed A d1 s H J Q E hr h=> ?_)
 .obtain⟨d,ca,ta,x,cs,ts,M,rfl,_⟩:=h
  rfl
 obtain⟨d,ca,ta,x,cs,ts,M,rfl,hD,bT,dT,cv,dK,i0,i3,h7,O,q⟩:=h;obtain⟨au,e0⟩:∃C,M[0]? =some C:=⟨_,mC i0⟩;obtain⟨cz,c0,t0,d7,c',dc,ee,d8,d0,dh,dn⟩:=O.at_ 0 au e0;obtain⟨T,hT⟩:∃T:Nat,T=2^(x.pm+x.ps):=⟨_,rfl⟩;have b6:1<=T/\T<=128:=by
  rw[hT];exact⟨QG,OI (n:=2) (j:=7) (by decide) h7⟩
 have l:∀C,eZ x C->(ao C).length=8*T:=fun C co=>by rw[hT];exact co.len
 have a0:atI (cs.map V.ref) 0=some (.ref c0):=aQ (j:=0) (by rw[OB,c'];rfl)
 have cQ:tJ ((((ao au).map V.int).length:Nat):Int) 8:=⟨by lia,by decide⟩
 have eT:((((ao au).map V.int).length:Nat):Int) / 8=(T:Int):=by
  rw[be,l au cz]
  lia
 refine⟨_,(aa (psS 3 aW.nd (aw cE (aM aG (by rfl) B.len bS (pa1 (pX ba (pv 1) ad))) ad))
   (aa (psS 4 aW.nd (bo dN))
   (aa (psS 5 aW.nd (bo dN))
   (aa (eQ Oj (by rfl) (dG (dt (by rfl) B.range (pa1 (pv 3)))) (aR (i:=6) aW.nd (by rfl) (by left;rfl)) (aa (psS 7 aW.nd (pcH am hr (pa2 (pv 0) (aM aG (by rfl) B.len bS (pa1 (pv 1))))))
   (aa (psS 8 aW.nd (pX ba (bo (pa2 (pv 6) (pcH am hr (pa2 (pv 0) (pv 3))))) (pcH am hr (pa2 (pv 0) ad))))
   (aa (aL (a_ (ay (pcT aE (pv 6) (aw cC (pv 3) ad)) (af (psS 8 aW.nd (pv 6))) al)))
   (aa (psS 4 aW.nd (aw lE (pv 4) (dR ww (pX ba (pv 1) (pv 7)) (d6 (aw bH ad (pv 8))) (d6 (aw aS (aw bH ad (pv 8)) ad)))))
   (af (psS 5 aW.nd (aw lE (pv 5) (dR ww (pX ba (pv 2) (pv 7)) (d6 (aw bH ad (pv 8))) (d6 (aw aS (aw bH ad (pv 8)) ad)))))))))))
   (af (ai (aB (pa2 (pv 4) (pv 5))))))))),?_⟩
 try dsimp only[aT]
 walk_at"g";dsimp only;rw[eT]
 replace hT:=az.mk hT
 clear a0 cQ eT;intro w0 aP;have dm:w0≠d:=hD.ne aP;have s1:=ag aP (.lst []);have l1:upd H w0 (.lst []) w0=some (.lst []):=ae;have S:=hD.up (o:= .lst []) aP;have b1:=O.mv hD s1.but;generalize upd H w0 (.lst [])=H1 at*;walk_at"g";intro v0 a6;have dz:v0≠d:=S.ne a6;have s2:=ag a6 (.lst []);have l2:upd H1 v0 (.lst []) v0=some (.lst []):=ae;have l12:=s2 _ _ l1;have cq:=S.up (o:= .lst []) a6;have ct:=b1.mv S s2.but;have B2:But d H (upd H1 v0 (.lst [])):=(s1.trans s2).but;generalize upd H1 v0 (.lst [])=H2 at*;have dX: -(2^62)<=(T:Int)/\(T:Int)<2^62:=by lia
 have tH:=az.mk b6;clear b6 b1 S s1 s2 l1 d0 dh dn c' dc e0 cz O aP a6;walk_at"g"
 refine⟨h_ (n:=T) (fun i Z H'=>az (∃(C:List Ins) (J:List V) (wa sa:Addr) (y6 y7 y8:Option V),Pt x (8*T) C i/\(i=T->∃bL kn,C=bL++[kn]/\(kn.1=0\/kn.1=13\/kn.1=15))/\H' wa=some (.lst ((ao C).map V.int))/\H' sa=some (.lst J)/\TdA K H' J (bB x 0 w8 C)/\wa≠d/\sa≠d/\aO H' d/\But d H H'/\Cd K x d H' cs ts M/\
  Z=[some (.ref d),some (.ref ca),some (.ref ta),some (.int (T:Int)),some (.ref wa),some (.ref sa),y6,y7,y8])) ⟨[],[],w0,v0,_,_,_,⟨True.intro,rfl⟩,(fun z=>absurd tH.out.1 (by lia)),l12,l2,True.intro,dm,dz,cq,B2,ct,rfl⟩ ?_ ?_⟩
 .clear cq B2 ct l12 l2;rintro i Z H3 hi ⟨C,J,wa,sa,y6,y7,y8,pt,_,l3,m3,ab,W,Y,e,B3,m,rfl⟩
  have b0:i<T:=by simpa using hi
  have cZ:=B3 _ _ bT cv;have N:(0:Int)<(((cs.map V.ref).length:Nat):Int):=by rw[be,m.lc];lia
  have G:(((cs.map V.ref).length:Nat):Int)<=2^100:=by rw[be,m.lc];lia
  have iH:=az.mk b0;have b:=az.mk e;clear hi b0 e;walk_at"g";refine⟨b.out,N,G,?_⟩
  clear N G;intro wh H4 cH da y b4;have e:=b.out;clear b;obtain⟨wn,rfl⟩:∃n:Nat,wh=n:=OE cH;have cb:wn<M.length:=by
   rw[be,m.lc] at da
   lia
  obtain⟨I,ew⟩:∃C,M[wn]? =some C:=⟨_,mC cb⟩;have c8:=m.mv e b4;have l4:=b4 _ _ W l3;have m4:=b4 _ _ Y m3;have cc:TdA K H4 J (bB x 0 w8 C):=by
   obtain⟨u,v,hd⟩:=e;exact ab.but b4 hd
  have B4:=B3.trans b4;have N:(0:Int)<(T:Int):=by have:=tH.out;lia
  have G:(T:Int)<=2^100:=by have:=tH.out;lia
  have b:=az.mk y;clear cH da cb e b4 l3 m3 ab m B3 cZ y;walk_at"g";refine⟨b.out,N,G,?_⟩
  clear N G;intro r H5 r0 r1 aU b5;have y:=b.out;have b2:=c8.mv y b5;have l5:=b5 _ _ W l4;have m5:=b5 _ _ Y m4;have bY:TdA K H5 J (bB x 0 w8 C):=by
   obtain⟨u,v,hd⟩:=y;exact cc.but b5 hd
  have B5:=B4.trans b5;clear b y c8 l4 m4 cc B4 b5;walk_at"g";intro lp bM;have dC:lp≠d:=aU.ne bM;have s6:=ag bM (.lst [.int (0+(i:Int)),.int r]);have c7:upd H5 lp (.lst [.int (0+(i:Int)),.int r]) lp=some (.lst (([(0+(i:Int)),r]:List Int).map V.int)):=ae;have bw:=aU.up (o:= .lst [.int (0+(i:Int)),.int r]) bM;have cO:=b2.mv aU s6.but;have l6:=s6 _ _ l5;have m6:=s6 _ _ m5;have cg:=bY.same s6;have B6:=B5.trans s6.but;clear aU b2 l5 m5 bY B5 s6;generalize upd H5 lp (.lst [.int (0+(i:Int)),.int r])=H6 at*;walk_at"g";intro z H7 z0 z1 ar b7;obtain⟨dp,L,dP⟩:=HF [0+(i:Int),r] (r:=z) z0 z1;have dJ:SqL K H7 lp (([(0+(i:Int)),r]:List Int).map V.int):=SqL.of (b7 _ _ dC c7)
  obtain⟨an,rfl⟩:∃n:Nat,dp=n:=OE (by
   simp only[Od,Oy,O7] at L
   lia)
  have aY:an<T:=by
   have:=iH.out
   simp only[Od,Oy,O7] at L
   lia
  have bt:=cO.mv bw b7;have l7:=b7 _ _ W l6;have m7:=b7 _ _ Y m6;have bG:TdA K H7 J (bB x 0 w8 C):=by
   obtain⟨u,v,hd⟩:=bw;exact cg.but b7 hd
  have B7:=B6.trans b7
  replace aY:=az.mk aY
  clear bw cO l6 m6 cg B6 b7 L r0 r1 z0 z1 c7;walk_at"g";refine⟨fun Z' H'=>az (∃a:Nat,a<T/\(i+1=T->a=i)/\H'=H7/\Z'=[some (.ref d),some (.ref ca),some (.ref ta),some (.int (T:Int)),some (.ref wa),some (.ref sa),some (.int (0+(i:Int))),some (.int (wn:Int)),some (.int (a:Int))]),?_,?_⟩
  .walk_at"g";refine bc (fun ce=> ?_) (fun ce=> ?_)
   .walk_at"g";refine az.mk ⟨i,iH.out,fun _=>rfl,rfl,?_⟩
    rw[Int.zero_add]
    rfl
   .walk_at"g";refine az.mk ⟨an,aY.out,fun z=>absurd (show V.int (0+(i:Int))=V.int ((T:Int) - 1) by congr 1;lia) ce,rfl,rfl⟩
  clear dP dJ aY;rintro Z8 H8 ⟨a,ha,bV,rfl,rfl⟩
  obtain⟨co,c,t,g,hc,ht,nc,nt,lc,lt,bF⟩:=bt.at_ wn I ew;obtain⟨bs,bu,bl⟩:=Gf (j:=a) co (l I co) (by lia)
  have b':=B7 _ _ bT cv;have bh:=B7 _ _ dT dK;have ac:atI (cs.map V.ref) (wn:Int)=some (.ref c):=aQ (by rw[OB,hc];rfl)
  have d':atI (ts.map V.ref) (wn:Int)=some (.ref t):=aQ (by rw[OB,ht];rfl)
  have ec:gw ((ao I).map V.int) (some (8*(a:Int))) (some (8*(a:Int)+8))=(((ao I).drop (8*a)).take 8).map V.int:=by
   rw[FV (by rw[be,l I co];lia),QR,QS]
  have et:gw g (some (8*(a:Int))) (some (8*(a:Int)+8))=(g.drop (8*a)).take 8:=FV (by rw[bF.len,qi,l I co];lia)
  have bW:=(bF.drop (8*a)).take 8;obtain⟨dx,w2,t2⟩:=pt.snoc bu;have d5:wY 8 (a:Int):= .inl ⟨by decide,by decide⟩
  have dv:(ao C).length<=1024:=by
   rw[bq,pt.ln];have:=tH.out;have:=iH.out
   lia
  have eb:J.length<=1024:=by rw[bG.len,qi];exact dv
  have aH:=az.mk (And.intro ha bV);clear ha bV bF;walk_at"g";rw[ec];intro p9 R;have n9:p9≠d:=ar.ne R;have s9:=ag R (.lst ((((ao I).drop (8*a)).take 8).map V.int));have k9:upd H8 p9 (.lst ((((ao I).drop (8*a)).take 8).map V.int)) p9=some (.lst ((((ao I).drop (8*a)).take 8).map V.int)):=ae;have l9:=s9 _ _ l7;have dq:((ao C).map V.int).length+((((ao I).drop (8*a)).take 8).map V.int).length<=sizeLine:=Oc (show _<=1100 by rw[be,be,Oh];lia) (by decide)
  have bp:=ar.up (o:= .lst ((((ao I).drop (8*a)).take 8).map V.int)) R;generalize upd H8 p9 (.lst ((((ao I).drop (8*a)).take 8).map V.int))=H9 at*;walk_at"g";intro wb X;have dy:wb≠d:=bp.ne X;have b8:(ao C).map V.int++(((ao I).drop (8*a)).take 8).map V.int=(ao (C++bs)).map V.int:=by rw[w2,NZ]
  rw[b8];have U:=s9.trans (ag X (.lst ((ao (C++bs)).map V.int)));have l10:upd H9 wb (.lst ((ao (C++bs)).map V.int)) wb=some (.lst ((ao (C++bs)).map V.int)):=ae;have bb:=bp.up (o:= .lst ((ao (C++bs)).map V.int)) X;generalize upd H9 wb (.lst ((ao (C++bs)).map V.int))=cp at*;have dV:=U _ _ bh;have d3:=U _ _ lt;have dS:=U _ _ m7;have c9:=bG.same U;have bC:=bW.same U;have c6:=bt.mv ar U.but;have dA:=B7.trans U.but;clear ar bp s9 k9 l9 dq b8 X R bh b' lc lt m7 bG bW bt B7 ec l7 U;walk_at"g";rw[et];intro bx a';have cS:=ag a' (.lst ((g.drop (8*a)).take 8));have d4:upd cp bx (.lst ((g.drop (8*a)).take 8)) bx=some (.lst ((g.drop (8*a)).take 8)):=ae;have ea:=cS _ _ dS;have d2:J.length+((g.drop (8*a)).take 8).length<=sizeLine:=Oc (show _<=1100 by rw[Oh];lia) (by decide)
  have a7:=bb.up (o:= .lst ((g.drop (8*a)).take 8)) a';generalize upd cp bx (.lst ((g.drop (8*a)).take 8))=cm at*;walk_at"g";intro sb bA;have dr:sb≠d:=a7.ne bA;have F:=cS.trans (ag bA (.lst (J++(g.drop (8*a)).take 8)));have l12:upd cm sb (.lst (J++(g.drop (8*a)).take 8)) sb=some (.lst (J++(g.drop (8*a)).take 8)):=ae;have b9:=a7.up (o:= .lst (J++(g.drop (8*a)).take 8)) bA;generalize upd cm sb (.lst (J++(g.drop (8*a)).take 8))=d9 at*;walk_at"g";refine az.mk ⟨C++bs,J++(g.drop (8*a)).take 8,wb,sb,_,_,_,dx,(fun z=> ?_),F _ _ l10,l12,?_,dy,dr,b9,dA.trans F.but,c6.mv bb F.but,rfl⟩
  .have h2:=aH.out.2 z;obtain⟨bL,kn,e1,e2⟩:=bl (by rw[h2];lia)
   exact⟨C++bL,kn,by rw[e1,On],e2⟩
  .rw[t2];exact TdA.app (bC.same F) (c9.same F)
 .rintro Z H3 ⟨C,J,wa,sa,y6,y7,y8,pt,hl,l3,m3,ab,W,Y,e,B3,m,rfl⟩
  walk_at"g";intro p hp;have s4:=ag hp (.tup [.ref wa,.ref sa]);have el:(ao C).length=8*T:=by rw[bq,pt.ln]
  exact q p wa sa C J _ (B3.trans s4.but) ae (s4 _ _ l3) (s4 _ _ m3) (ab.same s4) ⟨by rw[el,hT.out],by rw[el];exact pt.ok,hl rfl,xW pt.ok⟩
theorem Et:∀{ds:List Bk},ds≠[]->∃M,u9 M ds
 | [],h=>absurd rfl h
 | [d],_=>⟨bun d,⟨d,N3,rfl⟩,fun e J=>by rw[Og.mp J];exact NW _⟩
 | d::e::r,_=>by
  obtain⟨M,I,C⟩:=Et (ds:=e::r) (by intro z;cases z)
  by_cases c:M<=bun d
  .exact⟨bun d,⟨d,N3,rfl⟩,fun f o=>by
    rcases Od.mp o with rfl | o
    .exact NW _
    .exact Oc (C f o) c⟩
  .obtain⟨f,o,e1⟩:=I
   exact⟨M,⟨f,N2 _ o,e1⟩,fun f o=>by
    rcases Od.mp o with rfl | o
    .lia
    .exact C f o⟩
theorem IQ{n b c:Nat}(h:tw n b)(o:n<=2^c):b<=c:=by
 by_cases z:b<=c
 .exact z
 .have:=h.2 c (by lia)
  lia
def JT(K:Frag):Sp:=fun c H Q _=>∃(o rm:Addr) (C:List Addr) (I:List (List Ins)) (a b U:Int) (M:Nat),c=[.ref o,.ref rm,.int U]/\SqT K H o (C.map V.ref)/\GSt K H C I/\SqT K H rm [.int a,.int b]/\
 GuB I/\u9 M (I.map dj)/\∀m s,tw I.length m->tw M s->m+s<=7/\∀r J,aA H J->xr H J r (I.map dj) a b U m s->Q (.ref r) J
theorem Mi{i:Addr}{vs:List V}{H:Hp}{Q:VK}{E:XK}(h:JT K vs H Q E):GT K i vs H Q E0:=by
 obtain⟨o,rm,C,U,J,j,I,M,c,d,f,l,a,b,q⟩:=h;refine⟨o,rm,C,U,J,j,I,M,c,d,f,l,a,b,fun m s hm hs=> ?_⟩
 obtain⟨g,e⟩:=q m s hm hs;exact⟨fun z=>absurd g (by lia),fun _=>e⟩
def JA(K:Frag):Sp:=fun c H Q _=>∃(C rm:Addr) (I:List Addr) (o:List (List Ins)) (J:Nat) (U b:Int) (M:Nat),c=[.ref C,.ref rm,.int b]/\SqT K H C (I.map V.ref)/\GSt K H I o/\SqT K H rm [.int J,.int U]/\
 GuB o/\(∀bk∈o, ∀d∈bk,d.1≠16)/\SpM.Room J U/\u9 M (o.map (thD J U))/\∀m s,tw o.length m->tw M s->m+s<=7/\∀r a,aA H a->xr H a r (o.map (thD J U)) J U b m s->Q (.ref r) a
theorem MB{l:Addr}{vs:List V}{H:Hp}{Q:VK}{E:XK}(h:JA K vs H Q E):Ho K l vs H Q E0:=by
 obtain⟨o,rm,C,U,J,n,I,M,e,f,i,p,a,c,d,b,q⟩:=h;refine⟨o,rm,C,U,J,n,I,M,e,f,i,p,a,c,d,b,fun m s hm hs=> ?_⟩
 obtain⟨j,g⟩:=q m s hm hs;exact⟨fun z=>absurd j (by lia),fun _=>g⟩
theorem CU{o:List (List Ins)}{D:List Ins->Bk}{M s:Nat}(I:u9 M (o.map D))(hs:tw M s):∀bk∈o,lnW (D bk).1<=8*2^s:=fun bk C=>by
 have J:=I.le (D bk) (List.mem_map_of_mem C);have U:=hs.1;unfold bun at J
 lia
theorem Ii{o:List (List Ins)}{D:List Ins->Bk}{M s:Nat}(J:u9 M (o.map D))(hs:tw M s)(h:∀bk∈o,lnW (D bk).1<=if bk.length %2=0 then 4*bk.length else 4*(bk.length - 1)+3)(C:∀bk∈o,bk.length<=30):s<=4:=IQ hs (by
 obtain⟨d,hd,e⟩:=J.mem;obtain⟨bk,I,rfl⟩:=OJ.mp hd;have U:=h bk I;have a:=C bk I;unfold bun at e
 split at U <;> lia)
theorem H_{k:Nat}{b:Int}(o:k<=20)(C:0<=b)(J:b<2^(32 - k)):SpM.Room k (b*2^k):=by
 have e:(2:Int)^(32 - k)*2^k=4294967296:=by rw[<- PK,Nat.sub_add_cancel (by lia)];exact SpM.p32
 have I:(b+1)*2^k<=2^(32 - k)*2^k:=OH (by lia) (Ph (SpM.pp k))
 rw[Int.add_mul] at I;exact⟨o,Ro C (Ph (SpM.pp k)),⟨b,Qw _ _⟩,by lia⟩
theorem Gd{H:Hp}{a b:Addr}{s:SpM.Span}(J:Tr H a s)(I:Tr H b s){n:Nat}:jG K H (n+1) (.ref a) (.ref b):=by
 refine .tup (SqT.of J) (SqT.of I) rfl (fun j x y o C=> ?_)
 rw[o] at C
 cases C
 match j,o with
 | 0,o=>cases o;exact .base (.int _)
 | 1,o=>cases o;exact .base (.int _)
 | 2,o=>cases o;exact .base (.int _)
 | j+3,o=>simp at o
theorem SpA.same2{H:Hp}{n:Nat}:∀{as bs:List Addr}{o:List SpM.Span},SpA H as o->SpA H bs o->∀(j:Nat) (x y:V),(as.map V.ref)[j]? =some x->(bs.map V.ref)[j]? =some y->jG K H (n+1) x y
 | [],[],[],_,_,j,x,y,e1,_=>by cases j <;> cases e1
 | a::as,b::bs,s::o,h1,h2,0,x,y,e1,e2=>by
  cases e1
  cases e2
  exact Gd h1.1 h2.1
 | a::as,b::bs,s::o,h1,h2,j+1,x,y,e1,e2=>SpA.same2 (as:=as) (bs:=bs) h1.2 h2.2 j x y e1 e2
 | [],_,_::_,h,_,_,_,_,_,_=>h.elim
 | _::_,_,[],h,_,_,_,_,_,_=>h.elim
 | _,[],_::_,_,h,_,_,_,_,_=>h.elim
 | _,_::_,[],_,h,_,_,_,_,_=>h.elim
theorem SpT.same2{H:Hp}{a b:Addr}{sp:List SpM.Span}(C:SpT K H a sp)(J:SpT K H b sp){n:Nat}:jG K H (n+2) (.ref a) (.ref b):=by
 obtain⟨U,z1,z2⟩:=C;obtain⟨bs,I,o⟩:=J;exact .tup z1 I (by rw[be,be,z2.len,o.len]) (z2.same2 o)
theorem TdA.same2{H:Hp}:∀{vs us:List V}{r:List (Option (List SpM.Span))},TdA K H vs r->TdA K H us r->∀(j:Nat) (x y:V),vs[j]? =some x->us[j]? =some y->jG K H 32 x y
 | [],[],[],_,_,j,x,y,e1,_=>by cases j <;> cases e1
 | v::vs,u::us,none::r,h1,h2,0,x,y,e1,e2=>by
  cases e1
  cases e2
  rw[h1.1,h2.1];exact .non
 | v::vs,u::us,some sp::r,h1,h2,0,x,y,e1,e2=>by
  cases e1
  cases e2
  obtain⟨a,rfl,z1⟩:=h1.1;obtain⟨b,rfl,z2⟩:=h2.1;exact z1.same2 z2
 | v::vs,u::us,none::r,h1,h2,j+1,x,y,e1,e2=>TdA.same2 (vs:=vs) (us:=us) h1.2 h2.2 j x y e1 e2
 | v::vs,u::us,some _::r,h1,h2,j+1,x,y,e1,e2=>TdA.same2 (vs:=vs) (us:=us) h1.2 h2.2 j x y e1 e2
 | [],_,none::_,h,_,_,_,_,_,_=>h.elim
 | [],_,some _::_,h,_,_,_,_,_,_=>h.elim
 | _::_,_,[],h,_,_,_,_,_,_=>h.elim
 | _,[],none::_,_,h,_,_,_,_,_=>h.elim
 | _,[],some _::_,_,h,_,_,_,_,_=>h.elim
 | _,_::_,[],_,h,_,_,_,_,_=>h.elim
structure Cs (x:Pn) (H:Hp) (ca:Addr) (cs:List Addr) (iss:List (List Ins)):Prop where
 lc:cs.length=iss.length
 at_:∀(j:Nat) (is:List Ins),iss[j]? =some is->eZ x is/\∃c,cs[j]? =some c/\c≠ca/\H c=some (.lst ((ao is).map V.int))
theorem Cs.mv{x:Pn}{H I:Hp}{C:Addr}{J:List Addr}{o:List (List Ins)}(h:Cs x H C J o)(e:But C H I):Cs x I C J o:=⟨h.lc,fun j a b=>by
 obtain⟨g,c,f,U,d⟩:=h.at_ j a b
 exact⟨g,c,f,U,e _ _ U d⟩⟩
theorem Cs.snoc{x:Pn}{H:Hp}{I c:Addr}{U:List Addr}{o:List (List Ins)}{is:List Ins}(h:Cs x H I U o)(g:eZ x is)(n:c≠I)(e:H c=some (.lst ((ao is).map V.int))):Cs x H I (U++[c]) (o++[is]):=by
 refine⟨by rw[NT,NT,h.lc];rfl,fun j s C=> ?_⟩
 by_cases z:j<o.length
 .rw[Oo z] at C;obtain⟨J,f,a,b,d⟩:=h.at_ j s C;exact⟨J,f,by rw[Oo (by have:=(mF.mp a).1;lia)];exact a,b,d⟩
 .have zj:j=o.length:=by
   have:=(mF.mp C).1;rw[NT,Pc] at this
   lia
  subst zj;rw[Oe (by lia),Pm] at C
  cases C
  exact⟨g,c,by rw[<- h.lc,Oe (by lia),Pm];rfl,n,e⟩
theorem Cs.nil{x:Pn}{H:Hp}{o:Addr}:Cs x H o [] []:=⟨rfl,fun j C e=>by simp at e⟩
def Tl(K:Frag)(x:Pn)(H:Hp)(pt:Addr)(I:List Addr)(o:List (List Ins))(n:Nat):Prop:=I.length=n/\∀(j:Nat) (C:List Ins),j<n->o[j]? =some C->∃t J,I[j]? =some t/\t≠pt/\H t=some (.lst J)/\TdA K H J (bB x 0 w8 C)
theorem Tl.same{x:Pn}{H I:Hp}{pt:Addr}{C:List Addr}{o:List (List Ins)}{n:Nat}(h:Tl K x H pt C o n)(e:aA H I):Tl K x I pt C o n:=⟨h.1,fun j f a b=>by
 obtain⟨t,J,U,c,d,g⟩:=h.2 j f a b
 exact⟨t,J,U,c,e _ _ d,g.same e⟩⟩
theorem Tl.wr{x:Pn}{H:Hp}{pt:Addr}{I:List Addr}{C:List (List Ins)}{n:Nat}{e:List V}{o:HO}(h:Tl K x H pt I C n)(U:H pt=some (.lst e)):Tl K x (upd H pt o) pt I C n:=⟨h.1,fun j g a b=>by
 obtain⟨t,c,d,J,f,i⟩:=h.2 j g a b
 exact⟨t,c,d,J,by rw[aq J];exact f,i.wr U⟩⟩
theorem Tl.snoc{x:Pn}{H:Hp}{pt t:Addr}{C:List Addr}{o:List (List Ins)}{n:Nat}{is:List Ins}{vs:List V}(h:Tl K x H pt C o n)(U:o[n]? =some is)(I:t≠pt)(c:H t=some (.lst vs))(J:TdA K H vs (bB x 0 w8 is)):Tl K x H pt (C++[t]) o (n+1):=by
 refine⟨by rw[NT,h.1];rfl,fun j s a b=> ?_⟩
 by_cases z:j<n
 .obtain⟨t',vs',h1,h2,h3,h4⟩:=h.2 j s z b;exact⟨t',vs',by rw[Oo (by have:=h.1;lia)];exact h1,h2,h3,h4⟩
 .have zj:j=n:=by lia
  subst zj;rw[U] at b
  cases b
  exact⟨t,vs,by rw[<- h.1,Oe (by lia),Pm];rfl,I,c,J⟩
theorem MS{x:Pn}{H U:Hp}{m pt d:Addr}{J I:List Addr}{o:List (List Ins)}(c:Cs x H m J o)(t:Tl K x H pt I o o.length)(e:aA H U)(hd:H d=none):Cd K x d U J I o:=by
 refine⟨c.lc,t.1,fun j g C=> ?_⟩
 obtain⟨r,a,p,_,f⟩:=c.at_ j g C;obtain⟨b,l,n,_,i,q⟩:=t.2 j g (mF.mp C).1 C;exact⟨r,a,b,l,p,n,ak f hd,ak i hd,e _ _ f,e _ _ i,q.same e⟩
theorem MF{K:Frag}{h:Heap}{mg:Str->Option Value}{f:Params}{as a:Addr}{n:Nat}{t0 t1 t2 t3 t4 t5 t6 t7 t8 t9 B u z O v M H R T:Tok}{l r i b3 j p s b7 q g c U b I J e d o C:Addr}(X:K.In h)(G:h.Ns mainGlobals mg)(hs:W.nsIn K mainGlobals "SORTS"=some (some (.ref as)))(ks:gl K as (uG.map V.str))
  (ha:W.nsIn K mainGlobals "FIELDS"=some (some (.ref a))) (hl:K.lookup a=some {cls:= .type "dict",data:= .dict (C1 f [("stop",t0,.ref l),("put",t1,.ref r),("add",t2,.ref i),("sub",t3,.ref b3),("and",t4,.ref j),("or",t5,.ref p),("xor",t6,.ref s),("less",t7,.ref b7),("left",t8,.ref q),("right",t9,.ref g),("more",B,.ref c),("load",u,.ref U),("store",z,.ref b),("jump",O,.ref I),("jumpif",v,.ref J),("through",M,.ref e),("fit",H,.ref d),("aim",R,.ref o),("gate",T,.ref C)]) n})
  (k0:gl K l ((aX 0).map V.str)) (k1:gl K r ((aX 1).map V.str)) (k2:gl K i ((aX 2).map V.str)) (k3:gl K b3 ((aX 3).map V.str)) (k4:gl K j ((aX 4).map V.str)) (k5:gl K p ((aX 5).map V.str)) (Y:gl K s ((aX 6).map V.str)) (k7:gl K b7 ((aX 7).map V.str)) (Z:gl K q ((aX 8).map V.str)) (k9:gl K g ((aX 9).map V.str)) (L:gl K c ((aX 10).map V.str)) (E:gl K U ((aX 11).map V.str)) (A:gl K b ((aX 12).map V.str)) (Q:gl K I ((aX 13).map V.str)) (x:gl K J ((aX 14).map V.str)) (y:gl K e ((aX 15).map V.str)) (F:gl K d ((aX 16).map V.str)) (S:gl K o ((aX 17).map V.str)) (D:gl K C ((aX 18).map V.str)):Tb K mg f:=by
 refine⟨⟨as,SJ X G hs,ks⟩,a,[("stop",.ref l),("put",.ref r),("add",.ref i),("sub",.ref b3),("and",.ref j),("or",.ref p),("xor",.ref s),("less",.ref b7),("left",.ref q),("right",.ref g),("more",.ref c),("load",.ref U),("store",.ref b),("jump",.ref I),("jumpif",.ref J),("through",.ref e),("fit",.ref d),("aim",.ref o),("gate",.ref C)],SJ X G ha,⟨_,n,hl,?_⟩,fun k N=> ?_⟩
 .repeat' (first | exact Paired.nil | refine Paired.cons ⟨rfl,rfl⟩ ?_)
 .match k,N with
  | 0,_=>exact⟨l,rfl,k0⟩
  | 1,_=>exact⟨r,rfl,k1⟩
  | 2,_=>exact⟨i,rfl,k2⟩
  | 3,_=>exact⟨b3,rfl,k3⟩
  | 4,_=>exact⟨j,rfl,k4⟩
  | 5,_=>exact⟨p,rfl,k5⟩
  | 6,_=>exact⟨s,rfl,Y⟩
  | 7,_=>exact⟨b7,rfl,k7⟩
  | 8,_=>exact⟨q,rfl,Z⟩
  | 9,_=>exact⟨g,rfl,k9⟩
  | 10,_=>exact⟨c,rfl,L⟩
  | 11,_=>exact⟨U,rfl,E⟩
  | 12,_=>exact⟨b,rfl,A⟩
  | 13,_=>exact⟨I,rfl,Q⟩
  | 14,_=>exact⟨J,rfl,x⟩
  | 15,_=>exact⟨e,rfl,y⟩
  | 16,_=>exact⟨d,rfl,F⟩
  | 17,_=>exact⟨o,rfl,S⟩
  | 18,_=>exact⟨C,rfl,D⟩
  | m+19,N=>exact absurd N (by lia)
theorem KW(B:Bi mg)(T:Tb K mg w.params)(T2:Tb2 K mg)(Tx:∃CT,mg "TooLong"=some (.ref CT)/\F3 K CT){gL:Addr}(dn:dW K mg "Holding" gL)(fB:fD K gL){ip:Addr}(eK:dW K mg "Machine" ip)(ir:hX K ip){dz:Addr}(bp:dW K mg "LaidBlock" dz)(cv:cr K dz){kI:Addr}(iO:dW K mg "Known" kI)(mL:nI K kI)(jT:oT K mg)(ED:HZ K mg)(BB:FS K mg)(yr:C6 K mg)(mJ:tU K mg)(jH:pN K mg)(mQ:sJ K mg)(sr:xf K mg)(oK:vg K mg)(eB:gQ K mg)(iD:lO K mg)(rY:yf K mg)(jM:oh K mg)(pM:u3 K mg)(pR:uT K mg)(mP:sW K mg)(mK:sE K mg)(iz:lR K mg)(xZ:DL K mg)(o8:uY K mg)(jV:pQ K mg)(o6:vp K mg)(q9:wL K mg)(rC:yn K mg)(rP:xx K mg)(uB:zK K mg)(o5:uX K mg)(o9:vk K mg)(mZ:ud K mg)(lv:qY K mg)(oj:u8 K mg)(si:x8 K mg)(rh:xD K mg)(kW:qO K mg)(oF:uW K mg)(jD:o3 K mg)(jj:nP K mg)(kf:pT K mg)(pS:vd K mg)(my:sF K mg)(rB:xv K mg)(fw:iY K mg)(lF:qX K mg)(wl:Fs K mg)(uC:zV K mg)(gz:gj K gL)(fS:fT K gL)(je:jd K gL)(lD:kQ K gL)(gF:gm K ip)(iy:ix K ip)(nA:lX K ip)(eU:eM K ip)(dh:KL K mg)(fi:fz K dz)(dC:dD K dz)(fe:eO K dz)(iB:il K dz)(d5:eo K dz)(dP:dO K dz)(ng:t_ K mg)(me:tK K mg)(xq:CO K mg)(Aq:Fy K mg)(kY:qP K mg)(pC:vi K mg)(ie:lH K mg)(oZ:ve K mg)(iA:lJ K mg)(kl:pO K mg)(jI:oO K mg)(Ex:Ij K mg)(io:ig K kI)(j9:jJ K kI)(gE:gg K kI)(fW:fR K kI)(gr:gC K kI)(jc:nU K mg)(Ev:IN K mg)(o_:uZ K mg)(oY:uR K mg)(nv:tj K mg)(pD:vf K mg)(gT:kG K mg)(mR:sK K mg)(kL:qV K mg)(pL:u5 K mg)(rT:xJ K mg)(mw:sP K mg)(lu:qZ K mg)(rV:yo K mg)(ls:qW K mg)(mI:ue K mg)(kO:qI K mg)(kP:qR K mg)(k_:qN K mg)(jE:oP K mg)(fU:jl K mg)(fO:jq K mg){f:Addr}{fd:FuncData}(F:Fun K "law" "law" FA f fd):ja P w K mg base CX0 12 f fd ["_law_script"] (CJ K):=by
 obtain⟨CT,uo,X⟩:=Tx;have S:=vy (P:=P) (w:=w) (base:=base) B jT;have bh:=Jx B ED S;have xl:=F4 B yr S;have jr:=Hb (P:=P) (w:=w) (base:=base) B BB;have mf:=zm B mJ bh;have jU:=vM B jH bh xl;have d9:=zp B T mQ mf;have d_:=CW B sr d9;have bC:=As (P:=P) (w:=w) (base:=base) B oK;have d8:=lU B T eB d9 jU;have cO:=sI B iD d8;have aU:=zc (P:=P) (w:=w) (base:=base) B mK;have ik:=sR B iz S;have bV:=F7 B xZ jr;have bM:=AR (P:=P) (w:=w) (base:=base) B o8;have aP:=vG B jV bV;have bY:=A1 B o6 ik aP;have q0:=Dx B q9 bY;have rf:=DM B rC bY;have dJ:=vS B jM S bh;have rX:=Ce B rP bh aP;have qg:=Ea B uB S aP;have oC:=AZ B o5 bV;have pi:=AY B o9 bM aU bh S bY;have mX:=yY B mZ bM bh S aP;have eL:=yh B lv bV bM dJ q0 rf rX qg oC pi mX;have gJ:=AM B oj jr bY;have fu:=BK B pR S bh;have ii:=CG B si S bh jr aP;have hV:=BZ B rh S bV bM fu aP;have eh:=Dc (P:=P) (w:=w) (base:=base) B T2 rY;have bT:=yz B kW aU;have oG:=A2 B oF bV aU gJ ii hV eL;have dS:=vP B jD aU eh oG;have dq:=uv B jj S;have jZ:=vv (P:=P) (w:=w) (base:=base) B kf;have pA:=AB (P:=P) (w:=w) (base:=base) B pS;have lZ:=yM B my bC;have rJ:=Cg B rB eh dq jZ pA;have fo:=nX B fw cO lZ rJ;have eF:=wJ B T2 lF S bT fo dS bC;have Fd:=Dd B wl eF;have bL:=n_ (P:=P) (w:=w) (base:=base) B bp cv fi;have bv:=ko (P:=P) (w:=w) (base:=base) B bp cv dC;have cS:=tT B bp cv iB bC;have bF:=lM B bp cv d5 cS;have bA:=lx B bp cv dP cS bv;have bG:=nj B bp cv fe bC;have dA:=BD (P:=P) (w:=w) (base:=base) B oZ;have aY:=tN (P:=P) (w:=w) (base:=base) B iA;have cZ:=vW B kl dA aY;have j8:=vx B bp jI bL cZ bG bA bF;have jz:=yQ B ng S;have mz:=yD (P:=P) (w:=w) (base:=base) B bp cv me;have xR:=GN (P:=P) (w:=w) (base:=base) B xq;have qf:=IE B Aq d_;have kU:=xT B bp cv kY d_ xR qf;have pd:=BH (P:=P) (w:=w) (base:=base) B bp cv pC;have cQ:=ua B X uo ie S jz mz kU qf pd;have Ew:=Kh B Ex j8 cQ;have iC:=tS B iO mL io bT;have kd:=vX B iO mL j9 bT;have ez:=qu B iO mL gE dA aY cZ dq;have gv:=qD B iO mL gr eh;have fX:=og B iO mL fW dS gv;have jh:=uK B bp iO jc bL iC ez kd fX bv bG bA bF;have EL:=Kd B Ev jh cQ;have oQ:=Bg B pM bh;have uh:=Ep B uC S;have mV:=zg B mP bh dJ oQ fu;have m1:=uz B dn fB je bh uh;have m2:=wX (P:=P) (w:=w) (base:=base) B dn fB lD;have m3:=ox B dn fB fS m2 m1 mV;have m4:=qF (P:=P) (w:=w) (base:=base) B dn fB gz;have m5:=mh (P:=P) (w:=w) (base:=base) B dn fB eK ir eU;have m6:=yZ B dn fB eK ir nA bC m3 m5;have m7:=tY B eK ir iy cO m6;have m8:=qB (C:=gL) (P:=P) (w:=w) (base:=base) B eK ir gF;have LK:=Jp B dn fB eK ir dh m4 m8 m7;have ef:=LK.imp (fun _ _ _ _ h=>Ed h)
 have Ew:=Ew.has (fun vs H Q E h=>Mi (E:=E) h)
 have EL:=EL.has (fun vs H Q E h=>MB (E:=E) h)
 have Fd:=Dd B wl eF;have dX:=Bo (P:=P) (w:=w) (base:=base) B o_;have N:=AN (P:=P) (w:=w) (base:=base) B oY;have fF:=yR (P:=P) (w:=w) (base:=base) B mw;have rF:=BN B rV fF;have kZ:=wK B lu fF bV aU gJ ii hV eL;have cq:=xQ B kL N;have pW:=AK B pL N;have rQ:=CS B rT N cq pW;have kM:=wW (P:=P) (w:=w) (base:=base) B ls;have AL:=zr B mI N rQ aU rF kM d_ kZ;have mG:=zn B nv N;have oV:=A6 B pD N;have mM:=zk B mR N;have gW:=q_ B gT N mG oV;have zi:=w_ B kO dX N gW mM;have eI:=wE B kP N;have jO:=vC B jE N eI cq;have eG:=xH (P:=P) (w:=w) (base:=base) B k_;have qw:=pP B fO N cq eI jO eG ef;have qz:=qa B fU N;refine F.ok gq (fun vs H Q E h=> ?_) (fun h8 A hE s H vs Q E J h=> ?_)
 .obtain⟨a,ns,rfl,_⟩:=h
  rfl
 obtain⟨a,ns,rfl,hS,h7,hO,q⟩:=h
 refine⟨_,(aa (psS 1 gq.nd (pcH dX J (pa2 (pv 0) ad)))
   (aa (psS 2 gq.nd (pcH N J (pa2 (pv 1) ad)))
   (aa (psS 3 gq.nd (aB (pa2 (pv 2) (aw nB (pcH N J (pa2 (pv 1) (aw nB ad (aw cC ad (pv 2))))) (pv 2)))))
   (aa (psS 4 gq.nd (pcH N J (pa2 (pv 1) ad)))
   (aa (psS 5 gq.nd (pcH zi J (pa3 (pv 0) (pv 3) (pv 4))))
   (aa (gX (pcH Ew J (pa3 (pv 5) (pv 3) (pv 4))) (rN (n:=3) (by rfl) (cj (aR (i:=6) gq.nd (by rfl) (by right;rfl)) (cj (aR (i:=7) gq.nd (by rfl) (by left;rfl)) (cj (aR (i:=8) gq.nd (by rfl) (by left;rfl)) nJ)))))
   (aa (psS 9 gq.nd (bo (pa2 (pv 7) (pX aj (pcH AL J (pa2 (pcH dX J (pa2 (pv 0) ad)) (pv 6))) ad))))
   (aa (psS 10 gq.nd (pcH EL J (pa3 (pv 5) (pv 3) (pv 4))))
   (aa (aL (a_ (ay (pcT (u6 (G0 J)) (pX aj (pv 10) ad) (pv 6)) (af (bP (jk Oq Ov Ow du (pv 9) (pa1 (pX aj (pv 10) ad))))) al)))
   (aa (wc (i:=11) (by rfl) (by rfl) (by rfl) (bk (sc0:=ah FA) (N0:=["_law_script","_law_deal_here","_law_power","_law_room","_law_gates","_law_guest","_law_plan","_law_code","_law_places","_law_codes","_law_thinned","_law_told","_law_words","_law_spans","_law_k"]) ["_law_words","_law_plan"] 1 [6]) gq.nd (by rfl) (by left;rfl) (tO (pv 9)) (fun _ _ _ _=>(aR (i:=0) (show List.Nodup (["_law_words","_law_plan"]:List Str) by decide) (by rfl) (by left;rfl))) (fun _ _ _ _=>(pcH eF J (pa2 (pv 1) (pv 0)))))
   (aa (gX (pcH qz J (pa3 (pcH dX J (pa2 (pv 0) ad)) (pv 9) (pv 11))) (rN (n:=2) (by rfl) (cj (aR (i:=12) gq.nd (by rfl) (by left;rfl)) (cj (aR (i:=13) gq.nd (by rfl) (by left;rfl)) nJ))))
   (aa (aL (a_ (ay (PW.pt (iS (pY (wq (pcH Fd J (pa2 (pv 6) (pv 12))))) (fP (pcT (DZ (G0 J)) (pcH eF J (pa2 (pv 6) (pv 12))) (pv 13))))) (af (ai vq)) al)))
   (aa (eQ Oj (by rfl) (dG (dt (by rfl) B.range (pa1 ad))) (aR (i:=14) gq.nd (by rfl) (by left;rfl)) (af (ay (gA (cJ (pcH qw J (pa3 (pcH dX J (pa2 (pv 0) (aw aS ad (pv 14)))) (pv 6) (pv 12))))) (af (ai vq)) al)))
   (af (ai vq))))))))))))))),?_⟩
 try dsimp only[aT]
 walk_at"g";intro d H1 f1 f' s1;walk_at"g";intro k H2 k0 k1 fx g2;obtain⟨k,rfl⟩:∃n:Nat,k=n:=OE (by first | assumption | lia)
 have em:(1:Int)*2^(32 - (k:Int)).toNat=2^(32 - k):=by
  rw[PM]
  congr 1
  lia
 have R:=SpM.pp (32 - k);have G:(2:Int)^(32 - k)<=2^32:=SpM.ple (by lia)
 rw[SpM.p32] at G;have hR:=fun b b0 b1=> @H_ k b (by lia) b0 b1
 rw[<- em] at R G hR;have eW:∀b:Int,b*2^((k:Int)).toNat=b*2^k:=fun b=>by rw[Os]
 have hv:xB 1 (32 - (k:Int)):=⟨by lia,by lia,by decide⟩
 have fl:=az.mk fx;have mH:=az.mk (And.intro R G);clear fx R G;walk_at"g";refine⟨fl.out,mH.out.1,by have:=mH.out.2;lia,?_⟩
 intro b H3 b0 b1 e1 g3;have J:=hR b b0 b1;have f7:xB b (k:Int):=⟨by lia,by lia,by have:=mH.out.2;lia⟩
 have S3:aA H H3:=But.same (But.same s1 f1 g2) f1 g3;have kk:k<=20:=by lia
 clear b1 b0 fl mH hR em g2 g3 s1 f' k1;walk_at"g";dsimp only;rw[eW];clear hv f7 eW;generalize b*2^k=rb at*;intro rm g';have e4:=ag g' (.tup [.int k,.int rb]);have r4:upd H3 rm (.tup [.int k,.int rb]) rm=some (.tup [.int k,.int rb]):=ae;have S4:=S3.trans e4;have e3:=jC e4 e1;generalize upd H3 rm (.tup [.int k,.int rb])=H4 at*;walk_at"g";intro gt H5 h1 hC hz g5;have S5:aA H H5:=But.same S4 f1 g5;have r5:=e3.tup g5 r4;have g7:=S5.seq hS;have hM:gt<=16:=by lia
 clear S3 S4 e4 r4 g5 e1 e3 hC;walk_at"g";intro g ia gs H6 s6 et cc gu g4 b8;have r6:=s6 _ _ r5;have fy:=gu.ok.gub;have eb:gs≠[]:=fun z=>by have:=gu.ok.n0;rw[z] at this;exact absurd this (by decide)
 refine br fun O o=> ?_
 obtain⟨M1,dv⟩:=Et (ds:=gs.map dj) (fun z=>eb (Pp.mp z))
 refine o ?_
 refine br fun O o=> ?_
 obtain⟨M2,dV⟩:=Et (ds:=gs.map (thD k rb)) (fun z=>eb (Pp.mp z))
 refine o ?_
 have ei:∀bk∈gs,bk.length<=30:=fun bk hb=>(gu.ok.blk bk hb).2.1
 have hh:∀bk∈gs, ∀kn∈bk,kn.1≠16:=fun bk hb kn hk=>((gu.ok.blk bk hb).1 kn hk).nm.1
 have e8:SqT K H6 rm [.int k,.int rb]:=SqT.of r6;have S6:=S5.trans s6;clear g7 S5 s6 r5 hz b8 eb;walk_at"g";intro m1 t1 R ea;have m3:m1<=2:=IQ R g4
 have t4:t1<=4:=Ii dv ea (fun bk _=>by
  have:=qh bk bk.length (NW _);rw[Oi] at this
  exact this) ei
 have b7:m1+t1<=7:=by lia
 refine⟨b7,?_⟩
 intro r H7 s7 M;refine br fun O o=> ?_
 obtain⟨x,ex⟩:∃x:Pn,x=⟨k,rb,m1,t1,gt⟩:=⟨_,rfl⟩;refine o ?_
 obtain⟨W,eH,a1,a2,a3,c0,dm,c2,c3⟩:∃W,eZ x W/\∃a1 a2 a3,H7 r=some (.tup [.ref a1,.ref a2,.ref a3])/\Pl H7 a1 x.pk x.pb x.pm x.ps x.pg/\H7 a2=some (.lst ((ao W).map V.int))/\∃ps,H7 a3=some (.dT ps):=by
  refine br fun O o=> ?_
  obtain⟨a1,a2,a3,c0,c1,c2,c3,_⟩:=M;refine o ?_
  rw[ex];exact⟨_,BL (x:=⟨k,rb,m1,t1,gt⟩) J b7 gu.ok R.1 (CU dv ea),a1,a2,a3,c0,⟨c1,J,b7⟩,c2,_,c3⟩
 have S7:=S6.trans s7;have hD:=S7.seq hS;have eS:=s7.tup et;have cm:=cc.same s7;have ej:=s7.tup e8;have hY:x.pm+x.ps<=7:=dm.ms;clear dv R ea m3 t4 b7 M et cc e8 S6 s7 r6;walk_at"g";intro d2 H8 f2 gb s8;have g8:=dm.mv s8;walk_at"g";intro p9 cd lp td dx us H9 ft b9 iw;have a':aA H7 H9:=But.same s8 f2 b9.but;have eg:=b9.code;have eN:=b9.plan;have ed:=a' _ _ c2;have p0:atI [V.ref cd,V.ref lp,V.ref td] 0=some (.ref cd):=aQ (j:=0) rfl;have S9:=S7.trans a';have e6:=a'.tup eS;have dc:=cm.same a';have eX:=a'.tup ej;clear b9 g8 gb s8 f2 dm c2 c0 c3 S7 eS cm ej hD;walk_at"g";intro M bl;have hj:=S9.free bl;have u:=ag bl (.lst [.ref a2,.ref cd]);have l10:upd H9 M (.lst [.ref a2,.ref cd]) M=some (.lst (([a2,cd]:List Addr).map V.ref)):=ae;have c7:Cs x (upd H9 M (.lst [.ref a2,.ref cd])) M [a2,cd] [W,dx]:=(Cs.nil.snoc eH (ak ed bl) (u _ _ ed)).snoc ft (ak eg bl) (u _ _ eg);have ct:=eN.mv u;have fc:=S9.trans u;have eu:=u.tup e6;have d1:=dc.same u;have ep:=u.tup eX;clear ed eg eN S9 e6 dc eX bl p0 u;generalize upd H9 M (.lst [.ref a2,.ref cd])=hW at*;walk_at"g";intro m2 t2 G d0;have m3:m2<=2:=IQ G g4
 have t4:t2<=4:=Ii dV d0 (fun bk _=>by
  have:=sL k rb bk bk.length (NW _);rw[Oi] at this
  exact this) ei
 have b':m2+t2<=7:=by lia
 refine⟨b',?_⟩
 intro r2 ar b4 fa;obtain⟨a7,y,ey,dK,b1,b2,b3,e0,eR,e2⟩:∃a7 y,y=Pn.mk k rb m2 t2 gt/\eZ y a7/\∃b1 b2 b3,ar r2=some (.tup [.ref b1,.ref b2,.ref b3])/\Pl ar b1 y.pk y.pb y.pm y.ps y.pg/\ar b2=some (.lst ((ao a7).map V.int)):=by
  refine br fun O o=> ?_
  obtain⟨b1,b2,b3,c0,c1,c2,c3,_⟩:=fa;refine o ?_
  exact⟨_,_,rfl,yi (x:=⟨k,rb,m2,t2,gt⟩) J b' gu G.1 (CU dV d0),b1,b2,b3,c0,⟨c1,J,b'⟩,c2⟩
 have l11:=b4 _ _ l10;have Y:=c7.mv b4.but;have ab:=ct.mv b4;have dr:=fc.trans b4;clear dV G d0 m3 t4 b' fa eu d1 ep fc b4 l10 c7 ct ei hh fy;walk_at"g";refine⟨fun Z' H'=>az (∃(cs:List Addr) (p:List (List Ins)),H' M=some (.lst (cs.map V.ref))/\Cs x H' M cs p/\0<p.length/\p.length<=3/\Pl H' a1 x.pk x.pb x.pm x.ps x.pg/\aA H H'/\Z'=[some (.ref a),some (.ref d),some (.int (k:Int)),some (.ref rm),some (.int gt),some (.ref g),some (.ref a1),some (.ref a2),some (.ref a3),some (.ref M),some (.ref r2),none,none,none,none]),?_,?_⟩
 .have q1:SqT K ar b1 (([(y.pk:Int),y.pb,y.pm,y.ps,y.pg]:List Int).map V.int):=SqT.of eR.at_;have q2:SqT K ar a1 (([(x.pk:Int),x.pb,x.pm,x.ps,x.pg]:List Int).map V.int):=SqT.of ab.at_;have z0:atI [V.ref b1,V.ref b2,V.ref b3] 0=some (.ref b1):=aQ (j:=0) rfl;have z1:atI [V.ref b1,V.ref b2,V.ref b3] 1=some (.ref b2):=aQ (j:=1) rfl;have iv:=SqT.of (K:=K) e0;have h':tyV K "list" (.ref M) ar:= .inl ⟨rfl,_,SqL.of l11⟩;have i0:(([a2,cd]:List Addr).map V.ref).length<sizeLine:=Of (show 2<=100 by decide) (by decide)
  walk_at"g";rw[fI (by decide)]
  by_cases b6:[(y.pk:Int),y.pb,(y.pm:Int),(y.ps:Int),y.pg]=[(x.pk:Int),x.pb,(x.pm:Int),(x.ps:Int),x.pg]
  .have eyx:y=x:=by
    refine br fun O o=> ?_
    obtain⟨yk,yb,ym,ys,yg⟩:=y;refine o ?_
    refine br fun O o=> ?_
    obtain⟨xk,xb,xm,xs,xg⟩:=x;refine o ?_
    simp only[List.cons.injEq,Int.natCast_inj,and_true] at b6
    refine br fun O o=> ?_
    obtain⟨rfl,rfl,rfl,rfl,rfl⟩:=b6;refine o ?_
    rfl
   rw[NY b6];walk_at"g";rw[eyx] at dK;have nb:b2≠M:=fun z=>by
    subst z;rw[e2] at l11;refine br fun O o=> ?_
    obtain⟨_,c,hc,nc,_⟩:=Y.at_ 0 W rfl;refine o ?_
    injection l11 with l11
    injection l11 with l11
    cases h:ao a7 <;> rw[h] at l11 <;> cases l11
   refine az.mk ⟨[a2,cd]++[b2],[W,dx]++[a7],ae,(Y.mv But.upd).snoc dK nb (by rw[aq nb];exact e2),Nat.zero_lt_succ _,NW 3,ab.but But.upd l11,fh hj dr,rfl⟩
  .rw[NX b6];walk_at"g";exact az.mk ⟨[a2,cd],[W,dx],l11,Y,Nat.zero_lt_succ _,Nat.le_succ 2,ab,dr,rfl⟩
 intro h6 g6 U;refine br fun O o=> ?_
 obtain⟨cs,p,l12,L,n0,n3,bb,eT,rfl⟩:=U;refine o ?_
 clear l11 Y ab dr e0 eR e2 dK ey eH ft gu J;walk_at"g";intro pt cb;have bw:=ag cb (.lst []);refine Ac (a:=M) (xs:=cs.map V.ref) (fun i ys H'=>az (∃ts:List Addr,ys=ts.map V.ref/\Tl K x H' pt ts p i/\H' pt=some (.lst ys)/\aA g6 H')) ⟨[],rfl,⟨rfl,fun j is z=>absurd z (by lia)⟩,ae,ag cb _⟩ (fun i ys H' h=>SqL.of (h.out.choose_spec.2.2.2 _ _ l12)) ?_ ?_
 .intro i v ys dp F hF hi U;refine br fun O o=> ?_
  obtain⟨ts,rfl,I,l13,bw⟩:=U;refine o ?_
  refine br fun O o=> ?_
  obtain⟨c,ec,rfl⟩:=dw hi;refine o ?_
  have hu:i<p.length:=by rw[<- L.lc];exact(mF.mp ec).1
  obtain⟨hp,ew⟩:∃is,p[i]? =some is:=⟨_,mC hu⟩;refine br fun O o=> ?_
  obtain⟨co,c',hn,nc,hc⟩:=L.at_ i hp ew;refine o ?_
  obtain rfl:c'=c:=N_ (hn.symm.trans ec);have bu:=bb.mv bw;have hQ:=SqL.of (K:=K) (bw _ _ hc);refine⟨Wk.none Wk.refl,?_⟩
  walk_at"g";intro t vs hq m ht l14 e5;have c9:=m _ _ l13;have nt:t≠pt:=(ak l13 ht).symm;refine⟨c9,?_,hF _ _ (az.mk ⟨ts++[t],by rw[NZ];rfl,((I.same m).snoc ew nt l14 e5).wr c9,ae,cf cb (bw.trans m)⟩)⟩
  rw[be,I.1];exact Of (show i<=100 by lia) (by decide)
 intro ys dp U;refine br fun O o=> ?_
 obtain⟨ts,rfl,I,l13,D⟩:=U;refine o ?_
 have I:Tl K x dp pt ts p p.length:=by
  rw[be,L.lc] at I;exact I
 have a6:=D _ _ l12;have cz:=L.mv D.but;have bu:=bb.mv D;have d7:=eT.trans D;have fv:=d7.seq hS;clear l12 L bb eT bw D cb;walk_at"g";intro d3 hq f3 es m;have fm:=MS cz I m f3;have hA:=ak a6 f3;have ha:=ak l13 f3;have dy:=m _ _ a6;have ee:=m _ _ l13;walk_at"g";intro h9 wa sa iH hy ek fb g9 bW cH da i1;have aH:aA dp ek:=But.same m f3 fb;have bt:=bu.mv aH;have er:=d7.trans aH;have cg:=SqL.of (K:=K) bW;clear fm hA ha dy ee fb es m cz I l13 a6 bu d7 fv aH f3;walk_at"g";refine⟨fun Z' H'=>az (aA ek H'/\Z'=[some (.ref a),some (.ref d),some (.int (k:Int)),some (.ref rm),some (.int gt),some (.ref g),some (.ref a1),some (.ref a2),some (.ref a3),some (.ref M),some (.ref r2),some (.ref pt),some (.ref wa),some (.ref sa),none]),?_,?_⟩
 .walk_at"g";intro e7 e;have c8:=bt.mv e;have hL:=e.seq cg;walk_at"g";intro fp hx b5 l ib l17 c6;have hP:=SqL.of (K:=K) ((e.trans l) _ _ cH);have hJ:=SqL.of (K:=K) l17;have bx:=(da.same e).same l;have hT:hx.length=hy.length:=by rw[c6.len,bx.len]
  have h3:=c6.same2 bx;walk_at"g";refine xS rfl ?_
  walk_at"g";exact az.mk ⟨e.trans l,rfl⟩
 intro h5 e7 U;refine br fun O o=> ?_
 obtain⟨e,rfl⟩:=U;refine o ?_
 have c8:=bt.mv e;have el:=e _ _ bW;have hl:=er.trans e;clear bt cg bW cH da er g9 e;walk_at"g";refine⟨h_ (n:=3) (fun i Z H'=>az (∃y,aA e7 H'/\Z=[some (.ref a),some (.ref d),some (.int (k:Int)),some (.ref rm),some (.int gt),some (.ref g),some (.ref a1),some (.ref a2),some (.ref a3),some (.ref M),some (.ref r2),some (.ref pt),some (.ref wa),some (.ref sa),y])) ⟨_,aA.refl _,rfl⟩ ?_ ?_⟩
 .intro i Z b5 hi U;refine br fun O o=> ?_
  obtain⟨y,l,rfl⟩:=U;refine o ?_
  have h2:i<3:=by simpa using hi
  have e':=c8.mv l;have cp:=l _ _ el;have hI:=(hl.trans l).seq hS;have sH:=az.mk l;clear l hi;walk_at"g";intro d4 h4 f4 hN d';have hH:=e'.mv d';have hK:=d' _ _ cp;have nw:=ak cp f4;walk_at"g";intro hg hB;have gi:aA b5 hg:=But.same d' f4 hB;walk_at"g";exact az.mk ⟨_,sH.out.trans gi,rfl⟩
 .intro Z b5 U;refine br fun O o=> ?_
  obtain⟨y,l,rfl⟩:=U;refine o ?_
  walk_at"g";exact q b5
end
end My
set_option Elab.async true
namespace PySem.Challenge.cw_fencemask_k96_whole_bundles_put_together_holds
def tw11566212867375347848:=0
def tw11042474323189186774:=0
def tw13093467887064055685:=0
def tw4097174319816943140:=0
def tw6220012549465797460:=0
def tw11271487118481538831:=0
def tw13320925392565821206:=0
def tw11685504090233314329:=0
def tw1802988956235512710:=0
def tw4080367629849734648:=0
def tw3225731641029775031:=0
def tw5359399702949318075:=0
def tw17166931622755870062:=0
def tw9048173043057398973:=0
def tw5409421658166343610:=0
def tw10827711258887940729:=0
def tw193513170946059431:=0
def tw10949522710906939646:=0
def tw15550451890634308603:=0
def tw11267891688909009731:=0
def tw6061847502887440251:=0
def tw2334391281183180389:=0
def tw4151097919494372549:=0
def tw12811960279971751470:=0
def tw2197452364163712316:=0
def tw8821772853808281754:=0
def tw5353981413781768881:=0
def tw1326490657098440099:=0
def tw8792471666341839364:=0
def tw13363704714303686018:=0
def tw2068532067885086078:=0
def tw18277313517027002511:=0
def tw1023222910883356659:=0
def tw17512884986313076218:=0
def tw5820034997107962585:=0
def tw2756754024653636295:=0
def tw2052138919191200022:=0
def tw8144995381804652410:=0
def tw14354497494849579276:=0
def tw3454617593541845085:=0
def tw9849691455955740016:=0
def tw81681409413392423:=0
def tw15375596614539591393:=0
def tw4422061203765182261:=0
def tw1575732760570042193:=0
def tw2323882451493416739:=0
def tw7221440404554622097:=0
def tw436943287083011783:=0
def tw9526092068779606552:=0
def tw17515521743069760002:=0
def tw12318054289779029090:=0
def tw14794433180264496526:=0
def tw3251995736117122529:=0
def tw3343724465761901787:=0
def tw7781603635506567307:=0
def tw7258964063001225296:=0
def tw10919468229319652647:=0
def tw56734283741085455:=0
def tw1083577896379608876:=0
def tw6437895871899810740:=0
def tw10216188780122345038:=0
def tw12519780035129395845:=0
def tw5666256303179217472:=0
def tw18181593726423147274:=0
def tw7787512243867399345:=0
def tw17076705685953564768:=0
def tw6412392623173906520:=0
def tw1674926938504841991:=0
def tw17586021843533359704:=0
def tw6199434464377448647:=0
def tw8145725402498995810:=0
def tw2693340370321603527:=0
def tw5097170441338489004:=0
def tw5919303202129033090:=0
def tw4945985299660548224:=0
def tw17834570709091881352:=0
def tw12283881721464626732:=0
def tw2077183951411145003:=0
def tw728399815570378208:=0
def tw3845281633273695727:=0
def tw13657383687377264770:=0
def tw5678534087838231106:=0
def tw7578875326509508712:=0
def tw1401196551762626449:=0
def tw5927042479098045674:=0
def tw9864267066519708241:=0
def tw7758829081988946751:=0
def tw6239136667067416383:=0
def tw6909605327911170714:=0
def tw924098853823645593:=0
def tw14567415457175369170:=0
def tw12069285650600770039:=0
def tw13538690350480806222:=0
def tw16708851107323279234:=0
def tw15685721738749164756:=0
def tw10979757670338694375:=0
def tw15983951643975199538:=0
def tw3089817929203588946:=0
def tw5954158116457639296:=0
def tw13856746775955794202:=0
def tw4600075054009982326:=0
def tw11934044154685883324:=0
def tw7922764056953961309:=0
def tw6676247853128954535:=0
def tw7681801879854794065:=0
def tw14652648153439136343:=0
def tw12567031382275094181:=0
def tw13706653791015390563:=0
def tw1769399389981271995:=0
def tw4635331886245867456:=0
def tw5420405444119289215:=0
def tw16486107365942163267:=0
def tw442969586308319251:=0
def tw3022443432358519413:=0
def tw11052163370110320580:=0
def tw2547299765141443608:=0
def tw17994317667125363177:=0
def tw16340821880048742013:=0
def tw4666659747112767501:=0
def tw10661427096266301164:=0
def tw14282701998046537678:=0
def tw4787448992894631349:=0
def tw10102245928178770336:=0
def tw4857519624527317060:=0
def tw9769610735303072145:=0
def tw10737732466563336189:=0
def tw7875649595828045934:=0
def tw14261096799912564650:=0
def tw10210262983732517530:=0
def tw15731027256895765178:=0
def tw12121102694851895320:=0
def tw10881240815362249426:=0
def tw6864799166484898429:=0
def tw5470308873365673859:=0
def tw4734048099006371573:=0
def tw18062876606255763197:=0
def tw6128021161360046344:=0
def tw11148113795773922680:=0
def tw7911312152109177686:=0
def tw18293019338875107270:=0
def tw8616783525034033257:=0
def tw3577005375360156808:=0
def tw837963471450274180:=0
def tw16719441638139010653:=0
def tw1172177226213759048:=0
def tw1975525400865966445:=0
def tw1376503319927292168:=0
def tw15943352229760143541:=0
def tw10937089340008664758:=0
def tw13576812675067411387:=0
def tw11210691085787375196:=0
def tw10974145721106770750:=0
def tw18323891787545819554:=0
def tw11212311840419632007:=0
def tw14714769820379279859:=0
def tw14727352708635287002:=0
def tw1787526846802750533:=0
def tw14748888064479873283:=0
def tw4735650023425251572:=0
def tw3903187930194219490:=0
def tw14045878415577409465:=0
def tw13932182236528061159:=0
def tw15690687025412328202:=0
def tw164149505562179140:=0
def tw7338402597460632269:=0
def tw16291932714638189927:=0
def tw2079621406301689680:=0
def tw7813827548328757145:=0
def tw13995711903500495749:=0
def tw15328258277430974799:=0
def tw984191952963320915:=0
def tw10569494986750797459:=0
def tw7077381598718821455:=0
def tw1314689896041275354:=0
def tw12784290803439046733:=0
def tw3518272318599211409:=0
def tw18324328384712473660:=0
def tw15713891319761144357:=0
def tw14622845420230575212:=0
def tw8495567021264618178:=0
def tw6053878740280126341:=0
def tw4687173499201345374:=0
def tw17476758910019897248:=0
def tw17182872977168071390:=0
def tw783592178860219696:=0
def tw8132409151093571056:=0
def tw15412292304590872372:=0
def tw6029226389253905761:=0
def tw9364014084569173287:=0
def tw17231002770548129077:=0
def tw4428841852844290192:=0
def tw14201230717384788675:=0
def tw3223077942021582529:=0
def tw6329780939050563644:=0
def tw8736425126709759393:=0
def tw16775308298243481039:=0
def tw1772463746532249730:=0
def tw18038712983602542351:=0
def tw7002946599325643306:=0
def tw2885522009354837658:=0
def tw5580652761380558274:=0
def tw15179904706303670665:=0
def tw11732198341325995976:=0
def tw12421959216355333166:=0
def tw17525744588880488548:=0
def tw14383774186349742613:=0
def tw8114763798456051478:=0
def tw16968416026033069478:=0
def tw3074331852127520876:=0
def tw4606619739916121030:=0
def tw15050752725445026014:=0
def tw18158106804315272378:=0
def tw17961849976913286335:=0
def tw14704863244714037787:=0
def tw1671677098008631213:=0
def tw6508882987614667247:=0
def tw587397615651858738:=0
def tw3283479130084114357:=0
def tw16181096423870832070:=0
def tw14751023291766933914:=0
def tw6120322812274342448:=0
def tw4650958537390160160:=0
def tw15510668776536819444:=0
def tw15094360146535439647:=0
def tw1328380590643102220:=0
def tw11363224453420671099:=0
def tw14979117834745829191:=0
def tw391491854027009423:=0
def tw8662915263440501331:=0
def tw9968801961260426985:=0
def tw8019450618756242702:=0
def tw5184081944447947634:=0
def tw8010595083416056369:=0
def tw4716818579742623991:=0
def tw7257811635850117668:=0
def tw4093667395233581235:=0
def tw7231452729366427310:=0
def tw2525225501873414995:=0
def tw8111706480328490595:=0
def tw14780206475647912959:=0
def tw12824893972852221674:=0
def tw7036901827775643455:=0
def tw15162793962169964386:=0
def tw13865822051344056123:=0
def tw15547524354020772565:=0
def tw9945480124525969895:=0
def tw10213608343465807367:=0
def tw11173497189114131041:=0
def tw9421779104064264801:=0
def tw2563471669486075330:=0
def tw5664535553139680214:=0
def tw8719618846130961692:=0
def tw15410530889899628659:=0
def tw13881953747380011281:=0
def tw13120197081165606683:=0
def tw7538647694647078845:=0
def tw11588727009639394083:=0
def tw12635824788835237789:=0
def tw12071352400672567929:=0
def tw1003670524593897136:=0
def tw15096167287487236796:=0
def tw5812664679560912066:=0
def tw8670650059573183695:=0
def tw2646622015500160574:=0
def tw16311287745805220401:=0
def tw16106461689782731004:=0
def tw10381558736658290416:=0
def tw5751823152531212604:=0
def tw4542855069775536638:=0
def tw4976108774391237607:=0
def tw10787604630911350490:=0
def tw3952312789545453600:=0
def tw3539562811271506679:=0
def tw3720103594108853178:=0
def tw13372368678830671789:=0
def tw9137093558919346889:=0
def tw2825882821728053502:=0
def tw2227129956481083774:=0
def tw15068558739151448247:=0
def tw12078290912100813025:=0
def tw14201224745559995057:=0
def tw5026362363496469571:=0
def tw3906671205047306736:=0
def tw3414306687668821469:=0
def tw18315369745732226129:=0
def tw9070851042948659651:=0
def tw13611410042727890989:=0
def tw12299672472839291119:=0
def tw1459548584579216796:=0
def tw17432978314803815606:=0
def tw12210695805455836957:=0
def tw2810180628419922690:=0
def tw7168667865440005930:=0
def tw15581142578811747814:=0
def tw7050540673455040581:=0
def tw2142943596519001859:=0
def tw3835394600857212467:=0
def tw4113149585468149212:=0
def tw10880611355754121045:=0
def tw11155866286098695210:=0
def tw8907774525119605277:=0
def tw9211436795088764700:=0
def tw6237978121137076963:=0
def tw832617418653205096:=0
def tw7796689056978940049:=0
def tw13065392381977444837:=0
def tw5166479953347828301:=0
def tw10805130327750535302:=0
def tw5973114449333877294:=0
def tw14421677186530987286:=0
def tw2276425636008504186:=0
def tw8442790434001089589:=0
def tw1127043262784992802:=0
def tw11049685151764474698:=0
def tw12530977057403660914:=0
def tw16960007165016382584:=0
def tw13200076351438252308:=0
def tw2959856022133731271:=0
def tw2355298572727659277:=0
def tw12358480961628097440:=0
def tw16938964483483819399:=0
def tw14583189076797924783:=0
def tw17958728027832210492:=0
def tw14699366882706995499:=0
def tw15126022438986698792:=0
def tw10295955644777226630:=0
def tw1796780402914952404:=0
def tw5981896804409464232:=0
def tw16797680562959943991:=0
def tw15550289671556623934:=0
def tw14258958209776510004:=0
def tw15433526114779936581:=0
def tw5464134927855647871:=0
def tw11093502292490675454:=0
def tw13186651744529010573:=0
def tw16712708362489734280:=0
def tw13019941608348399712:=0
def tw6265518516175519153:=0
def tw11583287271120454716:=0
def tw3758509716638451381:=0
def tw5880029049981521570:=0
def tw15150738189983277048:=0
def tw4327324277545315980:=0
def tw1355573429919216091:=0
def tw17533176457331587244:=0
def tw3000348395748544926:=0
def tw12670513233129267500:=0
def tw275439688256894922:=0
def tw2728477668032088598:=0
def tw9395179166570477466:=0
def tw1051000867681664331:=0
def tw17504388529487811935:=0
def tw11639248182683267086:=0
def tw15728628931595126024:=0
def tw8234155410051766983:=0
def tw5615595369331998836:=0
def tw13553199605026496692:=0
def tw5813357744130420093:=0
def tw9675585459450343756:=0
def tw13038220324832158200:=0
def tw16799847708242356229:=0
def tw9215619077351370497:=0
def tw3350241720773367300:=0
def tw13066406074065023394:=0
def tw12483656400667563067:=0
def tw12560540169991937150:=0
def tw13710409076829010159:=0
def tw9195517188299916740:=0
def tw9944348255222794989:=0
def tw18174974099199354721:=0
def tw6046917883840634351:=0
def tw14701118072122747686:=0
def tw1801334040364387641:=0
def tw10670721974986564320:=0
def tw9861677652183808715:=0
def tw7349128224170914992:=0
def tw16146793408692114403:=0
def tw5551385102861318303:=0
def tw13610734049534864253:=0
def tw7857613123186357419:=0
def tw13025139829329934917:=0
def tw3914206342059328500:=0
def tw7809706450996697361:=0
def tw3306627163738304138:=0
def tw2906111347623466994:=0
def tw4693776014329575480:=0
def tw15455550736176733304:=0
def tw7981451924828289442:=0
def tw1105659526369314072:=0
def tw13118617890153573403:=0
def tw14721670161743498078:=0
def tw10049558637762633534:=0
def tw5346214113418361318:=0
def tw1757977749112449753:=0
def tw9002121497885153760:=0
def tw4917132035347435445:=0
def tw86793975470923562:=0
def tw4871513043725454589:=0
def tw13998553703631655488:=0
def tw967869279863693465:=0
def tw939354599562600977:=0
def tw12756659426193478746:=0
def tw3104091739441875757:=0
def tw11097915844251639113:=0
def tw4081399608282577372:=0
def tw5355753035477411213:=0
def tw2146649234715173373:=0
def tw10790322767465246335:=0
def tw14911437515094793842:=0
def tw9596843876215577791:=0
def tw16829583650968413640:=0
def tw6407006286953717113:=0
def tw6924948234985154400:=0
def tw15310427330930771467:=0
def tw11161752244317082695:=0
def tw4985932814825252717:=0
def tw12176858565475954729:=0
def tw8374550607975880567:=0
def tw13411859985942342035:=0
def tw12270228671279137285:=0
def tw1361666252648086325:=0
def tw17980221301736014113:=0
def tw8713257977562957088:=0
def tw14488304188600245242:=0
def tw10770866597106373568:=0
def tw5788918247170530446:=0
def tw17983146248066637359:=0
def tw3283696650617094438:=0
def tw4713174244436285019:=0
def tw12012985770366941250:=0
end PySem.Challenge.cw_fencemask_k96_whole_bundles_put_together_holds
open PySem PySem.W PyProof.Rows
set_option maxRecDepth 100000 in
set_option maxHeartbeats 0 in
theorem PySem.Challenge.cw_fencemask_k96_whole_bundles_put_together_holds : PySem.Challenge.rw_fencemask_k96_whole_bundles_put_together.Holds := by
 w_on;o_law;k_head;(case hw=>w_witness2)
 k_fill
 refine L2.Iw (l:=PySem.Challenge.rw_fencemask_k96_whole_bundles_put_together) (k:=12) (d:=_) (x:="_law_script") rfl rfl ⟨rfl,by decide,by decide⟩ (fun w h Y=>PySem.W.kIn_of Y) ?F
 case F=>
  intro w mg fa h KX G hmg;have B:L2.Bi mg:=by
   refine' L2.MC KX G ?z0 ?z1 ?z2 ?z3 ?z4 ?z5 ?z6 ?z7 ?z8 ?z9 ?z10 ?z11 ?z12 ?z13 ?z14 ?z15
   (case z0=>k_is)
   (case z1=>k_is)
   (case z2=>k_is)
   (case z3=>k_is)
   (case z4=>k_is)
   (case z5=>k_is)
   (case z6=>k_is)
   (case z7=>k_is)
   (case z8=>k_is)
   (case z9=>k_is)
   (case z10=>k_is)
   (case z11=>k_is)
   (case z12=>k_is)
   (case z13=>k_is)
   (case z14=>k_is)
   (case z15=>k_is)
  have T:My.Tb (L2.KOf KX) mg w.params:=by
   dsimp only[L2.KOf];refine' My.MF KX G ?s (L2.fN ?sl ?sz ?sv) ?a ?l (L2.fN ?l0 ?z0 ?v0) (L2.fN ?l1 ?z1 ?v1) (L2.fN ?l2 ?z2 ?v2) (L2.fN ?l3 ?z3 ?v3) (L2.fN ?l4 ?z4 ?v4) (L2.fN ?l5 ?z5 ?v5) (L2.fN ?l6 ?z6 ?v6) (L2.fN ?l7 ?z7 ?v7) (L2.fN ?l8 ?z8 ?v8) (L2.fN ?l9 ?z9 ?v9) (L2.fN ?l10 ?z10 ?v10) (L2.fN ?l11 ?z11 ?v11) (L2.fN ?l12 ?z12 ?v12) (L2.fN ?l13 ?z13 ?v13) (L2.fN ?l14 ?z14 ?v14) (L2.fN ?l15 ?z15 ?v15) (L2.fN ?l16 ?z16 ?v16) (L2.fN ?l17 ?z17 ?v17) (L2.fN ?l18 ?z18 ?v18)
   (case s=>k_is);(case sl=>k_is);(case sz=>exact Nat.le_of_ble_eq_true rfl);(case sv=>repeat' (first | exact PySem.Paired.nil | refine PySem.Paired.cons ⟨_,rfl⟩ ?_))
   (case a=>k_is);(case l=>k_is)
   (case l0=>k_is);(case z0=>exact Nat.le_of_ble_eq_true rfl);(case v0=>repeat' (first | exact PySem.Paired.nil | refine PySem.Paired.cons ⟨_,rfl⟩ ?_))
   (case l1=>k_is);(case z1=>exact Nat.le_of_ble_eq_true rfl);(case v1=>repeat' (first | exact PySem.Paired.nil | refine PySem.Paired.cons ⟨_,rfl⟩ ?_))
   (case l2=>k_is);(case z2=>exact Nat.le_of_ble_eq_true rfl);(case v2=>repeat' (first | exact PySem.Paired.nil | refine PySem.Paired.cons ⟨_,rfl⟩ ?_))
   (case l3=>k_is);(case z3=>exact Nat.le_of_ble_eq_true rfl);(case v3=>repeat' (first | exact PySem.Paired.nil | refine PySem.Paired.cons ⟨_,rfl⟩ ?_))
   (case l4=>k_is);(case z4=>exact Nat.le_of_ble_eq_true rfl);(case v4=>repeat' (first | exact PySem.Paired.nil | refine PySem.Paired.cons ⟨_,rfl⟩ ?_))
   (case l5=>k_is);(case z5=>exact Nat.le_of_ble_eq_true rfl);(case v5=>repeat' (first | exact PySem.Paired.nil | refine PySem.Paired.cons ⟨_,rfl⟩ ?_))
   (case l6=>k_is);(case z6=>exact Nat.le_of_ble_eq_true rfl);(case v6=>repeat' (first | exact PySem.Paired.nil | refine PySem.Paired.cons ⟨_,rfl⟩ ?_))
   (case l7=>k_is);(case z7=>exact Nat.le_of_ble_eq_true rfl);(case v7=>repeat' (first | exact PySem.Paired.nil | refine PySem.Paired.cons ⟨_,rfl⟩ ?_))
   (case l8=>k_is);(case z8=>exact Nat.le_of_ble_eq_true rfl);(case v8=>repeat' (first | exact PySem.Paired.nil | refine PySem.Paired.cons ⟨_,rfl⟩ ?_))
   (case l9=>k_is);(case z9=>exact Nat.le_of_ble_eq_true rfl);(case v9=>repeat' (first | exact PySem.Paired.nil | refine PySem.Paired.cons ⟨_,rfl⟩ ?_))
   (case l10=>k_is);(case z10=>exact Nat.le_of_ble_eq_true rfl);(case v10=>repeat' (first | exact PySem.Paired.nil | refine PySem.Paired.cons ⟨_,rfl⟩ ?_))
   (case l11=>k_is);(case z11=>exact Nat.le_of_ble_eq_true rfl);(case v11=>repeat' (first | exact PySem.Paired.nil | refine PySem.Paired.cons ⟨_,rfl⟩ ?_))
   (case l12=>k_is);(case z12=>exact Nat.le_of_ble_eq_true rfl);(case v12=>repeat' (first | exact PySem.Paired.nil | refine PySem.Paired.cons ⟨_,rfl⟩ ?_))
   (case l13=>k_is);(case z13=>exact Nat.le_of_ble_eq_true rfl);(case v13=>repeat' (first | exact PySem.Paired.nil | refine PySem.Paired.cons ⟨_,rfl⟩ ?_))
   (case l14=>k_is);(case z14=>exact Nat.le_of_ble_eq_true rfl);(case v14=>repeat' (first | exact PySem.Paired.nil | refine PySem.Paired.cons ⟨_,rfl⟩ ?_))
   (case l15=>k_is);(case z15=>exact Nat.le_of_ble_eq_true rfl);(case v15=>repeat' (first | exact PySem.Paired.nil | refine PySem.Paired.cons ⟨_,rfl⟩ ?_))
   (case l16=>k_is);(case z16=>exact Nat.le_of_ble_eq_true rfl);(case v16=>repeat' (first | exact PySem.Paired.nil | refine PySem.Paired.cons ⟨_,rfl⟩ ?_))
   (case l17=>k_is);(case z17=>exact Nat.le_of_ble_eq_true rfl);(case v17=>repeat' (first | exact PySem.Paired.nil | refine PySem.Paired.cons ⟨_,rfl⟩ ?_))
   (case l18=>k_is);(case z18=>exact Nat.le_of_ble_eq_true rfl);(case v18=>repeat' (first | exact PySem.Paired.nil | refine PySem.Paired.cons ⟨_,rfl⟩ ?_))
  have T2:My.Tb2 (L2.KOf KX) mg:=by
   dsimp only[L2.KOf];refine' ⟨⟨_,PySem.W.mg_of KX G ?a1,L2.fN ?l1 ?z1 ?v1⟩,⟨_,PySem.W.mg_of KX G ?a2,L2.fN ?l2 ?z2 ?v2⟩⟩
   (case a1=>k_is);(case l1=>k_is);(case z1=>exact Nat.le_of_ble_eq_true rfl);(case v1=>repeat' (first | exact PySem.Paired.nil | refine PySem.Paired.cons ⟨_,rfl⟩ ?_))
   (case a2=>k_is);(case l2=>k_is);(case z2=>exact Nat.le_of_ble_eq_true rfl);(case v2=>repeat' (first | exact PySem.Paired.nil | refine PySem.Paired.cons ⟨_,rfl⟩ ?_))
  have Tx:∃CT,mg "TooLong"=some (.ref CT)/\L2.F3 (L2.KOf KX) CT:=by
   dsimp only[L2.KOf];refine' ⟨_,PySem.W.mg_of KX G ?a,⟨?b⟩⟩
   (case a=>k_is);(case b=>k_exc)
  have⟨gL,dn,fB,gz,fS,je,lD⟩:∃C:Addr,L2.dW (L2.KOf KX) mg "Holding" C/\My.fD (L2.KOf KX) C/\My.gj (L2.KOf KX) C/\My.fT (L2.KOf KX) C/\My.jd (L2.KOf KX) C/\My.kQ (L2.KOf KX) C:=by
   dsimp only[L2.KOf];refine' ⟨_,L2.wm KX G ?a ?pg ?hd ?po ?sa ?mk ?kp,⟨?n0,?n1,?n2,?n3,?n4,?n5⟩,L2.cK My.qo ?a0 ?l0 ?c0 ?f0 ?k0,L2.cK My.pJ ?a1 ?l1 ?c1 ?f1 ?k1,L2.cK My.ur ?a2 ?l2 ?c2 ?f2 ?k2,L2.cK My.yu ?a3 ?l3 ?c3 ?f3 ?k3⟩
   (case a=>k_is);(case pg=>k_is);(case hd=>k_is);(case po=>k_is);(case sa=>k_is);(case mk=>k_is);(case kp=>k_is)
   (case n0=>k_is);(case n1=>k_is);(case n2=>k_is);(case n3=>k_is);(case n4=>k_is);(case n5=>k_is)
   (case a0=>k_is);(case l0=>k_is);(case c0=>k_is);(case f0=>k_is);(case k0=>k_is)
   (case a1=>k_is);(case l1=>k_is);(case c1=>k_is);(case f1=>k_is);(case k1=>k_is)
   (case a2=>k_is);(case l2=>k_is);(case c2=>k_is);(case f2=>k_is);(case k2=>k_is)
   (case a3=>k_is);(case l3=>k_is);(case c3=>k_is);(case f3=>k_is);(case k3=>k_is)
  have⟨ip,eK,ir,gF,iy,nA,eU⟩:∃C:Addr,L2.dW (L2.KOf KX) mg "Machine" C/\My.hX (L2.KOf KX) C/\My.gm (L2.KOf KX) C/\My.ix (L2.KOf KX) C/\My.lX (L2.KOf KX) C/\My.eM (L2.KOf KX) C:=by
   dsimp only[L2.KOf];refine' ⟨_,L2.wm KX G ?a ?pg ?hd ?po ?sa ?mk ?kp,⟨?n0,?n1,?n2,?n3⟩,L2.cK My.qr ?a0 ?l0 ?c0 ?f0 ?k0,L2.cK My.sC ?a1 ?l1 ?c1 ?f1 ?k1,L2.cK My.zf ?a2 ?l2 ?c2 ?f2 ?k2,L2.cK My.lY ?a3 ?l3 ?c3 ?f3 ?k3⟩
   (case a=>k_is);(case pg=>k_is);(case hd=>k_is);(case po=>k_is);(case sa=>k_is);(case mk=>k_is);(case kp=>k_is)
   (case n0=>k_is);(case n1=>k_is);(case n2=>k_is);(case n3=>k_is)
   (case a0=>k_is);(case l0=>k_is);(case c0=>k_is);(case f0=>k_is);(case k0=>k_is)
   (case a1=>k_is);(case l1=>k_is);(case c1=>k_is);(case f1=>k_is);(case k1=>k_is)
   (case a2=>k_is);(case l2=>k_is);(case c2=>k_is);(case f2=>k_is);(case k2=>k_is)
   (case a3=>k_is);(case l3=>k_is);(case c3=>k_is);(case f3=>k_is);(case k3=>k_is)
  have⟨dz,bp,cv,fi,dC,fe,iB,d5,dP⟩:∃C:Addr,L2.dW (L2.KOf KX) mg "LaidBlock" C/\My.cr (L2.KOf KX) C/\My.fz (L2.KOf KX) C/\My.dD (L2.KOf KX) C/\My.eO (L2.KOf KX) C/\My.il (L2.KOf KX) C/\My.eo (L2.KOf KX) C/\My.dO (L2.KOf KX) C:=by
   dsimp only[L2.KOf];refine' ⟨_,L2.wm KX G ?a ?pg ?hd ?po ?sa ?mk ?kp,⟨?n0,?n1,?n2⟩,L2.cK My.nZ ?a0 ?l0 ?c0 ?f0 ?k0,L2.cK My.kr ?a1 ?l1 ?c1 ?f1 ?k1,L2.cK My.nG ?a2 ?l2 ?c2 ?f2 ?k2,L2.cK My.sO ?a3 ?l3 ?c3 ?f3 ?k3,L2.cK My.lQ ?a4 ?l4 ?c4 ?f4 ?k4,L2.cK My.lB ?a5 ?l5 ?c5 ?f5 ?k5⟩
   (case a=>k_is);(case pg=>k_is);(case hd=>k_is);(case po=>k_is);(case sa=>k_is);(case mk=>k_is);(case kp=>k_is)
   (case n0=>k_is);(case n1=>k_is);(case n2=>k_is)
   (case a0=>k_is);(case l0=>k_is);(case c0=>k_is);(case f0=>k_is);(case k0=>k_is)
   (case a1=>k_is);(case l1=>k_is);(case c1=>k_is);(case f1=>k_is);(case k1=>k_is)
   (case a2=>k_is);(case l2=>k_is);(case c2=>k_is);(case f2=>k_is);(case k2=>k_is)
   (case a3=>k_is);(case l3=>k_is);(case c3=>k_is);(case f3=>k_is);(case k3=>k_is)
   (case a4=>k_is);(case l4=>k_is);(case c4=>k_is);(case f4=>k_is);(case k4=>k_is)
   (case a5=>k_is);(case l5=>k_is);(case c5=>k_is);(case f5=>k_is);(case k5=>k_is)
  have⟨kI,iO,mL,io,j9,gE,fW,gr⟩:∃C:Addr,L2.dW (L2.KOf KX) mg "Known" C/\My.nI (L2.KOf KX) C/\My.ig (L2.KOf KX) C/\My.jJ (L2.KOf KX) C/\My.gg (L2.KOf KX) C/\My.fR (L2.KOf KX) C/\My.gC (L2.KOf KX) C:=by
   dsimp only[L2.KOf];refine' ⟨_,L2.wm KX G ?a ?pg ?hd ?po ?sa ?mk ?kp,⟨?n0,?n1,?n2⟩,L2.cK My.tL ?a0 ?l0 ?c0 ?f0 ?k0,L2.cK My.vL ?a1 ?l1 ?c1 ?f1 ?k1,L2.cK My.qm ?a2 ?l2 ?c2 ?f2 ?k2,L2.cK My.pf ?a3 ?l3 ?c3 ?f3 ?k3,L2.cK My.qk ?a4 ?l4 ?c4 ?f4 ?k4⟩
   (case a=>k_is);(case pg=>k_is);(case hd=>k_is);(case po=>k_is);(case sa=>k_is);(case mk=>k_is);(case kp=>k_is)
   (case n0=>k_is);(case n1=>k_is);(case n2=>k_is)
   (case a0=>k_is);(case l0=>k_is);(case c0=>k_is);(case f0=>k_is);(case k0=>k_is)
   (case a1=>k_is);(case l1=>k_is);(case c1=>k_is);(case f1=>k_is);(case k1=>k_is)
   (case a2=>k_is);(case l2=>k_is);(case c2=>k_is);(case f2=>k_is);(case k2=>k_is)
   (case a3=>k_is);(case l3=>k_is);(case c3=>k_is);(case f3=>k_is);(case k3=>k_is)
   (case a4=>k_is);(case l4=>k_is);(case c4=>k_is);(case f4=>k_is);(case k4=>k_is)
  have jT:=L2.aF My.vJ KX G (by k_is) (by k_is) (by k_is) (by k_is)
  have ED:=L2.aF My.J6 KX G (by k_is) (by k_is) (by k_is) (by k_is)
  have BB:=L2.aF My.GX KX G (by k_is) (by k_is) (by k_is) (by k_is)
  have yr:=L2.aF My.Gi KX G (by k_is) (by k_is) (by k_is) (by k_is)
  have mJ:=L2.aF My.zd KX G (by k_is) (by k_is) (by k_is) (by k_is)
  have jH:=L2.aF My.vH KX G (by k_is) (by k_is) (by k_is) (by k_is)
  have mQ:=L2.aF My.yI KX G (by k_is) (by k_is) (by k_is) (by k_is)
  have sr:=L2.aF My.DU KX G (by k_is) (by k_is) (by k_is) (by k_is)
  have oK:=L2.aF My.Bh KX G (by k_is) (by k_is) (by k_is) (by k_is)
  have eB:=L2.aF My.lT KX G (by k_is) (by k_is) (by k_is) (by k_is)
  have iD:=L2.aF My.sV KX G (by k_is) (by k_is) (by k_is) (by k_is)
  have rY:=L2.aF My.Cb KX G (by k_is) (by k_is) (by k_is) (by k_is)
  have jM:=L2.aF My.vB KX G (by k_is) (by k_is) (by k_is) (by k_is)
  have pM:=L2.aF My.AJ KX G (by k_is) (by k_is) (by k_is) (by k_is)
  have pR:=L2.aF My.Bt KX G (by k_is) (by k_is) (by k_is) (by k_is)
  have mP:=L2.aF My.yT KX G (by k_is) (by k_is) (by k_is) (by k_is)
  have mK:=L2.aF My.yW KX G (by k_is) (by k_is) (by k_is) (by k_is)
  have iz:=L2.aF My.uc KX G (by k_is) (by k_is) (by k_is) (by k_is)
  have xZ:=L2.aF My.Gc KX G (by k_is) (by k_is) (by k_is) (by k_is)
  have o8:=L2.aF My.A7 KX G (by k_is) (by k_is) (by k_is) (by k_is)
  have jV:=L2.aF My.vN KX G (by k_is) (by k_is) (by k_is) (by k_is)
  have o6:=L2.aF My.Ar KX G (by k_is) (by k_is) (by k_is) (by k_is)
  have q9:=L2.aF My.CC KX G (by k_is) (by k_is) (by k_is) (by k_is)
  have rC:=L2.aF My.Df KX G (by k_is) (by k_is) (by k_is) (by k_is)
  have rP:=L2.aF My.B0 KX G (by k_is) (by k_is) (by k_is) (by k_is)
  have uB:=L2.aF My.EW KX G (by k_is) (by k_is) (by k_is) (by k_is)
  have o5:=L2.aF My.Ba KX G (by k_is) (by k_is) (by k_is) (by k_is)
  have o9:=L2.aF My.Bn KX G (by k_is) (by k_is) (by k_is) (by k_is)
  have mZ:=L2.aF My.yH KX G (by k_is) (by k_is) (by k_is) (by k_is)
  have lv:=L2.aF My.xP KX G (by k_is) (by k_is) (by k_is) (by k_is)
  have oj:=L2.aF My.BA KX G (by k_is) (by k_is) (by k_is) (by k_is)
  have si:=L2.aF My.DW KX G (by k_is) (by k_is) (by k_is) (by k_is)
  have rh:=L2.aF My.DC KX G (by k_is) (by k_is) (by k_is) (by k_is)
  have kW:=L2.aF My.yw KX G (by k_is) (by k_is) (by k_is) (by k_is)
  have oF:=L2.aF My.A5 KX G (by k_is) (by k_is) (by k_is) (by k_is)
  have jD:=L2.aF My.vA KX G (by k_is) (by k_is) (by k_is) (by k_is)
  have jj:=L2.aF My.uN KX G (by k_is) (by k_is) (by k_is) (by k_is)
  have kf:=L2.aF My.vE KX G (by k_is) (by k_is) (by k_is) (by k_is)
  have pS:=L2.aF My.Bw KX G (by k_is) (by k_is) (by k_is) (by k_is)
  have my:=L2.aF My.yN KX G (by k_is) (by k_is) (by k_is) (by k_is)
  have rB:=L2.aF My.DA KX G (by k_is) (by k_is) (by k_is) (by k_is)
  have fw:=L2.aF My.nV KX G (by k_is) (by k_is) (by k_is) (by k_is)
  have lF:=L2.aF My.xt KX G (by k_is) (by k_is) (by k_is) (by k_is)
  have wl:=L2.aF My.Hx KX G (by k_is) (by k_is) (by k_is) (by k_is)
  have uC:=L2.aF My.Ez KX G (by k_is) (by k_is) (by k_is) (by k_is)
  have d_run:=L2.aF My.LG KX G (by k_is) (by k_is) (by k_is) (by k_is)
  have ng:=L2.aF My.yA KX G (by k_is) (by k_is) (by k_is) (by k_is)
  have me:=L2.aF My.yP KX G (by k_is) (by k_is) (by k_is) (by k_is)
  have xq:=L2.aF My.GK KX G (by k_is) (by k_is) (by k_is) (by k_is)
  have Aq:=L2.aF My.IB KX G (by k_is) (by k_is) (by k_is) (by k_is)
  have kY:=L2.aF My.yj KX G (by k_is) (by k_is) (by k_is) (by k_is)
  have pC:=L2.aF My.AS KX G (by k_is) (by k_is) (by k_is) (by k_is)
  have ie:=L2.aF My.sy KX G (by k_is) (by k_is) (by k_is) (by k_is)
  have oZ:=L2.aF My.By KX G (by k_is) (by k_is) (by k_is) (by k_is)
  have iA:=L2.aF My.tM KX G (by k_is) (by k_is) (by k_is) (by k_is)
  have kl:=L2.aF My.vO KX G (by k_is) (by k_is) (by k_is) (by k_is)
  have jI:=L2.aF My.vU KX G (by k_is) (by k_is) (by k_is) (by k_is)
  have Ex:=L2.aF My.J_ KX G (by k_is) (by k_is) (by k_is) (by k_is)
  have jc:=L2.aF My.uE KX G (by k_is) (by k_is) (by k_is) (by k_is)
  have Ev:=L2.aF My.Km KX G (by k_is) (by k_is) (by k_is) (by k_is)
  have o_:=L2.aF My.Ax KX G (by k_is) (by k_is) (by k_is) (by k_is)
  have oY:=L2.aF My.Bf KX G (by k_is) (by k_is) (by k_is) (by k_is)
  have nv:=L2.aF My.yF KX G (by k_is) (by k_is) (by k_is) (by k_is)
  have pD:=L2.aF My.Bx KX G (by k_is) (by k_is) (by k_is) (by k_is)
  have gT:=L2.aF My.rj KX G (by k_is) (by k_is) (by k_is) (by k_is)
  have mR:=L2.aF My.y9 KX G (by k_is) (by k_is) (by k_is) (by k_is)
  have kL:=L2.aF My.wF KX G (by k_is) (by k_is) (by k_is) (by k_is)
  have pL:=L2.aF My.A3 KX G (by k_is) (by k_is) (by k_is) (by k_is)
  have rT:=L2.aF My.Cp KX G (by k_is) (by k_is) (by k_is) (by k_is)
  have mw:=L2.aF My.yL KX G (by k_is) (by k_is) (by k_is) (by k_is)
  have lu:=L2.aF My.xO KX G (by k_is) (by k_is) (by k_is) (by k_is)
  have rV:=L2.aF My.Dw KX G (by k_is) (by k_is) (by k_is) (by k_is)
  have ls:=L2.aF My.xw KX G (by k_is) (by k_is) (by k_is) (by k_is)
  have mI:=L2.aF My.yV KX G (by k_is) (by k_is) (by k_is) (by k_is)
  have kO:=L2.aF My.x6 KX G (by k_is) (by k_is) (by k_is) (by k_is)
  have kP:=L2.aF My.xA KX G (by k_is) (by k_is) (by k_is) (by k_is)
  have k_:=L2.aF My.wO KX G (by k_is) (by k_is) (by k_is) (by k_is)
  have jE:=L2.aF My.vZ KX G (by k_is) (by k_is) (by k_is) (by k_is)
  have fU:=L2.aF My.ou KX G (by k_is) (by k_is) (by k_is) (by k_is)
  have fO:=L2.aF My.oA KX G (by k_is) (by k_is) (by k_is) (by k_is)
  refine' L2.Ld My.LS KX G hmg ?a ?l ?c ?k (fun f fd D base=>My.KW B T T2 Tx dn fB eK ir bp cv iO mL jT ED BB yr mJ jH mQ sr oK eB iD rY jM pM pR mP mK iz xZ o8 jV o6 q9 rC rP uB o5 o9 mZ lv oj si rh kW oF jD jj kf pS my rB fw lF wl uC gz fS je lD gF iy nA eU d_run fi dC fe iB d5 dP ng me xq Aq kY pC ie oZ iA kl jI Ex io j9 gE fW gr jc Ev o_ oY nv pD gT mR kL pL rT mw lu rV ls mI kO kP k_ jE fU fO D)
  case a | l | c | k=>k_is
