import PyProof.Rows.All
import Wide.All
import OpenK.AllK
import Wide.FinOn
import Lean
import PyProof.EqAt
import PyProof.EqKinds
import PyProof.TupleCall
import PySem.Challenge.RW_fencemask_k83_whole_plain_and_masked_ali
open PySem.W (Frag)
set_option Elab.async false
set_option linter.all false
set_option maxRecDepth 100000
def be:=@List.getElem?_eq_getElem
def fI:=@List.length_map
def gV:=@List.getElem?_eq_some_iff
def mC:=@if_neg
def mF:=@PySem.wpAny_bind
def MA:=@List.length_append
def MB:=@PySem.Heap.get?_push_of_some
def MC:=@Nat.le_refl
def MD:=@List.mem_of_getElem?
def ME:=@if_pos
def MF:=@List.getD_eq_getElem?_getD
def MG:=@decide_eq_false
def MH:=@List.map_append
def MI:=@List.size_toArray
def MJ:=@Nat.lt_of_lt_of_le
def MK:=@PySem.Heap.lt_size
def ML:=@List.take_length
def MN:=@Int.toNat_natCast
def MO:=@decide_eq_true
def MP:=@Bool.false_ne_true
def MQ:=@PySem.wpAny_pure
def MR:=@Option.some.inj
def MS:=@List.append_nil
def MT:=@List.getElem?_append_right
def MU:=@List.length_cons
def MV:=@Nat.le_trans
def MW:=@List.getElem?_map
def MX:=@PySem.F.plainAttrs_list
def MY:=@List.mem_singleton
def MZ:=@List.mem_append
def M0:=@List.length_take
def M3:=@List.mem_cons
def M4:=@List.append_assoc
def M5:=@Nat.ne_of_lt
def M6:=@PySem.Heap.get?_push_size
def M7:=@PySem.PassesOwn.never
def M8:=@List.mem_cons_of_mem
def M9:=@PySem.F.slot_list_append
def M_:=@PySem.F.type_list_append
def Na:=@Nat.zero_le
def Nb:=@Ne.symm
def Nc:=@List.mem_cons_self
def Nd:=@List.map_cons
def Nf:=@List.mem_append_right
def Ng:=@congrArg
def Nh:=@List.getElem?_append_left
def Ni:=@List.length_drop
def Nj:=@PyProof.Rows.slot_tuple_getitem
def Nk:=@List.length_replicate
def Nl:=@List.length_nil
def Nm:=@List.getElem_mem
def Nn:=@List.mem_map
def Np:=@PySem.W.mg_none_of
def Nq:=@Bool.and_eq_true
def Nr:=@List.not_mem_nil
def Nt:=@beq_eq_false_iff_ne
def Nu:=@List.replicate_succ
def Nv:=@List.length_singleton
def Nw:=@Nat.lt_of_le_of_lt
def Ny:=@Nat.zero_add
def Nz:=@Int.toNat_of_nonneg
def NA:=@PySem.wpAny_field
def NB:=@PySem.wpAny_callSpecial?_slot
def NC:=@Int.eq_ofNat_of_zero_le
def ND:=@PySem.wpAny_mono
def NF:=@PySem.mem_of_lookup
def NG:=@List.drop_eq_getElem_cons
def NH:=@PySem.wpAny_Call_Name_kw
def NI:=@beq_self_eq_true
def NJ:=@Int.mul_le_mul_of_nonneg_right
def NK:=@Nat.mul_le_mul_right
def NL:=@PySem.wpAny_newObj_type
def NM:=@List.nodup_cons
def NN:=@PyProof.Rows.callWith_type1
def NO:=@Nat.sub_self
def NQ:=@Nat.lt_irrefl
def NR:=@PySem.F.slot_tuple_iterator_next
def NS:=@PySem.wpAny_seqItems
def NT:=@PySem.wpAny_setField_rec
def NU:=@List.mem_replicate
def NV:=@Nat.eq_zero_or_pos
def NW:=@PySem.wpAny_passesOwn
def NX:=@List.find?_cons
def NY:=@Int.emod_nonneg
def NZ:=@Nat.pow_le_pow_right
def N1:=@Int.le_refl
def N2:=@Int.emod_eq_of_lt
def N3:=@List.length_pos_iff
def N4:=@Nat.add_sub_cancel'
def N5:=@PySem.wpAny_call_entry
def N6:=@List.lookup_cons
def N7:=@List.getElem?_cons_succ
def N8:=@List.take_succ
def N9:=@decide_eq_decide
def N_:=@Nat.ne_of_gt
def Oa:=@List.mem_filterMap
def Ob:=@Int.emod_lt_of_pos
def Oc:=@List.drop_eq_nil_of_le
def Od:=@List.getElem?_eq_none
def Oe:=@PySem.wpAny_truthy_bool
def Of:=@List.flatten_cons
def Og:=@PySem.Heap.size_push
def Oh:=@Nat.le_succ
def Oi:=@List.mem_of_mem_take
def Oj:=@Nat.le_of_lt
def Ol:=@Nat.lt_or_ge
def Om:=@List.map_eq_nil_iff
def On:=@PySem.F.args_tuple_add_2
def Oo:=@or_false
def Oq:=@Int.mul_assoc
def Os:=@PySem.F.slot_list_extend
def Ot:=@PySem.F.type_list_extend
def Ou:=@beq_iff_eq
def Ov:=@PySem.F.entry_tuple_add
def Ow:=@Int.pow_add
def Ox:=@PySem.codeAny_mono
def Oy:=@PySem.F.slot_tuple_add
def Oz:=@PyProof.Rows.subscriptTail_builtinR
def OA:=@List.foldl_append
def OB:=@List.take_of_length_le
def OC:=@PySem.F.slot_dict_get
def OD:=@List.getElem?_toArray
def OE:=@Nat.le_of_ble_eq_true
def OF:=@List.take_append_drop
def OG:=@Bool.and_eq_false_iff
def OH:=@List.cons_append
def OI:=@PySem.wpAny_holding
def OJ:=@List.any_cons
def OK:=@not_not_intro
def OL:=@PySem.wpAny_updateSeq_pair
def OM:=@PySem.wpAny_execs_nil
def ON:=@Bool.eq_iff_iff
def OO:=@PySem.F.args_tuple_iterator_next_1
def OP:=@PySem.F.slot_zip_next
def OQ:=@Nat.min_eq_left
def OR:=@List.filterMap_cons
def OS:=@Array.length_toList
def OT:=@List.flatMap_append
def OU:=@List.map_nil
def OV:=@PySem.F.entry_tuple_iterator_next
def OW:=@Int.le_of_lt
def OX:=@Int.mul_lt_mul_of_pos_right
def OY:=@PySem.Calls.Name_function_global
def OZ:=@PySem.Calls.spliced_cons
def O0:=@PySem.call_meets
def O1:=@PySem.tupleKind_room_in1
def O2:=@List.nodup_nil
def O3:=@Bool.false_eq_true
def O4:=@List.getElem?_drop
def O5:=@Int.mul_nonneg
def O6:=@List.mem_or_eq_of_mem_set
def O7:=@Decidable.byContradiction
def O8:=@Exists.elim
def O9:=@if_true
def O_:=@Int.dvd_sub
def Pa:=@Int.dvd_add
def Pb:=@Int.one_mul
def Pc:=@PySem.W.hideAll_get
def Pd:=@PySem.wpAny_comprehension_free
def Pe:=@PySem.wpAny_onRaise
def Pf:=@Int.mul_ediv_cancel_left
def Pg:=@PySem.F.slot_dict_update
def Ph:=@Bool.true_and
def Pj:=@List.eq_of_mem_replicate
def Pk:=@List.map_take
def Pm:=@Nat.lt_succ_self
def Pn:=@List.getElem?_replicate
def Po:=@PySem.noFill_tuple_add
def Pp:=@Nat.min_le_right
def Pq:=@PySem.F.args_dict_get_3
def Pr:=@PySem.F.plainAttrs_dict
def Pt:=@List.any_eq_true
def Pu:=@Nat.exists_eq_add_of_le
def Pw:=@Nat.add_sub_cancel_left
def Px:=@List.getElem?_set_self
def Py:=@PySem.W.callWith_K
def Pz:=@PySem.Heap.get?_update_other
def PB:=@PySem.Calls.callWith_builtin
def PD:=@PySem.F.entry_dict_get
def PF:=@Nat.sub_zero
def PH:=@Int.pow_succ
def PJ:=@Int.mul_comm
def PK:=@Int.add_zero
def PM:=@Nat.add_zero
def PN:=@Option.map_eq_none_iff
def PP:=@List.of_mem_zip
def PQ:=@List.length_set
def PR:=@List.forIn_cons
def PU:=@Option.map_some
def PV:=@Nat.min_le_left
def PX:=@List.take_left'
def PY:=@PySem.wpAny_isTrue_Compare1
def PZ:=@PySem.Heap.get?_update_self
def P0:=@Int.mul_ediv_add_emod
def P5:=@Bool.false_and
def P7:=@if_false
def Qh:=@PySem.Paired.length
def Qi:=@PyProof.Rows.Constant_none
def Qj:=@PySem.wpAny_standAt
def Qk:=@PySem.W.plainGet_of
def Ql:=@PySem.W.callWith_K0
def Qm:=@PySem.seq_tuple_add
def Qn:=@Bool.false_or
def Qo:=@Int.dvd_trans
def Qp:=@PyProof.Rows.eq_dataH_same
def Qq:=@PyProof.Rows.ne_dataH_same
def Qr:=@List.take_set
def Qz:=@PySem.wpAny_rule
def QD:=@PySem.W.of_hideAll
def QH:=@PySem.concat_meets
def QI:=@Prod.ext
def QK:=@PySem.wpAny_typeOf
def QL:=@PySem.seqIndex_neg
def QO:=@Nat.succ_mul
def QP:=@PySem.call_meetsIn
def QT:=@Int.dvd_refl
def QU:=@Int.pow_zero
def QW:=@PySem.W.noMix_ints
def QY:=@PySem.SeqAt.EqAt.of_refs
def QZ:=@List.map_map
def Rw:=@PySem.W.mg_of
namespace L2
open PySem PySem.Spec PyProof.Rows
abbrev Key:=Sum Int Str
noncomputable def lE:Key->Value->Bool
 | .inl k,v=>Value.isInt k v
 | .inr x,v=>Value.isStrOf x v
noncomputable def Me(w:World):Key->Int
 | .inl k=>hashInt k
 | .inr x=>hashStr w x
theorem cw:∀{k:Key}{v:Value},lE k v=true->(∃i t,k=Sum.inl i/\v=Value.int i t)\/(∃x t,k=Sum.inr x/\v=Value.str x t)
 | .inl i,v,h=>by
  obtain⟨t,e⟩:=Value.isInt_shape (k:=i) (v:=v) h;exact .inl ⟨i,t,rfl,e⟩
 | .inr x,v,h=>by
  obtain⟨t,e⟩:=Value.isStrOf_shape (x:=x) (v:=v) h;exact .inr ⟨x,t,rfl,e⟩
theorem Fb(i:Int)(t:Tok):lE (.inl i) (.int i t)=true:=by simp [lE,Value.isInt]
theorem yz(x:Str)(t:Tok):lE (.inr x) (.str x t)=true:=by simp [lE,Value.isStrOf]
theorem KH(a b:Int):decide ((Sum.inl a:Key)=Sum.inl b)=(a==b):=by
 by_cases e:a=b
 .subst e;simp
 .have h:¬(Sum.inl a:Key)=Sum.inl b:=fun q=>e (Sum.inl.inj q)
  rw[MG h];exact(Nt.mpr e).symm
theorem KG(a b:Str):decide ((Sum.inr a:Key)=Sum.inr b)=decide (a=b):=by
 by_cases e:a=b
 .subst e;simp
 .have h:¬(Sum.inr a:Key)=Sum.inr b:=fun q=>e (Sum.inr.inj q)
  rw[MG h,MG e]
theorem Kv(a:Int)(b:Str):decide ((Sum.inl a:Key)=Sum.inr b)=false:=MG (fun q=>nomatch q)
theorem JT(a:Str)(b:Int):decide ((Sum.inr a:Key)=Sum.inl b)=false:=MG (fun q=>nomatch q)
noncomputable def cr(prog:Program)(w:World):PySem.KeyKind prog w Key where
 is:=lE
 hash:=Me w
 inj:=fun v a b I C=>by
  rcases cw I with⟨i,t,rfl,rfl⟩|⟨x,t,rfl,rfl⟩
  .rcases cw C with⟨j,u,rfl,e⟩|⟨y,u,rfl,e⟩
   .injection e with e1 _;rw[e1]
   .exact nomatch e
  .rcases cw C with⟨j,u,rfl,e⟩|⟨y,u,rfl,e⟩
   .exact nomatch e
   .injection e with e1 _;rw[e1]
 byValue:=fun k v h=>by
  rcases cw h with⟨i,t,rfl,rfl⟩|⟨x,t,rfl,rfl⟩ <;> rfl
 pyHash:=fun o h=>by
  rcases cw o with⟨i,t,rfl,rfl⟩|⟨x,t,rfl,rfl⟩
  .exact wpAny_pyHash_int h
  .exact wpAny_pyHash_str h
 eqBool:=fun J o h=>by
  rcases cw J with⟨i,t,rfl,rfl⟩|⟨x,t,rfl,rfl⟩
  .rcases cw o with⟨j,u,rfl,rfl⟩|⟨y,u,rfl,rfl⟩
   .rw[KH] at h;exact wpAny_eqBool_int h
   .rw[Kv] at h;exact SeqAt.EqAt.int_str i t y u _ _ _ _ h
  .rcases cw o with⟨j,u,rfl,rfl⟩|⟨y,u,rfl,rfl⟩
   .rw[JT] at h;exact SeqAt.EqAt.str_int x t j u _ _ _ _ h
   .rw[KG] at h;exact wpAny_eqBool_str h
 «strs»:=fun k x t v h=>by
  rcases cw h with⟨i,u,rfl,e⟩|⟨y,u,rfl,e⟩
  .exact nomatch e
  .injection e with e1 _
   subst e1
   cases v <;> rfl
theorem AQ(prog:Program)(w:World)(i:Int)(t:Tok):(cr prog w).is (.inl i) (.int i t)=true:=Fb i t
theorem uB(prog:Program)(w:World)(x:Str)(t:Tok):(cr prog w).is (.inr x) (.str x t)=true:=yz x t
inductive V where
 | non | bl (b:Bool) | int (i:Int) | str (x:Str) | byt (b:Array UInt8) | flt (b:UInt64) | ref (a:Addr) | ty (n:String)
 deriving DecidableEq
def bv:V->Value->Prop
 | .non,u=>u=Value.none
 | .bl b,u=>u=Value.bool b
 | .int i,u=>∃t,u=Value.int i t
 | .str x,u=>∃t,u=Value.str x t
 | .byt b,u=>∃t,u=Value.bytes b t
 | .flt b,u=>∃t,u=Value.float b t
 | .ref a,u=>u=Value.ref a
 | .ty n,u=>u=Value.type n
abbrev bg:List V->List Value->Prop:=Paired bv
theorem bg.length{xs:List V}{us:List Value}(r:bg xs us):xs.length=us.length:=Qh r
theorem bg.get:∀{xs:List V}{us:List Value}{i:Nat}{x:V},bg xs us->xs[i]? =some x->∃u,us[i]? =some u/\bv x u
 | _,_,_,_,.nil,e=>by simp at e
 | _,_,0,_,.cons r _,e=>by simp at e;subst e;exact⟨_,rfl,r⟩
 | _,_,i+1,x,.cons _ t,e=>by
  obtain⟨u,C,o⟩:=bg.get (i:=i) (x:=x) t (by simpa using e)
  exact⟨u,by simpa using C,o⟩
theorem bg.set{x:V}{u:Value}(r:bv x u):∀{xs:List V}{us:List Value}(i:Nat),bg xs us->bg (xs.set i x) (us.set i u)
 | _,_,_,.nil=> .nil
 | _,_,0,.cons _ t=> .cons r t
 | _,_,i+1,.cons q t=> .cons q (bg.set r i t)
theorem bg.append:∀{xs ys:List V}{us ws:List Value},bg xs us->bg ys ws->bg (xs++ys) (us++ws)
 | _,_,_,_,.nil,s=>s
 | _,_,_,_,.cons r t,s=> .cons r (bg.append t s)
theorem bg.take:∀{xs:List V}{us:List Value}(n:Nat),bg xs us->bg (xs.take n) (us.take n)
 | _,_,0,_=> .nil
 | _,_,_+1,.nil=> .nil
 | _,_,n+1,.cons r t=> .cons r (bg.take n t)
theorem bg.drop:∀{xs:List V}{us:List Value}(n:Nat),bg xs us->bg (xs.drop n) (us.drop n)
 | _,_,0,r=>r
 | _,_,_+1,.nil=> .nil
 | _,_,n+1,.cons _ t=>bg.drop n t
def nD:Option V->Option Value->Prop
 | some v,some u=>bv v u
 | none,none=>True
 | _,_=>False
def KV{o:Type}:List (o × V)->List (o × Value)->Prop:=Paired fun(p:o × V) (q:o × Value)=>p.1=q.1/\bv p.2 q.2
noncomputable def kV:Key->V
 | .inl i=> .int i
 | .inr x=> .str x
inductive HO where
 | lst (xs:List V)
 | tup (xs:List V)
 | dK (kvs:List (Key × V)) | dT (kvs:List (List Key × V))
 | set (S:Int->Bool) (n:Nat)
 | ins (C dx:Addr) (fs:List (Str × V))
 | own (x:Addr)
 | xd (fs:List (Str × V))
 | met (f x:Addr)
 | rng (lo hi:Int)
 | frz (o:Obj) (u:HO)
 | tbl (ps:Array Value)
 | ext (φ:Heap->Prop)
abbrev Hp:=Addr->Option HO
noncomputable def upd(H:Hp)(a:Addr)(o:HO):Hp:=fun b=>if b=a then some o else H b
theorem ad{H:Hp}{a:Addr}{o:HO}:upd H a o a=some o:=by unfold upd;rw[ME rfl]
theorem aj{H:Hp}{a b:Addr}{o:HO}(h:b≠a):upd H a o b=H b:=by unfold upd;rw[mC h]
theorem eC{H:Hp}{a b:Addr}{o u:HO}(h:H a=some o)(h':H b=some u)(d:o≠u):a≠b:=by
 intro e;subst e;rw[h] at h';exact d (MR h')
theorem ak{H:Hp}{a b:Addr}{o:HO}(h:H a=some o)(h':H b=none):a≠b:=by
 intro e;subst e;rw[h] at h';cases h'
section
variable (P : Program) (w : World)
def dU(H:Hp)(h:Heap)(a:Addr):HO->Prop
 | .lst J=>J.length<=sizeLine/\∃(I:List Value) (n:Nat),bg J I/\h.get? a=some {cls:= .type "list",data:= .seq I.toArray n}
 | .tup J=>J.length<=sizeLine/\∃I:List Value,bg J I/\IsTup h a I.toArray
 | .dK kvs=>kvs.length<=sizeLine/\(a==sysModules)=false/\∃c,KV kvs c/\h.DictOf (cr P w) a c
 | .dT kvs=>kvs.length<=sizeLine/\(a==sysModules)=false/\∃J:List (List Key × Addr × Value),
   Paired (fun(p:List Key × V) (q:List Key × Addr × Value)=>p.1=q.1/\H q.2.1=some (.tup (p.1.map kV))/\bv p.2 q.2.2) kvs J/\
   ∃o e g,h.get? a=some o/\o.ExactDict/\o.data= .dict e g/\e.toList=J.map (entryOfKey (tupleKind (cr P w)))/\(J.map (·.1)).Nodup
 | .set S n=>h.SetOf (intKind P w) a S n
 | .ins C dx fs=>H dx=some (.own a)/\fs.length<=1000/\dx≠a/\h.get? a=some (W.instObj C dx)/\
   ∃U,h.Ns1 dx U/\(∀f,nD (fs.lookup f) (U f))/\PySem.Within U (fs.map (·.1))
 | .own _=>∃o,h.get? a=some o
 | .xd fs=>∃U,h.Ns1 a U/\∀f,nD (fs.lookup f) (U f)
 | .rng lo hi=>∃t u v,h.get? a=some {cls:= .type "range",data:= .fields #[.int lo t,.int hi u,.int 1 v]}
 | .frz o u=>h.get? a=some o/\dU H h a u
 | .tbl ps=>h.get? a=some {cls:= .none,data:= .fields ps}
 | .met f x=>h.get? a=some (W.methodObj (.ref f) (.ref x))
 | .ext φ=>φ h/\(∃o,h.get? a=some o)/\∀b d:Heap,φ b->(∀o,b.get? a=some o->d.get? a=some o)->φ d
def HOk(H:Hp)(h:Heap):Prop:=∀a o,H a=some o->dU P w H h a o
end
section
variable {P : Program} {w : World} {H H' : Hp} {h h' : Heap} {a : Addr} {o : HO}
theorem dU.lt(x:dU P w H h a o):a<h.objs.size:=by
 cases o with
 | lst xs=>obtain⟨_,_,_,_,e⟩:=x;exact MK e
 | tup xs=>obtain⟨_,_,_,p⟩:=x;exact p.lt
 | dK kvs=>obtain⟨_,_,_,_,o,_,_,e,_⟩:=x;exact MK e
 | dT kvs=>obtain⟨_,_,_,_,o,_,_,e,_⟩:=x;exact MK e
 | set S n=>obtain⟨o,_,_,_,e,_⟩:=x;exact MK e
 | ins C dx fs=>obtain⟨_,_,_,e,_⟩:=x;exact MK e
 | own y=>obtain⟨_,e⟩:=x;exact MK e
 | xd fs=>obtain⟨_,⟨_,_,_,e,_⟩,_⟩:=x;exact MK e
 | rng lo hi=>obtain⟨_,_,_,e⟩:=x;exact MK e
 | frz ob u=>obtain⟨e,_⟩:=x;exact MK e
 | tbl ps=>exact MK (show h.get? a=some _ from x)
 | met f y=>exact MK (show h.get? a=some _ from x)
 | ext φ=>obtain⟨_,⟨_,e⟩,_⟩:=x;exact MK e
theorem Paired.mapP{J U:Type}{F G:J->U->Prop}:∀{I:List J}{C:List U},Paired F I C->(∀a b,F a b->G a b)->Paired G I C
 | _,_,.nil,_=> .nil
 | _,_,.cons r t,f=> .cons (f _ _ r) (Paired.mapP t f)
theorem dU.stay(x:dU P w H h a o)(k:∀b u,(b=a\/H b=some (.own a))->h.get? b=some u->h'.get? b=some u)
  (ho:∀b,H b=some (.own a)->H' b=some (.own a)) (A:∀b xs,H b=some (.tup xs)->H' b=some (.tup xs)):dU P w H' h' a o:=by
 induction o with
 | lst xs=>obtain⟨z,g,n,r,e⟩:=x;exact⟨z,g,n,r,k _ _ (.inl rfl) e⟩
 | tup xs=>obtain⟨z,g,r,I,e,c⟩:=x;exact⟨z,g,r,I,k _ _ (.inl rfl) e,c⟩
 | dK kvs=>obtain⟨z,y,s,r,I,U,J,e,c⟩:=x;exact⟨z,y,s,r,I,U,J,k _ _ (.inl rfl) e,c⟩
 | dT kvs=>
  obtain⟨z,y,xs,r,I,U,J,e,c⟩:=x;exact⟨z,y,xs,Paired.mapP r fun p q z=>⟨z.1,A _ _ z.2.1,z.2.2⟩,I,U,J,k _ _ (.inl rfl) e,c⟩
 | set S n=>obtain⟨I,U,J,t,e,c⟩:=x;exact⟨I,U,J,t,k _ _ (.inl rfl) e,c⟩
 | ins C dx fs=>
  obtain⟨d,z,ne,e,i,⟨j,U,J,m,c⟩,r⟩:=x;exact⟨ho _ d,z,ne,k _ _ (.inl rfl) e,i,⟨j,U,J,k _ _ (.inr d) m,c⟩,r⟩
 | own y=>obtain⟨I,e⟩:=x;exact⟨I,k _ _ (.inl rfl) e⟩
 | xd fs=>obtain⟨i,⟨j,U,J,e,c⟩,r⟩:=x;exact⟨i,⟨j,U,J,k _ _ (.inl rfl) e,c⟩,r⟩
 | rng lo hi=>obtain⟨t,u,v,e⟩:=x;exact⟨t,u,v,k _ _ (.inl rfl) e⟩
 | frz I u ih=>obtain⟨e,q⟩:=x;exact⟨k _ _ (.inl rfl) e,ih q⟩
 | tbl ps=>
  have e:h.get? a=some {cls:= .none,data:= .fields ps}:=x;show h'.get? a=some {cls:= .none,data:= .fields ps}
  exact k a _ (.inl rfl) e
 | met f y=>
  have e:h.get? a=some (W.methodObj (.ref f) (.ref y)):=x;show h'.get? a=some (W.methodObj (.ref f) (.ref y))
  exact k a _ (.inl rfl) e
 | ext φ=>obtain⟨p,⟨o,e⟩,st⟩:=x;exact⟨st _ _ p fun o q=>k _ _ (.inl rfl) q,⟨o,k _ _ (.inl rfl) e⟩,st⟩
theorem HOk.lt(x:HOk P w H h)(e:H a=some o):a<h.objs.size:=(x a o e).lt
theorem HOk.fresh(x:HOk P w H h)(e:h.objs.size<=a):H a=none:=by
 cases q:H a with
 | none=>rfl
 | some u=>exact absurd (MJ (x.lt q) e) (NQ _)
theorem HOk.kept(x:HOk P w H h)(k:∀b u,h.get? b=some u->h'.get? b=some u):HOk P w H h':=fun a o e=>
 (x a o e).stay (fun b u _ q=>k b u q) (fun _ q=>q) fun _ _ q=>q
theorem HOk.laid(x:HOk P w H h)(k:∀b u,h.get? b=some u->h'.get? b=some u)(J:h.objs.size<=a)(new:dU P w (upd H a o) h' a o):HOk P w (upd H a o) h':=fun b u e=>by
 have I:=x.fresh J
 by_cases C:b=a
 .subst C;rw[ad] at e;cases e;exact new
 .rw[aj C] at e;exact(x b u e).stay (fun c v _ q=>k c v q) (fun c q=>by rw[aj (ak q I)];exact q) fun c U q=>by rw[aj (ak q I)];exact q
end
def Rd(H:Hp)(a:Addr)(u:HO):Prop:=H a=some u\/∃o,H a=some (.frz o u)
theorem Rd.ok{P:Program}{w:World}{H:Hp}{h:Heap}{a:Addr}{u:HO}(r:Rd H a u)(x:HOk P w H h):dU P w H h a u:=by
 rcases r with r | ⟨o,r⟩
 .exact x a u r
 .obtain⟨_,q⟩:=x a _ r;exact q
def Mut:Option HO->Prop
 | some (.lst _)=>True
 | some (.dK _)=>True
 | some (.dT _)=>True
 | some (.set _ _)=>True
 | some (.ins _ _ _)=>True
 | some (.ext _)=>True
 | _=>False
section
variable {P : Program} {w : World} {H : Hp} {h h' : Heap} {x e : Addr} {o' : HO}
theorem HOk.write(ok:HOk P w H h)(U:Mut (H x))(g:e=x\/H e=some (.own x))(k:∀b u,b≠e->h.get? b=some u->h'.get? b=some u)(f:∃u,h'.get? e=some u)
  (new:dU P w (upd H x o') h' x o'):HOk P w (upd H x o') h':=fun b u q=>by
 have C:∀c y,H c=some (.own y)->c≠x:=fun c y r z=>by subst z;rw[r] at U;exact U
 have I:∀c a,H c=some (.tup a)->c≠x:=fun c a r z=>by subst z;rw[r] at U;exact U
 by_cases J:b=x
 .subst J;rw[ad] at q;cases q;exact new
 .rw[aj J] at q
  by_cases o:b=e
  .have q':H b=some (.own x):=by
    rcases g with z | z
    .exact absurd (o.trans z) J
    .rw[o];exact z
   rw[q] at q';cases q';obtain⟨v,i⟩:=f;exact⟨v,by rw[o];exact i⟩
  .refine(ok b u q).stay (fun c v d r=>k c v ?_ r) (fun c r=>by rw[aj (C c b r)];exact r) fun c a r=>by rw[aj (I c a r)];exact r
   rcases d with rfl | d
   .exact o
   .rintro rfl
    rcases g with z | z
    .exact C c b d z
    .rw[d] at z;cases z;exact J rfl
end
structure Un (fs ex:List Addr) (H H':Hp) (h h':Heap):Prop where
 keep:∀b o,h.get? b=some o->H b=none->b ∉ fs->b ∉ ex->h'.get? b=some o
 slot:∀b o,h.get? b=some o->H b=none->b∈fs->b ∉ ex->∃sl,h'.get? b=some {o with slots:=sl}
 free:∀b o,h.get? b=some o->H b=none->b ∉ ex->H' b=none
 there:∀b o,h.get? b=some o->b ∉ ex->∃o',h'.get? b=some o'
 tups:∀b xs,H b=some (.tup xs)->H' b=some (.tup xs)
 frzs:∀b o u,H b=some (.frz o u)->H' b=some (.frz o u)
 tbls:∀b ps,H b=some (.tbl ps)->∃more,H' b=some (.tbl (ps++more))
section
variable {fs fs' ex ex' : List Addr} {H H1 H2 : Hp} {h h1 h2 h' : Heap} {a x e : Addr} {o : HO}
theorem Un.any(u:Un fs ex H H1 h h1){b:Addr}{C:Obj}(q:h.get? b=some C)(n:H b=none)(J:b ∉ ex):∃sl,h1.get? b=some {C with slots:=sl}:=by
 by_cases I:b∈fs
 .exact u.slot b C q n I J
 .exact⟨C.slots,u.keep b C q n I J⟩
theorem Un.kept(k:∀b u,h.get? b=some u->h'.get? b=some u):Un fs ex H H h h':=
 ⟨fun b C q _ _ _=>k b C q,fun b C q _ _ _=>⟨C.slots,k b C q⟩,fun _ _ _ n _=>n,fun b C q _=>⟨C,k b C q⟩,fun _ _ q=>q,fun _ _ _ q=>q,fun _ I q=>⟨#[],by rw[q];simp⟩⟩
theorem Un.refl:Un fs ex H H h h:=Un.kept fun _ _ q=>q
theorem Un.laid(k:∀b u,h.get? b=some u->h'.get? b=some u)(J:h.objs.size<=a)(C:H a=none):Un fs ex H (upd H a o) h h' where
 keep:=fun b u q _ _ _=>k b u q
 slot:=fun b u q _ _ _=>⟨u.slots,k b u q⟩
 free:=fun b u q n _=>by rw[aj (M5 (MJ (MK q) J))];exact n
 there:=fun b u q _=>⟨u,k b u q⟩
 tups:=fun b I q=>by rw[aj (ak q C)];exact q
 frzs:=fun b u I q=>by rw[aj (ak q C)];exact q
 tbls:=fun b U q=>⟨#[],by rw[aj (ak q C),q];simp⟩
theorem Un.write(I:Mut (H x))(f:e=x\/H e=some (.own x))(k:∀b u,b≠e->h.get? b=some u->h'.get? b=some u)(J:∃u,h'.get? e=some u):Un fs ex H (upd H x o) h h':=by
 have c:∀b,H b=none->b≠x:=fun b n z=>by subst z;rw[n] at I;exact I
 have U:∀b,H b=none->b≠e:=fun b n z=>by
  subst z;rcases f with r | r
  .exact c b n r
  .rw[n] at r;cases r
 have hm:∀b u,H b=some u->¬Mut (some u)->b≠x:=fun b u q g z=>by subst z;rw[q] at I;exact g I
 refine⟨fun b u q n _ _=>k b u (U b n) q,fun b u q n _ _=>⟨u.slots,k b u (U b n) q⟩,fun b u q n _=>by rw[aj (c b n)];exact n,fun b u q _=> ?_,
  fun b d q=>by rw[aj (hm b _ q fun z=>z)];exact q,fun b u d q=>by rw[aj (hm b _ q fun z=>z)];exact q,fun b i q=>⟨#[],by rw[aj (hm b _ q fun z=>z),q];simp⟩⟩
 by_cases C:b=e
 .subst C;exact J
 .exact⟨u,k b u C q⟩
end
noncomputable def trk(h:Heap)(H:Hp):List Addr:=(List.range h.objs.size).filter fun a=>(H a).isSome
noncomputable def y9(h:Heap)(H:Hp):Heap:=W.hideAll h (trk h H)
theorem Fa(h:Heap)(H:Hp):(y9 h H).objs.size=h.objs.size:=W.hideAll_size _ _
theorem Gx{h:Heap}{H:Hp}{b:Addr}{o:Obj}(e:h.get? b=some o)(n:H b=none):(y9 h H).get? b=some o:=
 Pc _ e fun hm=>by
  have q:(H b).isSome=true:=(List.mem_filter.mp hm).2;rw[n] at q;simp at q
theorem Jd{h:Heap}{H:Hp}{b:Addr}{o:Obj}(e:(y9 h H).get? b=some o):h.get? b=some o/\H b=none:=by
 have C:h.get? b=some o:=QD (trk h H) e;refine⟨C,?_⟩
 cases q:H b with
 | none=>rfl
 | some x=>
  have hm:b∈trk h H:=List.mem_filter.mpr ⟨List.mem_range.mpr (MK C),by simp [q]⟩
  have z:(y9 h H).get? b=none:=W.hideAll_none (trk h H) hm;rw[z] at e;cases e
noncomputable def Jb(g h:Heap)(L:Addr):List (Addr × Obj):=(List.range h.objs.size).filterMap fun a=>if a=L\/(g.get? a).isSome=true then none else(h.get? a).map fun o=>(a,o)
noncomputable def rg(g h:Heap)(L d:Addr):List (Addr × Obj):=(Jb g h L).filter fun p=>decide (p.1≠d)
structure Mod (K:Frag) (mg:Str->Option Value) (base:Heap):Prop where
 kin:K.In base
 glob:base.Ns mainGlobals mg
 blt:∃mb,base.Ns builtinsNs mb/\∀x:Str,x≠"__name__"->mb x=bootBuiltins x
 nolimit:base.NoLimit
structure Cx where
 prog:Program
 w:World
 K:Frag
 mg:Str->Option Value
 base:Heap
 A:Around
 N:List Str
 s₀:Shared
 H₀:Hp
 env:Env
 outer:List Env
 stack:List Env
 ex:List Addr
 fn:Str->Bool
 calm:Bool
 pn:List (Addr × Obj)
 xe:Value->Shared->Prop
noncomputable def frs(l:List Env):List Addr:=l.filterMap (·.frame)
noncomputable abbrev Cx.fs(X:Cx):List Addr:=frs X.outer
def Vis(o:Scope)(x:Str):Prop:=o.names.lookup x=some .local\/o.names.lookup x=some .cell\/o.names.lookup x=some .free
def Loc(o:Scope)(x:Str):Prop:=o.names.lookup x=some .local\/o.names.lookup x=some .cell
def LU(env:Env)(h:Heap)(m:Str->Option Value)(x:Str)(u:Value):Prop:=
 (env.kindOf x=some .local/\m x=some u)\/((env.kindOf x=some .cell\/env.kindOf x=some .free)/\∃c,env.cells.lookup x=some c/\h.IsCell c (some u))
structure Cx.Ok (X:Cx):Prop where
 mod:Mod X.K X.mg X.base
 kind:X.env.scope.kind= .function
 glob:X.env.globals=mainGlobals
 blt:X.env.builtins=builtinsNs
 above:X.s₀.heap.objs.size<=X.env.locals
 inj:∀x y c,X.env.cells.lookup x=some c->X.env.cells.lookup y=some c->x=y
 has:∀x,(X.env.kindOf x=some .cell\/X.env.kindOf x=some .free)->∃c,X.env.cells.lookup x=some c
 cab:∀x c,X.fn x=true->X.env.cells.lookup x=some c->X.s₀.heap.objs.size<=c
 hd:X.calm=true->X.A.handled=none
 frames:X.A.frames=some X.stack
 stk:X.stack=X.outer\/(X.stack=X.env::X.outer/\X.env.frame=some X.env.locals)
 exf:∀b∈X.ex,b≠X.env.locals/\∀x c,X.env.cells.lookup x=some c->c≠b
 bs:∀b o,X.base.get? b=some o->X.s₀.heap.get? b=some o/\X.H₀ b=none
 bsz:X.base.objs.size<=X.s₀.heap.objs.size
 noex:∀b o,X.base.get? b=some o->b ∉ X.ex
 exfs:∀b∈X.ex,b ∉ X.fs
 funs:X.s₀.heap.FunFrames X.base X.outer
 frf:∀b∈X.fs,X.H₀ b=none
structure Inv (X:Cx) (pins:List (Addr × Obj)) (Z:List (Option V)) (H:Hp) (s:Shared):Prop where
 ok:X.Ok
 os:s.os=X.s₀.os
 bare:AllBare s.gens
 base:Un X.fs X.ex X.H₀ H X.s₀.heap s.heap
 loc:∃m,s.heap.Ns X.env.locals m/\∀(i:Nat) (x:Str) (v:V),X.N[i]? =some x->Z[i]? =some (some v)->Vis X.env.scope x->∃u,bv v u/\LU X.env s.heap m x u
 cell:∀x c,X.env.cells.lookup x=some c->∃v,s.heap.IsCell c v
 free:H X.env.locals=none
 freeC:∀x c,X.env.cells.lookup x=some c->H c=none
 pin:∀p∈X.pn++pins,s.heap.get? p.1=some p.2/\H p.1=none/\p.1≠X.env.locals/\p.1 ∉ X.fs/\∀v,p.2.data≠ .cell v
 hok:HOk X.prog X.w H s.heap
 len:Z.length=X.N.length
section
variable {X : Cx} {pins : List (Addr × Obj)} {σ : List (Option V)} {H H' : Hp} {s : Shared} {h' : Heap}
theorem Cx.Ok.nofr(ok:X.Ok){b:Addr}{o:Obj}(e:X.base.get? b=some o):b ∉ X.fs:=fun C=>by
 have:=(ok.funs.mem C).1;rw[e] at this;cases this
theorem Inv.bs(I:Inv X pins Z H s):∀b o,X.base.get? b=some o->s.heap.get? b=some o/\H b=none:=fun b o e=>
 ⟨I.base.keep b o (I.ok.bs b o e).1 (I.ok.bs b o e).2 (I.ok.nofr e) (I.ok.noex b o e),I.base.free b o (I.ok.bs b o e).1 (I.ok.bs b o e).2 (I.ok.noex b o e)⟩
theorem Inv.bk(I:Inv X pins Z H s):∀b o,X.base.get? b=some o->s.heap.get? b=some o:=fun b o e=>(I.bs b o e).1
theorem Inv.mod(I:Inv X pins Z H s):Mod X.K X.mg X.base:=I.ok.mod
theorem Inv.kIn(I:Inv X pins Z H s):X.K.In s.heap:=I.ok.mod.kin.keeps I.bk
theorem Inv.lt(I:Inv X pins Z H s):X.env.locals<s.heap.objs.size:=let ⟨_,hn,_⟩:=I.loc;hn.lt
theorem Inv.sz(I:Inv X pins Z H s):X.s₀.heap.objs.size<=s.heap.objs.size:=MV I.ok.above (Oj I.lt)
theorem Inv.nofs(I:Inv X pins Z H s){a:Addr}(h:s.heap.objs.size<=a):a ∉ X.fs:=fun C=>by
 obtain⟨_,o,ho,_⟩:=I.ok.funs.mem C;exact absurd (MJ (MK ho) (MV I.sz h)) (NQ _)
theorem Inv.cne(I:Inv X pins Z H s):∀x c,X.env.cells.lookup x=some c->c≠X.env.locals:=fun x c e z=>by
 obtain⟨v,o,ho,hd⟩:=I.cell x c e;obtain⟨m,⟨a,b,U,C,J,_⟩,_⟩:=I.loc;rw[z,C] at ho;cases ho;rw[J] at hd;cases hd
theorem Inv.funs(I:Inv X pins Z H s):s.heap.FunFrames X.base X.outer:=by
 have all:∀(l:List Env),(∀b∈frs l,b∈X.fs)->X.s₀.heap.FunFrames X.base l->s.heap.FunFrames X.base l:=by
  intro l
  induction l with
  | nil=>intro _ _;trivial
  | cons env r ih=>
   intro hs c;obtain⟨d,⟨L,o,J,a,ho,hd⟩,f⟩:=c;have U:L∈X.fs:=hs L (by unfold frs;rw[OR,J];exact Nc)
   obtain⟨sl,e⟩:=I.base.slot L o ho (I.ok.frf L U) U fun z=>I.ok.exfs L z U
   exact⟨d,⟨L,_,J,a,e,hd⟩,ih (fun b C=>hs b (by unfold frs;rw[OR,J];exact M8 _ C)) f⟩
 exact all X.outer (fun _ C=>C) I.ok.funs
theorem Inv.stack(I:Inv X pins Z H s):s.heap.FunFrames X.base X.stack:=by
 rcases I.ok.stk with e | ⟨e,hf⟩
 .rw[e];exact I.funs
 .rw[e];obtain⟨m,o,_⟩:=I.loc;refine .cons (by rw[I.ok.kind];decide) hf o ?_ I.funs
  exact Heap.get?_none_of_le (MV I.ok.bsz I.ok.above)
theorem Inv.stkSub(I:Inv X pins Z H s):∀b∈frs X.stack,b∈X.env.locals::X.fs:=fun b o=>by
 rcases I.ok.stk with e | ⟨e,hf⟩
 .rw[e] at o;exact M8 _ o
 .rw[e] at o;unfold frs at o;rw[OR,hf] at o;exact o
theorem Inv.stkFree(I:Inv X pins Z H s):∀b∈frs X.stack,H b=none:=fun b C=>by
 rcases M3.mp (I.stkSub b C) with e | C
 .rw[e];exact I.free
 .obtain⟨_,o,ho,_⟩:=I.ok.funs.mem C;exact I.base.free b o ho (I.ok.frf b C) fun z=>I.ok.exfs b z C
theorem Inv.step{g':Array GenState}{t':Nat}{d':Drawn}{ch:List Addr}(I:Inv X pins Z H s)
  (U:∀b∈ch,(b∈X.ex\/X.s₀.heap.objs.size<=b)/\b≠X.env.locals/\(∀x c,X.env.cells.lookup x=some c->c≠b)/\∀p∈X.pn++pins,p.1≠b)
  (keep:∀b o,b≠X.env.locals->b ∉ X.fs->b ∉ ch->s.heap.get? b=some o->H b=none->h'.get? b=some o)
  (j:∀b o,b≠X.env.locals->b∈X.fs->b ∉ ch->s.heap.get? b=some o->H b=none->∃sl,h'.get? b=some {o with slots:=sl}) (free:∀b o,b ∉ ch->s.heap.get? b=some o->H b=none->H' b=none)
  (there:∀b o,b ∉ ch->s.heap.get? b=some o->∃G,h'.get? b=some G)
  (A:∀b xs,H b=some (.tup xs)->H' b=some (.tup xs)) (K:∀b o u,H b=some (.frz o u)->H' b=some (.frz o u)) (F:∀b ps,H b=some (.tbl ps)->∃B,H' b=some (.tbl (ps++B)))
  (ns:∀m,s.heap.Ns X.env.locals m->h'.Ns X.env.locals m) (L:HOk X.prog X.w H' h') (P:AllBare g'):
  Inv X pins Z H' {s with heap:=h',gens:=g',drawn:=d',toks:=t'}:=by
 have D:∀b o,X.s₀.heap.get? b=some o->b≠X.env.locals:=fun b o e=>M5 (MJ (MK e) I.ok.above)
 have f:∀b o,X.s₀.heap.get? b=some o->b ∉ X.ex->b ∉ ch:=fun b o e C y=>by
  rcases(U b y).1 with z | z
  .exact C z
  .exact absurd (MJ (MK e) z) (NQ _)
 have a:∀x c,X.env.cells.lookup x=some c->∀v,s.heap.IsCell c v->h'.IsCell c v:=fun x c e v ⟨o,ho,hd⟩=>by
  have J:c ∉ ch:=fun z=>(U c z).2.2.1 x c e rfl
  by_cases N:c∈X.fs
  .obtain⟨sl,q⟩:=j c o (I.cne x c e) N J ho (I.freeC x c e);exact⟨_,q,hd⟩
  .exact⟨o,keep c o (I.cne x c e) N J ho (I.freeC x c e),hd⟩
 refine⟨I.ok,I.os,P,⟨fun b o e n y C=> ?_,fun b o e n y C=> ?_,fun b o e n C=> ?_,fun b o e C=> ?_,fun b xs e=>A b xs (I.base.tups b xs e),fun b o xs e=>K b o xs (I.base.frzs b o xs e),fun b ps e=> ?_⟩,?_,fun x c e=> ?_,?_,fun x c e=> ?_,fun p O=> ?_,L,I.len⟩
 .exact keep b o (D b o e) y (f b o e C) (I.base.keep b o e n y C) (I.base.free b o e n C)
 .obtain⟨sl,g⟩:=I.base.slot b o e n y C;obtain⟨M,E⟩:=j b _ (D b o e) y (f b o e C) g (I.base.free b o e n C);exact⟨M,E⟩
 .obtain⟨G,g⟩:=I.base.there b o e C;exact free b G (f b o e C) g (I.base.free b o e n C)
 .obtain⟨G,g⟩:=I.base.there b o e C;exact there b G (f b o e C) g
 .obtain⟨m1,g⟩:=I.base.tbls b ps e;obtain⟨R,E⟩:=F b _ g;exact⟨m1++R,by rw[E,Array.append_assoc]⟩
 .obtain⟨m,hn,hl⟩:=I.loc;refine⟨m,ns m hn,fun i x v g E Q=> ?_⟩
  obtain⟨u,r,l⟩:=hl i x v g E Q;refine⟨u,r,?_⟩
  rcases l with l | ⟨k,c,e,z⟩
  .exact .inl l
  .exact .inr ⟨k,c,e,a x c e _ z⟩
 .obtain⟨v,z⟩:=I.cell x c e;exact⟨v,a x c e v z⟩
 .obtain⟨m,⟨o,_,_,ho,_⟩,_⟩:=I.loc;exact free _ o (fun z=>(U _ z).2.1 rfl) ho I.free
 .obtain⟨v,o,ho,hd⟩:=I.cell x c e;exact free c o (fun z=>(U c z).2.2.1 x c e rfl) ho (I.freeC x c e)
 .obtain⟨e,n,ne,nf,d⟩:=I.pin p O;have J:p.1 ∉ ch:=fun z=>(U p.1 z).2.2.2 p O rfl
  exact⟨keep p.1 p.2 ne nf J e n,free p.1 p.2 J e n,ne,nf,d⟩
theorem Inv.un{t':Nat}(I:Inv X pins Z H s)(u:Un X.fs [] H H' s.heap h')(c:HOk X.prog X.w H' h'):Inv X pins Z H' {s with heap:=h',toks:=t'}:=by
 obtain⟨m,⟨o,p,g,ho,r⟩,_⟩:=id I.loc;obtain⟨sl,f⟩:=u.any ho I.free (by simp)
 exact I.step (g':=s.gens) (d':=s.drawn) (ch:=[]) (fun _ z=>nomatch z) (fun b o _ J _ e n=>u.keep b o e n J (by simp)) (fun b o _ J _ e n=>u.slot b o e n J (by simp)) (fun b o _ e n=>u.free b o e n (by simp)) (fun b o _ e=>u.there b o e (by simp)) u.tups u.frzs u.tbls (fun i hm=>by
  obtain⟨j,a,U,C,d⟩:=hm;rw[ho] at C;cases C
  exact⟨_,a,U,f,d⟩) c I.bare
theorem Inv.call{g':Array GenState}{t':Nat}{d':Drawn}{ch:List Addr}(I:Inv X pins Z H s)(u:Un (frs X.stack) ch H H' s.heap h')(f:HOk X.prog X.w H' h')(j:AllBare g')
  (U:∀b∈ch,(b∈X.ex\/X.s₀.heap.objs.size<=b)/\b≠X.env.locals/\(∀x c,X.env.cells.lookup x=some c->c≠b)/\∀p∈X.pn++pins,p.1≠b):
  Inv X pins Z H' {s with heap:=h',gens:=g',drawn:=d',toks:=t'}:=by
 obtain⟨m,⟨o,B,v,ho,r⟩,_⟩:=id I.loc;obtain⟨sl,g⟩:=u.any ho I.free fun z=>(U _ z).2.1 rfl
 exact I.step (ch:=ch) U (fun b o g i C e n=>u.keep b o e n (fun z=>(M3.mp (I.stkSub b z)).elim g i) C) (fun b o _ _ C e n=>u.any e n C) (fun b o C e n=>u.free b o e n C) (fun b o C e=>u.there b o e C) u.tups u.frzs u.tbls (fun y hm=>by
  obtain⟨A,d,a,J,q⟩:=hm;rw[ho] at J;cases J
  exact⟨_,d,a,g,q⟩) f j
theorem Inv.turned{t':Nat}{it:Addr}(I:Inv X pins Z H s)(k:∀b o,b≠it->s.heap.get? b=some o->h'.get? b=some o)(d:H it=none)(U:it≠X.env.locals)
  (f:it∈X.ex\/X.s₀.heap.objs.size<=it) (i:∀x c,X.env.cells.lookup x=some c->c≠it) (g:∀p∈X.pn++pins,p.1≠it):Inv X pins Z H {s with heap:=h',toks:=t'}:=by
 have J:∀b u,H b=some u->b≠it:=fun b u e z=>by rw[z,d] at e;cases e
 refine I.step (g':=s.gens) (d':=s.drawn) (ch:=[it]) (fun b a=> ?_) (fun b o _ _ C e _=>k b o (fun z=>C (by simp [z])) e) (fun b o _ _ C e _=>⟨o.slots,k b o (fun z=>C (by simp [z])) e⟩) (fun _ _ _ _ n=>n)
  (fun b o C e=>⟨o,k b o (fun z=>C (by simp [z])) e⟩) (fun _ _ e=>e) (fun _ _ _ e=>e) (fun b j e=>⟨#[],by rw[e];simp⟩) (fun m hm=> ?_) (fun b u e=> ?_) I.bare
 .have e:b=it:=by simpa using a
  subst e;exact⟨f,U,i,g⟩
 .obtain⟨o,es,ep,ho,r⟩:=hm;exact⟨o,es,ep,k _ o (Nb U) ho,r⟩
 .refine(I.hok b u e).stay (fun c v C q=>k c v ?_ q) (fun _ q=>q) fun _ _ q=>q
  rcases C with z | z
  .rw[z];exact J b u e
  .exact J c _ z
theorem Inv.tok(I:Inv X pins Z H s)(t:Nat):Inv X pins Z H {s with toks:=t}:=I.un (h':=s.heap) (t':=t) Un.refl I.hok
theorem Inv.kept{t':Nat}(I:Inv X pins Z H s)(k:∀b u,s.heap.get? b=some u->h'.get? b=some u):Inv X pins Z H {s with heap:=h',toks:=t'}:=I.un (Un.kept k) (I.hok.kept k)
theorem Inv.laid{a:Addr}{o:HO}{t':Nat}(I:Inv X pins Z H s)(k:∀b u,s.heap.get? b=some u->h'.get? b=some u)(C:s.heap.objs.size<=a)(new:dU X.prog X.w (upd H a o) h' a o):
  Inv X pins Z (upd H a o) {s with heap:=h',toks:=t'}:=I.un (Un.laid k C (I.hok.fresh C)) (I.hok.laid k C new)
theorem Inv.write{x e:Addr}{o:HO}{t':Nat}(I:Inv X pins Z H s)(J:Mut (H x))(U:e=x\/H e=some (.own x))(k:∀b u,b≠e->s.heap.get? b=some u->h'.get? b=some u)(C:∃u,h'.get? e=some u)
  (new:dU X.prog X.w (upd H x o) h' x o):Inv X pins Z (upd H x o) {s with heap:=h',toks:=t'}:=I.un (Un.write J U k C) (I.hok.write J U k C new)
theorem Inv.weak{o:List (Option V)}(I:Inv X pins Z H s)(U:o.length=Z.length)(w:∀(i:Nat) v,o[i]? =some (some v)->Z[i]? =some (some v)):Inv X pins o H s:=
 ⟨I.ok,I.os,I.bare,I.base,let ⟨m,hn,hl'⟩:=I.loc;⟨m,hn,fun i x v a J C=>hl' i x v a (w i v J) C⟩,I.cell,I.free,I.freeC,I.pin,I.hok,U.trans I.len⟩
theorem Inv.pins_of{o:List (Addr × Obj)}(I:Inv X pins Z H s)(h:∀p∈o,s.heap.get? p.1=some p.2/\H p.1=none/\p.1≠X.env.locals/\p.1 ∉ X.fs/\∀v,p.2.data≠ .cell v):Inv X o Z H s:=
 ⟨I.ok,I.os,I.bare,I.base,I.loc,I.cell,I.free,I.freeC,fun p C=>(MZ.mp C).elim (fun z=>I.pin p (List.mem_append_left _ z)) (h p),I.hok,I.len⟩
theorem AI{N:List Str}(C:N.Nodup){i j:Nat}{x:Str}(a:N[i]? =some x)(b:N[j]? =some x):i=j:=by
 obtain⟨U,I⟩:=gV.mp a;obtain⟨J,o⟩:=gV.mp b;exact(List.getElem_inj C).mp (I.trans o.symm)
theorem yk{M:Model}{A:Around}{E:Value->Shared->Prop}{i:Nat}{x:Str}{v:V}{u:Value}{Q:Unit->Shared->Prop}(I:Inv X pins Z H s)(hN:X.N.Nodup)(F:X.N[i]? =some x)(f:Loc X.env.scope x)(r:bv v u)
  (h:∀s',Inv X pins (Z.set i (some v)) H s'->(∃a,Heap.SameBut a s.heap s'.heap/\(a=X.env.locals\/X.env.cells.lookup x=some a))->Q () s') (hf:X.fn x=true\/X.env.scope.names.lookup x=some .local:=by first | exact .inl rfl | exact .inr rfl | assumption):wpAny M A (storeName X.env x u) Q E s:=by
 obtain⟨m,T,hl⟩:=id I.loc;have K:(X.env.scope.kind == .class || (X.env.scope.kind == .module && X.env.locals != X.env.globals))=false:=by rw[I.ok.kind];rfl
 have P:i<Z.length:=by rw[I.len];exact(gV.mp F).1
 have cne:=I.cne;have C:∀{a:Addr}{h':Heap},(∃o,s.heap.get? a=some o/\H a=none)->Heap.SameBut a s.heap h'->HOk X.prog X.w H h':=fun {a h'} ha hs b ob e=>by
  obtain⟨_,_,g⟩:=ha;refine(I.hok b ob e).stay (fun c R U q=>(hs.2 c ?_).trans q) (fun _ q=>q) fun _ _ q=>q
  rintro rfl
  rcases U with rfl | U
  .rw[g] at e;cases e
  .rw[g] at U;cases U
 rcases f with hk | hk
 .refine wpAny_storeName_local hk T (fun h' ao hs=> ?_) K
  obtain⟨oL,_,_,ab,_⟩:=id T;refine h _ ⟨I.ok,I.os,I.bare,⟨fun b o e n D f=> ?_,fun b o e n D f=> ?_,I.base.free,fun b o e f=> ?_,I.base.tups,I.base.frzs,I.base.tbls⟩,⟨_,ao,fun j y v' J B Y=> ?_⟩,fun y c e=> ?_,I.free,I.freeC,fun p hp=> ?_,C ⟨oL,ab,I.free⟩ hs,by simpa using I.len⟩ ⟨_,hs,.inl rfl⟩
  .exact(hs.2 b (M5 (MJ (MK e) I.ok.above))).trans (I.base.keep b o e n D f)
  .obtain⟨sl,J⟩:=I.base.slot b o e n D f;exact⟨sl,(hs.2 b (M5 (MJ (MK e) I.ok.above))).trans J⟩
  .obtain⟨o',J⟩:=I.base.there b o e f;exact⟨o',(hs.2 b (M5 (MJ (MK e) I.ok.above))).trans J⟩
  .by_cases hj:j=i
   .subst hj;rw[F] at J;cases J;rw[Px P] at B
    cases B
    exact⟨u,r,.inl ⟨hk,by simp⟩⟩
   .rw[List.getElem?_set_ne (Nb hj)] at B;obtain⟨u',r',q⟩:=hl j y v' J B Y;refine⟨u',r',?_⟩
    rcases q with⟨k,e⟩|⟨k,c,e,z⟩
    .refine .inl ⟨k,?_⟩
     have:y≠x:=fun e=>hj (AI hN J (e ▸ F))
     simp [this,e]
    .exact .inr ⟨k,c,e,z.sameBut hs (cne y c e)⟩
  .obtain⟨R,z⟩:=I.cell y c e;exact⟨R,z.sameBut hs (cne y c e)⟩
  .obtain⟨e,n,ne,nf,d⟩:=I.pin p hp;exact⟨(hs.2 p.1 ne).trans e,n,ne,nf,d⟩
 .have hfn:X.fn x=true:=by
   rcases hf with z | z
   .exact z
   .rw[z] at hk;cases hk
  obtain⟨c,U⟩:=I.ok.has x (.inl hk);obtain⟨R,z⟩:=I.cell x c U;refine wpAny_storeName_cell I.ok.kind hk U z (fun h' O hs=> ?_)
  obtain⟨oc,G,L⟩:=id z;refine h {s with heap:=h'} ⟨I.ok,I.os,I.bare,⟨fun b o e n D f=> ?_,fun b o e n D f=> ?_,I.base.free,fun b o e f=> ?_,I.base.tups,I.base.frzs,I.base.tbls⟩,⟨m,T.sameBut hs (Nb (cne x c U)),fun j y v' J B Y=> ?_⟩,fun y S e=> ?_,I.free,I.freeC,fun p hp=> ?_,C ⟨oc,G,I.freeC x c U⟩ hs,by simpa using I.len⟩ ⟨c,hs,.inr U⟩
  .exact(hs.2 b (M5 (MJ (MK e) (I.ok.cab x c hfn U)))).trans (I.base.keep b o e n D f)
  .obtain⟨sl,J⟩:=I.base.slot b o e n D f;exact⟨sl,(hs.2 b (M5 (MJ (MK e) (I.ok.cab x c hfn U)))).trans J⟩
  .obtain⟨o',J⟩:=I.base.there b o e f;exact⟨o',(hs.2 b (M5 (MJ (MK e) (I.ok.cab x c hfn U)))).trans J⟩
  .by_cases hj:j=i
   .subst hj;rw[F] at J;cases J;rw[Px P] at B
    cases B
    exact⟨u,r,.inr ⟨.inl hk,c,U,O⟩⟩
   .rw[List.getElem?_set_ne (Nb hj)] at B;obtain⟨u',r',q⟩:=hl j y v' J B Y;refine⟨u',r',?_⟩
    rcases q with q | ⟨k,S,e,z'⟩
    .exact .inl q
    .refine .inr ⟨k,S,e,z'.sameBut hs ?_⟩
     rintro rfl
     exact hj (AI hN J (I.ok.inj _ _ _ e U ▸ F))
  .by_cases hcc:S=c
   .subst hcc;exact⟨_,O⟩
   .obtain⟨w2,z2⟩:=I.cell y S e;exact⟨w2,z2.sameBut hs hcc⟩
  .obtain⟨e,n,ne,nf,d⟩:=I.pin p hp;refine⟨(hs.2 p.1 ?_).trans e,n,ne,nf,d⟩
   intro q;rw[q,G] at e;have q':oc=p.2:=MR e;exact d R (by rw[<- q'];exact L)
theorem BT{M:Model}{A:Around}{E:Value->Shared->Prop}{i:Nat}{x:Str}{v:V}{u:Value}{Q:Unit->Shared->Prop}(I:Inv X pins Z H s)(U:X.N.Nodup)(C:X.N[i]? =some x)(a:Loc X.env.scope x)(r:bv v u)
  (h:∀o,Inv X pins (Z.set i (some v)) H o->Q () o) (J:X.fn x=true\/X.env.scope.names.lookup x=some .local:=by first | exact .inl rfl | exact .inr rfl | assumption):wpAny M A (storeName X.env x u) Q E s:=
 yk I U C a r (fun o b _=>h o b) J
theorem Inv.call'{o:Shared}{ch:List Addr}(I:Inv X pins Z H s)(ho:o.os=s.os)(u:Un (frs X.stack) ch H H' s.heap o.heap)(J:HOk X.prog X.w H' o.heap)(f:AllBare o.gens)
  (C:∀b∈ch,(b∈X.ex\/X.s₀.heap.objs.size<=b)/\b≠X.env.locals/\(∀x c,X.env.cells.lookup x=some c->c≠b)/\∀p∈X.pn++pins,p.1≠b):Inv X pins Z H' o:=by
 obtain⟨h',d,U,a,g⟩:=o;have e:g=s.os:=ho;subst e;exact I.call (g':=d) (t':=a) (d':=U) u J f C
end
abbrev XK:=Value->Option Addr->Hp->Prop
abbrev St:=List (Option V)
abbrev VK:=V->Hp->Prop
abbrev TE:=St->Hp->VK->Prop
abbrev TT:=St->Hp->(Bool->Hp->Prop)->Prop
abbrev TA:=St->Hp->(List V->Hp->Prop)->Prop
structure xk where
 nx:St->Hp->Prop
 rt:VK
 bk:St->Hp->Prop:=fun _ _=>False
 ct:St->Hp->Prop:=fun _ _=>False
abbrev TS:=xk->St->Hp->Prop
def EP(X:Cx)(o:List (Addr × Obj))(Z:St)(Q:VK)(u:Value)(I:Shared):Prop:=∃v C,Inv X o Z C I/\bv v u/\Q v C
def TP(X:Cx)(o:List (Addr × Obj))(Z:St)(Q:Bool->Hp->Prop)(b:Bool)(I:Shared):Prop:=∃C,Inv X o Z C I/\Q b C
def AP(X:Cx)(o:List (Addr × Obj))(Z:St)(Q:List V->Hp->Prop)(us:List Value)(J:Shared):Prop:=∃I C,Inv X o Z C J/\bg I us/\Q I C
def SP(X:Cx)(o:List (Addr × Obj))(D:xk)(f:Flow)(J:Shared):Prop:=
 match f with
 | .next=>∃I C,Inv X o I C J/\D.nx I C
 | .brk=>∃I C,Inv X o I C J/\D.bk I C
 | .cont=>∃I C,Inv X o I C J/\D.ct I C
 | .ret u=>∃v I C,Inv X o I C J/\bv v u/\D.rt v C
def PE(X:Cx)(e:Expr)(t:TE):Prop:=
 ∀(o:List (Addr × Obj)) (s:Shared) (Z:St) (H:Hp) (Q:VK),Inv X o Z H s->t Z H Q->wpAny (model X.prog X.w) X.A (eval e X.env) (EP X o Z Q) X.xe s
def PT(X:Cx)(e:Expr)(t:TT):Prop:=
 ∀(o:List (Addr × Obj)) (s:Shared) (Z:St) (H:Hp) (Q:Bool->Hp->Prop),Inv X o Z H s->t Z H Q->wpAny (model X.prog X.w) X.A (isTrue e X.env (eval e X.env)) (TP X o Z Q) X.xe s
def PW(X:Cx)(e:Expr)(t:TT):Prop:=
 ∀(whole:Sem Value) (o:List (Addr × Obj)) (s:Shared) (Z:St) (H:Hp) (Q:Bool->Hp->Prop),Inv X o Z H s->t Z H Q->wpAny (model X.prog X.w) X.A (isTrue e X.env whole) (TP X o Z Q) X.xe s
theorem PW.pt{X:Cx}{e:Expr}{t:TT}(h:PW X e t):PT X e t:=h _
def PA(X:Cx)(I:List Expr)(t:TA):Prop:=
 ∀(C:Pos) (o:List (Addr × Obj)) (s:Shared) (Z:St) (H:Hp) (Q:List V->Hp->Prop),Inv X o Z H s->t Z H Q->wpAny (model X.prog X.w) X.A (spliced (backTo C (starEach I X.env))) (AP X o Z Q) X.xe s
def PS(X:Cx)(st:Stmt)(t:TS):Prop:=
 ∀(o:List (Addr × Obj)) (s:Shared) (Z:St) (H:Hp) (D:xk),Inv X o Z H s->t D Z H->wpAny (model X.prog X.w) X.A (exec st X.env) (SP X o D) X.xe s
def PSs(X:Cx)(st:List Stmt)(t:TS):Prop:=
 ∀(o:List (Addr × Obj)) (s:Shared) (Z:St) (H:Hp) (D:xk),Inv X o Z H s->t D Z H->wpAny (model X.prog X.w) X.A (execs st X.env) (SP X o D) X.xe s
theorem thn{o:Type}{t:Sem o}{Q C:o->Shared->Prop}{M:Model}{A:Around}{E:Value->Shared->Prop}{s:Shared}(h:wpAny M A t Q E s)(I:∀a s,Q a s->C a s):wpAny M A t C E s:=ND h I fun _ _ x=>x
theorem Cf{o J:Type}{p q:o->Shared->J->Prop}{t:Sem o}{C:o->Shared->Prop}{M:Model}{A:Around}{E:Value->Shared->Prop}{s:Shared}(h:wpAny M A t (fun a s=>∃x,p a s x/\q a s x) E s)(I:∀a s x,p a s x->q a s x->C a s):wpAny M A t C E s:=thn h fun a s h=>O8 h fun x h=>I a s x h.1 h.2
theorem K6{o U J:Type}{p q:o->Shared->U->J->Prop}{t:Sem o}{C:o->Shared->Prop}{M:Model}{A:Around}{E:Value->Shared->Prop}{s:Shared}(h:wpAny M A t (fun a s=>∃x y,p a s x y/\q a s x y) E s)(I:∀a s x y,p a s x y->q a s x y->C a s):wpAny M A t C E s:=thn h fun a s h=>O8 h fun x h=>O8 h fun y h=>I a s x y h.1 h.2
theorem cO{o U J:Type}{p r q:o->Shared->U->J->Prop}{t:Sem o}{C:o->Shared->Prop}{M:Model}{A:Around}{E:Value->Shared->Prop}{s:Shared}(h:wpAny M A t (fun a s=>∃x y,p a s x y/\r a s x y/\q a s x y) E s)(I:∀a s x y,p a s x y->r a s x y->q a s x y->C a s):wpAny M A t C E s:=thn h fun a s h=>O8 h fun x h=>O8 h fun y h=>I a s x y h.1 h.2.1 h.2.2
section
variable {X : Cx}
def KO(i:Nat):TE:=fun Z H Q=>∃v,Z[i]? =some (some v)/\Q v H
def tC(v:V):TE:=fun _ H Q=>Q v H
theorem Kr{i:Nat}{x:Str}{a:Pos}(j:X.N[i]? =some x)(f:Vis X.env.scope x)(hd:(x==("__debug__":Str))=false:=by decide)(U:(x==("__classdict__":Str))=false:=by decide):PE X (.Name x a) (KO i):=by
 intro J s Z H Q I h;obtain⟨v,e,h⟩:=h;obtain⟨m,d,g⟩:=I.loc;obtain⟨u,r,l⟩:=g i x v j e f;have fin:EP X J Z Q u s:=⟨v,H,I,r,h⟩;rcases l with⟨C,hm⟩|⟨C,c,b,o⟩
 .exact wpAny_Name (wpAny_loadName_local I.ok.kind C d hm fin) hd
 .rcases C with C | C
  .exact wpAny_Name (wpAny_loadName_cell I.ok.kind C b o fin) hd
  .exact wpAny_Name (wpAny_loadName_free I.ok.kind C b o fin U) hd
theorem aa{i j pos}:PE X (.Constant (.int i) j pos) (tC (.int i)):=fun _ _ _ H _ I h=>wpAny_Constant_int ⟨.int i,H,I.tok _,⟨_,rfl⟩,h⟩
theorem uT{b j pos}:PE X (.Constant (.bool b) j pos) (tC (.bl b)):=fun _ _ _ H _ I h=>Constant_bool ⟨.bl b,H,I,rfl,h⟩
theorem fH{j pos}:PE X (.Constant .none j pos) (tC .non):=fun _ _ _ H _ I h=>Qi ⟨.non,H,I,rfl,h⟩
theorem av{x j pos}:PE X (.Constant (.str x) j pos) (tC (.str x)):=fun _ _ _ H _ I h=>Calls.Constant_str ⟨.str x,H,I.tok _,⟨_,rfl⟩,h⟩
def Gl(X:Cx)(x:Str):Prop:=X.env.kindOf x=some .globalImplicit
theorem mO{E:Value->Shared->Prop}{o:List (Addr × Obj)}{s:Shared}{Z:St}{H:Hp}{x:Str}{u:Value}{C:Pos}{Q:Value->Shared->Prop}(I:Inv X o Z H s)(J:Gl X x)(hm:X.mg x=some u)(h:Q u s)
  (hd:(x==("__debug__":Str))=false:=by decide):wpAny (model X.prog X.w) X.A (eval (.Name x C) X.env) Q E s:=
 OY I.ok.kind J (Calls.loadGlobal_global (by rw[I.ok.glob];exact I.mod.glob.keeps I.bk) hm h) hd
theorem wL{E:Value->Shared->Prop}{o:List (Addr × Obj)}{s:Shared}{Z:St}{H:Hp}{x:Str}{u:Value}{C:Pos}{Q:Value->Shared->Prop}(I:Inv X o Z H s)(b:Gl X x)(hm:X.mg x=none)(a:bootBuiltins x=some u)(h:Q u s)
  (J:x≠"__name__":=by decide) (hd:(x==("__debug__":Str))=false:=by decide):wpAny (model X.prog X.w) X.A (eval (.Name x C) X.env) Q E s:=by
 obtain⟨d,U,c⟩:=I.mod.blt;exact OY I.ok.kind b (Calls.loadGlobal_builtin (by rw[I.ok.glob];exact I.mod.glob.keeps I.bk) hm (by rw[I.ok.blt];exact U.keeps I.bk) ((c x J).trans a) h) hd
theorem pK{x:Str}{v:V}{u:Value}{o:Pos}(C:Gl X x)(hm:X.mg x=some u)(r:bv v u)(hd:(x==("__debug__":Str))=false:=by decide):PE X (.Name x o) (tC v):=
 fun _ _ _ H _ I h=>mO I C hm ⟨v,H,I,r,h⟩ hd
variable {a b : Expr} {ta tb : TE} {pos : Pos}
def PC(X:Cx)(J:CmpOp)(a b:Expr)(t:TE):Prop:=
 ∀(o:List (Addr × Obj)) (s:Shared) (Z:St) (H:Hp) (Q:VK),Inv X o Z H s->t Z H Q->
  wpAny (model X.prog X.w) X.A (eval a X.env) (fun v I=>wpAny (model X.prog X.w) X.A (eval b X.env) (fun u C=>wpAny (model X.prog X.w) X.A (compareOp J v u) (EP X o Z Q) X.xe C) X.xe I) X.xe s
theorem Cc(b:Expr){o:CmpOp}(h:o≠ .In)(C:o≠ .NotIn):behindInMarks o b=false:=by
 have J:(o==CmpOp.In)=false:=by cases o <;> first | rfl | exact absurd rfl h
 have I:(o==CmpOp.NotIn)=false:=by cases o <;> first | rfl | exact absurd rfl C
 cases b <;> simp [behindInMarks,J,I]
def Mi(ta:TE):TE:=fun Z H Q=>ta Z H fun x o=>Q (.bl (decide (x= .non))) o
def La(ta:TE):TE:=fun Z H Q=>ta Z H fun x o=>Q (.bl (!decide (x= .non))) o
theorem bv.none_iff{x:V}{v:Value}(r:bv x v):(v==Value.none)=decide (x= .non):=by
 cases x with
 | non=>cases r;rfl
 | bl _=>cases r;rfl
 | int _=>obtain⟨t,rfl⟩:=r;rfl
 | str _=>obtain⟨t,rfl⟩:=r;rfl
 | byt _=>obtain⟨t,rfl⟩:=r;rfl
 | flt _=>obtain⟨t,rfl⟩:=r;rfl
 | ref _=>cases r;rfl
 | ty _=>cases r;rfl
theorem qN{j pos'}(d:PE X a ta):PC X .Is a (.Constant .none j pos') (Mi ta):=by
 intro o s Z H Q I h;refine cO (d o s Z H _ I h) fun v e x C U J c=> ?_
 exact Qi (is_none_gen ⟨.bl _,C,U,by rw[J.none_iff];rfl,c⟩)
theorem Ig{j pos'}(d:PE X a ta):PC X .IsNot a (.Constant .none j pos') (La ta):=by
 intro o s Z H Q I h;refine cO (d o s Z H _ I h) fun v e x C U J c=> ?_
 exact Qi (isnot_none_gen ⟨.bl _,C,U,by rw[J.none_iff];rfl,c⟩)
def tB(t:TE):TT:=fun Z H Q=>t Z H fun x o=>∃c,x= .bl c/\Q c o
theorem JV{C:CmpOp}{t:TE}(h:PC X C a b t)(J:behindInMarks C b=false:=by first | exact Cc _ (by decide) (by decide) | rfl):PE X (.Compare a [C] [b] pos) t:=fun o s Z H Q I hw=>wpAny_Compare1 (h o s Z H Q I hw) J
theorem qC{J:CmpOp}{t:TE}(h:PC X J a b t)(C:behindInMarks J b=false:=by first | exact Cc _ (by decide) (by decide) | rfl):PT X (.Compare a [J] [b] pos) (tB t):=by
 intro o s Z H Q I hw;refine PY (thn (h o s Z H _ I hw) fun v j C=>thn C fun u m e=>thn e fun c n ⟨x,f,g,U,i⟩=> ?_) C
 obtain⟨d,rfl,q⟩:=i
 cases U
 exact Oe ⟨f,g,q⟩
theorem eL{e:Expr}{t:TE}(h:PE X e t)(J:∀whole,isTrue e X.env whole=(do let v <-whole;standAt e.pos;holding [v] (truthy v)):=by intro _;rfl):PT X e (tB t):=by
 intro o s Z H Q I hw;refine isTrue_plain (cO (h o s Z H _ I hw) fun v g x U c C f=> ?_) (J _)
 obtain⟨d,rfl,q⟩:=f
 cases C
 exact Oe ⟨U,c,q⟩
variable {tA tB' : TT} {rg : List Expr}
def Ms(t u:TT):TT:=fun Z H Q=>t Z H fun c o=>if c=true then u Z o Q else Q false o
def tOr(t u:TT):TT:=fun Z H Q=>t Z H fun c o=>if c=true then Q true o else u Z o Q
def LW(t:TT):TT:=fun Z H Q=>t Z H fun c o=>Q (!c) o
theorem sE(C:PT X a tA):PW X (.BoolOp .And [a] pos) tA:=by
 intro U o s Z H Q I h;refine isTrue_and (thn (C o s Z H Q I h) fun c J e=> ?_)
 cases c with
 | true=>exact isTrue_and_nil e
 | false=>exact e
theorem hZ(C:PT X a tA):PW X (.BoolOp .Or [a] pos) tA:=by
 intro U o s Z H Q I h;refine isTrue_or (thn (C o s Z H Q I h) fun c J e=> ?_)
 cases c with
 | false=>exact isTrue_or_nil e
 | true=>exact e
theorem wc(g:PT X a tA)(d:PW X (.BoolOp .And (b::rg) pos) tB'):PW X (.BoolOp .And (a::b::rg) pos) (Ms tA tB'):=by
 intro f o s Z H Q I h;refine isTrue_and (Cf (g o s Z H _ I h) fun c e C J U=> ?_)
 cases c with
 | true=>exact d f o e Z C Q J U
 | false=>exact⟨C,J,U⟩
theorem gP(g:PT X a tA)(d:PW X (.BoolOp .Or (b::rg) pos) tB'):PW X (.BoolOp .Or (a::b::rg) pos) (tOr tA tB'):=by
 intro f o s Z H Q I h;refine isTrue_or (Cf (g o s Z H _ I h) fun c e C J U=> ?_)
 cases c with
 | true=>exact⟨C,J,U⟩
 | false=>exact d f o e Z C Q J U
theorem ip(J:PT X a tA):PT X (.UnaryOp .Not a pos) (LW tA):=by
 intro o s Z H Q I h;exact isTrue_not (J o s Z H (fun c C=>Q (!c) C) I h)
def KY(ta tb:TE):TE:=fun Z H Q=>ta Z H fun x o=>∃c,x= .bl c/\if c=true then tb Z o Q else Q (.bl false) o
def Md(ta tb:TE):TE:=fun Z H Q=>ta Z H fun x o=>∃c,x= .bl c/\if c=true then Q (.bl true) o else tb Z o Q
theorem wt{op}{t:TE}(h:PE X a t):PE X (.BoolOp op [a] pos) t:=fun o s Z H Q I hw=>BoolOp_one (h o s Z H Q I hw)
theorem HF(g:PE X a ta)(d:PE X (.BoolOp .And (b::rg) pos) tb):PE X (.BoolOp .And (a::b::rg) pos) (KY ta tb):=by
 intro o s Z H Q I h;refine BoolOp_and (cO (g o s Z H _ I h) fun v e x J U f C=> ?_)
 obtain⟨c,rfl,C⟩:=C
 cases f
 refine Oe ?_
 cases c with
 | true=>exact d o e Z J Q U C
 | false=>exact⟨.bl false,J,U,rfl,C⟩
theorem DO(g:PE X a ta)(d:PE X (.BoolOp .Or (b::rg) pos) tb):PE X (.BoolOp .Or (a::b::rg) pos) (Md ta tb):=by
 intro o s Z H Q I h;refine BoolOp_or (cO (g o s Z H _ I h) fun v e x J U f C=> ?_)
 obtain⟨c,rfl,C⟩:=C
 cases f
 refine Oe ?_
 cases c with
 | false=>exact d o e Z J Q U C
 | true=>exact⟨.bl true,J,U,rfl,C⟩
def tIf(t:TT)(ta tb:TE):TE:=fun Z H Q=>t Z H fun c o=>if c=true then ta Z o Q else tb Z o Q
theorem oF{c:Expr}(g:PT X c tA)(i:PE X a ta)(f:PE X b tb):PE X (.IfExp c a b pos) (tIf tA ta tb):=by
 intro o s Z H Q I h;refine wpAny_IfExp (Cf (g o s Z H _ I h) fun d J C U e=> ?_)
 cases d with
 | true=>exact i o J Z C Q U e
 | false=>exact f o J Z C Q U e
end
def SqL(K:Frag)(H:Hp)(a:Addr)(xs:List V):Prop:=
 Rd H a (.lst xs)\/
  ∃(o:Obj) (C:Array Value) (n:Nat),K.lookup a=some o/\o.cls= .type "list"/\o.dict=none/\o.data= .seq C n/\C.size<=sizeLine/\bg xs C.toList
def SqT(K:Frag)(H:Hp)(a:Addr)(xs:List V):Prop:=
 Rd H a (.tup xs)\/
  ∃(o:Obj) (C:Array Value) (n:Nat),K.lookup a=some o/\o.cls= .type "tuple"/\o.data= .seq C n/\C.size<=sizeLine/\bg xs C.toList
noncomputable def L9:Value->Option V
 | .none=>some .non
 | .bool b=>some (.bl b)
 | .int i _=>some (.int i)
 | .str x _=>some (.str x)
 | .bytes b _=>some (.byt b)
 | .float b _=>some (.flt b)
 | .ref a=>some (.ref a)
 | .type n=>some (.ty n)
 | _=>none
theorem bv.abs{x:V}{u:Value}(r:bv x u):L9 u=some x:=by
 cases x with
 | non=>cases r;rfl
 | bl _=>cases r;rfl
 | int _=>obtain⟨t,rfl⟩:=r;rfl
 | str _=>obtain⟨t,rfl⟩:=r;rfl
 | byt _=>obtain⟨t,rfl⟩:=r;rfl
 | flt _=>obtain⟨t,rfl⟩:=r;rfl
 | ref _=>cases r;rfl
 | ty _=>cases r;rfl
theorem bv.inj{x y:V}{u:Value}(r:bv x u)(q:bv y u):x=y:=MR (r.abs.symm.trans q.abs)
theorem bg.inj:∀{xs ys:List V}{us:List Value},bg xs us->bg ys us->xs=ys
 | _,_,_,.nil,.nil=>rfl
 | _,_,_,.cons r t,.cons r' t'=>by rw[r.inj r',bg.inj t t']
section
variable {X : Cx} {pins : List (Addr × Obj)} {σ : St} {H : Hp} {s : Shared} {a : Addr} {xs ys : List V}
theorem SqL.of{K:Frag}(h:H a=some (.lst xs)):SqL K H a xs:= .inl (.inl h)
theorem SqT.of{K:Frag}(h:H a=some (.tup xs)):SqT K H a xs:= .inl (.inl h)
theorem Inv.list(I:Inv X pins Z H s)(h:SqL X.K H a xs):∃C:List Value,bg xs C/\PlainL s.heap a C.toArray/\xs.length<=sizeLine:=by
 rcases h with h | ⟨o,C,n,hk,hc,hd,hs,hz,r⟩
 .obtain⟨z,C,n,r,e⟩:=h.ok I.hok;exact⟨C,r,⟨_,n,e,rfl,rfl,rfl⟩,z⟩
 .refine⟨C.toList,r,⟨o,n,I.kIn a o hk,hc,hd,by simpa using hs⟩,?_⟩
  have e:=r.length
  simp only[OS] at e
  lia
theorem Inv.tuple(I:Inv X pins Z H s)(h:SqT X.K H a xs):∃C:List Value,bg xs C/\IsTup s.heap a C.toArray/\xs.length<=sizeLine:=by
 rcases h with h | ⟨o,C,n,hk,hc,hs,hz,r⟩
 .obtain⟨z,C,r,p⟩:=h.ok I.hok;exact⟨C,r,p,z⟩
 .refine⟨C.toList,r,⟨o,I.kIn a o hk,hc,n,by simpa using hs⟩,?_⟩
  have e:=r.length
  simp only[OS] at e
  lia
theorem Inv.list_inj(I:Inv X pins Z H s)(h:SqL X.K H a xs)(h':SqL X.K H a ys):xs=ys:=by
 obtain⟨J,r,⟨o,n,e,_,_,d⟩,_⟩:=I.list h;obtain⟨C,c,⟨f,g,b,_,_,U⟩,_⟩:=I.list h';rw[e] at b;cases b;rw[d] at U
 injection U with d1 _
 have:J=C:=by simpa using Ng Array.toList d1
 subst this;exact r.inj c
theorem Inv.tuple_inj(I:Inv X pins Z H s)(h:SqT X.K H a xs)(h':SqT X.K H a ys):xs=ys:=by
 obtain⟨J,r,⟨o,e,_,n,d⟩,_⟩:=I.tuple h;obtain⟨C,c,⟨f,b,_,g,U⟩,_⟩:=I.tuple h';rw[e] at b;cases b;rw[d] at U
 injection U with d1 _
 have:J=C:=by simpa using Ng Array.toList d1
 subst this;exact r.inj c
end
noncomputable abbrev Cx.wish(X:Cx)(E:Value->Shared->Prop):Cx:={X with xe:=E}
noncomputable abbrev Cx.nox(X:Cx):Cx:=X.wish fun _ _=>False
theorem Cx.Ok.wish{X:Cx}(ok:X.Ok)(E:Value->Shared->Prop):(X.wish E).Ok:=
 ⟨ok.mod,ok.kind,ok.glob,ok.blt,ok.above,ok.inj,ok.has,ok.cab,ok.hd,ok.frames,ok.stk,ok.exf,ok.bs,ok.bsz,ok.noex,ok.exfs,ok.funs,ok.frf⟩
theorem Cx.Ok.unwish{X:Cx}{E:Value->Shared->Prop}(ok:(X.wish E).Ok):X.Ok:=
 ⟨ok.mod,ok.kind,ok.glob,ok.blt,ok.above,ok.inj,ok.has,ok.cab,ok.hd,ok.frames,ok.stk,ok.exf,ok.bs,ok.bsz,ok.noex,ok.exfs,ok.funs,ok.frf⟩
section
variable {X : Cx} {pins : List (Addr × Obj)} {σ : St} {H : Hp} {s : Shared} {E : Value → Shared → Prop}
theorem Inv.wish(I:Inv X pins Z H s)(E:Value->Shared->Prop):Inv (X.wish E) pins Z H s:=⟨I.ok.wish E,I.os,I.bare,I.base,I.loc,I.cell,I.free,I.freeC,I.pin,I.hok,I.len⟩
theorem Inv.unwish(I:Inv (X.wish E) pins Z H s):Inv X pins Z H s:=⟨I.ok.unwish,I.os,I.bare,I.base,I.loc,I.cell,I.free,I.freeC,I.pin,I.hok,I.len⟩
theorem SP.unwish{D:xk}{f:Flow}{J:Shared}(h:SP (X.wish E) pins D f J):SP X pins D f J:=by
 cases f with
 | next=>obtain⟨C,o,I,q⟩:=h;exact⟨C,o,I.unwish,q⟩
 | brk=>obtain⟨C,o,I,q⟩:=h;exact⟨C,o,I.unwish,q⟩
 | cont=>obtain⟨C,o,I,q⟩:=h;exact⟨C,o,I.unwish,q⟩
 | ret u=>obtain⟨v,C,o,I,r,q⟩:=h;exact⟨v,C,o,I.unwish,r,q⟩
theorem PE.nox{e:Expr}{t:TE}(h:PE X.nox e t):PE X e t:=fun pins s Z H Q I hw=>
 ND (h pins s Z H Q (I.wish _) hw) (fun _ _ ⟨v,o,C,r,q⟩=>⟨v,o,C.unwish,r,q⟩) fun _ _ z=>False.elim z
theorem PSs.nox{st:List Stmt}{t:TS}(h:PSs X.nox st t):PSs X st t:=fun pins s Z H D I hw=>
 ND (h pins s Z H D (I.wish _) hw) (fun _ _ q=>q.unwish) fun _ _ z=>False.elim z
end
section
variable {X : Cx} {st : Stmt} {rg : List Stmt} {t u : TS} {e : Expr} {te : TE} {pos : Pos}
def LI:TS:=fun D Z H=>D.nx Z H
def K3(t u:TS):TS:=fun D Z H=>t {D with nx:=u D} Z H
theorem am:PSs X [] LI:=fun _ _ Z H _ I h=>OM ⟨Z,H,I,h⟩
theorem ac(a:PS X st t)(C:PSs X rg u):PSs X (st::rg) (K3 t u):=by
 intro o s Z H D I h;refine wpAny_execs_cons (thn (a o s Z H {D with nx:=u D} I h) fun f U q=> ?_)
 cases f with
 | next=>
  obtain⟨b,J,c,q⟩:=q;exact C o U b J D c q
 | ret v=>exact q
 | brk=>exact q
 | cont=>exact q
theorem ae(C:PS X st t):PSs X [st] t:=by
 intro o s Z H D I h;refine wpAny_execs_cons (thn (C o s Z H D I h) fun f J q=> ?_)
 cases f with
 | next=>exact OM q
 | ret v=>exact q
 | brk=>exact q
 | cont=>exact q
theorem Inv.quiet{o:List (Addr × Obj)}{Z:St}{H:Hp}{s:Shared}(I:Inv X o Z H s):interactive X.env=false:=by simp [interactive,I.ok.kind]
def K2(te:TE):TS:=fun D Z H=>te Z H fun _ o=>D.nx Z o
theorem bL(J:PE X e te)(hs:swapsWith e none pos.line X.env=pure false:=by rfl):PS X (.Expr e pos) (K2 te):=by
 intro o s Z H D I h;exact wpAny_Expr_any (cO (J o s Z H _ I h) fun v b x C U c a=>⟨Z,C,U,a⟩) I.quiet hs
def LY(te:TE):TS:=fun D Z H=>te Z H D.rt
theorem ai(U:PE X e te):PS X (.Return (some e) pos) (LY te):=by
 intro o s Z H D I h;exact wpAny_Return_some (cO (U o s Z H _ I h) fun v c x C a J b=>⟨x,Z,C,a,J,b⟩)
def LV(c:TT)(t u:TS):TS:=fun D Z H=>c Z H fun b o=>if b=true then t D Z o else u D Z o
theorem ay{c:Expr}{a b:List Stmt}{g:TT}(j:PT X c g)(m:PSs X a t)(i:PSs X b u):PS X (.If c a b pos) (LV g t u):=by
 intro o s Z H D I h;refine wpAny_If (Cf (j o s Z H _ I h) fun d C J U f=> ?_)
 cases d with
 | true=>exact m o C Z J D U f
 | false=>exact i o C Z J D U f
end
abbrev TG:=V->St->Hp->(St->Hp->Prop)->Prop
abbrev TGs:=List V->St->Hp->(St->Hp->Prop)->Prop
def PG(X:Cx)(o:Expr)(t:TG):Prop:=
 ∀(C:List (Addr × Obj)) (s:Shared) (Z:St) (H:Hp) (v:V) (u:Value) (Q:St->Hp->Prop),Inv X C Z H s->bv v u->t v Z H Q->
  wpAny (model X.prog X.w) X.A (assign o X.env u) (fun _ U=>∃J I,Inv X C J I U/\Q J I) X.xe s
def PGs(X:Cx)(b:List Expr)(t:TGs):Prop:=
 ∀(o:List (Addr × Obj)) (s:Shared) (Z:St) (H:Hp) (I:List V) (J:List Value) (Q:St->Hp->Prop),Inv X o Z H s->bg I J->t I Z H Q->
  wpAny (model X.prog X.w) X.A (assignInOrder ((assignEach b X.env).map (·.2)) J) (fun _ a=>∃U C,Inv X o U C a/\Q U C) X.xe s
abbrev Kj:=V->V->V->Hp->(Hp->Prop)->Prop
def Lu(X:Cx)(t:Kj):Prop:=
 ∀(C:List (Addr × Obj)) (s:Shared) (Z:St) (H:Hp) (o i v:V) (U J u:Value) (Q:Hp->Prop),Inv X C Z H s->bv o U->bv i J->bv v u->t o i v H Q->
  wpAny (model X.prog X.w) X.A (setItem U J u) (fun _ a=>∃I,Inv X C Z I a/\Q I) X.xe s
section
variable {X : Cx} {pos : Pos}
def BS(i:Nat):TG:=fun v Z H Q=>Q (Z.set i (some v)) H
theorem aD{i:Nat}{x:Str}(U:X.N.Nodup)(C:X.N[i]? =some x)(a:Loc X.env.scope x)(J:X.fn x=true\/X.env.scope.names.lookup x=some .local:=by first | exact .inl rfl | exact .inr rfl | assumption):PG X (.Name x pos) (BS i):=by
 intro o s Z H v u Q I r h;exact wpAny_assign_Name (BT I U C a r (fun c b=>⟨_,H,b,h⟩) J)
def Mx:TGs:=fun o Z H Q=>o=[]/\Q Z H
def LH(t:TG)(u:TGs):TGs:=fun I Z H Q=>∃v r,I=v::r/\t v Z H fun C o=>u r C o Q
theorem iS:PGs X [] Mx:=by
 intro o s Z H J C Q I r h;obtain⟨e,h⟩:=h;subst e
 cases r
 exact assignInOrder_nil ⟨Z,H,I,h⟩
theorem aS{e:Expr}{C:List Expr}{t:TG}{u:TGs}(U:PG X e t)(a:PGs X C u)
  (hs:(assignEach (e::C) X.env).map (·.2)=assign e X.env::(assignEach C X.env).map (·.2):=by rfl):PGs X (e::C) (LH t u):=by
 intro o s Z H j i Q I r h;obtain⟨v,m,g,h⟩:=h;subst g
 cases r with
 | cons r rr=>
  rw[hs];refine assignInOrder_cons (K6 (U o s Z H _ _ _ I r h) fun _ J c b d f=> ?_)
  exact a o J c b _ _ Q d rr f
def KZ(K:Frag)(n:Nat)(t:TGs):TG:=fun v Z H Q=>∃a o,v= .ref a/\SqT K H a o/\o.length=n/\t o Z H Q
theorem k_{J:List Expr}{k:Nat}{t:TGs}{n:Nat}(m:X.calm=true)(h:PGs X J t)
  (d:(assignEach J X.env).length=n:=by rfl) (U:(assignEach J X.env).findIdx? (·.1)=none:=by rfl):PG X (.Tuple J k pos) (KZ X.K n t):=by
 intro C s Z H v u Q I r hw;obtain⟨a,j,y,x,f,hw⟩:=hw;subst y
 cases r
 obtain⟨i,c,q,z⟩:=I.tuple x;refine assign_Tuple_tuple (I.ok.hd m) q (by simp [d, <-f,c.length]) U fun g p=> ?_
 have w:Inv X C Z H {s with heap:=g}:=I.kept (t':=s.toks) fun b o e=>p b o (M5 (MK e)) e
 exact h C _ Z H j _ Q w (by simpa using c) hw
def Ml(I U:TE)(t:Kj):TG:=fun v Z H Q=>I Z H fun o C=>U Z C fun i a=>t o i v a fun J=>Q Z J
theorem zQ{o i:Expr}{a b:TE}{t:Kj}(ho:PE X o a)(c:PE X i b)(hs:Lu X t)
  (j:∀v,assign (.Subscript o i pos) X.env v=(do
   let J <-holding [v] (eval o X.env)
   let U <-holding [v,J] (eval i X.env)
   standAt pos
   holding [v,J,U] (setItem J U v)
   release [v,J,U] []):=by intro _;rfl):PG X (.Subscript o i pos) (Ml a b t):=by
 intro C s Z H v u Q I r h;rw[j];refine mF (OI (cO (ho C s Z H _ I h) fun J d x m w e z=> ?_))
 refine mF (OI (cO (c C d Z m _ w z) fun U A y g q B p=> ?_))
 refine mF (Qj (mF (OI (Cf (hs C A Z g x y v J U u _ q e B r p) fun _ E f D n=> ?_))))
 exact wpAny_release ⟨Z,f,D,n⟩
def IT(C:TE)(g:TG):TS:=fun D Z H=>C Z H fun x o=>g x Z o D.nx
theorem kN{C e:Expr}{J:TE}{g:TG}(d:PE X e J)(c:PG X C g)(hs:swapsWithSole [C] e pos.line X.env=pure false:=by rfl)(hw:swappedStores [C] e X.env=pure none:=by rfl)
  (b:(assignEach [C] X.env).map (·.2)=[assign C X.env]:=by rfl):PS X (.Assign [C] e pos) (IT J g):=by
 intro o s Z H D I h;refine wpAny_Assign_stores (cO (d o s Z H _ I h) fun v U x f i a j=> ?_) hs hw
 rw[b];exact thn (c o U Z f x v _ i a j) fun _ m q=>q
theorem JQ{i:Nat}{x:Str}{e:Expr}{J:TE}{o:Pos}(n:X.N.Nodup)(U:X.N[i]? =some x)(d:Loc X.env.scope x)(c:PE X e J)(hs:swapsWith e (some (.Name x o)) pos.line X.env=pure false:=by rfl)(b:X.fn x=true\/X.env.scope.names.lookup x=some .local:=by first | exact .inl rfl | exact .inr rfl | assumption):
  PS X (.Assign [.Name x o] e pos) (IT J (BS i)):=by
 intro C s Z H D I h;refine wpAny_Assign_Name (cO (c C s Z H _ I h) fun v p y f j a m=> ?_) hs
 exact BT j n U d a (fun q g=>⟨_,f,g,m⟩) b
end
section
variable {X : Cx} {pos : Pos}
def Kg(c:TT)(U:TS):TS:=fun D Z H=>∃W:Nat->St->Hp->Prop,(∃m,W m Z H)/\∀m Z H,W m Z H->
 c Z H fun b o=>if b=true then ∃N:St->Hp->Prop,(∀J C,N J C->∃I,I<m/\W I J C)/\U {D with nx:=N,ct:=N,bk:=D.nx} Z o else D.nx Z o
theorem lB{c:Expr}{C:List Stmt}{z:TT}{m:TS}(r:PassesOwn (model X.prog X.w) X.A X.env X.xe)(K:PT X c z)(E:PSs X C m):PS X (.While c C [] pos) (Kg z m):=by
 intro o s Z H D I h;obtain⟨W,⟨m0,G⟩,turn⟩:=h;refine wpAny_While (codeAny_whileLoop (fun n P=>∃B y,Inv X o B y P/\W n B y) ?_ m0 ⟨Z,H,I,G⟩)
 rintro n F ⟨a,q,L,O⟩
 refine NW r (Cf (K o F a q _ L (turn n a q O)) fun b M p u e=> ?_)
 cases b with
 | true=>
  obtain⟨N,x,e⟩:=e;rw[ME rfl];refine NW r (thn (E o M a p _ u e) fun f Q d=> ?_)
  cases f with
  | next=>
   obtain⟨U,J,j,n3⟩:=d;obtain⟨g,hm,i⟩:=x U J n3;exact⟨g,hm,U,J,j,i⟩
  | cont=>
   obtain⟨U,J,j,n3⟩:=d;obtain⟨g,hm,i⟩:=x U J n3;exact⟨g,hm,U,J,j,i⟩
  | brk=>exact d
  | ret v=>exact d
 | false=>
  rw[mC MP];exact OM ⟨a,p,u,e⟩
end
structure It where
 go:Nat->Hp->Prop
 yld:Nat->Hp->V->Hp->Prop
 stop:Nat->Hp->Prop
def tM(X:Cx)(o:List (Addr × Obj))(H:Hp)(b:Addr):Prop:=
 H b=none/\b≠X.env.locals/\b ∉ X.fs/\(b∈X.ex\/X.s₀.heap.objs.size<=b)/\(∀x c,X.env.cells.lookup x=some c->c≠b)/\∀p∈X.pn++o,p.1≠b
theorem Inv.fpOk{X:Cx}{o:List (Addr × Obj)}{Z:St}{H J:Hp}{s:Shared}{b:Addr}(I:Inv X o Z H s)(C:s.heap.objs.size<=b)(a:J b=none):tM X o J b:=by
 refine⟨a,N_ (MJ I.lt C),I.nofs C,.inr (MV I.sz C),fun x c e z=> ?_,fun p U z=> ?_⟩
 .obtain⟨v,q⟩:=I.cell x c e;exact absurd (MJ q.lt (by rw[z];exact C)) (NQ _)
 .exact absurd (MJ (MK (I.pin p U).1) (by rw[z];exact C)) (NQ _)
structure Dh (P:Program) (w:World) (K:Frag) (tg:Expr) (J:It) (fp:List Addr) (it:Addr) (tn:Nat->Heap->Prop):Prop where
 mem:it∈fp
 obj:∀i h,tn i h->∀b∈fp, ∃o,h.get? b=some o/\∀v,o.data≠ .cell v
 keep:∀i h h',tn i h->(∀b∈fp, ∀o,h.get? b=some o->h'.get? b=some o)->tn i h'
 item:∀(X:Cx),X.prog=P->X.w=w->X.K=K->X.calm=true->∀(i:Nat) (pins:List (Addr × Obj)) (s:Shared) (Z:St) (H:Hp) (E:Value->Shared->Prop),Inv X pins Z H s->(∀b∈fp,tM X pins H b)->tn i s.heap->J.go i H->
  wpAny (model P w) X.A (pyNext (.ref it)) (fun r s1=>∃u,r=some u/\
   wpAny (model P w) X.A (letOwnedTupleGo tg (.ref it) u) (fun _ s2=>∃x H',Inv X pins Z H' s2/\bv x u/\J.yld i H x H'/\tn (i+1) s2.heap/\∀b∈fp,H' b=none) E s1) E s
 done:∀(X:Cx),X.prog=P->X.w=w->X.K=K->X.calm=true->∀(i:Nat) (pins:List (Addr × Obj)) (s:Shared) (Z:St) (H:Hp) (E:Value->Shared->Prop),Inv X pins Z H s->(∀b∈fp,tM X pins H b)->tn i s.heap->J.stop i H->
  wpAny (model P w) X.A (pyNext (.ref it)) (fun r s1=>r=none/\Inv X pins Z H s1) E s
 self:∀(A:Around) (i:Nat) (s:Shared) (Q:Value->Shared->Prop) (E:Value->Shared->Prop),tn i s.heap->Q (.ref it) s->wpAny (model P w) A (pyIter (.ref it)) Q E s
abbrev TI:=St->Hp->(It->Hp->Prop)->Prop
def PIE(X:Cx)(o:List (Addr × Obj))(Z:St)(e:Expr)(R:It->Hp->Prop)(I:Value)(d:Shared):Prop:=
 ∃(a:Addr) (U:List Addr) (c:Nat->Heap->Prop) (J:It) (C:Hp),I= .ref a/\Inv X o Z C d/\Dh X.prog X.w X.K e J U a c/\c 0 d.heap/\(∀b∈U,tM X o C b)/\R J C
def PI(X:Cx)(J C:Expr)(U:TI):Prop:=
 ∀(o:List (Addr × Obj)) (s:Shared) (Z:St) (H:Hp) (R:It->Hp->Prop),Inv X o Z H s->U Z H R->
  wpAny (model X.prog X.w) X.A (eval C X.env) (fun v I=>wpAny (model X.prog X.w) X.A (pyIter v) (PIE X o Z J R) X.xe I) X.xe s
theorem Gj{M : Model}{A : Around}{E : Value → Shared → Prop}{s : Shared}{I : Expr}{it : Addr}{u : Value}{o : Obj}{n : String}{vs : Array Value}{Q : Unit → Shared → Prop}(ho : s.heap.get? it = some o)(U : o.cls = .type n)(hd : o.data = .fields vs)
    (J : ["enumerate", "zip", "dict_itemiterator", "dict_reverseitemiterator", "odict_iterator", "itertools.zip_longest", "itertools.pairwise"].contains n = false) (C : Q () s) : wpAny M A (letOwnedTupleGo I (.ref it) u) Q E s := by
  unfold letOwnedTupleGo
  cases I <;> first
    | exact MQ C
    | (cases u <;> first
        | exact MQ C
        | (refine mF (wpAny_load ho ?_)
           rw[U, hd]
           show wpAny M A (if (["enumerate", "zip", "dict_itemiterator", "dict_reverseitemiterator", "odict_iterator", "itertools.zip_longest", "itertools.pairwise"].contains n && vs[0]? == some (rawInt _)) = true then _ else _) Q E s
           rw[mC (by intro h; rw[J, P5] at h; cases h)]
           exact MQ C))
noncomputable def Itl(K:Frag)(a:Addr):It:=
 ⟨fun i H=>∃o x,SqL K H a o/\o[i]? =some x,fun i H x C=>C=H/\∀o,SqL K H a o->o[i]? =some x,fun i H=>∃o,SqL K H a o/\o.length<=i⟩
noncomputable def Itt(K:Frag)(a:Addr):It:=
 ⟨fun i H=>∃o x,SqT K H a o/\o[i]? =some x,fun i H x C=>C=H/\∀o,SqT K H a o->o[i]? =some x,fun i H=>∃o,SqT K H a o/\o.length<=i⟩
noncomputable def Itr(lo:Int)(n:Nat):It:=⟨fun i _=>i<n,fun i H x o=>o=H/\x= .int (lo+i),fun i _=>n<=i⟩
theorem EJ{P:Program}{w:World}{K:Frag}{F:Expr}(a it:Addr):Dh P w K F (Itl K a) [it] it (fun i h=>h.IsListIter it a i) where
 mem:=by simp
 obj:=fun i h st b J=>by
  have e:b=it:=by simpa using J
  subst e;obtain⟨o,e,c,d⟩:=st;exact⟨o,e,fun v z=>by rw[d] at z;cases z⟩
 keep:=fun i h f st k=>st.at fun o e=>k it (by simp) o e
 item:=by
  intro X n hw A B i C s Z H E I g st m;subst n hw A;obtain⟨G,x,j,r⟩:=m;obtain⟨q,y,p,L⟩:=I.list j;obtain⟨u,R,M⟩:=y.get r;obtain⟨f0,f1,f2,f3,f4,f5⟩:=g it (by simp)
  refine wpAny_pyNext_list_item st p.isList (x:=u) (by simpa using R) fun f U O=> ?_
  have Q:Inv X C Z H {s with heap:=f}:=I.turned (t':=s.toks) (fun b o J e=>(O.2 b J).trans e) f0 f1 f3 f4 f5
  obtain⟨o,e,c,d⟩:=id U;exact⟨u,rfl,Gj (s:={s with heap:=f}) e c d (by decide) ⟨x,H,Q,M,⟨rfl,fun T D=>by rw[I.list_inj D j];exact r⟩,U,fun b J=>(g b J).1⟩⟩
 done:=by
  intro X n hw A B i C s Z H E I g st m;subst n hw A;obtain⟨G,j,r⟩:=m;obtain⟨q,y,p,L⟩:=I.list j;obtain⟨f0,f1,f2,f3,f4,f5⟩:=g it (by simp)
  have S:=y.length;exact wpAny_pyNext_list_end (I.ok.hd B) st p.isList (by simp;lia) fun f N=>⟨rfl,I.turned (t':=s.toks) (fun b o J e=>N b o J e) f0 f1 f3 f4 f5⟩
 self:=fun _ _ _ _ _ st h=>wpAny_pyIter_listiter st h
theorem C_{P:Program}{w:World}{K:Frag}{F:Expr}(a it:Addr):Dh P w K F (Itt K a) [it] it (fun i h=>h.IsTupleIter it a i) where
 mem:=by simp
 obj:=fun i h st b J=>by
  have e:b=it:=by simpa using J
  subst e;obtain⟨o,e,c,d⟩:=st;exact⟨o,e,fun v z=>by rw[d] at z;cases z⟩
 keep:=fun i h g st k=>st.at fun o e=>k it (by simp) o e
 item:=by
  intro X q hw A B i C s Z H E I j st n;subst q hw A;obtain⟨G,x,m,r⟩:=n;obtain⟨U,y,p,L⟩:=I.tuple m;obtain⟨u,R,M⟩:=y.get r;obtain⟨f0,f1,f2,f3,f4,f5⟩:=j it (by simp)
  refine wpAny_pyNext_tuple_item st (show s.heap.IsTuple a U.toArray from p) (x:=u) (by simpa using R) fun g f O=> ?_
  have Q:Inv X C Z H {s with heap:=g}:=I.turned (t':=s.toks) (fun b o J e=>(O.2 b J).trans e) f0 f1 f3 f4 f5
  obtain⟨o,e,c,d⟩:=id f;exact⟨u,rfl,Gj (s:={s with heap:=g}) e c d (by decide) ⟨x,H,Q,M,⟨rfl,fun T D=>by rw[I.tuple_inj D m];exact r⟩,f,fun b J=>(j b J).1⟩⟩
 done:=by
  intro X q hw A B i C s Z H E I j st n;subst q hw A;obtain⟨G,m,r⟩:=n;obtain⟨U,y,p,L⟩:=I.tuple m;obtain⟨f0,f1,f2,f3,f4,f5⟩:=j it (by simp)
  have S:=y.length;exact wpAny_pyNext_tuple_end (I.ok.hd B) st (show s.heap.IsTuple a U.toArray from p) (by simp;lia) fun g N=>⟨rfl,I.turned (t':=s.toks) (fun b o J e=>N b o J e) f0 f1 f3 f4 f5⟩
 self:=fun _ _ _ _ _ st h=>wpAny_pyIter_tupleiter st h
theorem DF{P:Program}{w:World}{K:Frag}{r:Expr}(it:Addr)(lo:Int)(n:Nat):Dh P w K r (Itr lo n) [it] it (fun i h=>IsRangeIter h it (lo+(i:Nat)*1) ((n:Int) - (i:Nat)) 1) where
 mem:=by simp
 obj:=fun i h st b J=>by
  have e:b=it:=by simpa using J
  subst e
  exact⟨_,st,fun v z=>by
   have u:Data.fields _=Data.cell v:=z
   cases u⟩
 keep:=fun i h a st k=>k it (by simp) _ st
 item:=by
  intro X f hw j g i C s Z H E I c st d;subst f hw j;obtain⟨f0,f1,f2,f3,f4,f5⟩:=c it (by simp)
  have W:=Walks.range (prog:=X.prog) (w:=X.w) (I.ok.hd g) it lo 1 n;refine W.item i s _ _ d st fun v a m q U p=> ?_
  obtain⟨t,rfl⟩:=q;have y:Inv X C Z H {s with heap:=a,toks:=m}:=I.turned (fun b o J e=>p b o (by simpa using J) e) f0 f1 f3 f4 f5
  refine⟨_,rfl,Gj (s:={s with heap:=a,toks:=m}) (n:="range_iterator") U rfl rfl (by decide) ⟨.int (lo+i),H,y,⟨t,?_⟩,⟨rfl,rfl⟩,U,fun b J=>(c b J).1⟩⟩
  rw[Int.mul_one]
 done:=by
  intro X f hw j g i C s Z H E I c st d;subst f hw j;obtain⟨f0,f1,f2,f3,f4,f5⟩:=c it (by simp)
  exact wpAny_pyNext_range_end (I.ok.hd g) st (by have:n<=i:=d;lia) fun a x=>⟨rfl,I.turned (t':=s.toks) (fun b o J e=>x b o J e) f0 f1 f3 f4 f5⟩
 self:=fun _ _ _ _ _ st h=>wpAny_pyIter_rangeiter st h
section
variable {X : Cx} {tg : Expr}
def Ly(K:Frag)(C:TE):TI:=fun Z H R=>C Z H fun x o=>∃a,x= .ref a/\(∃I,SqL K o a I)/\R (Itl K a) o
def Mu(K:Frag)(C:TE):TI:=fun Z H R=>C Z H fun x o=>∃a,x= .ref a/\(∃I,SqT K o a I)/\R (Itt K a) o
theorem rT{l:Expr}{c:TE}(g:PE X l c):PI X tg l (Ly X.K c):=by
 intro C s Z H R I h;refine cO (g C s Z H _ I h) fun v J x j U f m=> ?_
 obtain⟨a,e,⟨r,n⟩,q⟩:=m;subst e
 cases f
 obtain⟨i,w,p,u⟩:=U.list n;refine wpAny_pyIter_list p.isList ?_
 refine⟨J.heap.objs.size,[J.heap.objs.size],_,_,j,rfl,U.kept (t':=J.toks) fun b o e=>MB _ e,EJ a _,⟨_,M6 _ rfl,rfl,rfl⟩,fun b d=> ?_,q⟩
 have e:b=J.heap.objs.size:=by simpa using d
 subst e;exact U.fpOk (MC _) (U.hok.fresh (MC _))
theorem oR{l:Expr}{d:TE}(i:PE X l d):PI X tg l (Mu X.K d):=by
 intro J s Z H R I h;refine cO (i J s Z H _ I h) fun v C x j U g m=> ?_
 obtain⟨a,e,⟨r,n⟩,q⟩:=m;subst e
 cases g
 obtain⟨c,w,p,u⟩:=U.tuple n;refine wpAny_pyIter_tuple (show C.heap.IsTuple a c.toArray from p) ?_
 refine⟨C.heap.objs.size,[C.heap.objs.size],_,_,j,rfl,U.kept (t':=C.toks) fun b o e=>MB _ e,C_ a _,⟨_,M6 _ rfl,rfl,rfl⟩,fun b f=> ?_,q⟩
 have e:b=C.heap.objs.size:=by simpa using f
 subst e;exact U.fpOk (MC _) (U.hok.fresh (MC _))
theorem GR{J:List (Addr × Obj)}{Z:St}{H:Hp}{s:Shared}{R:It->Hp->Prop}{E:Value->Shared->Prop}{lo C:Int}{t u v:Tok}{a:Nat}(I:Inv X J Z H s)(d: -(2^62)<=lo)(j:lo<2^62)(f: -(2^62)<=C)(g:C<2^62)
  (q:R (Itr lo (C - lo).toNat) H):wpAny (model X.prog X.w) X.A (pyIter (.ref s.heap.objs.size)) (PIE X J Z tg R) E {s with heap:=s.heap.push {cls:= .type "range",data:= .fields #[.int lo t,.int C u,.int 1 v]},toks:=a}:=by
 refine wpAny_pyIter_range (IsRange.new ..) (small_one d j f g) ?_
 have U:Inv X J Z H {s with heap:=s.heap.push {cls:= .type "range",data:= .fields #[.int lo t,.int C u,.int 1 v]},toks:=a}:=I.kept fun b o e=>MB _ e
 refine⟨(s.heap.push {cls:= .type "range",data:= .fields #[.int lo t,.int C u,.int 1 v]}).objs.size,[(s.heap.push {cls:= .type "range",data:= .fields #[.int lo t,.int C u,.int 1 v]}).objs.size],_,_,H,rfl,
  U.kept (t':=a) fun b o e=>MB _ e,DF _ lo (C - lo).toNat,?_,fun b c=> ?_,q⟩
 .have e1:lo+((0:Nat):Int)*1=lo:=by simp
  have i:(((C - lo).toNat:Nat):Int) - ((0:Nat):Int)=Builtin.Range.rangeSize lo C 1:=by rw[rangeSize_one];split <;> lia
  show IsRangeIter _ _ (lo+((0:Nat):Int)*1) ((((C - lo).toNat:Nat):Int) - ((0:Nat):Int)) 1
  rw[e1,i];exact M6 _ rfl
 .have e:b=(s.heap.push {cls:= .type "range",data:= .fields #[.int lo t,.int C u,.int 1 v]}).objs.size:=by simpa using c
  subst e;exact U.fpOk (MC _) (U.hok.fresh (MC _))
def K0(o:TA):TI:=fun Z H R=>o Z H fun I C=>∃j:Int,I=[.int j]/\ -(2^62)<=j/\j<2^62/\R (Itr 0 j.toNat) C
theorem eD{a:Expr}{U:TA}{p o:Pos}(c:Gl X "range")(hm:X.mg "range"=none)(d:PA X [a] U)(hs:starEach [a] X.env=[(false,eval a X.env)]:=by rfl):PI X tg (.Call (.Name "range" p) [a] [] o) (K0 U):=by
 intro C s Z H R I h;refine Call_ (wL I c hm boot_range (NN (cO (d o C s Z H _ I h) fun m i n u g b J=> ?_) hs rfl))
 obtain⟨j,e,J,f,q⟩:=J;subst e
 cases b with
 | cons r rr=>
  cases rr
  obtain⟨t,rfl⟩:=r;exact call_range_1 (GR g (by lia) (by lia) J f (by simpa using q))
def LZ(a:TI)(g:TG)(b:TS):TS:=fun D Z H=>a Z H fun J U=>∃W:Nat->Nat->St->Hp->Prop,(∃m,W 0 m Z U)/\∀i m Z H,W i m Z H->
 (J.stop i H/\D.nx Z H)\/(J.go i H/\∃N:St->Hp->Prop,(∀I o,N I o->∃C,C<m/\W (i+1) C I o)/\∀x o,J.yld i H x o->g x Z o fun c d=>b {D with nx:=N,ct:=N,bk:=D.nx} c d)
noncomputable def AF(C:List Addr)(h:Heap):List (Addr × Obj):=C.filterMap fun b=>(h.get? b).map fun o=>(b,o)
theorem lX{C:List Addr}{h:Heap}{b:Addr}{o:Obj}(I:b∈C)(e:h.get? b=some o):(b,o)∈AF C h:=Oa.mpr ⟨b,I,by rw[e];rfl⟩
theorem EQ{C:List Addr}{h:Heap}{p:Addr × Obj}(J:p∈AF C h):p.1∈C/\h.get? p.1=some p.2:=by
 obtain⟨b,I,e⟩:=Oa.mp J
 cases q:h.get? b with
 | none=>rw[q] at e;cases e
 | some o=>
  rw[q] at e;have U:(b,o)=p:=MR e;subst U;exact⟨I,q⟩
theorem Inv.pinned{C:List (Addr × Obj)}{Z:St}{H:Hp}{s:Shared}{J:List Addr}(I:Inv X C Z H s)(c:∀b∈J,tM X C H b)(ho:∀b∈J, ∃o,s.heap.get? b=some o/\∀v,o.data≠ .cell v):Inv X (C++AF J s.heap) Z H s:=
 I.pins_of fun p f=>(MZ.mp f).elim (fun z=>I.pin p (Nf _ z)) fun z=>by
  obtain⟨U,e⟩:=EQ z;obtain⟨f0,f1,f2,_⟩:=c p.1 U;obtain⟨o,a,d⟩:=ho p.1 U;rw[e] at a;cases a;exact⟨e,f0,f1,f2,d⟩
theorem Inv.unpinned{o pl:List (Addr × Obj)}{Z:St}{H:Hp}{s:Shared}(I:Inv X (o++pl) Z H s):Inv X o Z H s:=I.pins_of fun p C=>I.pin p (Nf _ (List.mem_append_left _ C))
theorem fg{c:Expr}{E:List Stmt}{wi:TI}{g:TG}{tb:TS}{ar:Pos}(P:PassesOwn (model X.prog X.w) X.A X.env X.xe)(hc:X.calm=true)(hi:PI X tg c wi)(hg:PG X tg g)(j:PSs X E tb)
  (hs:∀x,foldedSetIterable c X.env x=pure x:=by intro _;rfl):PS X (.For tg c E [] ar) (LZ wi g tb):=by
 intro C s Z H D I h;refine wpAny_For (thn (hi C s Z H _ I h) fun v s1 h1=>thn h1 fun aH s2 h2=> ?_) hs
 obtain⟨it,G,tn,J,H2,e,I2,T,ao,f2,W,⟨m0,w0⟩,turn⟩:=h2;subst e;have q:∀{z:Hp},(∀b∈G,z b=none)->∀b∈G,tM X C z b:=fun hn b j=>⟨hn b j,(f2 b j).2⟩
 refine codeAny_forLoop_any (fun n s'=>∃i L z,Inv X C L z s'/\tn i s'.heap/\(∀b∈G,z b=none)/\W i n L z) ?_ m0 ⟨0,Z,H2,I2,ao,fun b j=>(f2 b j).1,w0⟩
 rintro n s3 ⟨i,M,S,I3,R,O,w3⟩
 rcases turn i n M S w3 with⟨Q,qn⟩|⟨go,N,hN,step⟩
 .refine NW P (thn (T.done X rfl rfl rfl hc i C s3 M S X.xe I3 (q O) R Q) fun r s4 ⟨hr,I4⟩=> ?_)
  subst hr;exact OM ⟨M,S,I4,qn⟩
 .refine NW P (Cf (T.item X rfl rfl rfl hc i C s3 M S X.xe I3 (q O) R go) fun r s4 u hr h4=> ?_)
  subst hr;refine NW P (thn h4 fun _ s5 ⟨x,H5,I5,r5,y5,F,ab⟩=> ?_)
  have Y:=I5.pinned (q ab) (T.obj _ _ F);refine NW P (K6 (hg _ s5 M H5 x u _ Y r5 (step x H5 y5)) fun _ s6 Z6 H6 I6 q6=> ?_)
  refine NW P (thn (j _ s6 Z6 H6 _ I6 q6) fun f s7 B=> ?_)
  have U:∀{p:St}{a:Hp},Inv X (C++AF G s5.heap) p a s7->N p a->∃m,m<n/\∃i L z,Inv X C L z s7/\tn i s7.heap/\(∀b∈G,z b=none)/\W i m L z:=fun {p a} y K=>by
   obtain⟨m',hm,w7⟩:=hN p a K;refine⟨m',hm,i+1,p,a,y.unpinned,T.keep _ _ _ F fun b j o e=>(y.pin (b,o) (Nf _ (Nf _ (lX j e)))).1,fun b j=> ?_,w7⟩
   obtain⟨o,e,d⟩:=T.obj _ _ F b j;exact(y.pin (b,o) (Nf _ (Nf _ (lX j e)))).2.1
  cases f with
  | next=>obtain⟨p,a,y,K⟩:=B;exact U y K
  | cont=>obtain⟨p,a,y,K⟩:=B;exact U y K
  | brk=>obtain⟨p,a,y,B⟩:=B;exact⟨p,a,y.unpinned,B⟩
  | ret v=>obtain⟨x7,p,a,y,r7,B⟩:=B;exact⟨x7,p,a,y.unpinned,r7,B⟩
end
theorem wl{K:Frag}{a:Addr}{xs:List V}{g:TG}{c:TS}{D:xk}{Z:St}{H:Hp}(o:Nat->St->Hp->Prop)(f:o 0 Z H)(j:∀i Z H,i<=xs.length->o i Z H->SqL K H a xs)
  (hs:∀i x Z H,xs[i]? =some x->o i Z H->g x Z H fun U J=>c {D with nx:=o (i+1),ct:=o (i+1),bk:=D.nx} U J) (hd:∀Z H,o xs.length Z H->D.nx Z H):
  ∃W:Nat->Nat->St->Hp->Prop,(∃m,W 0 m Z H)/\∀i m Z H,W i m Z H->
   ((Itl K a).stop i H/\D.nx Z H)\/((Itl K a).go i H/\∃N:St->Hp->Prop,(∀b C,N b C->∃m',m' < m/\W (i+1) m' b C)/\∀x C,(Itl K a).yld i H x C->g x Z C fun U J=>c {D with nx:=N,ct:=N,bk:=D.nx} U J):=by
 refine⟨fun i m Z H=>m=xs.length - i/\i<=xs.length/\o i Z H,⟨xs.length,by simp,Na _,f⟩,?_⟩
 rintro i m Z H ⟨rfl,d,p⟩
 have q:=j i Z H d p
 by_cases I:i<xs.length
 .refine .inr ⟨⟨xs,xs[i],q,by simp [I]⟩,o (i+1),fun b C n=>⟨xs.length - (i+1),by lia,rfl,I,n⟩,fun x C y=> ?_⟩
  obtain⟨e,y⟩:=y;subst e;exact hs i x Z _ (y xs q) p
 .have e:i=xs.length:=by lia
  subst e;exact .inl ⟨⟨xs,q,MC _⟩,hd Z H p⟩
theorem vX{K:Frag}{a:Addr}{xs:List V}{g:TG}{c:TS}{D:xk}{Z:St}{H:Hp}(o:Nat->St->Hp->Prop)(f:o 0 Z H)(j:∀i Z H,i<=xs.length->o i Z H->SqT K H a xs)
  (hs:∀i x Z H,xs[i]? =some x->o i Z H->g x Z H fun U J=>c {D with nx:=o (i+1),ct:=o (i+1),bk:=D.nx} U J) (hd:∀Z H,o xs.length Z H->D.nx Z H):
  ∃W:Nat->Nat->St->Hp->Prop,(∃m,W 0 m Z H)/\∀i m Z H,W i m Z H->
   ((Itt K a).stop i H/\D.nx Z H)\/((Itt K a).go i H/\∃N:St->Hp->Prop,(∀b C,N b C->∃m',m' < m/\W (i+1) m' b C)/\∀x C,(Itt K a).yld i H x C->g x Z C fun U J=>c {D with nx:=N,ct:=N,bk:=D.nx} U J):=by
 refine⟨fun i m Z H=>m=xs.length - i/\i<=xs.length/\o i Z H,⟨xs.length,by simp,Na _,f⟩,?_⟩
 rintro i m Z H ⟨rfl,d,p⟩
 have q:=j i Z H d p
 by_cases I:i<xs.length
 .refine .inr ⟨⟨xs,xs[i],q,by simp [I]⟩,o (i+1),fun b C n=>⟨xs.length - (i+1),by lia,rfl,I,n⟩,fun x C y=> ?_⟩
  obtain⟨e,y⟩:=y;subst e;exact hs i x Z _ (y xs q) p
 .have e:i=xs.length:=by lia
  subst e;exact .inl ⟨⟨xs,q,MC _⟩,hd Z H p⟩
theorem gU{lo:Int}{n:Nat}{g:TG}{b:TS}{D:xk}{Z:St}{H:Hp}(o:Nat->St->Hp->Prop)(c:o 0 Z H)
  (hs:∀i Z H,i<n->o i Z H->g (.int (lo+i)) Z H fun U J=>b {D with nx:=o (i+1),ct:=o (i+1),bk:=D.nx} U J) (hd:∀Z H,o n Z H->D.nx Z H):
  ∃W:Nat->Nat->St->Hp->Prop,(∃m,W 0 m Z H)/\∀i m Z H,W i m Z H->
   ((Itr lo n).stop i H/\D.nx Z H)\/((Itr lo n).go i H/\∃N:St->Hp->Prop,(∀a C,N a C->∃m',m' < m/\W (i+1) m' a C)/\∀x C,(Itr lo n).yld i H x C->g x Z C fun U J=>b {D with nx:=N,ct:=N,bk:=D.nx} U J):=by
 refine⟨fun i m Z H=>m=n - i/\i<=n/\o i Z H,⟨n,by simp,Na _,c⟩,?_⟩
 rintro i m Z H ⟨rfl,f,p⟩
 by_cases I:i<n
 .refine .inr ⟨I,o (i+1),fun a C d=>⟨n - (i+1),by lia,rfl,I,d⟩,fun x C y=> ?_⟩
  obtain⟨e,y⟩:=y;subst e y;exact hs i Z _ I p
 .have e:i=n:=by lia
  subst e;exact .inl ⟨MC _,hd Z H p⟩
abbrev R2:=V->V->Hp->VK->Prop
def OpR(X:Cx)(f:Value->Value->Sem Value)(r:R2):Prop:=
 ∀(o:List (Addr × Obj)) (s:Shared) (Z:St) (H:Hp) (x y:V) (v u:Value) (Q:VK),Inv X o Z H s->bv x v->bv y u->r x y H Q->
  wpAny (model X.prog X.w) X.A (f v u) (EP X o Z Q) X.xe s
def UnR(X:Cx)(f:Value->Sem Value)(r:V->Hp->VK->Prop):Prop:=
 ∀(o:List (Addr × Obj)) (s:Shared) (Z:St) (H:Hp) (x:V) (v:Value) (Q:VK),Inv X o Z H s->bv x v->r x H Q->
  wpAny (model X.prog X.w) X.A (f v) (EP X o Z Q) X.xe s
def ni(X:Cx)(f:Value)(r:List V->Hp->VK->Prop):Prop:=
 ∀(o:List (Addr × Obj)) (s:Shared) (Z:St) (H:Hp) (C:List V) (I:List Value) (Q:VK),Inv X o Z H s->bg C I->r C H Q->
  wpAny (model X.prog X.w) X.A (call f I) (EP X o Z Q) X.xe s
def tOp(r:R2)(o I:TE):TE:=fun Z H Q=>o Z H fun x C=>I Z C fun y J=>r x y J Q
def tUn(r:V->Hp->VK->Prop)(o:TE):TE:=fun Z H Q=>o Z H fun x C=>r x C Q
def rI(C:Int->Int->Prop)(g:Int->Int->V):R2:=fun x y H Q=>∃i j,x= .int i/\y= .int j/\C i j/\Q (g i j) H
def rI0(g:Int->Int->V):R2:=fun x y H Q=>∃i j,x= .int i/\y= .int j/\Q (g i j) H
def rU(g:Int->V):V->Hp->VK->Prop:=fun x H Q=>∃i,x= .int i/\Q (g i) H
section
variable {X : Cx} {a b c : Expr} {ta tb tc : TE} {pos : Pos}
theorem JZ(n:PE X a ta)(g:PE X b tb){o:List (Addr × Obj)}{s:Shared}{Z:St}{H:Hp}{R:V->V->Hp->Prop}(I:Inv X o Z H s)
  (h:ta Z H fun x e=>tb Z e fun y C=>R x y C) {Q:Value->Shared->Prop}{f:Value->Value->Sem Value}
  (m:∀v u d x y C,Inv X o Z C d->bv x v->bv y u->R x y C->wpAny (model X.prog X.w) X.A (f v u) Q X.xe d):
  wpAny (model X.prog X.w) X.A (eval a X.env) (fun v U=>wpAny (model X.prog X.w) X.A (eval b X.env) (fun u J=>wpAny (model X.prog X.w) X.A (f v u) Q X.xe J) X.xe U) X.xe s:=by
 refine cO (n o s Z H _ I h) fun v i x e r j z=> ?_
 refine cO (g o i Z e _ r z) fun u d y C q B p=> ?_
 exact m v u d x y C q j B p
theorem au{C:Operator}{r:R2}(ho:OpR X (binaryOp C) r)(d:PE X a ta)(J:PE X b tb):PE X (.BinOp a C b pos) (tOp r ta tb):=by
 intro o s Z H Q I h;exact wpAny_BinOp (JZ d J I h fun v u g x y U f e i q=>ho o g Z U x y v u Q f e i q)
theorem Jp{C:UnaryOp}{r:V->Hp->VK->Prop}(ho:UnR X (unaryOp C) r)(g:PE X a ta):PE X (.UnaryOp C a pos) (tUn r ta):=by
 intro o s Z H Q I h;exact UnaryOp_ (cO (g o s Z H _ I h) fun v U x J e d f=>ho o U Z J x v Q e d f)
theorem opI{f:Value->Value->Sem Value}{C:Int->Int->Prop}{g:Int->Int->Int}
  (o:∀(i j:Int) (t u:Tok) (s:Shared) (Q:Value->Shared->Prop) (E:Value->Shared->Prop),C i j->Q (.int (g i j) s.toks) {s with toks:=s.toks+1}->wpAny (model X.prog X.w) X.A (f (.int i t) (.int j u)) Q E s):
  OpR X f (rI C fun i j=> .int (g i j)):=by
 intro J s Z H x y v u Q I e m h;obtain⟨i,j,rfl,rfl,d,q⟩:=h;obtain⟨t,rfl⟩:=e;obtain⟨U,rfl⟩:=m;exact o i j t U s _ _ d ⟨.int (g i j),H,I.tok _,⟨_,rfl⟩,q⟩
theorem GA{f:Value->Value->Sem Value}{g:Int->Int->Int}
  (o:∀(i j:Int) (t u:Tok) (s:Shared) (Q:Value->Shared->Prop) (E:Value->Shared->Prop),Q (.int (g i j) s.toks) {s with toks:=s.toks+1}->wpAny (model X.prog X.w) X.A (f (.int i t) (.int j u)) Q E s):
  OpR X f (rI0 fun i j=> .int (g i j)):=by
 intro C s Z H x y v u Q I U d h;obtain⟨i,j,rfl,rfl,q⟩:=h;obtain⟨t,rfl⟩:=U;obtain⟨J,rfl⟩:=d;exact o i j t J s _ _ ⟨.int (g i j),H,I.tok _,⟨_,rfl⟩,q⟩
theorem HW{f:Value->Value->Sem Value}{g:Int->Int->Bool}
  (o:∀(i j:Int) (t u:Tok) (s:Shared) (Q:Value->Shared->Prop) (E:Value->Shared->Prop),Q (.bool (g i j)) s->wpAny (model X.prog X.w) X.A (f (.int i t) (.int j u)) Q E s):
  OpR X f (rI0 fun i j=> .bl (g i j)):=by
 intro C s Z H x y v u Q I U d h;obtain⟨i,j,rfl,rfl,q⟩:=h;obtain⟨t,rfl⟩:=U;obtain⟨J,rfl⟩:=d;exact o i j t J s _ _ ⟨.bl (g i j),H,I,rfl,q⟩
def Ah(i j:Int):Prop:=0<=j/\j<=1000000/\i.natAbs<2^64
def CO(i j:Int):Prop:=(-(2^64)<i/\i<2^64)\/(-(2^64)<j/\j<2^64)
theorem CO.ok{i j:Int}(h:CO i j):IntMulOk i j:=by
 rcases h with⟨C,o⟩|⟨C,o⟩
 .exact .of_left (intBits_le_64 C o)
 .exact .of_right (intBits_le_64 C o)
theorem aP:OpR X (binaryOp .Add) (rI0 fun i j=> .int (i+j)):=GA fun _ _ _ _ _ _ _ q=>add_int q
theorem bS:OpR X (binaryOp .Sub) (rI0 fun i j=> .int (i - j)):=GA fun _ _ _ _ _ _ _ q=>sub_int q
theorem cG:OpR X (binaryOp .Mult) (rI CO fun i j=> .int (i*j)):=opI fun _ _ _ _ _ _ _ o q=>mul_int q o.ok
theorem fM:OpR X (binaryOp .Mod) (rI (fun _ j=>0<j) fun i j=> .int (i %j)):=opI fun i j _ _ _ _ _ o q=>by
 have C:(0:Int)<j:=o;exact mod_int' (by lia) (by rw[Int.fmod_eq_emod_of_nonneg i (by lia)];exact q)
theorem Ki:OpR X (binaryOp .Pow) (rI Ah fun i j=> .int (i^j.toNat)):=opI fun _ _ _ _ _ _ _ o q=>pow_int_small o.1 o.2.1 o.2.2 q
theorem jd:OpR X (binaryOp .LShift) (rI Ah fun i j=> .int (i*2^j.toNat)):=opI fun _ _ _ _ _ _ _ o q=>lshift_int_small o.1 o.2.1 o.2.2 q
theorem JX:OpR X (binaryOp .BitAnd) (rI0 fun i j=> .int (Builtin.bitAnd i j)):=GA fun _ _ _ _ _ _ _ q=>and_int q
theorem LD:OpR X (binaryOp .BitOr) (rI0 fun i j=> .int (Builtin.bitOr i j)):=GA fun _ _ _ _ _ _ _ q=>or_int q
theorem Kw:OpR X (binaryOp .BitXor) (rI0 fun i j=> .int (Builtin.bitXor i j)):=GA fun _ _ _ _ _ _ _ q=>xor_int q
theorem unI{f:Value->Sem Value}{g:Int->Int}
  (o:∀(i:Int) (t:Tok) (s:Shared) (Q:Value->Shared->Prop) (E:Value->Shared->Prop),Q (.int (g i) s.toks) {s with toks:=s.toks+1}->wpAny (model X.prog X.w) X.A (f (.int i t)) Q E s):
  UnR X f (rU fun i=> .int (g i)):=by
 intro C s Z H x v Q I J h;obtain⟨i,rfl,q⟩:=h;obtain⟨t,rfl⟩:=J;exact o i t s _ _ ⟨.int (g i),H,I.tok _,⟨_,rfl⟩,q⟩
theorem Go:UnR X (unaryOp .USub) (rU fun i=> .int (-i)):=unI fun _ _ _ _ _ q=>neg_int q
end
noncomputable def LN:V->V->Bool
 | .non,.non=>true | .non,.int _=>true | .int _,.non=>true | .non,.bl _=>true | .bl _,.non=>true | .non,.str _=>true | .str _,.non=>true
 | .int _,.int _=>true | .bl _,.bl _=>true | .str _,.str _=>true | .byt _,.byt _=>true
 | .int _,.str _=>true | .str _,.int _=>true | .bl _,.str _=>true | .str _,.bl _=>true
 | _,_=>false
def rEq:R2:=fun x y H Q=>LN x y=true/\Q (.bl (decide (x=y))) H
def rNe:R2:=fun x y H Q=>LN x y=true/\Q (.bl (!decide (x=y))) H
theorem DR{i j:Int}:decide (V.int i=V.int j)=(i==j):=by
 rw[ON]
 simp
theorem FQ{i j:Bool}:decide (V.bl i=V.bl j)=(i==j):=by
 rw[ON]
 simp
theorem Em{i j:Str}:decide (V.str i=V.str j)=(i==j):=by
 rw[ON]
 simp
theorem D_{i j:Array UInt8}:decide (V.byt i=V.byt j)=(i.toList==j.toList):=by
 rw[ON]
 cases i
 cases j
 simp
section
variable {X : Cx} {a b c : Expr} {ta tb tc : TE} {pos : Pos}
theorem bY{o:List (Addr × Obj)}{Z:St}{H:Hp}{s:Shared}{Q:VK}{k C:Bool}(I:Inv X o Z H s)(q:Q (.bl k) H)(e:k=C):EP X o Z Q (.bool C) s:=by
 subst e;exact⟨.bl k,H,I,rfl,q⟩
theorem aJ:OpR X (compareOp .Eq) rEq:=by
 intro U s Z H x y v u Q I J o h;obtain⟨hs,q⟩:=h
 cases x with
 | non=>
  cases J
  cases y with
  | non=>cases o;exact PySem.EqNone.eq_none_none (bY I q (by simp))
  | bl j=>cases o;exact PySem.EqNone.eq_none_bool (bY I q (by simp))
  | int j=>obtain⟨C,rfl⟩:=o;exact PySem.EqNone.eq_none_int (bY I q (by simp))
  | str j=>obtain⟨C,rfl⟩:=o;exact PySem.EqNone.eq_none_str (bY I q (by simp))
  | _=>exact absurd (show false=true from hs) MP
 | bl i=>
  cases J
  cases y with
  | non=>cases o;exact PySem.EqNone.eq_bool_none (bY I q (by simp))
  | bl j=>cases o;exact eq_bool (bY I q FQ)
  | str j=>obtain⟨C,rfl⟩:=o;exact PySem.EqMixed.eq_bool_str (bY I q (by simp))
  | _=>exact absurd (show false=true from hs) MP
 | int i=>
  obtain⟨t,rfl⟩:=J
  cases y with
  | non=>cases o;exact PySem.EqNone.eq_int_none (bY I q (by simp))
  | int j=>obtain⟨C,rfl⟩:=o;exact eq_int (bY I q DR)
  | str j=>obtain⟨C,rfl⟩:=o;exact PySem.EqMixed.eq_int_str (bY I q (by simp))
  | _=>exact absurd (show false=true from hs) MP
 | str i=>
  obtain⟨t,rfl⟩:=J
  cases y with
  | non=>cases o;exact PySem.EqNone.eq_str_none (bY I q (by simp))
  | bl j=>cases o;exact PySem.EqMixed.eq_str_bool (bY I q (by simp))
  | int j=>obtain⟨C,rfl⟩:=o;exact PySem.EqMixed.eq_str_int (bY I q (by simp))
  | str j=>obtain⟨C,rfl⟩:=o;exact eq_str (bY I q Em)
  | _=>exact absurd (show false=true from hs) MP
 | byt i=>
  obtain⟨t,rfl⟩:=J
  cases y with
  | byt j=>obtain⟨C,rfl⟩:=o;exact W.eq_bytes (bY I q D_)
  | _=>exact absurd (show false=true from hs) MP
 | _=>cases y <;> exact absurd (show false=true from hs) MP
theorem yo:OpR X (compareOp .NotEq) rNe:=by
 intro U s Z H x y v u Q I J o h;obtain⟨hs,q⟩:=h
 cases x with
 | non=>
  cases J
  cases y with
  | non=>cases o;exact PySem.EqNone.ne_none_none (bY I q (by simp))
  | bl j=>cases o;exact PySem.EqNone.ne_none_bool (bY I q (by simp))
  | int j=>obtain⟨C,rfl⟩:=o;exact PySem.EqNone.ne_none_int (bY I q (by simp))
  | str j=>obtain⟨C,rfl⟩:=o;exact PySem.EqNone.ne_none_str (bY I q (by simp))
  | _=>exact absurd (show false=true from hs) MP
 | bl i=>
  cases J
  cases y with
  | non=>cases o;exact PySem.EqNone.ne_bool_none (bY I q (by simp))
  | bl j=>cases o;exact ne_bool (bY I q (Ng not FQ))
  | str j=>obtain⟨C,rfl⟩:=o;exact PySem.EqMixed.ne_bool_str (bY I q (by simp))
  | _=>exact absurd (show false=true from hs) MP
 | int i=>
  obtain⟨t,rfl⟩:=J
  cases y with
  | non=>cases o;exact PySem.EqNone.ne_int_none (bY I q (by simp))
  | int j=>obtain⟨C,rfl⟩:=o;exact ne_int (bY I q (Ng not DR))
  | str j=>obtain⟨C,rfl⟩:=o;exact PySem.EqMixed.ne_int_str (bY I q (by simp))
  | _=>exact absurd (show false=true from hs) MP
 | str i=>
  obtain⟨t,rfl⟩:=J
  cases y with
  | non=>cases o;exact PySem.EqNone.ne_str_none (bY I q (by simp))
  | bl j=>cases o;exact PySem.EqMixed.ne_str_bool (bY I q (by simp))
  | int j=>obtain⟨C,rfl⟩:=o;exact PySem.EqMixed.ne_str_int (bY I q (by simp))
  | str j=>obtain⟨C,rfl⟩:=o;exact ne_str (bY I q (Ng not Em))
  | _=>exact absurd (show false=true from hs) MP
 | byt i=>
  obtain⟨t,rfl⟩:=J
  cases y with
  | byt j=>obtain⟨C,rfl⟩:=o;exact W.ne_bytes (bY I q (Ng not D_))
  | _=>exact absurd (show false=true from hs) MP
 | _=>cases y <;> exact absurd (show false=true from hs) MP
theorem kh:OpR X (compareOp .Lt) (rI0 fun i j=> .bl (decide (i<j))):=HW fun _ _ _ _ _ _ _ q=>lt_int q
theorem F6:OpR X (compareOp .LtE) (rI0 fun i j=> .bl (decide (i<=j))):=HW fun _ _ _ _ _ _ _ q=>le_int q
theorem EB:OpR X (compareOp .Gt) (rI0 fun i j=> .bl (decide (j<i))):=HW fun _ _ _ _ _ _ _ q=>gt_int q
theorem nh:OpR X (compareOp .GtE) (rI0 fun i j=> .bl (decide (j<=i))):=HW fun _ _ _ _ _ _ _ q=>ge_int q
theorem C3(b:Expr){o:CmpOp}(h:o≠ .In:=by decide)(C:o≠ .NotIn:=by decide):behindInMarks o b=false:=by
 have J:(o==CmpOp.In)=false:=by cases o <;> first | rfl | exact absurd rfl h
 have I:(o==CmpOp.NotIn)=false:=by cases o <;> first | rfl | exact absurd rfl C
 cases b <;> simp [behindInMarks,J,I]
theorem HZ{C:CmpOp}{r:R2}(ho:OpR X (compareOp C) r)(d:PE X a ta)(J:PE X b tb)(hm:behindInMarks C b=false):PE X (.Compare a [C] [b] pos) (tOp r ta tb):=by
 intro o s Z H Q I h;exact wpAny_Compare1 (JZ d J I h fun v u g x y U f e i q=>ho o g Z U x y v u Q f e i q) hm
def JA(t:TE):TT:=fun Z H Q=>t Z H fun x o=>∃k,x= .bl k/\Q k o
theorem zC{C:CmpOp}{r:R2}(ho:OpR X (compareOp C) r)(i:PE X a ta)(J:PE X b tb)(hm:behindInMarks C b=false):PT X (.Compare a [C] [b] pos) (JA (tOp r ta tb)):=by
 intro o s Z H Q I h
 refine PY (cO (i o s Z H _ I h) fun v U x j q d w=>cO (J o U Z j _ q w) fun u A y g p B n=>
  thn (ho o A Z g x y v u _ p d B n) fun c F ⟨z,f,D,E,k,e,m⟩=> ?_) hm
 subst e
 cases E
 exact Oe ⟨f,D,m⟩
theorem tP:(sizeLine:Nat)<2^63:=by rw[sizeLine_eq];decide
theorem uW{x:V}{us:List Value}(r:bg [x] us):∃u,us=[u]/\bv x u:=by
 cases r with
 | cons r1 r2=>cases r2;exact⟨_,rfl,r1⟩
theorem FW{x y:V}{us:List Value}(r:bg [x,y] us):∃u w',us=[u,w']/\bv x u/\bv y w':=by
 cases r with
 | cons r1 r2=>
  cases r2 with
  | cons r3 r4=>cases r4;exact⟨_,_,rfl,r1,r3⟩
theorem AM:ni X (.builtin "abs") (fun xs H Q=>∃i,xs=[.int i]/\Q (.int (if i<0 then -i else i)) H):=by
 intro o s Z H xs C Q I r h;obtain⟨i,rfl,q⟩:=h;obtain⟨u,rfl,t,rfl⟩:=uW r;exact call_abs_int fun u J=>⟨.int (if i<0 then -i else i),H,I.tok _,⟨_,rfl⟩,q⟩
theorem uh(J:X.calm=true):ni X (.builtin "max") (fun xs H Q=>∃i j,xs=[.int i,.int j]/\Q (.int (if j >i then j else i)) H):=by
 intro C s Z H xs e Q I r h;obtain⟨i,j,rfl,q⟩:=h;obtain⟨u,d,rfl,⟨t,rfl⟩,⟨f,rfl⟩⟩:=FW r;refine max_two_ints (I.ok.hd J) fun U g k=>⟨_,H,I.kept k,?_,q⟩
 by_cases o:j >i
 .rw[ME o,ME o];exact⟨_,rfl⟩
 .rw[mC o,mC o];exact⟨_,rfl⟩
theorem gv(J:X.calm=true):ni X (.builtin "min") (fun xs H Q=>∃i j,xs=[.int i,.int j]/\Q (.int (if j<i then j else i)) H):=by
 intro C s Z H xs e Q I r h;obtain⟨i,j,rfl,q⟩:=h;obtain⟨u,d,rfl,⟨t,rfl⟩,⟨f,rfl⟩⟩:=FW r;refine min_two_ints (I.ok.hd J) fun U g k=>⟨_,H,I.kept k,?_,q⟩
 by_cases o:j<i
 .rw[ME o,ME o];exact⟨_,rfl⟩
 .rw[mC o,mC o];exact⟨_,rfl⟩
end
structure Dm (h:Heap) (x dx C:Addr) (mA:Str->Option Value):Prop where
 obj:h.get? x=some (W.instObj C dx)
 ns:h.Ns1 dx mA
 ne:dx≠x
theorem EX{h:Heap}{b:Addr}{I:Str->Option Value}(n:h.Ns1 b I):∃U,h.get? b=some U/\∀name,W.lookIn name U=some (I name):=by
 obtain⟨o,J,g,ho,hd,d,_,hm⟩:=n;refine⟨o,ho,fun name=> ?_⟩
 have e:=hm name;unfold nsFind findBy at e;rw[<- Array.find?_toList] at e;unfold W.lookIn;rw[hd];dsimp only
 split
 .rename_i y q
  rw[q] at e;exact Ng some e
 .rename_i q
  rw[q] at e;have a:J.toList.any (·.refKey)=false:=by
   rw[List.any_eq_false];intro y c;obtain⟨z,t,C⟩:=d y (Array.mem_toList_iff.mp c)
   simp [DictEntry.refKey,C]
  have f:¬J.toList.any (·.refKey)=true:=by rw[a];exact MP
  rw[mC f];exact Ng some e
theorem Dm.look{h:Heap}{x U C:Addr}{J:Str->Option Value}(I:Dm h x U C J):∃o,PySem.W.InstAt h x (W.instObj C U) C (some o)/\∀name,W.lookIn name o=some (J name):=
 let ⟨o,ho,hl⟩:=EX I.ns
 ⟨o,⟨I.obj,rfl,rfl,ho⟩,hl⟩
section
variable {prog : Program} {w : World} {A : Around} {E : Value → Shared → Prop} {s : Shared} {K : Frag} {x dx C f : Addr} {mA : Str → Option Value} {name : Str} {v : Value}
theorem HQ{o:Bool}{Q:Value->Shared->Prop}(X:K.In s.heap)(I:Dm s.heap x dx C mA)(b:W.plainGet K C name=true)(e:W.hasDictIn K C=true)
  (d:W.findIn K (.ref C) name=some none) (a:mA name=some v) (U:W.handedIn v=true) (h:Q v {s with toks:=s.toks+1}):
  wpAny (model prog w) A (getAttr (.ref x) name o) Q E s:=by
 obtain⟨g,J,c⟩:=I.look;exact W.get_value X J (Qk b).1 (W.findObj_own e d rfl (by rw[c,a])) U h
theorem Gf{pl:Sem Bool}{Q:Value × List Value->Shared->Prop}(X:K.In s.heap)(I:Dm s.heap x dx C mA)(o:W.plainGet K C name=true)
  (a:W.findIn K (.ref C) name=some (some (.ref f))) (U:W.isFn K (.ref f)=true) (b:mA name=none) (h:Q (.ref f,[.ref x]) s):
  wpAny (model prog w) A (getMethod (.ref x) name pl) Q E s:=by
 obtain⟨d,J,c⟩:=I.look;exact W.method_fn X J (Qk o).1 (Qk o).2 a (Ou.mp U) (by show(W.lookIn name d).map (·.isSome)=some false;rw[c,b];rfl) h
theorem Ih{ns:List Str}{Q:Unit->Shared->Prop}(X:K.In s.heap)(I:Dm s.heap x dx C mA)
  (hs:W.findIn K (.ref C) "__setattr__"=some (some (.builtin "object.__setattr__"))) (n:W.plainOver K C=true) (p:W.takerIn K C name=some none) (m:W.hasDictIn K C=true)
  (hw:PySem.Within mA ns) (hsz:ns.length<=sizeLine)
  (h:∀h',Dm h' x dx C (fun y=>if y=name then some v else mA y)->Heap.SameBut dx s.heap h'->Q () {s with heap:=h',toks:=s.toks+2}):
  wpAny (model prog w) A (setAttr (.ref x) name v) Q E s:=by
 obtain⟨D,J,z⟩:=I.look;refine W.set_plain X J hs (W.osa_open (s:={s with toks:=s.toks+1}) (r:=none) X J n p fun b=> ?_)
 obtain⟨cd,i,g⟩:=W.any_some m;have j:s.heap.get? x=some ⟨.ref C,some dx,.plain, #[]⟩:=I.obj;refine mF (MQ (mF (mF (wpAny_loadPart j (mF (PySem.W.Looks.here (s:={s with toks:=s.toks+1}) (W.looks_clsIn X i) ?_))))))
 rw[g];refine MQ (a:=some dx) (mF (MQ (mF ?_)))
 refine wpAny_nsSet1 (s:={s with toks:=s.toks+1}) I.ns fun h' U o=> ?_
 obtain⟨B,q,u,e,d,c⟩:=U.count (PySem.Within.cons name v hw);refine mF (wpAny_lookBehind e (by rw[d];exact pastItsLine_dict (MV c (by rw[MU];lia))) ?_)
 exact MQ (h _ ⟨(o.2 _ (Nb I.ne)).trans I.obj,U,I.ne⟩ o)
theorem Fv{R:Result->Shared->Prop}{vs:List Value}{I:List (Str × Value)}(X:K.In s.heap)(hm:W.makesIn K C=true)
  (J:W.findIn K (.ref C) "__init__"=some (some (.ref f))) (U:W.typeIn K (.ref f)=some (.type "function"))
  (h:codeAny (model prog w) (A.under (.builtin "type.__call__" ⟨.ref C::vs,I⟩)) (.call (.ref f) ⟨.ref (s.heap.objs.size+1)::vs,I⟩) (PySem.W.InitBack (s.heap.objs.size+1) R)
   {s with heap:=(s.heap.push W.emptyDict).push (W.instObj C s.heap.objs.size)}):
  codeAny (model prog w) A (.call (.ref C) ⟨vs,I⟩) R s:=by
 obtain⟨a,g,d,t,b⟩:=s;exact W.make_core (W.makes_of X hm) (W.looks_findIn X J) (fun o=>W.bind_fn X o U) (.inl rfl) h
end
noncomputable def aU(f:Str)(v:V):List (Str × V)->List (Str × V)
 | []=>[(f,v)]
 | (g,x)::r=>if g=f then(g,v)::r else(g,x)::aU f v r
theorem uN(f g:Str)(v:V):∀fs:List (Str × V),(aU f v fs).lookup g=if g=f then some v else fs.lookup g
 | []=>by
  show List.lookup g [(f,v)]=_
  by_cases h:g=f
  .have hb:(g==f)=true:=Ou.mpr h
   simp only[List.lookup,hb,ME h]
  .have hb:(g==f)=false:=Nt.mpr h
   simp only[List.lookup,hb,mC h]
 | (k,x)::r=>by
  have ih:=uN f g v r;rw[show aU f v ((k,x)::r)=(if k=f then(k,v)::r else(k,x)::aU f v r) from rfl]
  by_cases o:k=f
  .rw[ME o]
   by_cases h:g=k
   .have hb:(g==k)=true:=Ou.mpr h
    simp only[List.lookup,hb,ME (h.trans o)]
   .have hb:(g==k)=false:=Nt.mpr h
    simp only[List.lookup,hb,mC (fun e:g=f=>h (e.trans o.symm))]
  .rw[mC o]
   by_cases h:g=k
   .have hb:(g==k)=true:=Ou.mpr h
    simp only[List.lookup,hb,mC (fun e:g=f=>o (h.symm.trans e))]
   .have hb:(g==k)=false:=Nt.mpr h
    simp only[List.lookup,hb]
    exact ih
theorem uf(f:Str)(v:V):∀fs:List (Str × V),f∈(aU f v fs).map (·.1)/\∀g,g∈fs.map (·.1)->g∈(aU f v fs).map (·.1)
 | []=>⟨by simp [aU],fun g h=>by simp at h⟩
 | (k,x)::r=>by
  obtain⟨I,C⟩:=uf f v r;rw[show aU f v ((k,x)::r)=(if k=f then(k,v)::r else(k,x)::aU f v r) from rfl]
  by_cases o:k=f
  .rw[ME o];subst o;exact⟨by simp,fun g h=>by simpa using h⟩
  .rw[mC o];refine⟨?_,fun g h=> ?_⟩
   .rw[Nd];exact M8 _ I
   .rw[Nd] at h ⊢;rcases M3.mp h with e | e
    .exact M3.mpr (.inl e)
    .exact M8 _ (C g e)
theorem uI(f:Str)(v:V):∀fs:List (Str × V),(aU f v fs).length<=fs.length+1
 | []=>by simp [aU]
 | (k,x)::r=>by
  have ih:=uI f v r;rw[show aU f v ((k,x)::r)=(if k=f then(k,v)::r else(k,x)::aU f v r) from rfl]
  by_cases o:k=f
  .rw[ME o,MU,MU];lia
  .rw[mC o,MU,MU];lia
theorem nD.some_of{v:V}{o:Option Value}(r:nD (some v) o):∃u,o=some u/\bv v u:=by
 cases o with
 | none=>exact(show False from r).elim
 | some u=>exact⟨u,rfl,r⟩
theorem nD.none_of{o:Option Value}(r:nD none o):o=none:=by
 cases o with
 | none=>rfl
 | some u=>exact(show False from r).elim
theorem EO{v:V}{u:Value}(r:bv v u):W.handedIn u=true:=by
 cases v with
 | non=>cases(show u=Value.none from r);rfl
 | bl b=>cases(show u=Value.bool b from r);rfl
 | int i=>obtain⟨t,e⟩:=(show ∃t,u=Value.int i t from r);cases e;rfl
 | str x=>obtain⟨t,e⟩:=(show ∃t,u=Value.str x t from r);cases e;rfl
 | byt b=>obtain⟨t,e⟩:=(show ∃t,u=Value.bytes b t from r);cases e;rfl
 | flt b=>obtain⟨t,e⟩:=(show ∃t,u=Value.float b t from r);cases e;rfl
 | ref a=>cases(show u=Value.ref a from r);rfl
 | ty n=>cases(show u=Value.type n from r);rfl
section
variable {P : Program} {w : World} {H H' : Hp} {h h' : Heap} {a C dx : Addr} {fs fs' : List (Str × V)}
theorem zG(I:HOk P w H h)(e:H a=some (.ins C dx fs)):∃o,Dm h a dx C o/\(∀f,nD (fs.lookup f) (o f))/\PySem.Within o (fs.map (·.1))/\fs.length<=1000/\H dx=some (.own a):=by
 obtain⟨d,z,ne,J,o,n,r,q⟩:=(show dU P w H h a (.ins C dx fs) from I a _ e);exact⟨o,⟨J,n,ne⟩,r,q,z,d⟩
end
structure Cls (K:Frag) (C:Addr):Prop where
 pg:W.plainGet K C Str.empty=true
 hd:W.hasDictIn K C=true
 po:W.plainOver K C=true
 sa:W.findIn K (.ref C) "__setattr__"=some (some (.builtin "object.__setattr__"))
theorem Cls.get{K:Frag}{C:Addr}(c:Cls K C)(f:Str):W.plainGet K C f=true:=c.pg
def tU(K:Frag)(C:Addr)(f:Str):Prop:=W.findIn K (.ref C) f=some none
theorem tU.taker{K:Frag}{C:Addr}{f:Str}(n:tU K C f):W.takerIn K C f=some none:=by
 unfold W.takerIn;rw[show W.findIn K (.ref C) f=some none from n]
 rfl
structure FU (K:Frag) (C:Addr) (m:Str) (f:Addr):Prop where
 at_:W.findIn K (.ref C) m=some (some (.ref f))
 fn:W.isFn K (.ref f)=true
 kp:W.keepIn K (.ref f)=true
section
variable {X : Cx} {pins : List (Addr × Obj)} {σ : St} {H : Hp} {s : Shared} {a C dx : Addr} {fs : List (Str × V)} {f : Str} {v : V} {A : Around} {E : Value → Shared → Prop}
theorem DC{b:Bool}{Q:Value->Shared->Prop}(I:Inv X pins Z H s)(e:H a=some (.ins C dx fs))(c:Cls X.K C)(n:tU X.K C f)(l:fs.lookup f=some v)
  (h:∀u J,Inv X pins Z H J->bv v u->Q u J):wpAny (model X.prog X.w) A (getAttr (.ref a) f b) Q E s:=by
 obtain⟨d,O,r,_,_,_⟩:=zG I.hok e;obtain⟨u,g,U⟩:=nD.some_of (v:=v) (o:=d f) (by rw[<- l];exact r f)
 exact HQ I.kIn O (c.get f) c.hd n g (EO U) (h u _ (I.tok _) U)
theorem wz{m:Str}{g:Addr}{pl:Sem Bool}{Q:Value × List Value->Shared->Prop}(I:Inv X pins Z H s)(e:H a=some (.ins C dx fs))(c:Cls X.K C)(k:FU X.K C m g)(l:fs.lookup m=none)
  (h:Q (.ref g,[.ref a]) s):wpAny (model X.prog X.w) A (getMethod (.ref a) m pl) Q E s:=by
 obtain⟨o,O,r,_,_,_⟩:=zG I.hok e;have J:o m=none:=nD.none_of (by rw[<- l];exact r m)
 exact Gf I.kIn O (c.get m) k.at_ k.fn J h
theorem C1{y:V}{u:Value}{Q:Unit->Shared->Prop}(I:Inv X pins Z H s)(e:H a=some (.ins C dx fs))(c:Cls X.K C)(n:tU X.K C f)(G:fs.length<1000)(F:bv y u)
  (h:∀i,Inv X pins Z (upd H a (.ins C dx (aU f y fs))) i->Q () i):wpAny (model X.prog X.w) A (setAttr (.ref a) f u) Q E s:=by
 obtain⟨U,O,r,d,_,ho⟩:=zG I.hok e;have B:(fs.map (·.1)).length<=sizeLine:=by rw[fI,sizeLine_eq];lia
 refine Ih I.kIn O c.sa c.po n.taker c.hd d B fun p J D=>h _ ?_
 have hd:∃o,p.get? dx=some o:=let ⟨o,_,_,e',_⟩:=J.ns;⟨o,e'⟩
 refine I.write (x:=a) (e:=dx) (by rw[e];exact True.intro) (.inr ho) (fun b q j z=>(D.2 b j).trans z) hd ?_
 refine⟨by rw[aj O.ne];exact ho,?_,O.ne,J.obj,_,J.ns,fun g=> ?_,fun g m=> ?_⟩
 .have:=uI f y fs;lia
 .show nD ((aU f y fs).lookup g) (if g=f then some u else U g)
  rw[uN]
  by_cases q:g=f
  .rw[ME q,ME q];exact F
  .rw[mC q,mC q];exact r g
 .by_cases q:g=f
  .rw[q];exact(uf f y fs).1
  .refine(uf f y fs).2 g (d g fun z=>m ?_)
   show(if g=f then some u else U g)=none
   rw[mC q];exact z
theorem Inv.made(I:Inv X pins Z H s):Inv X pins Z (upd (upd H s.heap.objs.size (.own (s.heap.objs.size+1))) (s.heap.objs.size+1) (.ins C s.heap.objs.size []))
  {s with heap:=(s.heap.push W.emptyDict).push (W.instObj C s.heap.objs.size)}:=by
 have J:(s.heap.push W.emptyDict).get? s.heap.objs.size=some W.emptyDict:=M6 s.heap rfl;have d:((s.heap.push W.emptyDict).push (W.instObj C s.heap.objs.size)).get? (s.heap.objs.size+1)=some (W.instObj C s.heap.objs.size):=by
  have:=M6 (s.heap.push W.emptyDict) (o:=W.instObj C s.heap.objs.size) rfl
  rwa [Og] at this
 have g:(s.heap.push W.emptyDict).Ns s.heap.objs.size (fun _=>none):=⟨W.emptyDict, #[],_,J,rfl,(fun e c=>absurd c (by simp)),fun _=>rfl⟩
 have i:=I.laid (a:=s.heap.objs.size) (o:= .own (s.heap.objs.size+1)) (h':=s.heap.push W.emptyDict) (t':=s.toks) (fun b u q=>MB _ q) (MC _) ⟨_,J⟩
 refine i.laid (a:=s.heap.objs.size+1) (o:= .ins C s.heap.objs.size []) (t':=s.toks) (fun b u q=>MB _ q) (Nat.le_of_eq (Og _ _)) ?_
 have ne:s.heap.objs.size≠s.heap.objs.size+1:=M5 (Pm _);refine⟨by rw[aj ne,ad],Na _,ne,d,fun _=>none,(Heap.Ns1.of_empty g).at fun o q=>MB _ q,fun _=>True.intro,fun y U=>absurd rfl U⟩
theorem IY{prog:Program}{w:World}{env:Env}{e:Expr}{f:Str}{J:Pos}{s:Shared}{Q:Value->Shared->Prop}(U:attributeBase e f env (eval e env)=eval e env)
  (h:wpAny (model prog w) A (eval e env) (fun o I=>wpAny (model prog w) A (getAttr o f true) Q E I) E s):wpAny (model prog w) A (eval (.Attribute e f J) env) Q E s:=
 Attribute_any_ h (by rw[arm_eval_Attribute,U])
end
def Mt(K:Frag)(I:TE)(f:Str):TE:=fun Z H Q=>I Z H fun x o=>∃a C J fs v,x= .ref a/\o a=some (.ins C J fs)/\Cls K C/\tU K C f/\fs.lookup f=some v/\Q v o
def Mo(K:Frag)(J b:TE)(f:Str):TS:=fun D Z H=>b Z H fun y U=>J Z U fun x I=>∃a C o fs,x= .ref a/\I a=some (.ins C o fs)/\Cls K C/\tU K C f/\fs.length<1000/\
 D.nx Z (upd I a (.ins C o (aU f y fs)))
section
variable {X : Cx} {o e value : Expr} {f : Str} {pos pos' tpos : Pos} {ta tv : TE}
theorem aE(d:PE X e ta)(b:attributeBase e f X.env (eval e X.env)=eval e X.env):PE X (.Attribute e f pos) (Mt X.K ta f):=by
 intro J s Z H Q I h;refine IY b (cO (d J s Z H _ I h) fun u y x p w m U=> ?_)
 obtain⟨a,C,B,fs,v,g,i,c,n,l,q⟩:=U;subst g;obtain rfl:u=Value.ref a:=m;exact DC w i c n l fun A z r j=>⟨v,p,r,j,q⟩
theorem bT(i:PE X o ta)(d:PE X value tv)(hs:swapsWith value (some (.Attribute o f pos')) pos.line X.env=pure false):PS X (.Assign [.Attribute o f pos'] value pos) (Mo X.K ta tv f):=by
 intro J s Z H D I h;refine plainObj_wpAny_Assign_Attribute (cO (d J s Z H _ I h) fun u b y r z B q=>cO (i J b Z r _ z q) fun g F x E w m U=> ?_) hs
 obtain⟨a,C,G,fs,j,p,c,n,l,v⟩:=U;subst j;obtain rfl:g=Value.ref a:=m;exact C1 w p c n l B fun L A=>⟨Z,_,A,v⟩
end
section
variable {X : Cx} {pins : List (Addr × Obj)} {σ : St} {H : Hp} {s : Shared} {A : Around} {E : Value → Shared → Prop} {Q : Value → Shared → Prop} {c : Value} {b : Bool}
inductive vA (K:Frag) (H:Hp):V->Value->Prop where
 | non:vA K H .non (.type "NoneType")
 | bl (x:Bool):vA K H (.bl x) (.type "bool")
 | int (i:Int):vA K H (.int i) (.type "int")
 | str (x:Str):vA K H (.str x) (.type "str")
 | flt (x:UInt64):vA K H (.flt x) (.type "float")
 | lst {a:Addr}{xs:List V}(e:H a=some (.lst xs)):vA K H (.ref a) (.type "list")
 | frz {a:Addr}{o:Obj}{xs:List V}(e:H a=some (.frz o (.lst xs))):vA K H (.ref a) (.type "list")
 | tup {a:Addr}{xs:List V}(e:H a=some (.tup xs)):vA K H (.ref a) (.type "tuple")
 | dK {a:Addr}{kvs:List (Key × V)}(e:H a=some (.dK kvs)):vA K H (.ref a) (.type "dict")
 | dT {a:Addr}{kvs:List (List Key × V)}(e:H a=some (.dT kvs)):vA K H (.ref a) (.type "dict")
 | ins {a C dx:Addr}{fs:List (Str × V)}(e:H a=some (.ins C dx fs)) (cl:Cls K C) (ha:W.findIn K (.ref C) "__class__"=some (some (.builtin "object.__class__")))
   (hn:W.specialIn K (.builtin "object.__class__") "__get__"=some (some (.builtin "getset_descriptor.__get__"))) (htk:W.takesIn K (.builtin "object.__class__")=some true)
   (hm:W.mroIn K C (.type "object")=some true):vA K H (.ref a) (.ref C)
end
structure Room (k:Nat) (A:Around):Prop where
 hd:A.handled=none
 dp:A.depth+3*k+5<recursionLimit
 un:A.units+16*k+200<cLine
theorem Room.mono{j k:Nat}{A:Around}(r:Room k A)(h:j<=k):Room j A:=⟨r.hd,by have:=r.dp;lia,by have:=r.un;lia⟩
theorem Room.deeper{k:Nat}{A:Around}(r:Room (k+1) A)(env:Env):Room k (A.deeper env):=
 ⟨r.hd,by have:=r.dp;show A.depth+1+3*k+5<_;lia,by have:=r.un;show A.units+3+16*k+200<_;lia⟩
theorem C9{A:Around}{C:Addr}{us:List Value}{o:List (Str × Value)}:(A.under (.builtin "type.__call__" ⟨.ref C::us,o⟩)).depth=A.depth+1:=by
 first | rfl | simp [Around.under,Code.weight,Code.isCreation,Code.isGuard,Code.isCaller,Code.frames,Code.isFrame,guardIds]
theorem DG{A:Around}{C:Addr}{us:List Value}{o:List (Str × Value)}:(A.under (.builtin "type.__call__" ⟨.ref C::us,o⟩)).units=A.units+1:=by
 first | rfl | simp [Around.under,Code.cUnits,Code.frames,Code.isFrame]
theorem Room.make{k:Nat}{A:Around}(r:Room (k+1) A)(C:Addr)(us:List Value)(o:List (Str × Value)):Room k (A.under (.builtin "type.__call__" ⟨.ref C::us,o⟩)):=
 ⟨r.hd,by have:=r.dp;rw[C9];lia,by have:=r.un;rw[DG];lia⟩
theorem Room.depth{k:Nat}{A:Around}(r:Room k A):A.depth<recursionLimit:=by have:=r.dp;lia
theorem Room.units{k:Nat}{A:Around}(r:Room k A):A.units+64<cLine:=by have:=r.un;lia
def wg:TA:=fun _ H Q=>Q [] H
def gB(o:TE)(tr:TA):TA:=fun Z H Q=>o Z H fun x C=>tr Z C fun I J=>Q (x::I) J
section
variable {X : Cx} {e : Expr} {es : List Expr} {te : TE} {t : TA} {pos : Pos}
theorem dA:PA X [] wg:=fun _ _ _ _ H Q I h=>Calls.spliced_nil ⟨[],H,I,.nil,h⟩
theorem az(b:PE X e te)(j:PA X es t)(hs:starEach (e::es) X.env=(false,eval e X.env)::starEach es X.env:=by rfl):PA X (e::es) (gB te t):=by
 intro pos o s Z H Q I h;rw[hs];show wpAny _ _ (spliced ((false,eval e X.env)::backTo pos (starEach es X.env))) _ _ s
 refine OZ (cO (b o s Z H _ I h) fun u C x c g J i=> ?_)
 exact cO (j pos o C Z c _ g i) fun n p U a f m d=>⟨x::U,a,f,.cons J m,d⟩
def LT(t:TA):TE:=fun Z H Q=>t Z H fun C o=>C.length<=sizeLine/\∀p,o p=none->Q (.ref p) (upd o p (.tup C))
def L_(t:TA):TE:=fun Z H Q=>t Z H fun C o=>C.length<=sizeLine/\∀p,o p=none->Q (.ref p) (upd o p (.lst C))
theorem aw{x1}(h:PA X es t):PE X (.Tuple es x1 pos) (LT t):=by
 intro o s Z H Q I f;refine wpAny_Tuple_spliced (thn (h pos o s Z H _ I f) fun d C ⟨a,J,U,r,z,q⟩=>⟨by rw[<- r.length];exact z,?_⟩)
 have c:J C.heap.objs.size=none:=U.hok.fresh (MC _);refine⟨.ref C.heap.objs.size,upd J C.heap.objs.size (.tup a),U.laid (t':=C.toks) (fun b u e=>MB _ e) (MC _) ?_,rfl,q _ c⟩
 exact⟨z,d,r,⟨_,M6 _ rfl,rfl,_,rfl⟩⟩
theorem bG(h:PA X es t):PE X (.List es pos) (L_ t):=by
 intro o s Z H Q I f;refine wpAny_List_spliced (thn (h pos o s Z H _ I f) fun d C ⟨a,J,U,r,z,q⟩=>⟨by rw[<- r.length];exact z,?_⟩)
 have c:J C.heap.objs.size=none:=U.hok.fresh (MC _);refine⟨.ref C.heap.objs.size,upd J C.heap.objs.size (.lst a),U.laid (t':=C.toks) (fun b u e=>MB _ e) (MC _) ?_,rfl,q _ c⟩
 exact⟨z,d,0,r,M6 _ rfl⟩
end
abbrev Sp:=List V->Hp->VK->XK->Prop
abbrev CXT:=List Env->Hp->Shared->XK->Value->Shared->Prop
structure CP (P:Program) (w:World) (K:Frag) (mg:Str->Option Value) (base:Heap) (A:Around) (outer:List Env) (s:Shared) (H:Hp):Prop where
 frames:A.frames=some outer
 mod:Mod K mg base
 bs:∀b o,base.get? b=some o->s.heap.get? b=some o/\H b=none
 bsz:base.objs.size<=s.heap.objs.size
 funs:s.heap.FunFrames base outer
 frf:∀b∈frs outer,H b=none
 hok:HOk P w H s.heap
 bare:AllBare s.gens
def CE(o:List Env)(P:Program)(w:World)(H:Hp)(s:Shared)(Q:VK)(u:Value)(C:Shared):Prop:=
 ∃v I,C.os=s.os/\AllBare C.gens/\Un (frs o) [] H I s.heap C.heap/\HOk P w I C.heap/\bv v u/\Q v I
def CR(CX:CXT)(o:List Env)(P:Program)(w:World)(H:Hp)(s:Shared)(Q:VK)(E:XK)(r:Result)(C:Shared):Prop:=
 match r with
 | .ok (.ret u)=>CE o P w H s Q u C
 | .ok _=>False
 | .error e=>CX o H s E e C
structure je (P:Program) (w:World) (K:Frag) (mg:Str->Option Value) (base:Heap) (CX:CXT) (k:Nat) (f:Addr) (fd:FuncData) (ps:List Str) (sp:Sp):Prop where
 len:∀vs H Q E,sp vs H Q E->vs.length=ps.length
 run:∀(A:Around) (outer:List Env) (s:Shared) (H:Hp) (args:Args) (us:List Value) (vs:List V) (Q:VK) (E:XK),Room k A->CP P w K mg base A outer s H->BindsTo s fd args (ps.zip us)->bg vs us->sp vs H Q E->
  codeAny (model P w) A (.call (.ref f) args) (CR CX outer P w H s Q E) s
theorem je.mono{P:Program}{w:World}{K:Frag}{I:Str->Option Value}{base:Heap}{CX:CXT}{j k:Nat}{f:Addr}{J:FuncData}{ps:List Str}{sp:Sp}(F:je P w K I base CX j f J ps sp)(h:j<=k):
  je P w K I base CX k f J ps sp:=⟨F.len,fun A o s H C U a Q E b=>F.run A o s H C U a Q E (b.mono h)⟩
theorem je.imp{P:Program}{w:World}{K:Frag}{J:Str->Option Value}{base:Heap}{CX:CXT}{k:Nat}{f:Addr}{U:FuncData}{ps:List Str}{sp I:Sp}(F:je P w K J base CX k f U ps sp)
  (h:∀vs H Q E,I vs H Q E->sp vs H Q E):je P w K J base CX k f U ps I:=
 ⟨fun vs H Q E q=>F.len vs H Q E (h _ _ _ _ q),fun A o s H C d vs Q E e c a b hs=>F.run A o s H C d vs Q E e c a b (h _ _ _ _ hs)⟩
theorem CP.make{P:Program}{w:World}{K:Frag}{I:Str->Option Value}{base:Heap}{A:Around}{o:List Env}{s:Shared}{H:Hp}(e:CP P w K I base A o s H)(C:Addr)(us:List Value)(J:List (Str × Value)):
  CP P w K I base (A.under (.builtin "type.__call__" ⟨.ref C::us,J⟩)) o s H:=⟨by first | exact e.frames | (simpa [Around.under,Code.envs,Code.isFrame,pushEnvs] using e.frames),e.mod,e.bs,e.bsz,e.funs,e.frf,e.hok,e.bare⟩
section
variable {X : Cx} {pins : List (Addr × Obj)} {σ : St} {H : Hp} {s s' : Shared}
theorem Inv.env0(I:Inv X pins Z H s):CP X.prog X.w X.K X.mg X.base X.A X.stack s H:=
 ⟨I.ok.frames,I.ok.mod,I.bs,MV I.ok.bsz I.sz,I.stack,I.stkFree,I.hok,I.bare⟩
theorem Inv.after{Q:VK}{u:Value}(I:Inv X pins Z H s)(h:CE X.stack X.prog X.w H s Q u s'):EP X pins Z Q u s':=by
 obtain⟨v,a,c,o,un,J,r,q⟩:=h;obtain⟨U,g,d,t,C⟩:=s';obtain rfl:C=s.os:=c;exact⟨v,a,I.call (h':=U) (g':=g) (d':=d) (t':=t) (ch:=[]) un J o (fun b z=>absurd z (by simp)),r,q⟩
end
def AH(sp:Sp)(o:List V)(E:XK)(t:TA):TE:=fun Z H Q=>t Z H fun I C=>sp (I++o) C Q E
def Ee(C:Addr)(m:Str)(sp:Sp)(o:List V)(E:XK)(J:TE)(t:TA):TE:=fun Z H Q=>J Z H fun x I=>∃a U fs,x= .ref a/\I a=some (.ins C U fs)/\fs.lookup m=none/\
 t Z I fun c b=>sp (x::(c++o)) b Q E
def EC(C:Addr)(sp:Sp)(J:List V)(E:XK)(t:TA):TE:=fun Z H Q=>t Z H fun a I=>∀x o,I x=none->I o=none->o≠x->
 sp (.ref x::(a++J)) (upd (upd I o (.own x)) x (.ins C o [])) (fun v U=>v= .non/\Q (.ref x) U) E
def jj(K:Frag)(C:FuncData)(ps:List Str)(ds:List Value):Prop:=
 ∀(s:Shared) (o:List Value),K.In s.heap->(o++ds).length=ps.length->BindsTo s C ⟨o,[]⟩ (ps.zip (o++ds))
theorem jj.all{K:Frag}{C:FuncData}{ps:List Str}(h:∀us:List Value,us.length=ps.length->bindArgs C ⟨us,[]⟩=pure (ps.zip us)):jj K C ps []:=fun s us _ o=>by
 rw[MS] at o ⊢;exact .of_eq (h us o)
def lO(CX:CXT)(X:Cx)(E:XK):Prop:=∀(o:List (Addr × Obj)) (Z:St) (H:Hp) (s:Shared) (e:Value) (C:Shared),Inv X o Z H s->CX X.stack H s E e C->X.xe e C
section
variable {X : Cx} {CX : CXT} {k : Nat} {f C : Addr} {fd : FuncData} {ps : List Str} {sp : Sp} {dvs : List V} {ds : List Value} {E : XK} {x m : Str} {p pos apos : Pos} {e o : Expr} {es : List Expr} {ta : TE} {t : TA}
theorem AC{J:List (Addr × Obj)}{Z:St}{H:Hp}{s:Shared}{Q:VK}{us:List Value}{vs:List V}(F:je X.prog X.w X.K X.mg X.base CX k f fd ps sp)(g:Room k X.A)(b:jj X.K fd ps ds)(hd:bg dvs ds)(d:lO CX X E)
  (I:Inv X J Z H s) (r:bg vs us) (h:sp (vs++dvs) H Q E):wpAny (model X.prog X.w) X.A (call (.ref f) us) (EP X J Z Q) X.xe s:=by
 have a:bg (vs++dvs) (us++ds):=r.append hd;have c:(us++ds).length=ps.length:=by rw[<- a.length];exact F.len _ _ _ _ h
 refine wpAny_call (Ox (F.run X.A X.stack s H ⟨us,[]⟩ (us++ds) (vs++dvs) Q E g I.env0 (b s us I.kIn c) a h) fun r i U=> ?_)
 cases r with
 | error e=>exact d J Z H s e i I U
 | ok fl=>
  cases fl with
  | ret u=>exact I.after U
  | next=>exact False.elim U
  | brk=>exact False.elim U
  | cont=>exact False.elim U
theorem Io(F:je X.prog X.w X.K X.mg X.base CX k f fd ps sp)(u:Room k X.A)(d:Gl X x)(hm:X.mg x=some (.ref f))(g:W.keepIn X.K (.ref f)=true)(c:jj X.K fd ps ds)(hd:bg dvs ds)(j:lO CX X E)
  (n:PA X (e::es) t) (U:(x==("__debug__":Str))=false:=by decide) (i:starEach (e::es) X.env=(false,eval e X.env)::starEach es X.env:=by rfl) (a:(backTo pos (starEach es X.env)).any (·.1)=false:=by rfl):
  PE X (.Call (.Name x p) (e::es) [] pos) (AH sp dvs E t):=by
 intro J s Z H Q I h;refine NH (mO I d hm ?_ U)
 refine Py (h₀:=X.base) I.ok.mod.kin g (cO (n pos J s Z H _ I h) fun y v z B b r q=>⟨b.kIn,?_⟩) i a
 exact AC F u c hd j b r q
theorem FV(F:je X.prog X.w X.K X.mg X.base CX k f fd ps sp)(b:Room k X.A)(c:Gl X x)(hm:X.mg x=some (.ref f))(g:W.keepIn X.K (.ref f)=true)(a:jj X.K fd ps ds)(hd:bg dvs ds)(d:lO CX X E)
  (J:(x==("__debug__":Str))=false:=by decide):PE X (.Call (.Name x p) [] [] pos) (AH sp dvs E wg):=by
 intro U s Z H Q I h;refine NH (mO I c hm ?_ J)
 exact Ql I.kIn g (AC (us:=[]) F b a hd d I .nil h)
theorem IL{pl:Sem Bool}(B:PE X o ta)(c:Cls X.K C)(hm:FU X.K C m f)(F:je X.prog X.w X.K X.mg X.base CX k f fd ps sp)(S:Room k X.A)(y:jj X.K fd ps ds)(hd:bg dvs ds)(D:lO CX X E)(G:PA X (e::es) t)
  (d:starEach (e::es) X.env=(false,eval e X.env)::starEach es X.env:=by rfl) (b:(backTo pos (starEach es X.env)).any (·.1)=false:=by rfl)
  (P:eval (.Call (.Attribute o m apos) (e::es) [] pos) X.env=(do
   let i <-eval o X.env
   standAt apos.atName
   let (f,first) <-holding [i] (getMethod i m pl)
   callWith pos f first (backTo pos (starEach (e::es) X.env)) (backToKw pos (keywordEach [] X.env))):=by rfl):
  PE X (.Call (.Attribute o m apos) (e::es) [] pos) (Ee C m sp dvs E ta t):=by
 intro J s Z H Q I h;refine W.methodCall_KW (pl:=pl) (cO (B J s Z H _ I h) fun u z x O v N U=> ?_) P
 obtain⟨a,dx,fs,L,M,l,q⟩:=U;subst L;obtain rfl:u=Value.ref a:=N;refine wz v M c hm l ?_
 refine Py (first:=[.ref a]) (h₀:=X.base) I.ok.mod.kin hm.kp (cO (G pos J z Z O _ v q) fun g Y j T n r R=>⟨n.kIn,?_⟩) d b
 exact AC (us:= .ref a::g) (vs:= .ref a::j) F S y hd D n (.cons rfl r) R
theorem Hx{pl:Sem Bool}(i:PE X o ta)(c:Cls X.K C)(hm:FU X.K C m f)(F:je X.prog X.w X.K X.mg X.base CX k f fd ps sp)(z:Room k X.A)(g:jj X.K fd ps ds)(hd:bg dvs ds)(j:lO CX X E)
  (y:eval (.Call (.Attribute o m apos) [] [] pos) X.env=(do
   let d <-eval o X.env
   standAt apos.atName
   let (f,first) <-holding [d] (getMethod d m pl)
   callWith pos f first (backTo pos (starEach [] X.env)) (backToKw pos (keywordEach [] X.env))):=by rfl):
  PE X (.Call (.Attribute o m apos) [] [] pos) (Ee C m sp dvs E ta wg):=by
 intro J s Z H Q I h;refine W.methodCall_KW (pl:=pl) (cO (i J s Z H _ I h) fun u B x D b v U=> ?_) y
 obtain⟨a,G,fs,n,r,l,q⟩:=U;subst n;obtain rfl:u=Value.ref a:=v;refine wz b r c hm l ?_
 exact Ql (first:=[.ref a]) b.kIn hm.kp (AC (us:=[.ref a]) (vs:=[.ref a]) F z g hd j b (.cons rfl .nil) q)
structure Mk (K:Frag) (C f:Addr):Prop where
 makes:W.makesIn K C=true
 init:W.findIn K (.ref C) "__init__"=some (some (.ref f))
 fn:W.isFn K (.ref f)=true
 kp:W.keepIn K (.ref C)=true
theorem BC{U:List (Addr × Obj)}{Z:St}{H:Hp}{s:Shared}{Q:VK}{us:List Value}{vs:List V}(M:Mk X.K C f)(F:je X.prog X.w X.K X.mg X.base CX k f fd ps sp)(B:Room (k+1) X.A)(g:jj X.K fd ps ds)(hd:bg dvs ds)
  (q:lO CX X E) (I:Inv X U Z H s) (r:bg vs us)
  (h:∀x b,H x=none->H b=none->b≠x->sp (.ref x::(vs++dvs)) (upd (upd H b (.own x)) x (.ins C b [])) (fun v n=>v= .non/\Q (.ref x) n) E):
  wpAny (model X.prog X.w) X.A (call (.ref C) us) (EP X U Z Q) X.xe s:=by
 have c:=h (s.heap.objs.size+1) s.heap.objs.size (I.hok.fresh (Oh _)) (I.hok.fresh (MC _)) (M5 (Pm _));have a:=Inv.made (C:=C) I;have d:bg (V.ref (s.heap.objs.size+1)::(vs++dvs)) (Value.ref (s.heap.objs.size+1)::(us++ds)):= .cons rfl (r.append hd);have i:(Value.ref (s.heap.objs.size+1)::us++ds).length=ps.length:=by
  have e:=d.length;rw[F.len _ _ _ _ c] at e;exact e.symm
 refine wpAny_call (Fv (f:=f) I.kIn M.makes M.init (Ou.mp M.fn) (Ox (F.run _ X.stack _ _ ⟨Value.ref (s.heap.objs.size+1)::us,[]⟩ (Value.ref (s.heap.objs.size+1)::(us++ds)) _ _ E (B.make C us [])
  (a.env0.make C us []) (g _ (Value.ref (s.heap.objs.size+1)::us) a.kIn i) d c) fun r D J=> ?_))
 cases r with
 | error e=>exact q U Z _ _ e D a J
 | ok fl=>
  cases fl with
  | ret u=>
   obtain⟨v,G,L,y,j,z⟩:=a.after J;subst j;exact⟨y,⟨V.ref (s.heap.objs.size+1),G,L,rfl,z⟩⟩
  | next=>exact False.elim J
  | brk=>exact False.elim J
  | cont=>exact False.elim J
theorem IS(M:Mk X.K C f)(F:je X.prog X.w X.K X.mg X.base CX k f fd ps sp)(n:Room (k+1) X.A)(d:Gl X x)(hm:X.mg x=some (.ref C))(c:jj X.K fd ps ds)(hd:bg dvs ds)(i:lO CX X E)
  (j:PA X (e::es) t) (U:(x==("__debug__":Str))=false:=by decide) (g:starEach (e::es) X.env=(false,eval e X.env)::starEach es X.env:=by rfl) (a:(backTo pos (starEach es X.env)).any (·.1)=false:=by rfl):
  PE X (.Call (.Name x p) (e::es) [] pos) (EC C sp dvs E t):=by
 intro J s Z H Q I h;refine NH (mO I d hm ?_ U)
 refine Py (h₀:=X.base) I.ok.mod.kin M.kp (cO (j pos J s Z H _ I h) fun v u y z b r q=>⟨b.kIn,?_⟩) g a
 exact BC M F n c hd i b r q
theorem FE(M:Mk X.K C f)(F:je X.prog X.w X.K X.mg X.base CX k f fd ps sp)(b:Room (k+1) X.A)(c:Gl X x)(hm:X.mg x=some (.ref C))(a:jj X.K fd ps ds)(hd:bg dvs ds)(d:lO CX X E)
  (J:(x==("__debug__":Str))=false:=by decide):PE X (.Call (.Name x p) [] [] pos) (EC C sp dvs E wg):=by
 intro U s Z H Q I h;refine NH (mO I c hm ?_ J)
 exact Ql I.kIn M.kp (BC (us:=[]) M F b a hd d I .nil h)
end
structure aq (N P:List Str) (sc:Scope):Prop where
 kind:sc.kind= .function
 co:sc.isCoroutine=false
 gen:sc.isGenerator=false
 nd:N.Nodup
 pre:N.take P.length=P
 par:∀x∈P,sc.names.lookup x=some .local\/sc.names.lookup x=some .cell
 nofree:∀y∈sc.names,y.2≠ .free
theorem yB{o:Str->Option NameKind}{x:Str}:∀{binds:List (Str × Value)}{m:Str->Option Value},(∀v,(x,v) ∉ binds)->bindL o binds m x=m x
 | [],_,_=>rfl
 | (n,v)::r,m,h=>by
  unfold bindL;rw[yB fun w hw=>h w (M8 _ hw)]
  split
  .have:x≠n:=by rintro rfl;exact h v Nc
   simp [this]
  .rfl
theorem yQ{o:Str->Option NameKind}{x:Str}:∀{binds:List (Str × Value)}{m:Str->Option Value},(∀v,(x,v) ∉ binds)->bindC o binds m x=m x
 | [],_,_=>rfl
 | (n,v)::r,m,h=>by
  unfold bindC;rw[yQ fun w hw=>h w (M8 _ hw)]
  split
  .rfl
  .have:x≠n:=by rintro rfl;exact h v Nc
   simp [this]
theorem yp{o:Str->Option NameKind}{x:Str}{v:Value}:∀{P:List Str}{vs:List Value}{i:Nat}{m:Str->Option Value},P.Nodup->P[i]? =some x->vs[i]? =some v->o x=some .local->
  bindL o (P.zip vs) m x=some v
 | [],_,_,_,_,h,_,_=>by simp at h
 | _::_,[],_,_,_,_,h,_=>by simp at h
 | p::P,w::vs,0,m,nd,h1,h2,hk=>by
  simp at h1 h2;subst h1;subst h2
  show bindL o ((p,w)::P.zip vs) m p=_
  unfold bindL;rw[yB fun v C=>(NM.mp nd).1 (PP C).1,ME hk]
  simp
 | p::P,w::vs,i+1,m,nd,h1,h2,hk=>by
  show bindL o ((p,w)::P.zip vs) m x=_
  unfold bindL;exact yp (i:=i) (NM.mp nd).2 (by simpa using h1) (by simpa using h2) hk
theorem yD{o:Str->Option NameKind}{x:Str}{v:Value}:∀{P:List Str}{vs:List Value}{i:Nat}{m:Str->Option Value},P.Nodup->P[i]? =some x->vs[i]? =some v->o x≠some .local->
  bindC o (P.zip vs) m x=some v
 | [],_,_,_,_,h,_,_=>by simp at h
 | _::_,[],_,_,_,_,h,_=>by simp at h
 | p::P,w::vs,0,m,nd,h1,h2,hk=>by
  simp at h1 h2;subst h1;subst h2
  show bindC o ((p,w)::P.zip vs) m p=_
  unfold bindC;rw[yQ fun v C=>(NM.mp nd).1 (PP C).1,mC hk]
  simp
 | p::P,w::vs,i+1,m,nd,h1,h2,hk=>by
  show bindC o ((p,w)::P.zip vs) m x=_
  unfold bindC;exact yD (i:=i) (NM.mp nd).2 (by simpa using h1) (by simpa using h2) hk
noncomputable def start(N:List Str)(vs:List V):St:=vs.map some++List.replicate (N.length - vs.length) none
noncomputable def rP(CX:CXT)(P:Program)(w:World)(K:Frag)(U:Str->Option Value)(base:Heap)(N:List Str)(I:Str)(o:Scope)(f:Addr)(cd:Value)(A:Around)(C:List Env)(s:Shared)(H:Hp)(E:XK):Cx where
 prog:=P
 w:=w
 K:=K
 mg:=U
 base:=base
 A:=A.deeper (envOfC I o s.heap.objs.size f cd)
 N:=N
 s₀:=s
 H₀:=H
 env:=envOfC I o s.heap.objs.size f cd
 outer:=C
 stack:=envOfC I o s.heap.objs.size f cd::C
 ex:=[]
 calm:=true
 fn:=fun _=>true
 pn:=[]
 xe:=fun e a=>wpAny (model P w) (A.deeper (envOfC I o s.heap.objs.size f cd)) (leaving (envOfC I o s.heap.objs.size f cd) e) (fun _ J=>CX C H s E e J) (fun b J=>CX C H s E b J) a
theorem Bt{o:Scope}{n:Nat}{x:Str}(h:o.names.lookup x=some .cell):∃c,(cellsFrom n o.names []).lookup x=some c:=by
 have q:=W.cellsFrom_some o.names n [] (.inl h);exact Option.isSome_iff_exists.mp q
theorem Fh{CX:CXT}{P:Program}{w:World}{K:Frag}{F:Str->Option Value}{base:Heap}{N ps:List Str}{I:Str}{o:Scope}{f:Addr}{cd:Value}{A:Around}{C:List Env}{s G:Shared}{H:Hp}{E:XK}{us:List Value}{vs:List V}
  (S:aq N ps o) (hd:A.handled=none) (U:CP P w K F base A C s H) (X:vs.length=ps.length) (r:bg vs us)
  (x:InCallC s s.heap.objs.size (bindL (envOfC I o s.heap.objs.size f cd).kindOf (ps.zip us) fun _=>none) (cellsFrom (s.heap.objs.size+1) o.names []) (bindC (envOfC I o s.heap.objs.size f cd).kindOf (ps.zip us) fun _=>none) G):
  Inv (rP CX P w K F base N I o f cd A C s H E) [] (start N vs) H G:=by
 have Q:ps.length<=N.length:=by have:=Ng List.length S.pre;rw[M0] at this;lia
 obtain⟨D,Y,rfl,L⟩:=x.done;have g:∀b:Addr,b ∉ (rP CX P w K F base N I o f cd A C s H E).ex:=fun b z=>absurd (show b∈([]:List Addr) from z) (by simp)
 refine⟨⟨U.mod,S.kind,rfl,rfl,MC _,fun y z c D J=> ?_,fun y d=> ?_,fun y c _ h=> ?_,fun _=>hd,Around.frames_deeper U.frames,.inr ⟨rfl,rfl⟩,fun b z=>absurd z (g b),U.bs,U.bsz,fun b _ _=>g b,fun b z=>absurd z (g b),U.funs,U.frf⟩,
  rfl,U.bare,Un.kept L,⟨_,x.toInCall.ns,fun i y v D J T=> ?_⟩,fun y c h=>⟨_,x.cell y c h⟩,U.hok.fresh (MC _),fun y c h=> ?_,fun p j=>absurd (show p∈([]:List (Addr × Obj)) from j) (by simp),U.hok.kept L,?_⟩
 .exact name_of_addr x.apart (NF D) (NF J)
 .have d:o.names.lookup y=some .cell\/o.names.lookup y=some .free:=d;rcases d with d | d
  .exact Bt d
  .exact absurd rfl (S.nofree _ (NF d))
 .exact Oj (x.above y c (NF h))
 .have B:i<vs.length:=by
   unfold start at J
   by_cases B:i<vs.length
   .exact B
   .rw[MT (by simpa using B)] at J
    rw[Pn] at J
    split at J <;> cases J
  have O:vs[i]? =some v:=by
   unfold start at J;rw[Nh (by simpa using B),MW] at J
   cases e:vs[i]? with
   | none=>rw[e] at J;cases J
   | some a=>rw[e] at J;cases J;rfl
  obtain⟨u,M,R⟩:=r.get O;have j:ps[i]? =some y:=by
   rw[<- S.pre,List.getElem?_take_of_lt (by lia)];exact D
  have m:ps.Nodup:=by rw[<- S.pre];exact S.nd.sublist (List.take_sublist _ _)
  refine⟨u,R,?_⟩
  rcases S.par y (MD j) with k | k
  .exact .inl ⟨k,yp m j M k⟩
  .obtain⟨c,e⟩:=Bt (n:=s.heap.objs.size+1) k;refine .inr ⟨.inl k,c,e,?_⟩
   have q:=x.cell y c e;rw[yD m j M (by show o.names.lookup y≠_;rw[k];decide)] at q
   exact q
 .exact U.hok.fresh (Oj (x.above y c (NF h)))
 .unfold start;show _=N.length
  rw[MA,fI,Nk]
  lia
theorem JC{CX:CXT}{P:Program}{w:World}{K:Frag}{D:Str->Option Value}{base:Heap}{k:Nat}{f:Addr}{name a:Str}{d:Arguments}{g:List Stmt}{C:Scope}{Y kV z pm c ct oc:Value}{an od:Option Addr}
  {R:Array (Option Value)}{N ps:List Str}{sp:Sp}(lk:K.lookup f=some ⟨oc,od,.func (W.fnOf name a d g C Y kV z pm an c ct),R⟩) (G:W.codeIn K c a=true) (S:aq N ps C)
  (len:∀vs H Q E,sp vs H Q E->vs.length=ps.length)
  (m:∀(A:Around) (U:List Env) (s:Shared) (H:Hp) (vs:List V) (Q:VK) (E:XK),Room k (A.deeper (envOfC a C s.heap.objs.size f c))->sp vs H Q E->
   ∃t,PSs (rP CX P w K D base N a C f c A U s H E) g t/\t {nx:=fun _ i=>Q .non i,rt:=Q} (start N vs) H):
  je P w K D base CX (k+1) f (W.fnOf name a d g C Y kV z pm an c ct) ps sp:=by
 refine⟨len,fun A U s H Z us vs Q E O B hb r p=> ?_⟩
 have hl:=len _ _ _ _ p;have KX:K.In s.heap:=B.mod.kin.keeps fun b o e=>(B.bs b o e).1
 have L:s.heap.NoLimit:=B.mod.nolimit.keeps fun b o e=>(B.bs b o e).1
 have j:∀y∈ps.zip us,C.names.lookup y.1=some .local\/(C.names.lookup y.1=some .cell/\((cellsFrom (s.heap.objs.size+1) C.names []).lookup y.1).isSome=true):=fun⟨n,v⟩ hy=>by
  rcases S.par n (PP hy).1 with q | q
  .exact .inl q
  .exact .inr ⟨q,W.cellsFrom_some _ _ _ (.inl q)⟩
 refine codeAny_call_function O.depth (KX _ _ lk) rfl S.co S.gen rfl (W.codeRec_of KX G) (hb _ _ _ _ ?_)
 refine wpAny_newFunctionEnv_cells S.kind j fun ab he X x=> ?_
 subst he;refine⟨L.keeps x.toInCall.keep,codeAny_func ?_⟩
 obtain⟨t,ht,hq⟩:=m A U s H vs Q E (O.deeper _) p;have I:Inv (rP CX P w K D base N a C f c A U s H E) [] (start N vs) H X:=Fh S O.hd B hl r x;refine ND (ht [] X (start N vs) H _ I hq) (fun fl T hs=> ?_) fun e T hs=>hs
 have fin:∀{F:St}{i:Hp}{v:V}{u:Value},Inv (rP CX P w K D base N a C f c A U s H E) [] F i T->bv v u->Q v i->CE U P w H s Q u T:=
  fun {F i v u} J M q=>⟨v,i,J.os,J.bare,J.base,J.hok,M,q⟩
 cases fl with
 | ret u=>
  obtain⟨v,F,i,J,M,q⟩:=hs;exact fin J M q
 | next=>
  obtain⟨F,i,J,q⟩:=hs;exact fin (v:=V.non) (u:=Value.none) J rfl q
 | brk=>
  obtain⟨_,_,_,q⟩:=hs;exact False.elim q
 | cont=>
  obtain⟨_,_,_,q⟩:=hs;exact False.elim q
section
variable {X : Cx} {x : Str} {p pos : Pos} {e : Expr} {es : List Expr} {t : TA} {id T : String} {r : List V → Hp → VK → Prop}
def tCB(r:List V->Hp->VK->Prop)(t:TA):TE:=fun Z H Q=>t Z H fun C o=>r C o Q
theorem aL(i:ni X (.builtin id) r)(d:Gl X x)(hm:X.mg x=none)(c:bootBuiltins x=some (.builtin id))(j:PA X (e::es) t)(b:x≠"__name__":=by decide)(C:(x==("__debug__":Str))=false:=by decide)
  (f:starEach (e::es) X.env=(false,eval e X.env)::starEach es X.env:=by rfl) (J:(backTo pos (starEach es X.env)).any (·.1)=false:=by rfl):PE X (.Call (.Name x p) (e::es) [] pos) (tCB r t):=by
 intro o s Z H Q I h;refine NH (wL I d hm c ?_ b C)
 exact PyProof.Rows.callWith_builtin1 (cO (j pos o s Z H _ I h) fun g U m n q a u=>i o U Z n m g Q q a u) f J
theorem cn(i:ni X (.type T) r)(d:Gl X x)(hm:X.mg x=none)(c:bootBuiltins x=some (.type T))(j:PA X (e::es) t)(b:x≠"__name__":=by decide)(C:(x==("__debug__":Str))=false:=by decide)
  (f:starEach (e::es) X.env=(false,eval e X.env)::starEach es X.env:=by rfl) (J:(backTo pos (starEach es X.env)).any (·.1)=false:=by rfl):PE X (.Call (.Name x p) (e::es) [] pos) (tCB r t):=by
 intro o s Z H Q I h;refine NH (wL I d hm c ?_ b C)
 exact NN (cO (j pos o s Z H _ I h) fun g U m n q a u=>i o U Z n m g Q q a u) f J
end
end L2
namespace HT
open PySem PyProof.Rows
section
variable {prog : Program} {w : World} {A : Around} {E : Value → Shared → Prop} {s : Shared}
theorem cat_tup{t b:Addr}{vs ws:List Value}{Q:Value->Shared->Prop}(q:IsTup s.heap t vs.toArray)(j:IsTup s.heap b ws.toArray)(f:vs≠[])
  (m:ws=[]->Q (.ref t) s) (p:ws≠[]->Q (.ref s.heap.objs.size) {s with heap:=s.heap.push {cls:= .type "tuple",data:= .seq (vs++ws).toArray}})
  (hsz:vs.length+ws.length<=sizeLine):wpAny (model prog w) A (binaryOp .Add (.ref t) (.ref b)) Q E s:=by
 obtain⟨⟨d,dd,C,sl⟩,ho,g,n,hd⟩:=id q;obtain⟨⟨i,a,c,I⟩,o,U,n2,J⟩:=id j
 simp only at g hd U J
 subst g hd U J;have e:vs.toArray++ws.toArray=(vs++ws).toArray:=by simp
 by_cases hw:ws=[]
 .exact QH ⟨_,ho,rfl⟩ ⟨_,o,rfl⟩ Po Qm Oy Ov (On _ _)
   (tuple_addW1 t b vs.toArray ws.toArray n n2 dd a sl I (by simpa using f) (by simp [hw])) ⟨ho,o,m hw⟩
 .refine QH ⟨_,ho,rfl⟩ ⟨_,o,rfl⟩ Po Qm Oy Ov (On _ _)
   (tuple_addW2 t b vs.toArray ws.toArray n n2 dd a sl I (by simpa using f) (by simpa using hw) (by rw[MI,MI];exact hsz)) ⟨ho,o,?_⟩
  rw[e];exact p hw
noncomputable def sIx(n d:Nat):Option Int->Nat
 | none=>d
 | some v=>if v<0 then(v+(n:Int)).toNat else min v.toNat n
theorem sIx_nat(n d k:Nat):sIx n d (some (k:Int))=min k n:=by
 show(if (k:Int)<0 then((k:Int)+(n:Int)).toNat else min (k:Int).toNat n)=min k n
 rw[mC (by lia),MN]
theorem Ko(n d:Nat)(hd:d<=n)(o:Option Int):sIx n d o<=n:=by
 cases o with
 | none=>exact hd
 | some v=>
  show(if v<0 then(v+(n:Int)).toNat else min v.toNat n)<=n
  by_cases C:v<0
  .rw[ME C];lia
  .rw[mC C];exact Pp _ _
theorem DS(v:Int)(n d:Nat):(if v<0 then max (v+(n:Int)) 0 else min v (n:Int))=((sIx n d (some v):Nat):Int):=by
 show(if v<0 then max (v+(n:Int)) 0 else min v (n:Int))=(((if v<0 then(v+(n:Int)).toNat else min v.toNat n):Nat):Int)
 by_cases o:v<0
 .simp only[ME o];lia
 .simp only[mC o];lia
theorem Di(lo o:Option Int)(n:Nat):Builtin.Slice.sliceAdjust lo o 1 (n:Int)=(((sIx n 0 lo:Nat):Int),((sIx n n o:Nat):Int)):=by
 have C:¬((1:Int)<0):=by lia
 unfold Builtin.Slice.sliceAdjust
 simp only[C,P7]
 refine QI ?_ ?_
 .cases lo with
  | none=>rfl
  | some v=>exact DS v n 0
 .cases o with
  | none=>rfl
  | some v=>exact DS v n n
theorem Dn(i j:Nat):Builtin.Slice.slicePlaces (i:Int) (j:Int) 1=j - i:=by
 unfold Builtin.Slice.slicePlaces;have o:(1:Int) >0:=by lia
 simp only[o,O9,Int.ediv_one]
 split <;> lia
theorem xv{v:Value}{o:Option Int}{Q:Option Int->Shared->Prop}(p:IsPart v o)(h:Q o s):wpAny (model prog w) A (Builtin.Slice.slicePartIndex v) Q E s:=by
 cases p with
 | none=>exact slicePart_none h
 | int i t=>exact slicePart_int h
theorem sliceApplied_gen{sl:Addr}{U J:Value}{lo o:Option Int}{n:Nat}{Q:Int × Int × Nat->Shared->Prop}(hs:s.heap.IsSliceOf sl U J .none)(pl:IsPart U lo)(b:IsPart J o)
  (h:Q (((sIx n 0 lo:Nat):Int),1,sIx n n o - sIx n 0 lo) s):wpAny (model prog w) A (Builtin.Slice.sliceApplied (.ref sl) (pure (n:Int))) Q E s:=by
 obtain⟨c,C,a,I⟩:=id hs;unfold Builtin.Slice.sliceApplied Builtin.Slice.sliceFields;refine mF (mF (NA C I (x:=U) rfl (mF (NA C I (x:=J) rfl (mF (NA C I (x:= .none) rfl (MQ ?_)))))))
 refine mF (slicePart_none ?_)
 show wpAny _ _ (if ((1:Int)==0)=true then _ else _) _ _ s
 rw[mC (by decide)]
 refine mF (xv pl (mF (xv b (mF (MQ ?_)))))
 show wpAny _ _ (match Builtin.Slice.sliceAdjust lo o 1 (n:Int) with | (lo,o)=>pure (lo,(1:Int),Builtin.Slice.slicePlaces lo o 1)) _ _ s
 rw[Di lo o n];show wpAny _ _ (pure (((sIx n 0 lo:Nat):Int),(1:Int),Builtin.Slice.slicePlaces ((sIx n 0 lo:Nat):Int) ((sIx n n o:Nat):Int) 1)) _ _ s
 rw[Dn];exact MQ h
theorem Gp(xs:Array Value)(i k:Nat):((List.range k).filterMap fun(m:Nat)=>xs[((i:Int)+(m:Int)*1).toNat]?).toArray=((xs.toList.drop i).take k).toArray:=by
 have e:(fun(m:Nat)=>xs[((i:Int)+(m:Int)*1).toNat]?)=fun m=>xs[i+m]? :=by
  funext m
  have:((i:Int)+(m:Int)*1).toNat=i+m:=by lia
  rw[this]
 rw[e];have:=pick_run xs i k;rw[List.filterMap_map] at this;have o:((fun x=>xs[x]?) ∘ fun x=>i+x)=fun m=>xs[i+m]? :=rfl
 rw[o] at this;rw[this]
theorem getItem_tuple_cut{t sl:Addr}{o:Array Value}{e d:Value}{lo I:Option Int}{Q:Value->Shared->Prop}(J:IsTup s.heap t o)(hs:s.heap.IsSliceOf sl e d .none)(pl:IsPart e lo)(f:IsPart d I)
  (hw:¬(sIx o.size 0 lo=0/\sIx o.size o.size I=o.size))
  (h:Q (.ref s.heap.objs.size) {s with heap:=s.heap.push {cls:= .type "tuple",data:= .seq ((o.toList.drop (sIx o.size 0 lo)).take (sIx o.size o.size I - sIx o.size 0 lo)).toArray}})
  (hsz:o.size<=sizeLine):wpAny (model prog w) A (getItem (.ref t) (.ref sl)) Q E s:=by
 have C:sizeOk (.seq ((o.toList.drop (sIx o.size 0 lo)).take (sIx o.size o.size I - sIx o.size 0 lo)).toArray):=by
  show((o.toList.drop (sIx o.size 0 lo)).take (sIx o.size o.size I - sIx o.size 0 lo)).toArray.size<=sizeLine
  rw[MI,M0,Ni,OS]
  lia
 have n:sIx o.size o.size I<=o.size:=Ko _ _ (MC _) I;obtain⟨i,c,b,g⟩:=id hs;have a:s.TypeIs (.ref sl) "slice":=⟨i,c,b⟩;unfold getItem
 try with_reducible refine OI ?_
 first | refine mF (MQ ?_) | skip
 refine mF (wpAny_sequenceKey J.typeIs (by decide) ?_)
 refine mF (NB (name:=Str.ofString "__getitem__") J.typeIs Nj
  (N5 Nj J.typeIs entry_tuple_getitem ?_ (args_tuple_getitem _ _)))
 show wpAny _ _ (Builtin.Tuple.tupleItemsOf (.ref t) >>= _) _ _ s
 refine mF (tupleItemsOf_ J ?_)
 refine mF (QK a ?_)
 rw[ME (by decide)]
 refine mF (sliceApplied_gen hs pl f ?_)
 have U:¬((((sIx o.size 0 lo:Nat):Int)==0 && (1:Int)==1 && (sIx o.size o.size I - sIx o.size 0 lo)==o.size)=true):=by
  intro q;rw[Nq,Nq] at q;have p:((sIx o.size 0 lo:Nat):Int)=0:=eq_of_beq q.1.1;have j:sIx o.size o.size I - sIx o.size 0 lo=o.size:=eq_of_beq q.2;exact hw ⟨by lia,by lia⟩
 show wpAny _ _ (if (((sIx o.size 0 lo:Nat):Int)==0 && (1:Int)==1 && (sIx o.size o.size I - sIx o.size 0 lo)==o.size)=true then _ else _) _ _ s
 rw[mC U,Gp]
 first
  | exact mF (m:=Builtin.Tuple.tupleExact _) (NL (MQ ⟨_,rfl,MQ h⟩) C)
  | exact mF (m:=Builtin.Tuple.tupleExact _) (NL (mF (MQ (MQ ⟨_,rfl,MQ h⟩))) C)
  | exact mF (mF (m:=Builtin.Tuple.tupleExact _) (NL (MQ (MQ ⟨_,rfl,MQ h⟩)) C))
  | exact mF (mF (m:=Builtin.Tuple.tupleExact _) (NL (MQ ⟨_,rfl,MQ h⟩) C))
end
end HT
namespace L2
open PySem PySem.Spec PyProof.Rows
abbrev TO:=St->Hp->(Option Int->Hp->Prop)->Prop
def PO(X:Cx)(e:Option Expr)(t:TO):Prop:=
 ∀(C:List (Addr × Obj)) (s:Shared) (Z:St) (H:Hp) (Q:Option Int->Hp->Prop),Inv X C Z H s->t Z H Q->
  wpAny (model X.prog X.w) X.A (evalPart e X.env) (fun u J=>∃o I,Inv X C Z I J/\IsPart u o/\Q o I) X.xe s
def Jc:TO:=fun _ H Q=>Q none H
def LF(t:TE):TO:=fun Z H Q=>t Z H fun x o=>∃i,x= .int i/\Q (some i) o
theorem iH{ns:List Int}:∀{us:List Value},bg (ns.map V.int) us->IntsAre us ns:=by
 induction ns with
 | nil=>intro us r;rw[OU] at r;cases r;exact .nil
 | cons n ns ih=>
  intro us r;rw[Nd] at r
  cases r with
  | cons r1 r2=>
   obtain⟨t,e⟩:=r1;subst e;exact .cons n t (ih r2)
section
variable {X : Cx} {e : Expr} {te : TE} {lo hi : Option Expr} {tl th : TO} {pos p2 : Pos}
theorem eQ:PO X none Jc:=by
 intro o s Z H Q I h;rw[evalPart_none];exact MQ ⟨none,H,I,.none,h⟩
theorem eP(h:PE X e te):PO X (some e) (LF te):=by
 intro o s Z H Q I hw;rw[evalPart_some];refine cO (h o s Z H _ I hw) fun u b x J U C a=> ?_
 obtain⟨i,rfl,q⟩:=a;obtain⟨t,rfl⟩:=C;exact⟨some i,J,U,.int i t,q⟩
def SlR(X:Cx)(r:V->Option Int->Option Int->Hp->VK->Prop):Prop:=
 ∀(o:List (Addr × Obj)) (s:Shared) (Z:St) (H:Hp) (x:V) (v I C:Value) (lo hi:Option Int) (sl:Addr) (Q:VK),Inv X o Z H s->bv x v->s.heap.IsSliceOf sl I C .none->IsPart I lo->IsPart C hi->r x lo hi H Q->
  ∃T id,typeLookup (.type T) "__getitem__"=pure (some (.builtin id))/\s.TypeIs v T/\wpAny (model X.prog X.w) X.A (getItem v (.ref sl)) (EP X o Z Q) X.xe s
def tSl(r:V->Option Int->Option Int->Hp->VK->Prop)(te:TE)(tl th:TO):TE:=fun Z H Q=>te Z H fun x o=>tl Z o fun l I=>th Z I fun u C=>r x l u C Q
theorem di{r:V->Option Int->Option Int->Hp->VK->Prop}(K:SlR X r)(j:PE X e te)(g:PO X lo tl)(M:PO X hi th):PE X (.Subscript e (.Slice lo hi none p2) pos) (tSl r te tl th):=by
 intro o s Z H Q I h;refine Subscript_ (cO (j o s Z H _ I h) fun v d x p F f G=> ?_)
 refine wpAny_Slice (cO (g o d Z p _ F G) fun U L l m E pl D=>cO (M o L Z m _ E D) fun J C u a N c z=> ?_)
 rw[evalPart_none];refine MQ ?_
 have n:Inv X o Z a {C with heap:=C.heap.push {cls:= .type "slice",data:= .fields #[U,J,.none]}}:=N.kept (t':=C.toks) fun b O q=>MB _ q
 obtain⟨T,id,B,y,i⟩:=K o {C with heap:=C.heap.push {cls:= .type "slice",data:= .fields #[U,J,.none]}} Z a x v U J l u C.heap.objs.size Q n f (Heap.IsSliceOf.new ..) pl c z
 show wpAny (model X.prog X.w) X.A (subscriptTail e (.Slice lo hi none p2) v (.ref C.heap.objs.size)) (EP X o Z Q) X.xe {C with heap:=C.heap.push {cls:= .type "slice",data:= .fields #[U,J,.none]}}
 exact tail_any (ops:=[.ref C.heap.objs.size,v]) y B i (by with_unfolding_all rfl)
noncomputable def ik(xs:List V)(lo hi:Option Int):List V:=(xs.drop (HT.sIx xs.length 0 lo)).take (HT.sIx xs.length xs.length hi - HT.sIx xs.length 0 lo)
theorem uC(xs:List V)(lo hi:Option Int):(ik xs lo hi).length<=xs.length:=by
 unfold ik;rw[M0,Ni]
 lia
def K9(K:Frag):V->Option Int->Option Int->Hp->VK->Prop:=fun x lo hi H Q=>∃a o,x= .ref a/\SqT K H a o/\
 ¬(HT.sIx o.length 0 lo=0/\HT.sIx o.length o.length hi=o.length)/\∀p,H p=none->Q (.ref p) (upd H p (.tup (ik o lo hi)))
theorem kZ:SlR X (K9 X.K):=by
 intro f s Z H x v p m lo hi sl Q I j hs pl g h;obtain⟨a,J,rfl,i,hw,q⟩:=h
 cases j
 obtain⟨U,r,d,c⟩:=I.tuple i;have C:U.toArray.size=J.length:=by rw[MI];exact r.length.symm
 refine⟨"tuple",_,Nj.lookup,d.typeIs,?_⟩
 refine HT.getItem_tuple_cut d hs pl g (by rw[C];exact hw) ?_ (by rw[C];exact c)
 rw[C];refine⟨.ref s.heap.objs.size,_,I.laid (t':=s.toks) (o:= .tup (ik J lo hi)) (fun b n q=>MB _ q) (MC _) ?_,rfl,q _ (I.hok.fresh (MC _))⟩
 exact⟨MV (uC J lo hi) c,_,(r.drop (HT.sIx J.length 0 lo)).take (HT.sIx J.length J.length hi - HT.sIx J.length 0 lo),IsTup.new _ _⟩
def Li(K:Frag):R2:=fun x y H Q=>∃a b C o,x= .ref a/\y= .ref b/\SqT K H a C/\SqT K H b o/\C≠[]/\C.length+o.length<=sizeLine/\
 (o=[]->Q (.ref a) H)/\(o≠[]->∀p,H p=none->Q (.ref p) (upd H p (.tup (C++o))))
theorem bg.nil_iff{xs:List V}{us:List Value}(r:bg xs us):us=[]↔xs=[]:=by
 cases r with
 | nil=>simp
 | cons _ _=>simp
theorem Ao:OpR X (binaryOp .Add) (Li X.K):=by
 intro d s Z H x y v u Q I n B h;obtain⟨a,b,i,A,rfl,rfl,m,f,j,U,r,p⟩:=h
 cases n
 cases B
 obtain⟨g,J,D,_⟩:=I.tuple m;obtain⟨c,C,p2,_⟩:=I.tuple f;refine HT.cat_tup D p2 (fun z=>j (J.nil_iff.mp z)) (fun z=>⟨.ref a,H,I,rfl,r (C.nil_iff.mp z)⟩) (fun z=> ?_) (by rw[<- J.length, <-C.length];exact U)
 refine⟨.ref s.heap.objs.size,_,I.laid (t':=s.toks) (o:= .tup (i++A)) (fun b E q=>MB _ q) (MC _) ?_,rfl,p (fun w=>z (C.nil_iff.mpr w)) _ (I.hok.fresh (MC _))⟩
 exact⟨by rw[MA];exact U,_,J.append C,IsTup.new _ _⟩
end
noncomputable def ixN(n:Nat)(i:Int):Option Nat:=if 0<=i then(if i<n then some i.toNat else none) else if -(n:Int)<=i then some (i+n).toNat else none
noncomputable def atI{o:Type}(xs:List o)(i:Int):Option o:=(ixN xs.length i).bind fun j=>xs[j]?
theorem DM{n:Nat}{i:Int}{j:Nat}(h:ixN n i=some j):seqIndex? i n=some j/\j<n/\ -(n:Int)<=i/\i<n:=by
 unfold ixN at h
 by_cases C:0<=i
 .rw[ME C] at h
  by_cases o:i<n
  .rw[ME o] at h;have e:i.toNat=j:=MR h;exact⟨by rw[seqIndex_of C o,e],by lia,by lia,o⟩
  .rw[mC o] at h;cases h
 .rw[mC C] at h
  by_cases o: -(n:Int)<=i
  .rw[ME o] at h;have e:(i+n).toNat=j:=MR h;exact⟨by rw[QL (by lia) o,e],by lia,o,by lia⟩
  .rw[mC o] at h;cases h
theorem zt{o:Type}{xs:List o}{i:Int}{v:o}(h:atI xs i=some v):∃j,seqIndex? i xs.length=some j/\xs[j]? =some v/\j<xs.length/\ -(xs.length:Int)<=i/\i<xs.length:=by
 unfold atI at h
 cases e:ixN xs.length i with
 | none=>rw[e] at h;cases h
 | some j=>
  rw[e] at h;obtain⟨I,C,J,U⟩:=DM e;exact⟨j,I,h,C,J,U⟩
theorem aY{o:Type}{xs:List o}{j:Nat}{v:o}(h:xs[j]? =some v):atI xs (j:Int)=some v:=by
 have C:j<xs.length:=(gV.mp h).1;have e:ixN xs.length (j:Int)=some j:=by
  unfold ixN;rw[ME (by lia),ME (by lia)];simp
 unfold atI;rw[e];exact h
def DY(b:Expr):Prop:=∀o i,subscripted b false o i=operate [o,i] (getItem o i)
def IxR(X:Cx)(r:R2):Prop:=
 ∀(I o:Expr) (C:List (Addr × Obj)) (s:Shared) (Z:St) (H:Hp) (x y:V) (v u:Value) (Q:VK),Inv X C Z H s->bv x v->bv y u->r x y H Q->
  subscripted o false v u=operate [v,u] (getItem v u)->wpAny (model X.prog X.w) X.A (subscriptTail I o v u) (EP X C Z Q) X.xe s
def MtR(X:Cx)(id:String)(r:V->List V->Hp->VK->Prop):Prop:=
 ∀(o:List (Addr × Obj)) (s:Shared) (Z:St) (H:Hp) (x:V) (C:List V) (v:Value) (I:List Value) (Q:VK),Inv X o Z H s->bv x v->bg C I->r x C H Q->
  wpAny (model X.prog X.w) X.A (call (.builtin id) (v::I)) (EP X o Z Q) X.xe s
section
variable {X : Cx} {a b : Expr} {ta tb : TE} {pos : Pos}
theorem IxR.or{r d:R2}(h:IxR X r)(h':IxR X d):IxR X (fun x y H Q=>r x y H Q\/d x y H Q):=by
 intro o C J s Z H x y v u Q I U c q hs;rcases q with q | q
 .exact h o C J s Z H x y v u Q I U c q hs
 .exact h' o C J s Z H x y v u Q I U c q hs
theorem GC{r:R2}(e:IxR X r)(U:PE X a ta)(C:PE X b tb)(hs:DY b):PE X (.Subscript a b pos) (tOp r ta tb):=by
 intro o s Z H Q I h;exact Subscript_ (JZ U C I h fun v u f x y J d c g q=>e a b o f Z J x y v u Q d c g q (hs _ _))
def Le(K:Frag):R2:=fun x y H Q=>∃p o i v,x= .ref p/\y= .int i/\SqL K H p o/\atI o i=some v/\Q v H
def KJ(K:Frag):R2:=fun x y H Q=>∃p o i v,x= .ref p/\y= .int i/\SqT K H p o/\atI o i=some v/\Q v H
def LL:R2:=fun x y H Q=>∃z i c,x= .str z/\y= .int i/\z.length<=sizeLine/\atI z.cps.toList i=some c/\Q (.str ⟨#[c]⟩) H
theorem bc:IxR X (Le X.K):=by
 intro U d o s Z H x y v u Q I A F h hs;obtain⟨p,N,i,z,rfl,rfl,D,m,q⟩:=h
 cases A
 obtain⟨t,rfl⟩:=F;obtain⟨J,r,pl,O⟩:=I.list D;obtain⟨j,C,B,M,n,G⟩:=zt m;obtain⟨w,f,c⟩:=r.get B;have g:=r.length;have L:=tP;have fin:EP X o Z Q w s:=⟨z,H,I,c,q⟩
 by_cases e:0<=i
 .have hj:i.toNat=j:=by
   rw[seqIndex_of e G] at C;exact MR C
  exact item_listR pl.isList e (by lia) (by rw[hj];simpa using f) fin hs
 .have hj:(i+(J.toArray.size:Int)).toNat=j:=by
   rw[QL (by lia) n] at C
   rw[MI, <-g];exact MR C
  exact Oz (x:=w) pl.isList.typeIs slot_list_getitem.lookup
   (wpAny_getItem_list_neg (Q:=fun r E=>r=w/\EP X o Z Q r E) pl.isList (by lia) (by rw[MI] <;> lia) (by lia) (by rw[hj];simpa using f) ⟨rfl,fin⟩) hs
theorem ag:IxR X (KJ X.K):=by
 intro C U o s Z H x y v u Q I g D h hs;obtain⟨p,G,i,z,rfl,rfl,n,f,q⟩:=h
 cases g
 obtain⟨t,rfl⟩:=D;obtain⟨e,r,pl,M⟩:=I.tuple n;obtain⟨j,c,m,F,L,N⟩:=zt f;obtain⟨w,A,J⟩:=r.get m;have d:=r.length;have E:=tP;have fin:EP X o Z Q w s:=⟨z,H,I,J,q⟩;exact Oz (x:=w) pl.typeIs slot_tuple_getitem.lookup
  (getItem_tuple (j:=j) (Q:=fun r B=>r=w/\EP X o Z Q r B) pl (by lia) (by lia) (by rw[MI, <-d];exact c) (by simpa using A) ⟨rfl,fin⟩) hs
theorem J3:IxR X LL:=by
 intro o C U s Z H x y v u Q I m p h hs;obtain⟨z,i,c,rfl,rfl,D,e,q⟩:=h;obtain⟨t,rfl⟩:=m;obtain⟨E,rfl⟩:=p;obtain⟨j,J,n,B,f,r⟩:=zt e;have d:z.cps.toList.length=z.length:=by simp [Str.length]
 rw[d] at J f r;have A:=tP
 exact tail_any (typeIs_str s z t) slot_str_getitem.lookup (getItem_str (c:=c) (by
  have w:decide (i < -(2^63:Int))=false:=MG (by lia)
  have g:decide (i>=2^63)=false:=MG (by lia)
  rw[w,g,Bool.or_false]) (by rw[J];simpa using n) ⟨.str ⟨#[c]⟩,H,I.tok _,⟨_,rfl⟩,q⟩) hs
def rIx(K:Frag):R2:=fun x y H Q=>Le K x y H Q\/KJ K x y H Q\/LL x y H Q
theorem Ke:IxR X (rIx X.K):=bc.or (ag.or J3)
theorem DI(o:List Value)(n j:Nat)(u:Value):Obj.mapSeq (·.setIfInBounds j u) {cls:= .type "list",data:= .seq o.toArray n}={cls:= .type "list",data:= .seq (o.set j u).toArray n}:=by
 simp [Obj.mapSeq]
theorem Inv.lst{C:List (Addr × Obj)}{Z:St}{H:Hp}{s:Shared}{p:Addr}{xs:List V}(I:Inv X C Z H s)(h:H p=some (.lst xs)):
  ∃(o:List Value) (n:Nat),bg xs o/\s.heap.get? p=some {cls:= .type "list",data:= .seq o.toArray n}/\xs.length<=sizeLine:=by
 obtain⟨z,o,n,r,e⟩:=I.hok p _ h;exact⟨o,n,r,e,z⟩
theorem Inv.lstUpd{o:List (Addr × Obj)}{Z:St}{H:Hp}{s:Shared}{p:Addr}{xs ys:List V}{C its':List Value}{n J:Nat}{f:Obj->Obj}(I:Inv X o Z H s)(h:H p=some (.lst xs))
  (ho:s.heap.get? p=some {cls:= .type "list",data:= .seq C.toArray n}) (U:f {cls:= .type "list",data:= .seq C.toArray n}={cls:= .type "list",data:= .seq its'.toArray J}) (r:bg ys its') (d:ys.length<=sizeLine) (t:Nat):
  Inv X o Z (upd H p (.lst ys)) {s with heap:=s.heap.update p f,toks:=t}:=by
 have e:(s.heap.update p f).get? p=some {cls:= .type "list",data:= .seq its'.toArray J}:=by
  rw[PZ f ho (by rw[U] <;> rfl),U]
 refine I.write (x:=p) (e:=p) (by rw[h];trivial) (.inl rfl) (fun b u c q=>(Pz _ _ (Nb c)).trans q) ⟨_,e⟩ ?_
 exact⟨d,its',J,r,e⟩
def Lm:V->V->V->Hp->(Hp->Prop)->Prop:=fun o i v H Q=>∃p C k j,o= .ref p/\i= .int k/\H p=some (.lst C)/\ixN C.length k=some j/\Q (upd H p (.lst (C.set j v)))
theorem rL:Lu X Lm:=by
 intro J s Z H o i v E G u Q I x w A h;obtain⟨p,y,k,j,rfl,rfl,m,B,q⟩:=h
 cases x
 obtain⟨t,rfl⟩:=w;obtain⟨C,n,r,ho,z⟩:=I.lst m;obtain⟨U,F,e,f⟩:=DM B;have c:=r.length;have D:=tP;have g:Inv X J Z (upd H p (.lst (y.set j v))) {s with heap:=s.heap.update p (Obj.mapSeq (·.setIfInBounds j u))}:=
  I.lstUpd m ho (DI C n j u) (r.set A j) (by rw[PQ];exact z) s.toks
 by_cases d:0<=k
 .have hk:k.toNat=j:=by
   rw[seqIndex_of d f] at U;exact MR U
  exact W.ki_setAt ho d (by lia) (by rw[MI, <-c];exact f) (by rw[hk];exact⟨_,g,q⟩)
 .have hk:(k+(C.toArray.size:Int)).toNat=j:=by
   rw[QL (by lia) e] at U
   rw[MI, <-c];exact MR U
  exact W.ki_setBack ho (by lia) (by rw[MI, <-c];exact e) (by lia) (by rw[hk];exact⟨_,g,q⟩)
theorem Av(lo o:Option Int)(n:Nat):(sliceBounds lo o none n).1=((HT.sIx n 0 lo:Nat):Int)/\(sliceBounds lo o none n).2.1=((HT.sIx n n o:Nat):Int)/\(sliceBounds lo o none n).2.2=1:=by
 refine⟨?_,?_,rfl⟩
 .cases lo with
  | none=>simp [sliceBounds,HT.sIx]
  | some i=>
   simp only[sliceBounds,HT.sIx,Option.getD_none,show(1:Int) >0 by decide,O9]
   by_cases h:i<0
   .simp only[h,O9] <;> lia
   .simp only[h,P7] <;> lia
 .cases o with
  | none=>simp [sliceBounds,HT.sIx]
  | some i=>
   simp only[sliceBounds,HT.sIx,Option.getD_none,show(1:Int) >0 by decide,O9]
   by_cases h:i<0
   .simp only[h,O9] <;> lia
   .simp only[h,P7] <;> lia
theorem yc(o:List Value)(lo C:Option Int):slicePick o.toArray lo C none=((o.drop (HT.sIx o.length 0 lo)).take (HT.sIx o.length o.length C - HT.sIx o.length 0 lo)).toArray:=by
 obtain⟨J,I,U⟩:=Av lo C o.toArray.size;unfold slicePick;rw[J,I,U]
 simp only[sliceRange_one,pick_run,MI] <;> rfl
def L3(K:Frag):V->Option Int->Option Int->Hp->VK->Prop:=fun x I C H Q=>∃a o,x= .ref a/\SqL K H a o/\∀p,H p=none->Q (.ref p) (upd H p (.lst (ik o I C)))
theorem vY:SlR X (L3 X.K):=by
 intro e s Z H x v u n U c sl Q I m hs pl f h;obtain⟨a,C,rfl,j,q⟩:=h
 cases m
 obtain⟨g,r,d,i⟩:=I.list j;have J:=r.length;refine⟨"list",_,slot_list_getitem.lookup,d.isList.typeIs,?_⟩
 refine wpAny_getItem_list_slice d.isList hs pl f .none (by simp) ?_ (by rw[MI] <;> lia)
 rw[yc, <-J];refine⟨.ref s.heap.objs.size,_,I.laid (t':=s.toks) (o:= .lst (ik C U c)) (fun b p q=>MB _ q) (MC _) ?_,rfl,q _ (I.hok.fresh (MC _))⟩
 exact⟨MV (uC C U c) i,_,0,(r.drop (HT.sIx C.length 0 U)).take (HT.sIx C.length C.length c - HT.sIx C.length 0 U),M6 _ rfl⟩
noncomputable def kf:V->Bool
 | .non=>true
 | .bl _=>true
 | .int _=>true
 | .str _=>true
 | _=>false
noncomputable def eqV:V->V->Bool
 | .non,.non=>true
 | .bl a,.bl b=>a==b
 | .bl a,.int b=>(if a then 1 else 0)==b
 | .int a,.bl b=>a==(if b then 1 else 0)
 | .int a,.int b=>a==b
 | .str a,.str b=>a==b
 | _,_=>false
theorem KQ{A:Around}{s:Shared}{y x:V}{u v:Value}(I:bv y u)(o:bv x v)(U:kf y=true)(J:kf x=true):SeqAt.EqAt A s u v (eqV y x):=by
 cases y with
 | non=>
  cases I
  cases x with
  | non=>cases o;exact SeqAt.EqAt.same _
  | bl b=>cases o;exact SeqAt.EqAt.none_bool b
  | int b=>obtain⟨t,rfl⟩:=o;exact SeqAt.EqAt.none_int b t
  | str b=>obtain⟨t,rfl⟩:=o;exact SeqAt.EqAt.none_str b t
  | _=>exact absurd (show false=true from J) MP
 | bl a=>
  cases I
  cases x with
  | non=>cases o;exact SeqAt.EqAt.bool_none a
  | bl b=>cases o;exact SeqAt.EqAt.bool_bool a b
  | int b=>obtain⟨t,rfl⟩:=o;exact SeqAt.EqAt.bool_int a b t
  | str b=>obtain⟨t,rfl⟩:=o;exact SeqAt.EqAt.bool_str a b t
  | _=>exact absurd (show false=true from J) MP
 | int a=>
  obtain⟨C,rfl⟩:=I
  cases x with
  | non=>cases o;exact SeqAt.EqAt.int_none a C
  | bl b=>cases o;exact SeqAt.EqAt.int_bool a C b
  | int b=>obtain⟨t,rfl⟩:=o;exact SeqAt.EqAt.int_int a C b t
  | str b=>obtain⟨t,rfl⟩:=o;exact SeqAt.EqAt.int_str a C b t
  | _=>exact absurd (show false=true from J) MP
 | str a=>
  obtain⟨C,rfl⟩:=I
  cases x with
  | non=>cases o;exact SeqAt.EqAt.str_none a C
  | bl b=>cases o;exact SeqAt.EqAt.str_bool a C b
  | int b=>obtain⟨t,rfl⟩:=o;exact SeqAt.EqAt.str_int a C b t
  | str b=>obtain⟨t,rfl⟩:=o;exact SeqAt.EqAt.str_str a C b t
  | _=>exact absurd (show false=true from J) MP
 | _=>exact absurd (show false=true from U) MP
noncomputable def eqU(x:V)(u:Value):Bool:=match u with
 | .none=>eqV .non x
 | .bool b=>eqV (.bl b) x
 | .int i _=>eqV (.int i) x
 | .str z _=>eqV (.str z) x
 | _=>false
theorem y_{x y:V}{u:Value}(r:bv y u)(f:kf y=true):eqU x u=eqV y x:=by
 cases y with
 | non=>cases r;rfl
 | bl b=>cases r;rfl
 | int i=>obtain⟨t,rfl⟩:=r;rfl
 | str z=>obtain⟨t,rfl⟩:=r;rfl
 | _=>exact absurd (show false=true from f) MP
theorem rJ{x:V}:∀{xs:List V}{us:List Value},bg xs us->xs.all kf=true->us.any (eqU x)=xs.any fun y=>eqV y x
 | _,_,.nil,_=>rfl
 | y::xs,u::us,.cons r t,f=>by
  rw[List.all_cons,Nq] at f;rw[OJ,OJ,y_ r f.1,rJ t f.2]
theorem jF{A:Around}{s:Shared}{x:V}{v:Value}(I:bv x v)(C:kf x=true):∀{xs:List V}{us:List Value},bg xs us->xs.all kf=true->∀u∈us,SeqAt.EqAt A s u v (eqU x u)
 | _,_,.nil,_=>fun u o=>by cases o
 | y::xs,u::us,.cons r t,f=>fun J o=>by
  rw[List.all_cons,Nq] at f;rcases M3.mp o with rfl | o
  .rw[y_ r f.1];exact KQ r I f.1 C
  .exact jF I C t f.2 J o
noncomputable def inV(x:V)(xs:List V):Bool:=xs.any fun y=>eqV y x
def rIn(K:Frag)(neg:Bool):R2:=fun x y H Q=>∃p o,y= .ref p/\(SqL K H p o\/SqT K H p o)/\kf x=true/\o.all kf=true/\Q (.bl (if neg then !inV x o else inV x o)) H
theorem Fg:OpR X (compareOp .In) (rIn X.K false):=by
 intro J s Z H x y v u Q I C c h;obtain⟨p,d,rfl,o,U,fs,q⟩:=h
 cases c
 rcases o with o | o
 .obtain⟨its,r,pl,hz⟩:=I.list o;refine SeqAt.in_listAt (eqU x) pl.isList (fun w hw=>jF C U r fs w (by simpa using hw)) ⟨.bl _,H,I,rfl,?_⟩
  rw[show its.toArray.any (eqU x)=its.any (eqU x) by simp,rJ r fs]
  exact q
 .obtain⟨its,r,pl,hz⟩:=I.tuple o;refine SeqAt.in_tupleAt (eqU x) pl (fun w hw=>jF C U r fs w (by simpa using hw)) ⟨.bl _,H,I,rfl,?_⟩
  rw[show its.toArray.any (eqU x)=its.any (eqU x) by simp,rJ r fs]
  exact q
theorem Ab:OpR X (compareOp .NotIn) (rIn X.K true):=by
 intro J s Z H x y v u Q I C c h;obtain⟨p,d,rfl,o,U,fs,q⟩:=h
 cases c
 rcases o with o | o
 .obtain⟨its,r,pl,hz⟩:=I.list o;refine SeqAt.notIn_listAt (eqU x) pl.isList (fun w hw=>jF C U r fs w (by simpa using hw)) ⟨.bl _,H,I,rfl,?_⟩
  rw[show its.toArray.any (eqU x)=its.any (eqU x) by simp,rJ r fs]
  exact q
 .obtain⟨its,r,pl,hz⟩:=I.tuple o;refine SeqAt.notIn_tupleAt (eqU x) pl (fun w hw=>jF C U r fs w (by simpa using hw)) ⟨.bl _,H,I,rfl,?_⟩
  rw[show its.toArray.any (eqU x)=its.any (eqU x) by simp,rJ r fs]
  exact q
theorem aN:ni X (.builtin "len") (fun xs H Q=>∃p ys,xs=[.ref p]/\(SqL X.K H p ys\/SqT X.K H p ys)/\Q (.int ys.length) H):=by
 intro J s Z H xs d Q I r h;obtain⟨p,ys,rfl,C,q⟩:=h;obtain⟨u,rfl,U⟩:=uW r
 cases U
 have c:=tP;rcases C with C | C
 .obtain⟨its,r',pl,hz⟩:=I.list C;have o:=r'.length;exact Calls.call_len_list pl.isList (by simp only[MI] <;> lia) ⟨.int ys.length,H,I.tok _,⟨s.toks+1,by rw[MI,o]⟩,q⟩
 .obtain⟨its,r',pl,hz⟩:=I.tuple C;have o:=r'.length;exact len_tuple pl (by simp only[MI] <;> lia) ⟨.int ys.length,H,I.tok _,⟨s.toks+1,by rw[MI,o]⟩,q⟩
theorem lW:ni X (.type "list") (fun xs H Q=>∃p ys,xs=[.ref p]/\(SqL X.K H p ys\/SqT X.K H p ys)/\∀l,H l=none->Q (.ref l) (upd H l (.lst ys))):=by
 intro f s Z H xs x Q I r h;obtain⟨p,ys,rfl,i,q⟩:=h;obtain⟨u,rfl,v⟩:=uW r
 cases v
 have fin:∀(C:List Value),bg ys C->ys.length<=sizeLine->∀(J:Heap) (U:Nat),(∀b m,s.heap.get? b=some m->J.get? b=some m)->
   J.get? s.heap.objs.size=some {cls:= .type "list",dict:=none,data:= .seq C.toArray U,slots:= #[]}->EP X f Z Q (.ref s.heap.objs.size) {s with heap:=J}:=fun C c d J U kp e=>
  ⟨.ref s.heap.objs.size,_,I.laid (t':=s.toks) kp (MC _) (show dU X.prog X.w _ J _ (.lst ys) from⟨d,C,U,c,e⟩),rfl,q _ (I.hok.fresh (MC _))⟩
 rcases i with i | i
 .obtain⟨C,c,pl,d⟩:=I.list i;have g:=c.length;obtain⟨o,ho,j,n,hd⟩:=pl.isList;exact call_list_seq p (.inl rfl) ho j hd (fun J U kp e=>fin C c d J U kp e) (by simp only[MI] <;> lia)
 .obtain⟨C,c,pl,d⟩:=I.tuple i;have g:=c.length;obtain⟨o,ho,j,n,hd⟩:=pl;exact call_list_seq p (.inr rfl) ho j hd (fun J U kp e=>fin C c d J U kp e) (by simp only[MI] <;> lia)
theorem iQ:ni X (.type "tuple") (fun xs H Q=>∃p ys,xs=[.ref p]/\((SqL X.K H p ys/\∀l,H l=none->Q (.ref l) (upd H l (.tup ys)))\/(SqT X.K H p ys/\Q (.ref p) H))):=by
 intro C s Z H xs i Q I r h;obtain⟨p,ys,rfl,h⟩:=h;obtain⟨u,rfl,f⟩:=uW r
 cases f
 rcases h with⟨U,q⟩|⟨U,q⟩
 .obtain⟨its,r',pl,hz⟩:=I.list U;have c:=r'.length;refine call_tuple_list pl.isList (fun J kp=> ?_) (by simp only[MI] <;> lia)
  have d:Inv X C Z H {s with heap:=J}:=I.kept (t':=s.toks) kp
  have g:Inv X C Z (upd H J.objs.size (.tup ys)) {s with heap:=J.push {cls:= .type "tuple",data:= .seq its.toArray}}:=
   d.laid (t':=s.toks) (fun b o e=>MB _ e) (MC _) (show dU X.prog X.w _ _ _ (.tup ys) from⟨hz,its,r',IsTup.new _ _⟩)
  exact⟨.ref J.objs.size,_,g,rfl,q _ (d.hok.fresh (MC _))⟩
 .obtain⟨its,r',pl,hz⟩:=I.tuple U;exact call_tuple_same pl ⟨.ref p,H,I,rfl,q⟩
def tyV(K:Frag)(T:String)(x:V)(H:Hp):Prop:=match x with
 | .str _=>T="str"
 | .int _=>T="int"
 | .ref p=>(T="list"/\∃I,SqL K H p I)\/(T="tuple"/\∃o,K.lookup p=some o/\o.cls= .type "tuple"/\o.dict=none)\/
   (T="dict"/\((∃C,H p=some (.dK C))\/∃C,H p=some (.dT C)))\/(T="set"/\∃S n,H p=some (.set S n))
 | _=>False
theorem Km{U:List (Addr × Obj)}{Z:St}{H:Hp}{s:Shared}{T:String}{x:V}{v:Value}(I:Inv X U Z H s)(r:bv x v)(ty:tyV X.K T x H):
  s.TypeIs v T/\∀a,v= .ref a->∃g,s.heap.get? a=some g/\g.dict=none:=by
 cases x with
 | str z=>
  obtain⟨t,rfl⟩:=r
  cases(show T="str" from ty)
  exact⟨typeIs_str s z t,fun _ e=>nomatch e⟩
 | int i=>
  obtain⟨t,rfl⟩:=r
  cases(show T="int" from ty)
  exact⟨typeIs_int s i t,fun _ e=>nomatch e⟩
 | ref p=>
  cases r
  rcases ty with⟨rfl,q,m⟩|⟨rfl,o,C,j,hd⟩|⟨rfl,C⟩|⟨rfl,S,n,C⟩
  .obtain⟨its,_,pl,_⟩:=I.list m;refine⟨pl.isList.typeIs,fun a e=> ?_⟩
   cases e
   obtain⟨o,n,e,c,hd,_⟩:=pl;exact⟨o,e,hd⟩
  .refine⟨⟨o,I.kIn p o C,j⟩,fun a e=> ?_⟩
   cases e
   exact⟨o,I.kIn _ o C,hd⟩
  .have z:∃o,s.heap.get? p=some o/\o.ExactDict:=by
    rcases C with⟨f,C⟩|⟨f,C⟩
    .obtain⟨_,_,_,_,o,_,_,e,J,_⟩:=I.hok p _ C;exact⟨o,e,J⟩
    .obtain⟨_,_,_,_,o,_,_,e,J,_⟩:=I.hok p _ C;exact⟨o,e,J⟩
   obtain⟨o,e,J⟩:=z;refine⟨⟨o,e,J.1⟩,fun a d=> ?_⟩
   cases d
   exact⟨o,e,J.2.1⟩
  .obtain⟨o,_,_,_,e,J,_⟩:=I.hok p _ C;refine⟨⟨o,e,J.1⟩,fun a d=> ?_⟩
   cases d
   exact⟨o,e,J.2.1⟩
 | _=>exact False.elim ty
def tBM(K:Frag)(T:String)(r:V->List V->Hp->VK->Prop)(C:TE)(t:TA):TE:=fun Z H Q=>C Z H fun x o=>tyV K T x o/\t Z o fun I J=>r x I J Q
variable {o e : Expr} {es : List Expr} {to : TE} {t : TA} {name : Str} {apos cpos : Pos} {T id : String} {r : V → List V → Hp → VK → Prop}
theorem gH(M:PlainAttrs T)(f:Slot T name id)(i:typeOf (.builtin id)=pure (.type "method_descriptor"))(hm:MtR X id r)(ho:PE X o to)(y:PA X (e::es) t)
  (U:attributeBase o name X.env (eval o X.env)=eval o X.env:=by rfl)
  (d:((backTo cpos (starEach (e::es) X.env)).all (fun x=> !x.1) && (backToKw cpos (keywordEach [] X.env)).all (fun x=>x.1.isSome)
   && decide ((e::es).length+([]:List Keyword).length+(if ([]:List Keyword).isEmpty then 0 else 1)<30))=true:=by rfl)
  (c:(apos.endLine==cpos.line)=true:=by rfl) (hs:starEach (e::es) X.env=(false,eval e X.env)::starEach es X.env:=by rfl) (J:(backTo cpos (starEach es X.env)).any (·.1)=false:=by rfl):
  PE X (.Call (.Attribute o name apos) (e::es) [] cpos) (tBM X.K T r to t):=by
 intro C s Z H Q I h;refine wpAny_Call_method_late U d c rfl (cO (ho C s Z H _ I h) fun v p x B n j g=> ?_)
 obtain⟨ty,F⟩:=g;obtain⟨q,A⟩:=Km n j ty;refine⟨T,id,M,f,i,q,A,?_⟩
 have m:=y cpos C p Z B _ n F;rw[hs] at m ⊢;refine PB (by show(false || (backTo cpos (starEach es X.env)).any (·.1))=false;rw[J] <;> rfl) (Calls.evalArgs_plain ?_)
 exact thn m fun u G ⟨z,w,E,L,D⟩=>hm C G Z w x z v u Q E j L D
end
def MtM(X:Cx)(id:String)(r:V->List V->Hp->VK->Prop):Prop:=
 ∀(o:List (Addr × Obj)) (s:Shared) (Z:St) (H:Hp) (x:V) (C:List V) (v:Value) (I:List Value) (Q:VK),Inv X o Z H s->bv x v->bg C I->r x C H Q->
  wpAny (model X.prog X.w) X.A (call (.builtin id) (v::I)) (EP X o Z Q) X.xe s
theorem bg.one:∀{x:V}{us:List Value},bg [x] us->∃u,us=[u]/\bv x u
 | _,_,.cons r .nil=>⟨_,rfl,r⟩
theorem bg.rep{xs:List V}{us:List Value}(h:bg xs us):∀k:Nat,bg (List.replicate k xs).flatten (List.replicate k us).flatten
 | 0=> .nil
 | k+1=>by
  rw[Nu,Nu,Of,Of];exact bg.append h (bg.rep h k)
theorem yV(o:List Value):∀(k:Nat) (acc:List Value),
  List.foldl (fun J I=>J++I) acc.toArray (List.replicate k o.toArray)=(acc++(List.replicate k o).flatten).toArray
 | 0,acc=>by simp
 | k+1,acc=>by
  have e:acc.toArray++o.toArray=(acc++o).toArray:=by simp
  have C:(acc++o)++(List.replicate k o).flatten=acc++(List.replicate (k+1) o).flatten:=by
   rw[Nu,Of,M4]
  rw[<- C, <-yV o k (acc++o), <-e,Nu,List.foldl_cons]
section
variable {X : Cx} {pins : List (Addr × Obj)} {σ : St} {H : Hp} {s : Shared} {l b : Addr} {xs ys zs : List V}
theorem Inv.lset{o its':List Value}{n:Nat}{f:Array Value->Array Value}{t':Nat}(I:Inv X pins Z H s)(c:H l=some (.lst xs))
  (e:s.heap.get? l=some {cls:= .type "list",data:= .seq o.toArray n}) (J:f o.toArray=its'.toArray) (a:bg ys its') (U:ys.length<=sizeLine):
  Inv X pins Z (upd H l (.lst ys)) {s with heap:=s.heap.update l (Obj.mapSeq f),toks:=t'}:=by
 have q:=PySem.IsL.update e f;rw[J] at q;refine I.write (x:=l) (e:=l) (by rw[c];exact trivial) (.inl rfl) (fun g u C d=>(Pz s.heap (Obj.mapSeq f) (Nb C)).trans d) ⟨_,q⟩ ?_
 exact⟨U,its',_,a,q⟩
theorem Inv.lnew{o:List Value}{t':Nat}(I:Inv X pins Z H s)(C:bg ys o)(J:ys.length<=sizeLine):
  Inv X pins Z (upd H s.heap.objs.size (.lst ys)) {s with heap:=s.heap.push {cls:= .type "list",data:= .seq o.toArray},toks:=t'}:=
 I.laid (fun _ _ q=>MB _ q) (MC _) ⟨J,o,0,C,M6 _ rfl⟩
theorem Inv.fresh(I:Inv X pins Z H s):H s.heap.objs.size=none:=I.hok.fresh (MC _)
theorem Inv.lstM(I:Inv X pins Z H s)(C:H l=some (.lst xs)):xs.length<=sizeLine/\∃(o:List Value) (n:Nat),bg xs o/\xs.length=o.length/\s.heap.get? l=some {cls:= .type "list",data:= .seq o.toArray n}:=by
 obtain⟨z,o,n,r,e⟩:=I.hok l _ C;exact⟨z,o,n,r,r.length,e⟩
theorem B2{n:Nat}(h:n<=sizeLine):Builtin.List.listTooLong n=false:=by
 unfold Builtin.List.listTooLong;exact MG (by lia)
end
section
variable {X : Cx}
def IM:V->List V->Hp->VK->Prop:=fun x C H Q=>∃l o y,x= .ref l/\C=[y]/\H l=some (.lst o)/\o.length<sizeLine/\Q .non (upd H l (.lst (o++[y])))
theorem cC:MtM X "list.append" IM:=by
 intro C s Z H x i v g Q I U b h;obtain⟨l,d,y,rfl,rfl,J,f,q⟩:=h
 cases U
 obtain⟨u,rfl,a⟩:=b.one;obtain⟨z,o,n,r,c,e⟩:=I.lstM J;refine O0 F.slot_list_append ⟨_,e,rfl⟩ F.entry_list_append (F.args_list_append_2 _ _) (PySem.list_append l o.toArray n u (by rw[MI];lia)) ⟨e,?_⟩
 refine⟨.non,_,I.lset (its':=o++[u]) J e (by simp) (r.append (.cons a .nil)) ?_,rfl,q⟩
 rw[MA,Nv]
 lia
def Ip:V->List V->Hp->VK->Prop:=fun x I H Q=>∃l b o C,x= .ref l/\I=[.ref b]/\H l=some (.lst o)/\H b=some (.lst C)/\o.length+C.length<=sizeLine/\Q .non (upd H l (.lst (o++C)))
theorem tL:MtM X "list.extend" Ip:=by
 intro a s Z H x E v D Q I f i h;obtain⟨l,b,A,w,rfl,rfl,c,j,B,q⟩:=h
 cases f
 obtain⟨u,rfl,g⟩:=i.one
 cases g
 obtain⟨z,C,n,r,y,e⟩:=I.lstM c;obtain⟨z2,o,n2,m,p,d⟩:=I.lstM j;have U:C.toArray.size+o.toArray.size<=sizeLine:=by rw[MI,MI];lia
 have J:¬(!C.toArray.isEmpty && Builtin.List.listTooLong (C.toArray.size+o.toArray.size))=true:=by
  rw[B2 U,Bool.and_false];exact MP
 refine O0 F.slot_list_extend ⟨_,e,rfl⟩ F.entry_list_extend (F.args_list_extend_2 _ _)
  (AutoSeq1.list_extend_list_list_0 l C.toArray n b o.toArray n2 J (by rw[MI];lia) (by lia)) ⟨e,d,?_⟩
 refine⟨.non,_,I.lset (its':=C++o) c e (by simp) (r.append m) ?_,rfl,q⟩
 rw[MA]
 lia
def Ma:R2:=fun x y H Q=>∃l b o C,x= .ref l/\y= .ref b/\H l=some (.lst o)/\H b=some (.lst C)/\o.length+C.length<=sizeLine/\∀p,H p=none->Q (.ref p) (upd H p (.lst (o++C)))
theorem o5:OpR X (binaryOp .Add) Ma:=by
 intro J s Z H x y v u Q I c j h;obtain⟨l,b,w,m,rfl,rfl,f,d,A,q⟩:=h
 cases c
 cases j
 obtain⟨z,C,n,r,p,e⟩:=I.lstM f;obtain⟨z2,o,n2,g,i,U⟩:=I.lstM d;refine PySem.P.add_list e U ?_ (by rw[MI,MI];lia)
 have a:C.toArray++o.toArray=(C++o).toArray:=by simp
 rw[a];exact⟨.ref _,_,I.lnew (t':=s.toks) (r.append g) (by rw[MA];lia),rfl,q _ I.fresh⟩
def LX:R2:=fun x y H Q=>∃l k o,x= .ref l/\y= .int k/\H l=some (.lst o)/\ -(2^63)<=k/\k<2^63/\o.length*k.toNat<=sizeLine/\
 ∀p,H p=none->Q (.ref p) (upd H p (.lst (List.replicate k.toNat o).flatten))
theorem IC{o:Type}(xs:List o)(k:Nat):(List.replicate k xs).flatten.length=k*xs.length:=by
 induction k with
 | zero=>simp
 | succ k ih=>rw[Nu,Of,MA,ih,QO,Nat.add_comm]
theorem CY:OpR X (binaryOp .Mult) LX:=by
 intro j s Z H x y v u Q I A G h;obtain⟨l,k,K,rfl,rfl,D,p,B,i,q⟩:=h
 cases A
 obtain⟨t,rfl⟩:=G;obtain⟨z,o,n,r,w,e⟩:=I.lstM D;have c:o.toArray.size*k.toNat<=sizeLine:=by rw[MI, <-w];exact i
 have d:¬o.toArray.size*k.toNat >(2^63 - 1) / 8:=by
  have:(sizeLine:Nat)<=(2^63 - 1) / 8:=by decide
  lia
 have b:¬(!Builtin.List.listFitsIndex k)=true:=by
  rw[fitsIndex_both p B];exact MP
 have C:¬Builtin.List.listTooLong (o.toArray.size*k.toNat)=true:=by
  rw[B2 c];exact MP
 have J:List.foldl (fun f g=>f++g) #[] (List.replicate (if o.toArray.isEmpty=true then 0 else k.toNat) o.toArray)=(List.replicate k.toNat o).flatten.toArray:=by
  have f0:∀m:Nat,List.foldl (fun f g=>f++g) #[] (List.replicate m o.toArray)=(List.replicate m o).flatten.toArray:=fun m=>by
   have:=yV o m [];rw[List.nil_append] at this;exact this
  rw[f0]
  cases o with
  | nil=>simp
  | cons a r'=>rw[mC (by simp)]
 refine wpAny_binaryOp_repeat_ref (T:="list") (U:="int") (by decide) ⟨_,e,rfl⟩ (fun E=>typeIs_int E k t) noFill_list_mul F.fills_int_mul F.slot_int_rmul repeat_list F.slot_int_index.lookup
  (O0 F.slot_int_rmul (typeIs_int s k t) F.entry_int_rmul (F.args_int_rmul_2 _ _) (int___rmul___int_list k t l o.toArray n)
   ⟨e,rfl,⟨_,e,rfl⟩,O0 F.slot_list_mul ⟨_,e,rfl⟩ F.entry_list_mul (F.args_list_mul_2 _ _) (AutoListH.list___mul___list_int_3 l o.toArray n k t b d C) ⟨e,?_⟩⟩)
 rw[J];exact⟨.ref _,_,I.lnew (t':=s.toks) (r.rep k.toNat) (by rw[IC,Nat.mul_comm];exact i),rfl,q _ I.fresh⟩
end
section
variable {κ : Type} [DecidableEq κ]
noncomputable def eZ(kvs:List (κ × V))(k:κ):Option V:=(kvs.find? fun o=>decide (o.1=k)).map (·.2)
noncomputable def dw(kvs:List (κ × V))(k:κ)(v:V):List (κ × V):=
 if (kvs.any fun o=>decide (o.1=k))=true then kvs.map (fun o=>if o.1=k then(o.1,v) else o) else kvs++[(k,v)]
theorem iU{p:κ × V}{r:List (κ × V)}{k:κ}(e:p.1=k):eZ (p::r) k=some p.2:=by simp [eZ,NX,e]
theorem gD{p:κ × V}{r:List (κ × V)}{k:κ}(e:¬p.1=k):eZ (p::r) k=eZ r k:=by simp [eZ,NX,e]
theorem rj(k:κ):∀kvs:List (κ × V),(kvs.any fun o=>decide (o.1=k))=(eZ kvs k).isSome
 | []=>rfl
 | p::r=>by
  rw[OJ]
  by_cases e:p.1=k
  .simp only[iU e,MO e,Bool.true_or,Option.isSome_some]
  .rw[gD e,MG e,Qn];exact rj k r
theorem oU(kvs:List (κ × V))(k:κ)(v:V):(dw kvs k v).length<=kvs.length+1:=by
 unfold dw
 split
 .rw[fI];lia
 .rw[MA,MU,Nl];lia
theorem G1{kvs:List (κ × V)}{k:κ}(v:V)(h:eZ kvs k=none):dw kvs k v=kvs++[(k,v)]:=by
 unfold dw;rw[rj,h];exact mC (by decide)
theorem nD.isSome_eq{o:Option V}{u:Option Value}(r:nD o u):o.isSome=u.isSome:=by
 cases o with
 | none=>cases u with
  | none=>rfl
  | some _=>exact(show False from r).elim
 | some _=>cases u with
  | none=>exact(show False from r).elim
  | some _=>rfl
theorem nD.getD{o:Option V}{u:Option Value}{d:V}{d':Value}(r:nD o u)(C:bv d d'):bv (o.getD d) (u.getD d'):=by
 cases o with
 | none=>cases u with
  | none=>exact C
  | some _=>exact(show False from r).elim
 | some _=>cases u with
  | none=>exact(show False from r).elim
  | some _=>exact r
theorem KV.val{kvs:List (κ × V)}{vs:List (κ × Value)}(r:KV kvs vs)(k:κ):nD (eZ kvs k) (valueAt vs k):=by
 unfold KV at r
 induction r with
 | nil=>exact True.intro
 | @cons p q ps qs h t ih=>
  obtain⟨o,C⟩:=h
  by_cases e:p.1=k
  .have e':q.1=k:=o.symm.trans e;have b:valueAt (q::qs) k=some q.2:=by simp [valueAt,NX,e']
   rw[iU e,b];exact C
  .have e':¬q.1=k:=fun z=>e (o.trans z)
   have b:valueAt (q::qs) k=valueAt qs k:=by simp [valueAt,NX,e']
   rw[gD e,b];exact ih
theorem KV.any{kvs:List (κ × V)}{vs:List (κ × Value)}(r:KV kvs vs)(k:κ):(kvs.any fun o=>decide (o.1=k))=vs.any fun o=>decide (o.1=k):=by
 unfold KV at r
 induction r with
 | nil=>rfl
 | cons h t ih=>rw[OJ,OJ,ih,h.1]
theorem KV.repl{kvs:List (κ × V)}{vs:List (κ × Value)}(r:KV kvs vs)(k:κ){y:V}{u:Value}(J:bv y u):
  KV (kvs.map fun o=>if o.1=k then(o.1,y) else o) (vs.map fun o=>if o.1=k then(o.1,u) else o):=by
 unfold KV at r ⊢
 induction r with
 | nil=>exact .nil
 | @cons p q ps qs h t ih=>
  rw[Nd,Nd];refine .cons ?_ ih
  obtain⟨C,I⟩:=h
  by_cases e:p.1=k
  .rw[ME e,ME (C.symm.trans e)];exact⟨C,J⟩
  .rw[mC e,mC (fun z=>e (C.trans z))];exact⟨C,I⟩
theorem KV.put{kvs:List (κ × V)}{vs:List (κ × Value)}(r:KV kvs vs)(k:κ){y:V}{u:Value}(o:bv y u):KV (dw kvs k y) (stored vs k u):=by
 unfold dw stored;rw[r.any k]
 by_cases e:(vs.any fun C=>decide (C.1=k))=true
 .rw[ME e,ME e];exact r.repl k o
 .rw[mC e,mC e];exact Paired.snoc r ⟨rfl,o⟩
theorem KV.keys{kvs:List (κ × V)}{vs:List (κ × Value)}(r:KV kvs vs):kvs.map (·.1)=vs.map (·.1):=by
 unfold KV at r
 induction r with
 | nil=>rfl
 | cons h t ih=>rw[Nd,Nd,ih,h.1]
theorem KV.length{kvs:List (κ × V)}{vs:List (κ × Value)}(r:KV kvs vs):kvs.length=vs.length:=Qh r
end
theorem D3{P:Program}{w:World}{k:Key}{u:Value}(r:bv (kV k) u):(cr P w).is k u=true:=by
 cases k with
 | inl i=>obtain⟨t,e⟩:=(show ∃t,u=Value.int i t from r);subst e;exact AQ P w i t
 | inr x=>obtain⟨t,e⟩:=(show ∃t,u=Value.str x t from r);subst e;exact uB P w x t
theorem yu{P:Program}{w:World}:∀{o:List Key}{us:List Value},bg (o.map kV) us->ItemsAre (cr P w) o us
 | [],_,r=>by rw[OU] at r;cases r;exact .nil
 | k::o,_,r=>by
  rw[Nd] at r
  cases r with
  | cons h t=>exact .cons (D3 h) (yu t)
abbrev KT(H:Hp):List (List Key × V)->List (List Key × Addr × Value)->Prop:=Paired fun p q=>p.1=q.1/\H q.2.1=some (.tup (p.1.map kV))/\bv p.2 q.2.2
theorem KT.val{H:Hp}{kvs:List (List Key × V)}{xs:List (List Key × Addr × Value)}(r:KT H kvs xs)(k:List Key):nD (eZ kvs k) ((atKey xs k).map (·.2)):=by
 induction r with
 | nil=>exact True.intro
 | @cons p q ps qs h t ih=>
  obtain⟨o,_,C⟩:=h
  by_cases e:p.1=k
  .have e':q.1=k:=o.symm.trans e;have b:atKey (q::qs) k=some q.2:=by simp [atKey,NX,e']
   rw[iU e,b];exact C
  .have e':¬q.1=k:=fun z=>e (o.trans z)
   have b:atKey (q::qs) k=atKey qs k:=by simp [atKey,NX,e']
   rw[gD e,b];exact ih
theorem KT.repl{H:Hp}{kvs:List (List Key × V)}{xs:List (List Key × Addr × Value)}(r:KT H kvs xs)(k:List Key){y:V}{u:Value}(J:bv y u):
  KT H (kvs.map fun C=>if C.1=k then(C.1,y) else C) (xs.map (putAt k u)):=by
 induction r with
 | nil=>exact .nil
 | @cons p q ps qs h t ih=>
  rw[Nd,Nd];refine .cons ?_ ih
  obtain⟨o,I,U⟩:=h;unfold putAt
  by_cases e:p.1=k
  .rw[ME e,ME (o.symm.trans e)];exact⟨o,I,J⟩
  .rw[mC e,mC (fun z=>e (o.trans z))];exact⟨o,I,U⟩
theorem KT.put{H:Hp}{kvs:List (List Key × V)}{xs:List (List Key × Addr × Value)}(r:KT H kvs xs)(k:List Key){b:Addr}{y:V}{u:Value}(I:H b=some (.tup (k.map kV)))(o:bv y u):
  KT H (dw kvs k y) (storedH xs k b u):=by
 have e:(kvs.any fun C=>decide (C.1=k))=(atKey xs k).isSome:=by
  rw[rj,(r.val k).isSome_eq,Option.isSome_map]
 unfold dw storedH;rw[e]
 by_cases q:(atKey xs k).isSome=true
 .rw[ME q,ME q];exact r.repl k o
 .rw[mC q,mC q];exact Paired.snoc r ⟨rfl,I,o⟩
theorem KT.keeps{H o:Hp}{kvs:List (List Key × V)}{xs:List (List Key × Addr × Value)}(r:KT H kvs xs)(C:∀b ys,H b=some (.tup ys)->o b=some (.tup ys)):KT o kvs xs:=
 Paired.mapP r fun _ _ z=>⟨z.1,C _ _ z.2.1,z.2.2⟩
section
variable {P : Program} {w : World} {H : Hp} {h : Heap} {a : Addr}
theorem JL{u:HO}(ok:HOk P w H h)(e:Rd H a u):dU P w H h a u:=e.ok ok
theorem qj{kvs:List (Key × V)}(ok:HOk P w H h)(e:Rd H a (.dK kvs)):kvs.length<=sizeLine/\(a==sysModules)=false/\∃vs,KV kvs vs/\h.DictOf (cr P w) a vs:=
 show dU P w H h a (.dK kvs) from JL ok e
theorem Gs{kvs:List (Key × V)}(ok:HOk P w H h)(e:H a=some (.dK kvs)):kvs.length<=sizeLine/\(a==sysModules)=false/\∃vs,KV kvs vs/\h.DictOf (cr P w) a vs:=qj ok (.inl e)
theorem zy{I:List Key}(ok:HOk P w H h)(e:H a=some (.tup (I.map kV))):(tupleKind (cr P w)).is h I a:=by
 obtain⟨_,C,r,o,U,J,n,b⟩:=(show dU P w H h a (.tup (I.map kV)) from ok a _ e);exact⟨o,C.toArray,n,U,J,b,by simpa using yu r⟩
theorem Bh{kvs:List (List Key × V)}(ok:HOk P w H h)(e:Rd H a (.dT kvs)):kvs.length<=sizeLine/\(a==sysModules)=false/\
  ∃xs,KT H kvs xs/\h.DictOfH (tupleKind (cr P w)) a xs:=by
 obtain⟨z,y,xs,r,o,d,I,J,c,U,b,f⟩:=(show dU P w H h a (.dT kvs) from JL ok e);refine⟨z,y,xs,r,o,d,I,J,c,U,b,fun x C=> ?_,f⟩
 have all:∀{l:List (List Key × V)}{m:List (List Key × Addr × Value)},KT H l m->∀x∈m,(tupleKind (cr P w)).is h x.1 x.2.1:=by
  intro l m q
  induction q with
  | nil=>intro x C;exact nomatch C
  | @cons p q ps qs hq t ih=>
   intro x C;rcases M3.mp C with e | C
   .subst e;exact zy ok (by rw[<- hq.1];exact hq.2.1)
   .exact ih x C
 exact all r x C
theorem LQ{kvs:List (List Key × V)}(ok:HOk P w H h)(e:H a=some (.dT kvs)):kvs.length<=sizeLine/\(a==sysModules)=false/\
  ∃xs,KT H kvs xs/\h.DictOfH (tupleKind (cr P w)) a xs:=Bh ok (.inl e)
end
def wR(H:Hp)(a:Addr)(y:V)(r:Option V):Prop:=
 (∃o k,Rd H a (.dK o)/\y=kV k/\r=eZ o k)\/∃o k b,Rd H a (.dT o)/\y= .ref b/\H b=some (.tup (k.map kV))/\r=eZ o k
def tI(H:Hp)(a:Addr)(y v:V)(C:Hp):Prop:=
 (∃o k,H a=some (.dK o)/\y=kV k/\o.length<sizeLine/\C=upd H a (.dK (dw o k v)))\/
 ∃o k b,H a=some (.dT o)/\y= .ref b/\H b=some (.tup (k.map kV))/\o.length<sizeLine/\C=upd H a (.dT (dw o k v))
theorem wR.k{H:Hp}{a:Addr}{kvs:List (Key × V)}{k:Key}(e:H a=some (.dK kvs)):wR H a (kV k) (eZ kvs k):= .inl ⟨kvs,k,.inl e,rfl,rfl⟩
theorem tI.k{H:Hp}{a:Addr}{kvs:List (Key × V)}{k:Key}{v:V}(e:H a=some (.dK kvs))(o:kvs.length<sizeLine):tI H a (kV k) v (upd H a (.dK (dw kvs k v))):= .inl ⟨kvs,k,e,rfl,o,rfl⟩
theorem tI.t{H:Hp}{a b:Addr}{kvs:List (List Key × V)}{k:List Key}{v:V}(e:H a=some (.dT kvs))(o:H b=some (.tup (k.map kV)))(C:kvs.length<sizeLine):
  tI H a (.ref b) v (upd H a (.dT (dw kvs k v))):= .inr ⟨kvs,k,b,e,rfl,o,C,rfl⟩
section
variable {X : Cx} {pins : List (Addr × Obj)} {σ : St} {H : Hp} {s : Shared} {a : Addr} {y v : V} {u r : Value} {o : Option V} {A : Around} {E : Value → Shared → Prop}
theorem Inv.big(I:Inv X pins Z H s):sysModules<s.heap.objs.size:=by
 have h:mainGlobals<s.heap.objs.size:=(I.mod.glob.keeps I.bk).lt;exact Nat.lt_trans (by decide) h
theorem EM{Q:Value->Shared->Prop}(x:A.units+1<cLine)(I:Inv X pins Z H s)(g:wR H a y (some v))(i:bv y u)(h:∀w' f,Inv X pins Z H f->bv v w'->Q w' f):
  wpAny (model X.prog X.w) A (getItem (.ref a) u) Q E s:=by
 rcases g with⟨c,k,e,U,l⟩|⟨c,k,b,e,U,q,l⟩
 .subst U;obtain⟨z,hd,m,J,dd⟩:=qj I.hok e;obtain⟨w',hw,C⟩:=nD.some_of (v:=v) (o:=valueAt m k) (by rw[l];exact J.val k)
  exact wpAny_getItem_of (D3 i) dd.mapOf hw (h w' _ (I.tok _) C)
 .subst U
  cases(show u=Value.ref b from i)
  obtain⟨z,hd,j,J,dd⟩:=Bh I.hok e;obtain⟨w',hw,C⟩:=nD.some_of (v:=v) (o:=(atKey j k).map (·.2)) (by rw[l];exact J.val k)
  obtain⟨p,n,d⟩:=Option.map_eq_some_iff.mp hw;refine wpAny_getItem_heap (O1 x) (zy I.hok q) dd n ?_
  rw[d];exact h w' _ (I.tok _) C
theorem zU{h':Heap}{t':Nat}{C:HO}(I:Inv X pins Z H s)(U:Mut (H a))(hs:Heap.SameBut a s.heap h')(c:∃q,h'.get? a=some q)(new:dU X.prog X.w (upd H a C) h' a C):
  Inv X pins Z (upd H a C) {s with heap:=h',toks:=t'}:=
 I.write (x:=a) (e:=a) U (.inl rfl) (fun b q J z=>(hs.2 b J).trans z) c new
theorem C6{P:Program}{w:World}{I:Hp}{h':Heap}{kvs:List (Key × V)}{vs:List (Key × Value)}(z:kvs.length<=sizeLine)(hd:(a==sysModules)=false)(C:KV kvs vs)(dd:h'.DictOf (cr P w) a vs):
  dU P w I h' a (.dK kvs):=⟨z,hd,vs,C,dd⟩
theorem EH{F:Hp}{Q:Unit->Shared->Prop}(S:A.units+1<cLine)(I:Inv X pins Z H s)(g:tI H a y v F)(G:bv y u)(x:bv v r)(h:∀D,Inv X pins Z F D->Q () D):
  wpAny (model X.prog X.w) A (setItem (.ref a) u r) Q E s:=by
 rcases g with⟨C,k,e,m,l,f⟩|⟨C,k,b,e,m,p,l,f⟩
 .subst m f;obtain⟨z,hd,P,J,dd⟩:=Gs I.hok e;have j:P.length<=sizeLine:=by rw[<- J.length];exact z
  have i:(dw C k v).length<=sizeLine:=by have:=oU C k v;lia
  refine wpAny_setItem_pairs (hsz:=j) (D3 G) dd fun n U hs=>h _ ?_
  have O:∃q,n.get? a=some q:=let ⟨q,_,_,d,_⟩:=U;⟨q,d⟩
  exact zU I (by rw[e];exact True.intro) hs O (C6 i hd (J.put k x) U)
 .subst m f
  cases(show u=Value.ref b from G)
  obtain⟨z,hd,M,J,dd⟩:=LQ I.hok e;have j:M.length<=sizeLine:=by rw[<- Qh J];exact z
  have i:(dw C k v).length<=sizeLine:=by have:=oU C k v;lia
  refine wpAny_setItem_heap (hsz:=j) (O1 S) (zy I.hok p) dd fun n U hs=>h _ ?_
  obtain⟨q,T,K,d,R,L,N,_,Y⟩:=U;refine zU I (by rw[e];exact True.intro) hs ⟨q,d⟩ ⟨i,hd,_,(J.put k p x).keeps fun c ys B=> ?_,q,T,K,d,R,L,N,Y⟩
  rw[aj (eC B e (fun z=>nomatch z))]
  exact B
end
def LG(i:Expr):Prop:=∀C o,subscripted i false C o=operate [C,o] (getItem C o)
theorem Ii{prog:Program}{w:World}{A:Around}{E:Value->Shared->Prop}{s:Shared}{env:Env}{I C:Expr}{e:Pos}{T id:String}{Q:Value->Shared->Prop}
  (g:typeLookup (.type T) "__getitem__"=pure (some (.builtin id))) (hs:LG C)
  (h:wpAny (model prog w) A (eval I env) (fun o b=>wpAny (model prog w) A (eval C env) (fun i J=>J.TypeIs o T/\wpAny (model prog w) A (getItem o i) Q E J) E b) E s):
  wpAny (model prog w) A (eval (.Subscript I C e) env) Q E s:=by
 refine Subscript_ (ND h (fun o b d=>ND d (fun i J U=> ?_) fun _ _ x=>x) fun _ _ x=>x)
 obtain⟨f,U⟩:=U;unfold subscriptTail;refine mF ?_
 rw[getitemInPython_of_ne f.not_modules];refine mF (wpAny_specialOf f g ?_)
 have fin:wpAny (model prog w) A (subscripted C false o i) (fun r a=>wpAny (model prog w) A (letTemporaryGo I o r >>= fun _=>pure r) Q E a) E J:=by
  rw[hs o i];exact wpAny_operating (ND U (fun r a c=>mF (wpAny_letTemporaryGo (MQ c))) fun _ _ x=>x)
 first
  | exact MQ (mF fin)
  | exact mF (MQ (mF fin))
  | exact mF fin
theorem CJ{X:Cx}{C:List (Addr × Obj)}{Z:St}{H:Hp}{s:Shared}{a:Addr}{y:V}{o:Option V}(I:Inv X C Z H s)(g:wR H a y o):s.TypeIs (.ref a) "dict":=by
 rcases g with⟨J,k,e,_,_⟩|⟨J,k,b,e,_,_,_⟩
 .obtain⟨_,_,vs,_,dd⟩:=qj I.hok e;exact dd.typeIs
 .obtain⟨_,_,xs,_,dd⟩:=Bh I.hok e;exact dd.typeIs
def LM(I ty:TE):TE:=fun Z H Q=>I Z H fun x C=>ty Z C fun y o=>∃a v,x= .ref a/\wR o a y (some v)/\Q v o
def LB(I ty U:TE):TS:=fun D Z H=>U Z H fun v C=>I Z C fun x b=>ty Z b fun y J=>∃a o,x= .ref a/\tI J a y v o/\D.nx Z o
section
variable {X : Cx} {o i e value : Expr} {pos pos' tpos : Pos} {td ty tv : TE}
theorem zE(w:X.A.units+1<cLine)(ho:PE X o td)(c:PE X i ty)(hs:LG i):PE X (.Subscript o i pos) (LM td ty):=by
 intro C s Z H Q I h;refine Ii PySem.F.slot_dict_getitem.lookup hs (cO (ho C s Z H _ I h) fun u d x n q m r=>cO (c C d Z n _ q r) fun K E y f b B J=> ?_)
 obtain⟨a,v,j,g,p⟩:=J;subst j;obtain rfl:u=Value.ref a:=m;exact⟨CJ b g,EM w b g B fun D G z U=>⟨v,f,z,U,p⟩⟩
theorem vW(K:X.A.units+1<cLine)(ho:PE X o td)(U:PE X i ty)(c:PE X value tv)(hs:swapsWith value (some (.Subscript o i pos')) pos.line X.env=pure false):
  PS X (.Assign [.Subscript o i pos'] value pos) (LB td ty tv):=by
 intro C s Z H D I h;refine wpAny_Assign_Subscript (cO (c C s Z H _ I h) fun r b v p E q F=>cO (ho C b Z p _ E F) fun u G x f B m z=>cO (U C G Z f _ B z) fun P O y N L M J=> ?_) hs
 obtain⟨a,d,j,g,w⟩:=J;subst j;obtain rfl:u=Value.ref a:=m;exact EH K L g M q fun Q n=>⟨Z,d,n,w⟩
end
theorem G0{P:Program}{w:World}{H:Hp}(h:Heap)(o:sysModules<h.objs.size):dU P w H (h.push {cls:= .type "dict",data:= .dict #[]}) h.objs.size (.dK []):=
 ⟨Na _,Nt.mpr (Nb (M5 o)),[],.nil,Heap.DictOf.new h⟩
theorem Gy{P:Program}{w:World}{H:Hp}(h:Heap)(o:sysModules<h.objs.size):dU P w H (h.push {cls:= .type "dict",data:= .dict #[]}) h.objs.size (.dT []):=
 ⟨Na _,Nt.mpr (Nb (M5 o)),[],.nil,_, #[],0,M6 _ rfl,⟨rfl,rfl,rfl⟩,rfl,rfl,O2⟩
def Kt:TE:=fun _ H Q=>∀p,H p=none->Q (.ref p) (upd H p (.dK []))
def Kq:TE:=fun _ H Q=>∀p,H p=none->Q (.ref p) (upd H p (.dT []))
section
variable {X : Cx} {pos : Pos}
theorem Bg:PE X (.Dict [] [] pos) Kt:=fun C s Z H Q I h=>
 wpAny_Dict_empty ⟨.ref s.heap.objs.size,_,I.laid (a:=s.heap.objs.size) (o:= .dK []) (t':=s.toks) (fun _ _ q=>MB _ q) (MC _) (G0 s.heap I.big),rfl,h _ (I.hok.fresh (MC _))⟩
theorem GT:PE X (.Dict [] [] pos) Kq:=fun C s Z H Q I h=>
 wpAny_Dict_empty ⟨.ref s.heap.objs.size,_,I.laid (a:=s.heap.objs.size) (o:= .dT []) (t':=s.toks) (fun _ _ q=>MB _ q) (MC _) (Gy s.heap I.big),rfl,h _ (I.hok.fresh (MC _))⟩
end
noncomputable def cP(kvs o:List (Key × V)):List (Key × V):=o.foldl (fun acc C=>dw acc C.1 C.2) kvs
theorem KV.merge:∀{o:List (Key × V)}{C:List (Key × Value)}{kvs:List (Key × V)}{vs:List (Key × Value)},KV o C->KV kvs vs->KV (cP kvs o) (merged vs C):=by
 intro o C kvs vs r;unfold KV at r
 induction r generalizing kvs vs with
 | nil=>intro q;exact q
 | @cons p q ps qs h t ih=>
  intro I;have e:KV (dw kvs p.1 p.2) (stored vs q.1 q.2):=by
   have:=I.put p.1 h.2;rw[<- h.1];exact this
  exact ih e
theorem fN:∀(o kvs:List (Key × V)),(cP kvs o).length<=kvs.length+o.length
 | [],kvs=>by show kvs.length<=kvs.length+0;lia
 | p::r,kvs=>by
  have I:=fN r (dw kvs p.1 p.2);have C:=oU kvs p.1 p.2;show(cP (dw kvs p.1 p.2) r).length<=_
  rw[MU];lia
structure M1 (X:Cx) (o:Expr) (m:Str) (apos:Pos) (e:Expr) (cpos:Pos):Prop where
 base:attributeBase o m X.env (eval o X.env)=eval o X.env
 few:((backTo cpos (starEach [e] X.env)).all (fun x=> !x.1) && (backToKw cpos (keywordEach [] X.env)).all (fun x=>x.1.isSome)
  && decide (([e]:List Expr).length+([]:List Keyword).length+(if ([]:List Keyword).isEmpty then 0 else 1)<30))=true
 line:(apos.endLine==cpos.line)=true
 trees:backTo cpos (starEach [e] X.env)=[(false,eval e X.env)]
structure M2 (X:Cx) (o:Expr) (m:Str) (apos:Pos) (e f:Expr) (cpos:Pos):Prop where
 base:attributeBase o m X.env (eval o X.env)=eval o X.env
 few:((backTo cpos (starEach [e,f] X.env)).all (fun x=> !x.1) && (backToKw cpos (keywordEach [] X.env)).all (fun x=>x.1.isSome)
  && decide (([e,f]:List Expr).length+([]:List Keyword).length+(if ([]:List Keyword).isEmpty then 0 else 1)<30))=true
 line:(apos.endLine==cpos.line)=true
 trees:backTo cpos (starEach [e,f] X.env)=[(false,eval e X.env),(false,eval f X.env)]
def IsD(H:Hp)(a:Addr):Prop:=(∃o,Rd H a (.dK o))\/∃o,Rd H a (.dT o)
theorem Kk{X:Cx}{C:List (Addr × Obj)}{Z:St}{H:Hp}{s:Shared}{a:Addr}(I:Inv X C Z H s)(d:IsD H a):
  s.TypeIs (.ref a) "dict"/\(∀b,Value.ref a= .ref b->∃o,s.heap.get? b=some o/\o.dict=none)/\(a==sysModules)=false:=by
 rcases d with⟨c,e⟩|⟨c,e⟩
 .obtain⟨_,hd,vs,_,dd⟩:=qj I.hok e;refine⟨dd.typeIs,fun b q=> ?_,hd⟩
  cases q
  obtain⟨o,_,_,U,J,_⟩:=dd;exact⟨o,U,J.2.1⟩
 .obtain⟨_,hd,xs,_,dd⟩:=Bh I.hok e;refine⟨dd.typeIs,fun b q=> ?_,hd⟩
  cases q
  obtain⟨o,_,_,U,J,_⟩:=dd;exact⟨o,U,J.2.1⟩
section
variable {X : Cx} {pins : List (Addr × Obj)} {σ : St} {H : Hp} {s : Shared} {a : Addr} {y d : V} {u r : Value} {o : Option V} {A : Around} {E : Value → Shared → Prop}
theorem Ka{Q:Value->Shared->Prop}(n:A.units+1<cLine)(I:Inv X pins Z H s)(g:wR H a y o)(i:bv y u)(c:bv d r)(h:∀w' f,Inv X pins Z H f->bv (o.getD d) w'->Q w' f):
  wpAny (model X.prog X.w) A (call (.builtin "dict.get") [.ref a,u,r]) Q E s:=by
 rcases g with⟨U,k,e,J,l⟩|⟨U,k,b,e,J,m,l⟩
 .subst J;obtain⟨z,hd,p,C,dd⟩:=qj I.hok e;refine QP OC dd.typeIs PD (Pq _ _ _) (meets_dict_get_default (cr X.prog X.w) a (D3 i) hd r) ⟨_,dd.mapOf,h _ _ (I.tok _) ?_⟩
  rw[l];exact(C.val k).getD c
 .subst J
  cases(show u=Value.ref b from i)
  obtain⟨z,hd,j,C,dd⟩:=Bh I.hok e;refine QP OC dd.typeIs PD (Pq _ _ _) (meetsH_dict_get_default (tupleKind (cr X.prog X.w)) a b hd r) ⟨O1 n,k,j,zy I.hok m,dd,h _ _ (I.tok _) ?_⟩
  rw[l];exact(C.val k).getD c
end
def KB(J ty b:TE):TE:=fun Z H Q=>J Z H fun x C=>∃a,x= .ref a/\IsD C a/\ty Z C fun y U=>b Z U fun z I=>∃o,wR I a y o/\Q (o.getD z) I
section
variable {X : Cx} {o e f : Expr} {apos cpos : Pos} {td ty tx : TE}
theorem Hk(O:X.A.units+1<cLine)(ho:PE X o td)(n:PE X e ty)(j:PE X f tx)(m:M2 X o "get" apos e f cpos):PE X (.Call (.Attribute o "get" apos) [e,f] [] cpos) (KB td ty tx):=by
 intro C s Z H Q I h;refine wpAny_Call_method m.base m.few m.line Pr OC PySem.F.type_dict_get (cO (ho C s Z H _ I h) fun u c x D b w J=> ?_)
 obtain⟨a,r,d,M⟩:=J;subst r;obtain rfl:u=Value.ref a:=w;obtain⟨v,p,_⟩:=Kk b d;refine⟨v,p,?_⟩
 rw[m.trees]
 refine PB rfl (Calls.evalArgs_plain (OZ (cO (n C c Z D _ b M) fun iv N y q K R G=>
  OZ (thn (j C N Z q _ K G) fun Y s3 ⟨z,i,P,L,T,g,E⟩=>Calls.spliced_nil ?_))))
 exact Ka O P g R L fun S s4 B U=>⟨_,i,B,U,E⟩
end
section
variable {X : Cx} {pins : List (Addr × Obj)} {σ : St} {H : Hp} {s : Shared} {a : Addr} {kvs : List (Key × V)} {A : Around} {E : Value → Shared → Prop}
theorem F5{Q:Value->Shared->Prop}(I:Inv X pins Z H s)(e:Rd H a (.dK kvs))(h:∀p U,H p=none->Inv X pins Z (upd H p (.dK kvs)) U->Q (.ref p) U):wpAny (model X.prog X.w) A (call (.type "dict") [.ref a]) Q E s:=by
 obtain⟨z,hd,d,C,dd⟩:=qj I.hok e;refine kt_call_dict hd dd (by rw[<- C.length];exact z) fun f J hs=> ?_
 refine h _ _ (I.hok.fresh (MC _)) (I.laid (a:=s.heap.objs.size) (o:= .dK kvs) (t':=s.toks) (fun b q c=> ?_) (MC _) (C6 z (Nt.mpr (Nb (M5 I.big))) C J))
 exact(hs.2 b (M5 (MK c))).trans (MB _ c)
end
end L2
namespace Att
open PySem PySem.W PySem.Calls PyProof.Rows
theorem vD{P:Params}{h:Heap}:∀(ns:List Int) (vs:List Value),WellAll P h vs (ns.map WData.int)->IntsAre vs ns:=by
 intro ns
 induction ns with
 | nil=>
  intro vs w;rw[OU] at w
  cases w
  exact .nil
 | cons n ns ih=>
  intro vs w;rw[Nd] at w
  cases w with
  | cons a b=>
   cases a
   exact .cons _ _ (ih _ b)
theorem Fp{l:OpenLaw}{n:Nat}(f:l.most=some n){P:Params}{h:Heap}{args:List WData}{o:List Value}
  (C:l.row.toRowW.claim.pre args=true) (c:WellAll P h o args):
  ∃a vs ns,o=[Value.ref a]/\args=[WData.list (ns.map WData.int)]/\h.get? a=some {cls:= .type "list",data:= .seq vs.toArray}/\IntsAre vs ns/\ns.length<=n:=by
 have b:WShape.hasAll [] args [.list .int]=true:=(pre_splitW C).1;have e:l.pre.holds [] {args:=args}=true:=(pre_splitW C).2;obtain⟨d,r,rfl,g,m⟩:=hasAllW_cons b;obtain rfl:=hasAllW_nil m;obtain⟨p,rfl,i⟩:=hasW_list g;obtain⟨ns,rfl⟩:=items_int i;have I:ns.length<=n:=by
  unfold OpenLaw.pre at e;have J:(WTm.not (.lt (.lit (.int (n:Int))) (.len (.arg 0)))).holds [] {args:=[.list (ns.map .int)]}=true:=by
   have J:=(holds_andW e).1;rw[f] at J;exact J
  have U:=condW_of J (w_not (w_lt w_lit (w_len_list (w_arg rfl))));rw[fI] at U;refine Nat.le_of_not_lt fun q=> ?_
  have j:(n:Int)<((ns.length:Nat):Int):=by lia
  first
   | (rw[MO j] at U;exact absurd U (by decide))
   | (simp at U;lia)
 cases c with
 | cons w1 w2=>
  cases w2
  cases w1 with
  | list ho hall=>exact⟨_,_,ns,rfl,rfl,ho,vD ns _ hall,I⟩
theorem EI(l:OpenLaw)(args:List WData):l.row.toRowW.claim.post args (.bool true) args=true:=
 postW_of (r:=l.row.toRowW) (X:=(true==true))
  (show WShape.has [] (.bool true) .bool=true by first | rfl | decide | simp [WShape.has,WShape.arms,WShape.armsAll])
  (show(WTm.eq .res (.lit (.bool true))).value [] {args:=args,res:=some (.bool true),after:=args}=some (.bool (true==true)) from w_eq_bool (w_res rfl) w_lit) rfl
theorem attach_call{l:OpenLaw}{n:Nat}{q:Program}{I:List Str}{E:(Str->Option Value)->Heap->Prop}{D:World->Heap->Prop}{d:DefRec}
  (H:l.most=some n) (u:d.params.defaults=[])
  (call:∀(w:World) (J C:Shared) (j v:Str->Option Value) (g:Addr) (o:Obj) (pm cd U:Value) (a:Addr) (vs:List Value) (ns:List Int),
   Ground q I [] E w J j v C.heap->D w C.heap->
   C.heap.get? g=some o->o.data= .func (docDef d.name d.params d.body d.scope pm cd U)->C.heap.CodeRec cd d.name->j d.name=some (.ref g)->
   C.heap.get? a=some {cls:= .type "list",data:= .seq vs.toArray}->IntsAre vs ns->ns.length<=n->C.gens= #[]->
   codeAny (model l.prog w) callerA (.call (.ref g) ⟨[.ref a],[]⟩) (fun r m=>r= .ok (.ret (.bool true))/\OldK C.heap m.heap/\m.os=C.os/\AllBare m.gens) C):
  WalkO q I E D l.row.toRowW d [] (fun f vs=>PySem.call f vs):=by
 intro w J C j v G Y g o pm cd U F kV ho hd p z s K A y R c B M x Q;obtain rfl:F= .none:=Dflts.none z u;obtain rfl:kV= .none:=Dflts.noKw z;obtain⟨a,vs,ns,rfl,rfl,i,b,e⟩:=Fp H c x;refine enter_call (Ox (call w J C j v g o pm cd U a vs ns G Y ho (fd_plain hd) p s i b e K) fun r m P=> ?_)
 obtain⟨rfl,O,L,N⟩:=P;exact⟨.inl ⟨.bool true,.bool true,[],rfl,fun _=>rfl,.bool true,EI l _,fun _=>⟨List.Pairwise.nil,fun _ hm=>(nomatch hm)⟩⟩,O,L,N⟩
end Att
namespace L2
open PySem PySem.Spec PyProof.Rows
theorem yG:∀{vs:List Value}{ns:List Int},IntsAre vs ns->bg (ns.map V.int) vs
 | _,_,.nil=> .nil
 | _,_,.cons n t h=> .cons ⟨t,rfl⟩ (yG h)
def IA(H:Hp):Prop:=∀b,H b=none\/∃o C,H b=some (.frz o (.lst C))
theorem FX{P:Program}{w:World}{K:Frag}{A R:Str->Option Value}{CX:CXT}{k:Nat}{X a:Addr}{fd:FuncData}{x:Str}{sp:Sp}{C:Shared}{vs:List Value}{ns:List Int}
  (KX:K.In C.heap) (M:C.heap.Ns mainGlobals A) (J:C.heap.Ns builtinsNs R) (Q:∀x:Str,x≠"__name__"->R x=bootBuiltins x) (E:C.heap.NoLimit) (hg:C.gens= #[])
  (N:C.heap.get? a=some {cls:= .type "list",data:= .seq vs.toArray}) (Z:IntsAre vs ns) (hl:ns.length<=sizeLine) (hr:Room k callerA)
  (F:∀base:Heap,K.In base->base.Ns mainGlobals A->je P w K A base CX k X fd [x] sp) (g:∀(s:Shared) (u:Value),BindsTo s fd ⟨[u],[]⟩ [(x,u)])
  (S:∀H:Hp,IA H->SqL K H a (ns.map V.int)->sp [.ref a] H (fun v _=>v= .bl true) fun _ _ _=>False)
  (T:∀H e U,CX [] H C (fun _ _ _=>False) e U->False):
  codeAny (model P w) callerA (.call (.ref X) ⟨[.ref a],[]⟩) (fun r U=>r= .ok (.ret (.bool true))/\OldK C.heap U.heap/\U.os=C.os/\AllBare U.gens) C:=by
 have rv:=yG Z;have D:=Z.length;have f:∀H:Hp,IA H->SqL K H a (ns.map V.int)->HOk P w H C.heap->(∀b,H b≠none->b=a)->(H a≠none->K.lookup a=none)->
   codeAny (model P w) callerA (.call (.ref X) ⟨[.ref a],[]⟩) (fun r U=>r= .ok (.ret (.bool true))/\OldK C.heap U.heap/\U.os=C.os/\AllBare U.gens) C:=by
  intro H hO hS L hA hK;have I:∀{b:Addr}{o:Obj},C.heap.get? b=some o->H b=none->(y9 C.heap H).get? b=some o:=fun e n=>Gx e n
  have O:∀{b:Addr}{o:Obj}{G:Array DictEntry}{i:Nat},C.heap.get? b=some o->o.data= .dict G i->H b=none:=fun {b o G i} e d=>by
   cases q:H b with
   | none=>rfl
   | some u=>
    have Y:b=a:=hA b (by rw[q];simp)
    subst Y;rw[N] at e;cases e;have d':Data.seq vs.toArray _=Data.dict G i:=d
    cases d'
  have c:∀{b:Addr}{m:Str->Option Value},C.heap.Ns b m->(y9 C.heap H).Ns b m:=fun {b m} ⟨o,G,i,e,d,r⟩=>⟨o,G,i,I e (O e d),d,r⟩
  have j:K.In (y9 C.heap H):=fun b o e=>I (KX b o e) (by
   cases q:H b with
   | none=>rfl
   | some u=>
    have Y:b=a:=hA b (by rw[q];simp)
    subst Y
    rw[hK (by rw[q];simp)] at e;cases e)
  have hM:Mod K A (y9 C.heap H):=⟨j,c M,⟨R,c J,Q⟩,let ⟨mc,h1,h2⟩:=E;⟨mc,c h1,h2⟩⟩
  have e0:CP P w K A (y9 C.heap H) callerA [] C H:=⟨rfl,hM,fun b o e=>Jd e,Nat.le_of_eq (Fa _ _),trivial,fun b J=>absurd (show b∈([]:List Addr) from J) (by simp),L,.of_eq hg⟩
  refine Ox ((F _ j (c M)).run callerA [] C H ⟨[.ref a],[]⟩ [.ref a] [.ref a] _ _ hr e0 (g C (.ref a)) (.cons rfl .nil) (S H hO hS)) fun r U h=> ?_
  cases r with
  | error e=>exact(T H e U h).elim
  | ok fl=>
   cases fl with
   | next=>exact False.elim h
   | brk=>exact False.elim h
   | cont=>exact False.elim h
   | ret u=>
    obtain⟨v,H',os,y,un,B,r',q⟩:=h;have q':v= .bl true:=q;subst q';obtain rfl:u=Value.bool true:=r';refine⟨rfl,OldK.of_keep fun b o e=> ?_,os,y⟩
    cases q:H b with
    | none=>exact un.keep b o e q (by intro z;exact absurd (show b∈([]:List Addr) from z) (by simp)) (by simp)
    | some u=>
     rcases hO b with z | ⟨ob,xs,z⟩
     .rw[q] at z;cases z
     .have z2:=un.frzs b ob _ z;obtain⟨e1,_⟩:=L b _ z;obtain⟨e2,_⟩:=B b _ z2;rw[e] at e1;cases e1;exact e2
 cases hk:K.lookup a with
 | some o=>
  have e:=KX a o hk;rw[N] at e
  cases e
  refine f (fun _=>none) (fun _=> .inl rfl) (.inr ⟨_,vs.toArray,_,hk,rfl,rfl,rfl,by rw[MI,D];exact hl,by simpa using rv⟩) (fun b u z=>by have p:(none:Option HO)=some u:=z;cases p) (fun b z=>absurd rfl z) fun z=>absurd rfl z
 | none=>
  refine f (fun b=>if b=a then some (.frz {cls:= .type "list",data:= .seq vs.toArray} (.lst (ns.map V.int))) else none) (fun b=> ?_) (.inl (.inr ⟨{cls:= .type "list",data:= .seq vs.toArray},ME rfl⟩)) (fun b u z=> ?_) (fun b z=> ?_) fun _=>hk
  .by_cases J:b=a
   .exact .inr ⟨_,_,ME J⟩
   .exact .inl (mC J)
  .by_cases J:b=a
   .have p:=(ME J).symm.trans z
    cases p
    subst J;exact⟨N,by rw[fI];exact hl,vs,_,rv,N⟩
   .have p:=(mC J).symm.trans z
    cases p
  .by_cases J:b=a
   .exact J
   .exact absurd (mC J) z
noncomputable abbrev KOf{K:Frag}{h:Heap}(_:K.In h):Frag:=K
theorem Ja{l:PySem.W.OpenLaw}{n k:Nat}{q:Program}{I:List Str}{XP:(Str->Option Value)->Heap->Prop}{E:World->Heap->Prop}{d:DefRec}{K:Params->Frag}{CX:World->CXT}{sp:World->Sp}{x:Str}
  (P:l.most=some n) (A:n<=sizeLine) (p:d.params.defaults=[]) (X:Room k callerA)
  (Z:∀(w:World) (h:Heap),E w h->(K w.params).In h)
  (F:∀(w:World) (U:Str->Option Value) (j:Addr) (h:Heap),(K w.params).In h->h.Ns mainGlobals U->U d.name=some (.ref j)->
   ∃B:FuncData,(∀(s:Shared) (u:Value),BindsTo s B ⟨[u],[]⟩ [(x,u)])/\
    ∀base:Heap,(K w.params).In base->base.Ns mainGlobals U->je l.prog w (K w.params) U base (CX w) k j B [x] (sp w))
  (r:∀(w:World) (H:Hp) (a:Addr) (ns:List Int),ns.length<=n->IA H->SqL (K w.params) H a (ns.map V.int)->sp w [.ref a] H (fun v _=>v= .bl true) fun _ _ _=>False)
  (y:∀(w:World) (H:Hp) (s:Shared) (e:Value) (z:Shared),CX w [] H s (fun _ _ _=>False) e z->False):
  PySem.W.WalkO q I XP E l.row.toRowW d [] (fun f vs=>PySem.call f vs):=by
 refine Att.attach_call P p fun w L i U mb j o pm cd S a vs ns G Y ho hd N m c J C Q=> ?_
 have D:=Z w _ Y;obtain⟨B,M,hF⟩:=F w U j _ D G.T.g m;exact FX D G.T.g G.T.b G.T.builtins G.T.nolimit Q c J (MV C A) X hF M (fun H R O=>r w H a ns C R O) fun H e z=>y w H i e z
noncomputable def bN(s:Stmt)(j:Nat):Stmt:=match s with
 | .ClassDef _ _ _ body _ _ _ _ _ _ _=>body.getD j (.Pass ⟨0,0,0,0⟩)
 | _=> .Pass ⟨0,0,0,0⟩
noncomputable def jl(s:Stmt):Arguments:=match s with
 | .FunctionDef _ a _ _ _ _ _ _ _ _=>a
 | _=>{posonlyargs:=[],args:=[],vararg:=none,kwonlyargs:=[],kw_defaults:=[],kwarg:=none,defaults:=[]}
noncomputable def fo(s:Stmt):List Stmt:=match s with
 | .FunctionDef _ _ b _ _ _ _ _ _ _=>b
 | _=>[]
noncomputable def ah(s:Stmt):Scope:=match s with
 | .FunctionDef _ _ _ _ _ _ sc _ _ _=>sc
 | _=>{kind:= .function,names:=[],isGenerator:=false,isCoroutine:=false}
abbrev CX0:CXT:=fun _ _ _ _ _ _=>False
abbrev E0:XK:=fun _ _ _=>False
theorem yJ{X:Cx}:lO CX0 X E0:=fun _ _ _ _ _ _ _ h=>h.elim
structure Fun (K:Frag) (x qual:Str) (st:Stmt) (f:Addr) (fd:FuncData):Prop where
 ex:∃(oc:Value) (od:Option Addr) (kV doc pm:Value) (an:Option Addr) (cdv ct:Value) (osl:Array (Option Value)),
  fd=W.fnOf x qual (jl st) (fo st) (ah st) .none kV doc pm an cdv ct/\K.lookup f=some ⟨oc,od,.func fd,osl⟩/\W.codeIn K cdv qual=true
 kp:W.keepIn K (.ref f)=true
section
variable {P : Program} {w : World} {K : Frag} {mg : Str → Option Value} {base : Heap}
theorem Fun.ok{x C:Str}{st:Stmt}{f:Addr}{b:FuncData}{N ps:List Str}{k:Nat}{sp:Sp}(F:Fun K x C st f b)(S:aq N ps (ah st))(len:∀vs H Q E,sp vs H Q E->vs.length=ps.length)
  (J:∀(I:Value) (A:Around) (o:List Env) (s:Shared) (H:Hp) (vs:List V) (Q:VK) (E:XK),Room k (A.deeper (envOfC C (ah st) s.heap.objs.size f I))->sp vs H Q E->
   ∃t,PSs (rP CX0 P w K mg base N C (ah st) f I A o s H E).nox (fo st) t/\t {nx:=fun _ g=>Q .non g,rt:=Q} (start N vs) H):je P w K mg base CX0 (k+1) f b ps sp:=by
 obtain⟨m,r,kV,c,j,n,I,p,d,rfl,i,U⟩:=F.ex;refine JC i U S len fun A o s H vs Q E e a=> ?_
 obtain⟨t,h,q⟩:=J I A o s H vs Q E e a;exact⟨t,h.nox,q⟩
theorem Fun.binds{x o:Str}{st:Stmt}{f:Addr}{U:FuncData}{ps:List Str}(F:Fun K x o st f U)
  (h:∀(kV C pm:Value) (J:Option Addr) (I ct:Value) (us:List Value),us.length=ps.length->bindArgs (W.fnOf x o (jl st) (fo st) (ah st) .none kV C pm J I ct) ⟨us,[]⟩=pure (ps.zip us)):jj K U ps []:=by
 obtain⟨d,e,kV,C,pm,J,I,ct,b,rfl,c,a⟩:=F.ex;exact .all (h kV C pm J I ct)
theorem Dp{x o:Str}{st:Stmt}{f:Addr}{a:Value}{b U:Option Addr}{J:Array (Option Value)}{kV I pm C ct:Value}(l:K.lookup f=some ⟨a,b,.func (W.fnOf x o (jl st) (fo st) (ah st) .none kV I pm U C ct),J⟩)
  (c:W.codeIn K C o=true) (k:W.keepIn K (.ref f)=true):Fun K x o st f (W.fnOf x o (jl st) (fo st) (ah st) .none kV I pm U C ct):=⟨⟨a,b,kV,I,pm,U,C,ct,J,rfl,l,c⟩,k⟩
end
theorem uQ{A:Around}{k:Nat}(o:Room k A):A.units+1<cLine:=Nw (Nat.add_le_add_left (by decide:1<=64) _) o.units
section
variable {X : Cx}
theorem pv(i:Nat){x:Str}{C:Pos}(J:X.N[i]? =some x:=by rfl)(I:Vis X.env.scope x:=by first | exact Or.inl rfl | exact Or.inr (Or.inl rfl) | exact Or.inr (Or.inr rfl))(hd:(x==("__debug__":Str))=false:=by decide)
  (o:(x==("__classdict__":Str))=false:=by decide):PE X (.Name x C) (KO i):=Kr J I hd o
end
theorem Do{A B:Prop}(h:B):if false=true then A else B:=by
 rw[mC MP];exact h
theorem zK{A B:Prop}(h:A):if true=true then A else B:=by
 rw[ME rfl];exact h
theorem Ls{c A B:Prop}[Decidable c](C:c->A)(o:¬c->B):if c then A else B:=by
 by_cases h:c
 .rw[ME h];exact C h
 .rw[mC h];exact o h
theorem qk{c A B:Prop}[Decidable c](o:c)(h:B):if (!decide c)=true then A else B:=by
 rw[MO o];exact Do h
def ax(H C:Hp):Prop:=∀b o,H b=some o->C b=some o
theorem ax.refl(H:Hp):ax H H:=fun _ _ h=>h
theorem ax.trans{H C I:Hp}(a:ax H C)(b:ax C I):ax H I:=fun c o h=>b c o (a c o h)
theorem ax.free{H C:Hp}(e:ax H C){l:Addr}(h:C l=Option.none):H l=Option.none:=by
 cases q:H l with
 | none=>rfl
 | some o=>
  rw[e l o q] at h
  cases h
theorem ax.seq{K:Frag}{H C:Hp}{a:Addr}{xs:List V}(e:ax H C)(h:SqL K H a xs):SqL K C a xs:=by
 rcases h with(h | ⟨o,h⟩) | h
 .exact .inl (.inl (e _ _ h))
 .exact .inl (.inr ⟨o,e _ _ h⟩)
 .exact .inr h
section
variable {κ : Type} [DecidableEq κ]
theorem GE{kvs:List (κ × V)}{k:κ}(h:eZ kvs k=none):¬k∈kvs.map (·.1):=by
 intro m;obtain⟨p,C,e⟩:=Nn.mp m;have q:(kvs.any fun o=>decide (o.1=k))=true:=Pt.mpr ⟨p,C,MO e⟩
 rw[rj,h] at q;exact absurd q (by simp)
theorem Ej:∀{l:List κ}{k:κ},l.Nodup->¬k∈l->(l++[k]).Nodup
 | [],k,_,_=>by simp
 | a::r,k,h,hk=>by
  obtain⟨C,o⟩:=NM.mp h;show(a::(r++[k])).Nodup
  refine NM.mpr ⟨fun m=> ?_,Ej o fun m=>hk (M3.mpr (Or.inr m))⟩
  rcases MZ.mp m with q | q
  .exact C q
  .exact hk (M3.mpr (Or.inl (MY.mp q).symm))
theorem Iw{kvs:List (κ × V)}{k:κ}(v:V)(o:(kvs.map (·.1)).Nodup)(h:eZ kvs k=none):((dw kvs k v).map (·.1)).Nodup:=by
 rw[G1 v h,MH];exact Ej o (GE h)
end
end L2
set_option maxHeartbeats 4000000
namespace L2
open PySem PySem.Spec PyProof.Rows
theorem Az:bootBuiltins "list"=some (.type "list"):=by decide +kernel
theorem fQ:bootBuiltins "tuple"=some (.type "tuple"):=by decide +kernel
theorem DX:bootBuiltins "dict"=some (.type "dict"):=by decide +kernel
theorem Kl:bootBuiltins "zip"=some (.type "zip"):=by decide +kernel
theorem Kf:bootBuiltins "sum"=some (.builtin "sum"):=by decide +kernel
theorem zP:bootBuiltins "enumerate"=some (.type "enumerate"):=by decide +kernel
theorem Ax:bootBuiltins "max"=some (.builtin "max"):=by decide +kernel
theorem pA:bootBuiltins "min"=some (.builtin "min"):=by decide +kernel
theorem F2:bootBuiltins "abs"=some (.builtin "abs"):=by decide +kernel
theorem dD:bootBuiltins "len"=some (.builtin "len"):=by decide +kernel
structure Bi (mg:Str->Option Value):Prop where
 len:mg "len"=none
 range:mg "range"=none
 isinstance:mg "isinstance"=none
 max:mg "max"=none
 min:mg "min"=none
 abs:mg "abs"=none
 all:mg "all"=none
 int:mg "int"=none
 bool:mg "bool"=none
 str:mg "str"=none
 list:mg "list"=none
 tuple:mg "tuple"=none
 dict:mg "dict"=none
 zip:mg "zip"=none
 enumerate:mg "enumerate"=none
 sum:mg "sum"=none
section
variable {X : Cx} {a b c : Expr} {ta tb tc : TE} {pos : Pos}
def DV(i j:Int):Prop:=0<j/\j<=2^100
theorem fR:OpR X (binaryOp .FloorDiv) (rI DV fun i j=> .int (i / j)):=opI fun i j _ _ _ _ _ o q=>by
 have U:(0:Int)<j:=o.1;have J:j<=2^100:=o.2;refine floordiv_int (by lia) (by rw[Int.fdiv_eq_ediv_of_nonneg i (by lia)];exact q) (.inl (PyProof.noPylong_of_log2 ?_))
 have I:j.natAbs<=2^100:=by lia
 have C:j.natAbs≠0:=by lia
 exact MJ ((Nat.log2_lt C).mpr (Nw I (by decide:2^100<2^101))) (by decide)
def L1(t:TS):TS:=fun D Z H=>∃M:St->Hp->Prop,t {D with nx:=M} Z H/\∀C o,M C o->D.nx C o
theorem cy{st:Stmt}{t:TS}(h:PS X st t):PS X st (L1 t):=by
 intro o s Z H D I e;obtain⟨M,C,d⟩:=e;refine thn (h o s Z H _ I C) fun f j q=> ?_
 cases f with
 | next=>obtain⟨i,g,U,J⟩:=q;exact⟨i,g,U,d _ _ J⟩
 | brk=>exact q
 | cont=>exact q
 | ret u=>exact q
noncomputable def Mf(t T:String):Option Bool:=
 if t=T then(if T∈["int","bool","str","list","tuple","dict"] then some true else none)
 else if t∈["int","bool","str","list","tuple","dict","NoneType"]/\T∈["int","bool","str","list","tuple","dict"] then some (t="bool"/\T="int") else none
structure Has (P:Program) (w:World) (K:Frag) (mg:Str->Option Value) (base:Heap) (k:Nat) (x:Str) (ps:List Str) (sp:Sp):Prop where
 ex:∃(f:Addr) (fd:FuncData),mg x=some (.ref f)/\W.keepIn K (.ref f)=true/\jj K fd ps []/\je P w K mg base CX0 k f fd ps sp
theorem Has.mono{P:Program}{w:World}{K:Frag}{o:Str->Option Value}{base:Heap}{j k:Nat}{x:Str}{ps:List Str}{sp:Sp}(h:Has P w K o base j x ps sp)(e:j<=k):Has P w K o base k x ps sp:=by
 obtain⟨f,d,I,C,U,J⟩:=h.ex;exact⟨f,d,I,C,U,J.mono e⟩
theorem Has.imp{P:Program}{w:World}{K:Frag}{C:Str->Option Value}{base:Heap}{k:Nat}{x:Str}{ps:List Str}{sp o:Sp}(h:Has P w K C base k x ps sp)(I:∀vs H Q E,o vs H Q E->sp vs H Q E):Has P w K C base k x ps o:=by
 obtain⟨f,g,J,e,U,d⟩:=h.ex;exact⟨f,g,J,e,U,d.imp I⟩
theorem FS{k:Nat}{x:Str}{ps:List Str}{sp:Sp}{e:Expr}{o:List Expr}{t:TA}{p pos:Pos}(h:Has X.prog X.w X.K X.mg X.base k x ps sp)(j:Room k X.A)(U:Gl X x)
  (i:PA X (e::o) t) (C:(x==("__debug__":Str))=false:=by decide) (g:starEach (e::o) X.env=(false,eval e X.env)::starEach o X.env:=by rfl) (I:(backTo pos (starEach o X.env)).any (·.1)=false:=by rfl):
  PE X (.Call (.Name x p) (e::o) [] pos) (AH sp [] E0 t):=by
 obtain⟨f,m,hm,d,J,F⟩:=h.ex;exact Io F j U hm d J .nil yJ i C g I
structure Def (K:Frag) (mg:Str->Option Value) (x:Str) (st:Stmt) (ps:List Str):Prop where
 ex:∃(f:Addr) (fd:FuncData),Fun K x x st f fd/\mg x=some (.ref f)/\jj K fd ps []
theorem Def.has{P:Program}{w:World}{K:Frag}{J:Str->Option Value}{base:Heap}{k:Nat}{x:Str}{st:Stmt}{N ps:List Str}{sp:Sp}(D:Def K J x st ps)(S:aq N ps (ah st))(len:∀vs H Q E,sp vs H Q E->vs.length=ps.length)
  (I:∀(f:Addr) (C:Value) (A:Around) (o:List Env) (s:Shared) (H:Hp) (vs:List V) (Q:VK) (E:XK),Room k (A.deeper (envOfC x (ah st) s.heap.objs.size f C))->sp vs H Q E->
   ∃t,PSs (rP CX0 P w K J base N x (ah st) f C A o s H E).nox (fo st) t/\t {nx:=fun _ e=>Q .non e,rt:=Q} (start N vs) H):Has P w K J base (k+1) x ps sp:=by
 obtain⟨f,g,F,hm,U⟩:=D.ex;exact⟨f,g,hm,F.kp,U,F.ok S len fun C A o s H vs Q E d h=>I f C A o s H vs Q E d h⟩
end
theorem yT{c A B:Prop}[Decidable c](o:c)(h:A):if decide c=true then A else B:=by
 rw[MO o];exact zK h
theorem dG{c A B:Prop}[Decidable c](o:¬c)(h:B):if decide c=true then A else B:=by
 rw[MG o];exact Do h
theorem bI{c A B:Prop}[Decidable c](C:c->A)(o:¬c->B):if decide c=true then A else B:=by
 by_cases h:c
 .exact yT h (C h)
 .exact dG h (o h)
def But(d:Addr)(H C:Hp):Prop:=∀b o,b≠d->H b=some o->C b=some o
theorem But.refl(d:Addr)(H:Hp):But d H H:=fun _ _ _ h=>h
theorem But.trans{d:Addr}{H C J:Hp}(a:But d H C)(b:But d C J):But d H J:=fun c o I h=>b c o I (a c o I h)
theorem ax.but{d:Addr}{H C:Hp}(a:ax H C):But d H C:=fun c o _ h=>a c o h
theorem But.upd{d:Addr}{H:Hp}{o:HO}:But d H (upd H d o):=fun c u C h=>by rw[aj C];exact h
theorem But.same{d:Addr}{H C I:Hp}(a:ax H C)(hd:H d=none)(b:But d C I):ax H I:=fun c o h=>b c o (ak h hd) (a c o h)
theorem af{H:Hp}{p:Addr}(h:H p=none)(o:HO):ax H (upd H p o):=fun b u q=>by rw[aj (ak q h)];exact q
theorem But.seq{K:Frag}{d:Addr}{H I:Hp}{a:Addr}{xs:List V}(e:But d H I)(C:a≠d)(h:SqL K H a xs):SqL K I a xs:=by
 rcases h with(h | ⟨o,h⟩) | h
 .exact .inl (.inl (e _ _ C h))
 .exact .inl (.inr ⟨o,e _ _ C h⟩)
 .exact .inr h
def Bd(x:Str)(st:Stmt)(ps:List Str):Prop:=∀(kV o J:Value) (U:Option Addr) (I a:Value) (C:List Value),C.length=ps.length->
 bindArgs (W.fnOf x x (jl st) (fo st) (ah st) .none kV o J U I a) ⟨C,[]⟩=pure (ps.zip C)
theorem aF{K:Frag}{h:Heap}{o:Str->Option Value}{x:Str}{st:Stmt}{ps:List Str}{f:Addr}{U J:Option Addr}{sl:Array (Option Value)}{I kV C pm cd ct:Value}(b:Bd x st ps)(X:K.In h)(G:h.Ns mainGlobals o)
  (a:W.nsIn K mainGlobals x=some (some (.ref f))) (l:K.lookup f=some ⟨I,U,.func (W.fnOf x x (jl st) (fo st) (ah st) .none kV C pm J cd ct),sl⟩) (c:W.codeIn K cd x=true) (k:W.keepIn K (.ref f)=true):
  Def K o x st ps:=by
 have F:=Dp (st:=st) l c k;exact⟨f,_,F,Rw X G a,F.binds b⟩
theorem K4{K:Frag}{h:Heap}{o:Str->Option Value}(X:K.In h)(G:h.Ns mainGlobals o)
  (z0:W.nsIn K mainGlobals "len"=some none) (z1:W.nsIn K mainGlobals "range"=some none) (z2:W.nsIn K mainGlobals "isinstance"=some none) (z3:W.nsIn K mainGlobals "max"=some none) (z4:W.nsIn K mainGlobals "min"=some none)
  (z5:W.nsIn K mainGlobals "abs"=some none) (z6:W.nsIn K mainGlobals "all"=some none) (z7:W.nsIn K mainGlobals "int"=some none) (z8:W.nsIn K mainGlobals "bool"=some none) (z9:W.nsIn K mainGlobals "str"=some none)
  (z10:W.nsIn K mainGlobals "list"=some none) (z11:W.nsIn K mainGlobals "tuple"=some none) (z12:W.nsIn K mainGlobals "dict"=some none) (z13:W.nsIn K mainGlobals "zip"=some none) (z14:W.nsIn K mainGlobals "enumerate"=some none) (z15:W.nsIn K mainGlobals "sum"=some none):Bi o:=
 ⟨Np X G z0,Np X G z1,Np X G z2,Np X G z3,Np X G z4,Np X G z5,Np X G z6,Np X G z7,Np X G z8,
  Np X G z9,Np X G z10,Np X G z11,Np X G z12,Np X G z13,Np X G z14,Np X G z15⟩
def BW(K:Frag):Sp:=fun I H Q _=>∃(a:Addr) (o:List Int),I=[.ref a]/\SqL K H a (o.map V.int)/\o.length<=63/\IA H/\∀C,Q (.bl true) C
theorem KN{P:Program}{w:World}{K:Frag}{h:Heap}{o:Str->Option Value}{x:Str}{st:Stmt}{d f:Addr}{i U:Option Addr}{sl:Array (Option Value)}{g kV J pm cd ct:Value}{k:Nat}(b:Bd "law" st [x])(X:K.In h)(G:h.Ns mainGlobals o)(I:o "law"=some (.ref d))
  (a:W.nsIn K mainGlobals "law"=some (some (.ref f))) (l:K.lookup f=some ⟨g,i,.func (W.fnOf "law" "law" (jl st) (fo st) (ah st) .none kV J pm U cd ct),sl⟩) (c:W.codeIn K cd "law"=true) (kp:W.keepIn K (.ref f)=true)
  (ok:∀(f:Addr) (C:FuncData),Fun K "law" "law" st f C->∀base:Heap,je P w K o base CX0 k f C [x] (BW K)):
  ∃C:FuncData,(∀(s:Shared) (u:Value),BindsTo s C ⟨[u],[]⟩ [(x,u)])/\∀base:Heap,K.In base->base.Ns mainGlobals o->je P w K o base CX0 k d C [x] (BW K):=by
 have e:=I.symm.trans (Rw X G a)
 cases e
 have F:=Dp (st:=st) l c kp;exact⟨_,fun s u=> .of_eq (b kV J pm U cd ct [u] rfl),fun base _ _=>ok _ _ F base⟩
theorem GH{l:PySem.W.OpenLaw}{k:Nat}{x:Str}{q:Program}{o:List Str}{r:(Str->Option Value)->Heap->Prop}{U:World->Heap->Prop}{d:DefRec}{K:Params->Frag}(e:l.most=some 63)(I:d.params.defaults=[])
  (m:Room k callerA) (p:∀(w:World) (h:Heap),U w h->(K w.params).In h)
  (F:∀(w:World) (C:Str->Option Value) (J:Addr) (h:Heap),(K w.params).In h->h.Ns mainGlobals C->C d.name=some (.ref J)->
   ∃b:FuncData,(∀(s:Shared) (u:Value),BindsTo s b ⟨[u],[]⟩ [(x,u)])/\∀base:Heap,(K w.params).In base->base.Ns mainGlobals C->je l.prog w (K w.params) C base CX0 k J b [x] (BW (K w.params))):
  PySem.W.WalkO q o r U l.row.toRowW d [] (fun f vs=>PySem.call f vs):=
 L2.Ja (n:=63) (k:=k) (x:=x) (CX:=fun _=>CX0) (sp:=fun w=>BW (K w.params)) e (by decide) I m p F (fun _ _ a i g j c=>⟨a,i,rfl,c,g,j,fun _=>rfl⟩) fun _ _ _ _ _ z=>z
noncomputable def tX:List (Str × NameKind)->Env->List (Str × Addr)->List (Str × Addr)
 | [],_,acc=>acc
 | (n,k)::r,env,acc=>tX r env (if (k==NameKind.free)=true then(n,(env.cells.lookup n).getD 0)::acc else acc)
theorem qy{o:Scope}{env:Env}(h:∀y∈o.names,y.2=NameKind.free->∃c,env.cells.lookup y.1=some c):closureFor o env=pure (tX o.names env []):=by
 have J:∀(l:List (Str × NameKind)) (acc:List (Str × Addr)),(∀y∈l,y.2=NameKind.free->∃c,env.cells.lookup y.1=some c)->
   (forIn l acc fun(x:Str × NameKind) (r:List (Str × Addr))=>(if (x.2==NameKind.free)=true then do let a <-cellOf env x.1;pure (ForInStep.yield ((x.1,a)::r)) else pure (ForInStep.yield r):Sem (ForInStep (List (Str × Addr)))))=pure (tX l env acc):=by
  intro l
  induction l with
  | nil=>intro acc _;rfl
  | cons y r ih=>
   intro acc U;obtain⟨n,k⟩:=y;rw[PR];have b:∀z∈r,z.2=NameKind.free->∃c,env.cells.lookup z.1=some c:=fun z d=>U z (M8 _ d)
   by_cases I:(k==NameKind.free)=true
   .have hk':k=NameKind.free:=by simpa using I
    obtain⟨c,f⟩:=U (n,k) Nc hk';have C:env.cells.lookup n=some c:=f;have e:cellOf env n=pure c:=by unfold cellOf;rw[C]
    simp only[I,O9,e,pure_bind]
    rw[ih _ b]
    simp only[tX,I,O9,C,Option.getD_some]
   .have hk2:(k==NameKind.free)=false:=by simpa using I
    simp only[hk2,O3,P7,pure_bind]
    rw[ih _ b]
    simp only[tX,hk2,O3,P7]
 have k:=J o.names [] h;unfold closureFor;refine Eq.trans ?_ k
 simp only[bind_pure_comp,bind_pure]
theorem AW{env:Env}{x:Str}{c:Addr}:∀{names:List (Str × NameKind)}{acc:List (Str × Addr)},(∀y∈names,y.2=NameKind.free->∃c,env.cells.lookup y.1=some c)->(∀d,acc.lookup x=some d->env.cells.lookup x=some d)->
  (tX names env acc).lookup x=some c->env.cells.lookup x=some c
 | [],_,_,ha,h=>ha c h
 | (n,k)::r,acc,hl,ha,h=>by
  unfold tX at h;refine AW (names:=r) (fun z U=>hl z (M8 _ U)) (fun d hd=> ?_) h
  split at hd
  .rename_i hk
   have C:k=NameKind.free:=by simpa using hk
   obtain⟨J,o⟩:=hl (n,k) Nc C;have o:env.cells.lookup n=some J:=o;rw[o,Option.getD_some,N6] at hd
   by_cases I:x=n
   .subst I
    simp only[NI] at hd
    rw[<- hd];exact o
   .have hb:(x==n)=false:=by simpa using I
    rw[hb] at hd;exact ha d hd
  .exact ha d hd
theorem wq{env:Env}{x:Str}:∀{names:List (Str × NameKind)}{acc:List (Str × Addr)},((x,NameKind.free)∈names\/∃d,acc.lookup x=some d)->∃c,(tX names env acc).lookup x=some c
 | [],acc,h=>by
  rcases h with h | h
  .simp at h
  .exact h
 | (n,k)::r,acc,h=>by
  unfold tX;apply wq (names:=r)
  rcases h with h | ⟨d,h⟩
  .rcases M3.mp h with e | e
   .cases e
    refine .inr ⟨(env.cells.lookup x).getD 0,?_⟩
    rw[ME (by simp),N6]
    simp only[NI]
   .exact .inl e
  .refine .inr ?_
   split
   .rw[N6]
    cases(x==n) with
    | true=>exact⟨_,rfl⟩
    | false=>exact⟨d,h⟩
   .exact⟨d,h⟩
structure pJ (sc0 scope:Scope) (N0 N:List Str) (t:Nat) (js:List Nat):Prop where
 kind:scope.kind= .function
 cell:∀y∈scope.names,y.2≠NameKind.cell
 names:∀y∈scope.names,y.2=NameKind.local->scope.names.lookup y.1=some NameKind.local
 free:∀y∈scope.names,y.2=NameKind.free->sc0.names.lookup y.1=some NameKind.cell
 frs:∀x∈N.drop t,scope.names.lookup x=some NameKind.free
 js:(N.drop t).map some=js.map fun j=>N0[j]?
 len:t<=N.length
 nd:N.Nodup
noncomputable def blk(t:Nat)(o:List Nat)(Z:St):St:=List.replicate t none++o.map fun j=>(Z[j]?).join
noncomputable def cxB(X:Cx)(o:Scope)(N:List Str)(C:Addr)(s:Shared)(H:Hp)(I:List Addr):Cx where
 prog:=X.prog
 w:=X.w
 K:=X.K
 mg:=X.mg
 base:=X.base
 A:=X.A
 N:=N
 s₀:=s
 H₀:=H
 env:=compEnvC o (tX o.names X.env []) C X.env
 outer:=X.stack
 stack:=X.stack
 ex:=I
 fn:=fun _=>false
 calm:=X.calm
 pn:=[]
 xe:=fun _ _=>False
theorem mY{f:Str->NameKind->NameKind}{x:Str}:∀(names:List (Str × NameKind)),(names.map fun y=>(y.1,f y.1 y.2)).lookup x=(names.lookup x).map (f x)
 | []=>rfl
 | (n,k)::r=>by
  rw[Nd,N6,N6,mY r]
  by_cases o:x=n
  .subst o
   simp
  .have hb:(x==n)=false:=by simpa using o
   rw[hb]
theorem xB(o:Scope)(env:Env):(relabel o env).names=o.names.map fun y=>(y.1,if (y.2==NameKind.free && env.scope.kind == .function && env.kindOf y.1==some NameKind.cell)=true then NameKind.cell else y.2):=by
 unfold relabel;refine List.map_congr_left fun y _=> ?_
 obtain⟨n,k⟩:=y;dsimp only
 split <;> rfl
theorem oq(o:Scope)(env:Env)(x:Str):(relabel o env).names.lookup x=(o.names.lookup x).map fun k=>if (k==NameKind.free && env.scope.kind == .function && env.kindOf x==some NameKind.cell)=true then NameKind.cell else k:=by
 rw[xB];exact mY (f:=fun n k=>if (k==NameKind.free && env.scope.kind == .function && env.kindOf n==some NameKind.cell)=true then NameKind.cell else k) o.names
section
variable {X : Cx} {pins : List (Addr × Obj)} {σ : St} {H H' : Hp} {s s' : Shared} {sc0 scope : Scope} {N0 N : List Str} {t : Nat} {js : List Nat} {fp : List Addr}
theorem xx(I:Inv X pins Z H s)(o:X.env.scope=sc0)(B:pJ sc0 scope N0 N t js):∀y∈scope.names,y.2=NameKind.free->∃c,X.env.cells.lookup y.1=some c:=fun y C J=>
 I.ok.has y.1 (.inl (by show X.env.scope.names.lookup y.1=_;rw[o];exact B.free y C J))
theorem Fc{m:Str->Option Value}{T:Obj}{J:Heap}{tk:Nat}(I:Inv X pins Z H s)(E:X.env.scope=sc0)(G:X.N=N0)(B:pJ sc0 scope N0 N t js)(g:∀b∈fp,tM X pins H b)(O:∀b∈fp,b<s.heap.objs.size)
  (L:J.Ns s.heap.objs.size m) (K:Heap.SameBut s.heap.objs.size (s.heap.push T) J):Inv (cxB X scope N s.heap.objs.size s H fp) [] (blk t js Z) H {s with heap:=J,toks:=tk}:=by
 have Y:=xx I E B;have U:∀{x c},(tX scope.names X.env []).lookup x=some c->X.env.cells.lookup x=some c:=fun {x c} h=>AW Y (fun d hd=>by simp at hd) h
 have f:∀b o,s.heap.get? b=some o->J.get? b=some o:=fun b o e=>(K.2 b (M5 (MK e))).trans (MB _ e)
 refine⟨⟨I.ok.mod,B.kind,I.ok.glob,I.ok.blt,MC _,fun x y c S h2=>I.ok.inj x y c (U S) (U h2),fun x hx=> ?_,fun x c h=>absurd (show false=true from h) (by decide),I.ok.hd,I.ok.frames,.inl rfl,fun b a=>⟨M5 (O b a),fun x c h=>(g b a).2.2.2.2.1 x c (U h)⟩,
  I.bs,MV I.ok.bsz I.sz,fun b o e a=> ?_,fun b a z=> ?_,I.stack,I.stkFree⟩,rfl,I.bare,Un.kept f,⟨m,L,fun i x v e1 C e3=> ?_⟩,fun x c h=> ?_,I.hok.fresh (MC _),fun x c h=>I.freeC x c (U h),fun p hp=>absurd (show p∈([]:List (Addr × Obj)) from hp) (by simp),I.hok.kept f,?_⟩
 .apply wq
  left
  have q:(relabel scope X.env).names.lookup x=some NameKind.cell\/(relabel scope X.env).names.lookup x=some NameKind.free:=hx;rw[oq] at q
  cases e:scope.names.lookup x with
  | none=>rw[e] at q;simp at q
  | some k=>
   have hm:=NF e
   by_cases n:k=NameKind.free
   .rw[<- n];exact hm
   .rw[e] at q;have a:(k==NameKind.free)=false:=by simpa using n
    simp only[PU,a,P5,O3,P7,Option.some.injEq] at q
    rcases q with q | q
    .exact absurd q (B.cell _ hm)
    .exact absurd q n
 .rcases(g b a).2.2.2.1 with z | z
  .exact I.ok.noex b o e z
  .exact absurd (MJ (MK e) (MV I.ok.bsz z)) (NQ _)
 .rcases M3.mp (I.stkSub b z) with q | q
  .exact(g b a).2.1 q
  .exact(g b a).2.2.1 q
 .unfold blk at C
  by_cases P:i<t
  .rw[Nh (by simpa using P),Pn] at C
   split at C <;> cases C
  .rw[MT (by simpa using Nat.not_lt.mp P),Nk,MW] at C
   cases ej:js[i - t]? with
   | none=>rw[ej] at C;cases C
   | some j=>
    rw[ej] at C;have C:(Z[j]?).join=some v:=by simpa using C
    have eZ:Z[j]? =some (some v):=by
     cases q:Z[j]? with
     | none=>rw[q] at C;cases C
     | some o=>rw[q] at C;exact Ng some C
    have R:(N.drop t)[i - t]? =some x:=by rw[O4,show t+(i - t)=i by lia];exact e1
    have eX:X.N[j]? =some x:=by
     have q:=Ng (fun l=>l[i - t]?) B.js
     simp only[MW,R,ej,PU] at q
     rw[G];exact(MR q).symm
    have D:scope.names.lookup x=some NameKind.free:=B.frs x (MD R);have A:=NF D;have F:X.env.scope.names.lookup x=some NameKind.cell:=by rw[E];exact B.free _ A rfl
    obtain⟨m0,ab,M⟩:=I.loc;obtain⟨u,r,l⟩:=M j x v eX eZ (.inr (.inl F));refine⟨u,r,?_⟩
    rcases l with⟨n,_⟩|⟨_,c,hc,w⟩
    .have n:X.env.scope.names.lookup x=some NameKind.local:=n;rw[F] at n
     cases n
    .obtain⟨c',hc'⟩:=wq (env:=X.env) (names:=scope.names) (acc:=[]) (.inl A);have Q:=U hc';rw[hc] at Q
     cases Q
     refine .inr ⟨?_,c,hc',?_⟩
     .have q:=oq scope X.env x;rw[D] at q;show(relabel scope X.env).names.lookup x=_\/(relabel scope X.env).names.lookup x=_
      rw[q]
      simp only[PU]
      split
      .exact .inl rfl
      .exact .inr rfl
     .obtain⟨o,ho,hd⟩:=w;exact⟨o,f c o ho,hd⟩
 .obtain⟨v,o,ho,hd⟩:=I.cell x c (U h);exact⟨v,o,f c o ho,hd⟩
 .show(blk t js Z).length=N.length
  unfold blk;have q:=Ng List.length B.js
  simp only[fI,Ni] at q
  rw[MA,Nk,fI];have:=B.len
  lia
theorem EW{C:List (Addr × Obj)}{a:St}(I:Inv X pins Z H s)(o:∀b∈fp,tM X pins H b)(U:Inv (cxB X scope N s.heap.objs.size s H fp) C a H' s'):Inv X pins Z H' s':=
 I.call' (ch:=fp) U.os U.base U.hok U.bare fun b J=>⟨(o b J).2.2.2.1,(o b J).2.1,(o b J).2.2.2.2.1,(o b J).2.2.2.2.2⟩
theorem Bj{h':Heap}{C:Addr}{a:St}(I:Inv X pins Z H s){J:Shared}(U:Inv X pins a H' J)(i:C=s.heap.objs.size)(g:H' C=none)(hs:Heap.SameBut C J.heap h'):Inv X pins a H' {J with heap:=h'}:=by
 subst i;refine U.turned (t':=J.toks) (it:=s.heap.objs.size) (fun b o d e=>(hs.2 b d).trans e) g (N_ I.lt) (.inr I.sz) (fun x c e z=> ?_) fun p f z=> ?_
 .obtain⟨v,q⟩:=I.cell x c e;exact absurd q.lt (by rw[z];exact NQ _)
 .exact absurd (MK (I.pin p f).1) (by rw[z];exact NQ _)
end
def Wk(Z o:St):Prop:=∀(k:Nat) v,Z[k]? =some (some v)->o[k]? =some (some v)
theorem Wk.none{r C:St}{o:Option V}(h:Wk r C):Wk (none::r) (o::C)
 | 0,v,q=>by simp at q
 | k+1,v,q=>by
  rw[N7] at q ⊢;exact h k v q
theorem Wk.refl{Z:St}:Wk Z Z:=fun _ _ h=>h
structure pq (J:It) (g:TG) (te:TE) (t:Nat) (js:List Nat) (Z:St) (p:Addr) (H1:Hp) (Q:VK):Prop where
 out:∃W:Nat->Nat->List V->Hp->Prop,(∃m,W 0 m [] (upd H1 p (.lst [])))/\∀i m ys H,W i m ys H->
  (J.stop i H/\Q (.ref p) H)\/(J.go i H/\∀x H',J.yld i H x H'->g x (blk t js Z) H' fun Z2 H2=>Wk (blk t js Z) Z2/\te Z2 H2 fun y H3=>H3 p=some (.lst ys)/\ys.length<sizeLine/\∃m',m' < m/\W (i+1) m' (ys++[y]) (upd H3 p (.lst (ys++[y]))))
def Jm(U:TI)(g:TG)(I:TE)(t:Nat)(C:List Nat):TE:=fun Z H Q=>U Z H fun J o=>∀p,o p=none->pq J g I t C Z p o Q
theorem Am{prog:Program}{w:World}{A:Around}{R:Result->Shared->Prop}{s:Shared}{g o d:Expr}{C:Scope}{p:Pos}{it acc:Value}{env:Env}(I:Nat->Shared->Prop)
  (turn:∀n s,I n s->wpAny (model prog w) A (pyNext it) (fun r U=>match r with
   | none=>R (.ok .next) U
   | some v=>wpAny (model prog w) A (letOwnedTupleGo o it v) (fun _ J=>wpAny (model prog w) A (assign o env v) (fun _ c=>wpAny (model prog w) A (eval g env) (fun x b=>
     wpAny (model prog w) A (call (.builtin "list.append") [acc,x]) (fun _ f=>∃m,m<n/\I m f) (fun _ _=>False) b)
     (fun _ _=>False) c) (fun _ _=>False) J) (fun _ _=>False) U) (fun _ _=>False) s)
  (n:Nat) (h:I n s):
  codeAny (model prog w) A (.compLoop (.ListComp g [⟨o,d,[],0⟩] C p) 0 it acc env) R s:=by
 refine codeAny_loop rfl I (fun n s y=> ?_) n h
 show wpAny _ _ ((compTurn (.ListComp g [⟨o,d,[],0⟩] C p) 0 it acc env).onRaise (fun x=>do noteFrame x env;theTreesLotGoes x)) _ _ s
 refine wpAny_noted ?_
 rw[compTurn_list1];refine mF (Qj (mF (ND (turn n s y) (fun r U e=> ?_) fun _ _ a=>a.elim)))
 cases r with
 | none=>exact MQ e
 | some v=>
  exact mF (ND e (fun _ J i=>mF (ND i (fun _ c u=>mF (mF (ND u (fun x b q=>mF (ND q
   (fun _ f j=>MQ (MQ ⟨rfl,j⟩)) fun _ _ a=>a.elim)) fun _ _ a=>a.elim))) fun _ _ a=>a.elim)) fun _ _ a=>a.elim)
section
variable {X : Cx}
theorem CI{f:List (Addr × Obj)}{Z:St}{M:Shared}{sc0 I:Scope}{N0 N:List Str}{t:Nat}{js:List Nat}{aH S tg:Expr}{a8:Pos}{g:TG}{te:TE}{J:It}{z:Hp}{it:Addr}{j:List Addr}{tn:Nat->Heap->Prop}
  {RR:Value->Addr->Result->Shared->Prop}{Q:V->Hp->Prop}{E:Value->Shared->Prop}(hc:X.calm=true) (bw:X.env.scope=sc0) (br:X.N=N0) (B:pJ sc0 I N0 N t js)
  (hg:∀(C:Addr) (s:Shared) (H:Hp) (j:List Addr),PG (cxB X I N C s H j) tg g) (he:∀(C:Addr) (s:Shared) (H:Hp) (j:List Addr),PE (cxB X I N C s H j) aH te)
  (I2:Inv X f Z z M) (T:Dh X.prog X.w X.K tg J j it tn) (ao:tn 0 M.heap) (f2:∀b∈j,tM X f z b)
  (h:∀p,z p=none->pq J g te t js Z p z Q)
  (bE:∀(U:Shared) (H3:Hp) (p:Addr) (G:Hp) (s':Shared) (m:Str->Option Value),Inv X f Z H3 U->Inv X f Z G s'->s'.heap.Ns U.heap.objs.size m->G U.heap.objs.size=none->Q (.ref p) G->RR (.ref p) U.heap.objs.size (.ok .next) s'):
  wpAny (model X.prog X.w) X.A (newList []) (fun acc ba=>wpAny (model X.prog X.w) X.A (newFunctionEnv I X.env.globals (tX I.names X.env []) [] X.env.qual none .none (some X.env)) (fun Y bj=>
   codeAny (model X.prog X.w) X.A (.compStart (.ListComp aH [⟨tg,S,[],0⟩] I a8) 0 (.ref it) acc {Y with scope:=relabel I X.env}) (RR acc Y.locals) bj) E ba) E M:=by
 refine NL ?_ (by show 0<=sizeLine;decide)
 generalize hp:M.heap.objs.size=p;have ab:z p=none:=by rw[<- hp];exact I2.fresh
 generalize bo:({M with heap:=M.heap.push {cls:= .type "list",data:= .seq ([]:List Value).toArray}}:Shared)=U
 have I3:Inv X f Z (upd z p (.lst [])) U:=by
  rw[<- bo, <-hp];exact I2.laid (t':=M.toks) (fun b u e=>MB _ e) (MC _) ⟨by show 0<=sizeLine;decide,[],0,.nil,M6 _ rfl⟩
 have P:∀b o,M.heap.get? b=some o->U.heap.get? b=some o:=by
  rw[<- bo];exact fun b o e=>MB _ e
 have bD:∀b∈j,b<M.heap.objs.size:=fun b a=>by
  obtain⟨o,e,_⟩:=T.obj 0 _ ao b a;exact MK e
 have f3:∀b∈j,tM X f (upd z p (.lst [])) b:=fun b a=>⟨by rw[aj (by rw[<- hp];exact M5 (bD b a))];exact(f2 b a).1,(f2 b a).2⟩
 have a6:∀b∈j,b<U.heap.objs.size:=fun b a=>by
  obtain⟨o,e,_⟩:=T.obj 0 _ ao b a;exact MK (P b o e)
 have bM:tn 0 U.heap:=T.keep _ _ _ ao fun b _ o e=>P b o e
 obtain⟨W,⟨m0,w0⟩,turn⟩:=(h p ab).out;refine wpAny_newFunctionEnv B.cell (by intro y hy;simp at hy) (fun bh L v=> ?_) B.kind
 generalize bb:({U with heap:=bh,toks:=U.toks+([]:List (Str × Value)).length}:Shared)=s4
 have I4:Inv (cxB X I N U.heap.objs.size U (upd z p (.lst [])) j) [] (blk t js Z) (upd z p (.lst [])) s4:=by
  rw[<- bb];exact Fc I3 bw br B f3 a6 L v
 have aR:tn 0 s4.heap:=by
  rw[<- bb];exact T.keep _ _ _ bM fun b a o e=>(v.2 b (M5 (a6 b a))).trans (MB _ e)
 have F:∀{G:Hp},(∀b∈j,G b=none)->∀b∈j,tM (cxB X I N U.heap.objs.size U (upd z p (.lst [])) j) [] G b:=fun {G} hn b a=>by
  refine⟨hn b a,(I4.ok.exf b a).1,I4.ok.exfs b a,.inl a,fun x c e=>(I4.ok.exf b a).2 x c e,fun q hq=>absurd (show q∈([]:List (Addr × Obj)) from hq) (by simp)⟩
 have R:∀D:Shared,D=s4->codeAny (model X.prog X.w) X.A (.compLoop (.ListComp aH [⟨tg,S,[],0⟩] I a8) 0 (.ref it) (.ref p) (compEnvC I (tX I.names X.env []) U.heap.objs.size X.env)) (RR (.ref p) U.heap.objs.size) D:=by
  rintro D rfl
  refine Am (fun n s'=>∃i ys G,Inv (cxB X I N U.heap.objs.size U (upd z p (.lst [])) j) [] (blk t js Z) G s'/\tn i s'.heap/\(∀b∈j,G b=none)/\W i n ys G) ?_ m0 ⟨0,[],_,I4,aR,fun b a=>(f3 b a).1,w0⟩
  rintro n s5 ⟨i,ys,H5,I5,a',aK,w5⟩
  rcases turn i n ys H5 w5 with⟨a9,qn⟩|⟨go,step⟩
  .refine thn (T.done (cxB X I N U.heap.objs.size U (upd z p (.lst [])) j) rfl rfl rfl hc i [] s5 _ H5 _ I5 (F aK) a' a9) fun r s6 ⟨hr,I6⟩=> ?_
   subst hr;obtain⟨m6,bx,_⟩:=I6.loc;exact bE U _ p H5 s6 m6 I3 (EW I3 f3 I6) bx I6.free qn
  .refine Cf (T.item (cxB X I N U.heap.objs.size U (upd z p (.lst [])) j) rfl rfl rfl hc i [] s5 _ H5 _ I5 (F aK) a' go) fun r s6 u hr h6=> ?_
   subst hr;refine thn h6 fun _ s7 ⟨x,H7,I7,r7,y7,ar,bV⟩=> ?_
   have bt:=I7.pinned (F bV) (T.obj _ _ ar);refine thn (hg _ _ _ _ _ s7 _ H7 x u _ bt r7 (step x H7 y7)) fun _ s8 ⟨Z8,H8,I8,bu,q8⟩=> ?_
   refine thn (he _ _ _ _ _ s8 Z8 H8 _ I8 q8) fun v9 s9 ⟨y,H9,I9,r9,bz,hz,m',hm,w9⟩=> ?_
   refine cO (cC _ s9 Z8 H9 (.ref p) [y] (.ref p) [v9] (fun _ a7=>a7=upd H9 p (.lst (ys++[y]))) I9 rfl (.cons r9 .nil) ⟨p,ys,y,rfl,rfl,bz,hz,rfl⟩) fun _ bW _ a7 O _ bH=> ?_
   subst bH;refine⟨m',hm,i+1,ys++[y],_,?_,T.keep _ _ _ ar fun b a o e=>(O.pin (b,o) (Nf _ (Nf _ (lX a e)))).1,fun b a=> ?_,w9⟩
   .exact O.unpinned.weak (by rw[I5.len];exact O.len.symm) bu
   .obtain⟨o,e,d⟩:=T.obj _ _ ar b a;exact(O.pin (b,o) (Nf _ (Nf _ (lX a e)))).2.1
 exact codeAny_compStart_list (R _ rfl) (T.self _ 0 _ _ _ aR (R _ rfl))
variable {sc0 scope : Scope} {N0 N : List Str} {t : Nat} {js : List Nat} {elt iter tg : Expr} {pos : Pos} {wi : TI} {g : TG} {te : TE}
theorem ko(z:X.calm=true)(a:X.env.scope=sc0)(c:X.N=N0)(B:pJ sc0 scope N0 N t js)(i:PI X tg iter wi)(u:∀(C:Addr) (s:Shared) (H:Hp) (b:List Addr),PG (cxB X scope N C s H b) tg g)
  (y:∀(C:Addr) (s:Shared) (H:Hp) (b:List Addr),PE (cxB X scope N C s H b) elt te) (hs:∀x,foldedSetIterable iter X.env x=pure x:=by intro _;rfl):PE X (.ListComp elt [⟨tg,iter,[],0⟩] scope pos) (Jm wi g te t js):=by
 intro o s Z H Q I h;rw[eval_ListComp];refine Pd (use:=none) rfl hs (qy (xx I a B)) B.kind B.names (thn (i o s Z H _ I h) fun v M r=>thn r fun F Y E=> ?_)
 obtain⟨it,b,P,J,S,e,G,T,d,f2,j⟩:=E;subst e;refine CI (RR:=fun acc C=>compPost (model X.prog X.w) X.A X.xe none (EP X o Z Q) acc C) (Q:=Q) z a c B u y G T d f2 j ?_
 intro s3 R p K s' m L D n U q;exact⟨m,n,fun O f=>⟨.ref p,K,Bj L D rfl U f,rfl,q⟩⟩
theorem HV{i:Nat}{y:Str}{j U:Pos}(hc:X.calm=true)(d:X.env.scope=sc0)(r:X.N=N0)(B:pJ sc0 scope N0 N t js)(hN:X.N.Nodup)(L:X.N[i]? =some y)(O:Loc X.env.scope y)(P:PI X tg iter wi)
  (hg:∀(C:Addr) (s:Shared) (H:Hp) (n:List Addr),PG (cxB X scope N C s H n) tg g) (he:∀(C:Addr) (s:Shared) (H:Hp) (n:List Addr),PE (cxB X scope N C s H n) elt te)
  (hs:∀x,foldedSetIterable iter X.env x=pure x:=by intro _;rfl)
  (M:swapsWith (.ListComp elt [⟨tg,iter,[],0⟩] scope pos) (some (.Name y j)) U.line X.env=pure true:=by rfl)
  (hf:X.fn y=true\/X.env.scope.names.lookup y=some .local:=by first | exact .inl rfl | exact .inr rfl | assumption):
  PS X (.Assign [.Name y j] (.ListComp elt [⟨tg,iter,[],0⟩] scope pos) U) (IT (Jm wi g te t js) (BS i)):=by
 intro o s Z H D I h;rw[exec_Assign_Name_used _ _ _ _ M];refine mF (Qj (mF ?_))
 show wpAny _ X.A (do let _ <-comprehension (.ListComp elt [⟨tg,iter,[],0⟩] scope pos) scope X.env _ (newList []) false (eval iter X.env) (some (assign (.Name y j) X.env))) _ _ s
 refine mF (ND (Pd (use:=some (assign (.Name y j) X.env)) (Q:=fun _ f=>SP X o D .next f) rfl hs (qy (xx I d B)) B.kind B.names
  (thn (P o s Z H _ I h) fun v s1 Y=>thn Y fun ab s2 h2=> ?_)) (fun _ f hq=>MQ (MQ hq)) fun _ _ e=>e)
 obtain⟨it,n,tn,J,H2,e,I2,T,u,f2,R⟩:=h2;subst e;refine CI (RR:=fun acc C=>compPost (model X.prog X.w) X.A X.xe (some (assign (.Name y j) X.env)) (fun _ f=>SP X o D .next f) acc C) (Q:=fun x H1=>BS i x Z H1 D.nx) hc d r B hg he I2 T u f2 R ?_
 intro s3 H3 p H' f m K I' S b q;refine wpAny_assign_Name (yk (v:=V.ref p) I' hN L O (show bv (.ref p) (.ref p) from rfl) (fun ao G ⟨a,F,c⟩=>⟨m,S.sameBut F ?_,fun h' E=>⟨_,H',Bj K G rfl b E,q⟩⟩) hf)
 rcases c with c | c
 .rw[c];exact N_ K.lt
 .obtain⟨v,z⟩:=K.cell y a c;exact N_ z.lt
end
section
variable {X : Cx}
def mG(x:V)(xs:List V)(j:Nat):Prop:=(∃y,xs[j]? =some y/\eqV y x=true)/\∀m y,m<j->xs[m]? =some y->eqV y x=false
def JR(K:Frag):V->List V->Hp->VK->Prop:=fun x C H Q=>∃p o y j,x= .ref p/\C=[y]/\SqL K H p o/\kf y=true/\o.all kf=true/\mG y o j/\Q (.int j) H
theorem yq{x:V}{xs:List V}{o:List Value}{j:Nat}(r:bg xs o)(fs:xs.all kf=true)(f:mG x xs j):
  ∃d:j<o.toArray.size,eqU x o.toArray[j]=true/\∀m (hm:m<o.toArray.size),m<j->eqU x o.toArray[m]=false:=by
 obtain⟨⟨y,b,g⟩,I⟩:=f;have c:∀(m:Nat) (z:V),xs[m]? =some z->kf z=true:=fun m z q=>List.all_eq_true.mp fs z (MD q)
 obtain⟨u,p,n⟩:=r.get b;obtain⟨d,e⟩:=gV.mp p;refine⟨by simpa using d,?_,fun m hm U=> ?_⟩
 .rw[List.getElem_toArray,e,y_ n (c _ _ b)];exact g
 .have hm':m<o.length:=by simpa using hm
  have C:m<xs.length:=by rw[r.length];exact hm'
  obtain⟨s,a,J⟩:=r.get (be C);obtain⟨_,i⟩:=gV.mp a;rw[List.getElem_toArray,i,y_ J (c _ _ (be C))];exact I m _ U (be C)
theorem Gm:MtM X "list.index" (JR X.K):=by
 intro d s Z H x O v N Q I m B h;obtain⟨p,L,y,j,rfl,rfl,D,w,fs,i,q⟩:=h
 cases m
 obtain⟨u,rfl,A⟩:=B.one;obtain⟨U,r,⟨o,n,e,c,hd,hs⟩,b⟩:=I.list D;obtain⟨f,C,J⟩:=yq r fs i;obtain⟨M,P,g,a⟩:=o
 simp only at c hd hs
 subst c hd hs;have E:=tP;have G:=r.length;refine O0 F.slot_list_index ⟨_,e,rfl⟩ F.entry_list_index (F.args_list_index_2 _ _) (SeqAt.list_indexAt p U.toArray n none a u (eqU y) j f (by rw[MI] at f;lia) C J) ⟨e,fun z b=>jF A w r fs z (by simpa using b),?_⟩
 exact⟨.int j,H,I.tok _,⟨_,rfl⟩,q⟩
theorem ve{M:Model}{A:Around}{E:Value->Shared->Prop}{s:Shared}{U:Type}(n:Nat)(f:Nat->U->Sem (ForInStep U))(I:Nat->U->Shared->Prop)(Q:U->Shared->Prop)
  (turn:∀i b s,i<n->I i b s->wpAny M A (f i b) (fun r c=>match r with | .yield b'=>I (i+1) b' c | .done b'=>Q b' c) E s)
  (fin:∀b s,I n b s->Q b s) (b:U) (h:I 0 b s):wpAny M A (forIn [:n] b f) Q E s:=by
 rw[Std.Legacy.Range.forIn_eq_forIn_range'];have d:List.range' [:n].start [:n].size [:n].step=(List.range n):=by simp [Std.Legacy.Range.size,List.range_eq_range']
 rw[d];refine wpAny_forIn_list f (fun rg b s=>∃i,rg=(List.range n).drop i/\i<=n/\I i b s) Q (fun x rg b s C=> ?_) (fun b s C=> ?_) _ b ⟨0,rfl,Na _,h⟩
 .obtain⟨i,o,hi,C⟩:=C;have J:i<n:=by
   rcases Ol i n with h' | h'
   .exact h'
   .rw[List.drop_of_length_le (by simpa using h')] at o;cases o
  rw[NG (by simpa using J)] at o
  injection o with a h2
  have a:x=i:=by simpa using a
  subst a;refine ND (turn x b s J C) (fun r c o=> ?_) fun _ _ e=>e
  cases r with
  | done b'=>exact o
  | yield b'=>exact⟨x+1,h2,J,o⟩
 .obtain⟨i,o,hi,C⟩:=C;have:i=n:=by
   rcases Ol i n with h' | h'
   .rw[NG (by simpa using h')] at o;cases o
   .lia
  subst this;exact fin b s C
theorem x6(l:Addr)(o:Array Value)(n:Nat)(dd:Option Addr)(sl:Array (Option Value))(x:Value)(e:Value->Bool)(j:Nat)(D:j<o.size)(U:e o[j]=true)(a:∀m (hm:m<o.size),m<j->e o[m]=false):
  Meets (Builtin.«tuple.index» ⟨[.ref l,x],[]⟩)
   (fun A R s=>s.heap.get? l=some {cls:= .type "tuple",dict:=dd,data:= .seq o n,slots:=sl}/\(∀y,y∈o->SeqAt.EqAt A.in1 s y x (e y))/\R (.ok (.ret (.int j s.toks))) {s with toks:=s.toks+1}):=
 .of_wp fun I w A R s h=>by
  obtain⟨r,g,d,v,u⟩:=s;obtain⟨p,q,h⟩:=h
  wp_walk using AutoSeq1.wpAny_loadPart' p,ve _ _ (fun i b c=>b.1=none/\c=⟨r,g,d,v,u⟩/\i<=j) _
  case turn=>
   rintro i ⟨E,B⟩ c z ⟨f,rfl,J⟩
   have C:i<o.size:=by lia
   rw[Array.getElem?_eq_getElem C];refine mF (q _ (Array.getElem_mem C) I w _ _ ?_)
   rcases Ol i j with hlt | hge
   .rw[a i C hlt]
    wp_walk
    exact⟨rfl,rfl,hlt⟩
   .have hij2:i=j:=by lia
    subst hij2;rw[U]
    wp_walk
    exact⟨_,rfl,h⟩
  case fin=>
   rintro b c ⟨f,rfl,J⟩
   lia
  case h=>exact⟨rfl,rfl,Na _⟩
theorem E4:MtM X "tuple.index" (fun x vs H Q=>∃p xs y j,x= .ref p/\vs=[y]/\SqT X.K H p xs/\kf y=true/\xs.all kf=true/\mG y xs j/\Q (.int j) H):=by
 intro d s Z H x vs v L Q I i A h;obtain⟨p,xs,y,j,rfl,rfl,D,m,fs,g,q⟩:=h
 cases i
 obtain⟨u,rfl,w⟩:=A.one;obtain⟨U,r,⟨o,e,c,n,hs⟩,b⟩:=I.tuple D;obtain⟨B,C,J⟩:=yq r fs g;obtain⟨G,E,f,a⟩:=o
 simp only at c hs
 subst c hs;refine O0 F.slot_tuple_index ⟨_,e,rfl⟩ F.entry_tuple_index (F.args_tuple_index_2 _ _) (x6 p U.toArray n E a u (eqU y) j B C J) ⟨e,fun z b=>jF w m r fs z (by simpa using b),?_⟩
 exact⟨.int j,H,I.tok _,⟨_,rfl⟩,q⟩
noncomputable def Cq(o:Params)(L:List (Str × Tok × Value)):Array DictEntry:=(L.map fun p=>(⟨PyData.keyHash o p.1,.str p.1 p.2.1,p.2.2⟩:DictEntry)).toArray
def SqD(o:Params)(K:Frag)(a:Addr)(kvs:List (Str × V)):Prop:=
 ∃(L:List (Str × Tok × Value)) (n:Nat),K.lookup a=some {cls:= .type "dict",data:= .dict (Cq o L) n}/\Paired (fun(p:Str × V) (q:Str × Tok × Value)=>p.1=q.1/\bv p.2 q.2.2) kvs L
theorem CB{x:Str}:∀{kvs:List (Str × V)}{L:List (Str × Tok × Value)}{v:V}(o:Params),Paired (fun(p:Str × V) (q:Str × Tok × Value)=>p.1=q.1/\bv p.2 q.2.2) kvs L->kvs.lookup x=some v->
  ∃u,bv v u/\findBy lE (Cq o L) (Sum.inr x:Key)=some u
 | _,_,_,_,.nil,h=>by simp at h
 | p::kvs,q::L,v,o,.cons hpq r,h=>by
  obtain⟨b,a⟩:=hpq;obtain⟨C,pv⟩:=p;obtain⟨g,U,J⟩:=q
  simp only at b a
  subst b;rw[N6] at h;have d:findBy lE (Cq o ((C,U,J)::L)) (Sum.inr x:Key)=if (x==C)=true then some J else findBy lE (Cq o L) (Sum.inr x:Key):=by
   unfold findBy Cq;rw[Nd];show((⟨PyData.keyHash o C,.str C U,J⟩::L.map fun p=>(⟨PyData.keyHash o p.1,.str p.1 p.2.1,p.2.2⟩:DictEntry)).toArray.find? fun e=>lE (Sum.inr x) e.key).map (·.val)=_
   rw[List.find?_toArray,NX,List.find?_toArray];have c:lE (Sum.inr x:Key) (.str C U)=(x==C):=by
    show Value.isStrOf x (.str C U)=_
    show(C==x)=(x==C)
    by_cases I:C=x
    .subst I
     rfl
    .have h1:(C==x)=false:=Nt.mpr I;have f:(x==C)=false:=Nt.mpr (Nb I);rw[h1,f]
   dsimp only;rw[c]
   cases(x==C) <;> rfl
  rw[d]
  cases hx:(x==C) with
  | true=>
   rw[hx] at h
   cases h
   exact⟨J,a,ME rfl⟩
  | false=>
   rw[hx] at h;rw[mC (by simp)]
   exact CB o r h
theorem Jt:IxR X (fun x y H Q=>∃a kvs k v,x= .ref a/\y= .str k/\SqD X.w.params X.K a kvs/\kvs.lookup k=some v/\Q v H):=by
 intro J U C s Z H x y v u Q I d m h hs;obtain⟨a,kvs,k,z,rfl,rfl,⟨L,n,c,g⟩,b,q⟩:=h
 cases d
 obtain⟨t,rfl⟩:=m;have e:=I.kIn a _ c;obtain⟨u,f,i⟩:=CB X.w.params g b;have hm:s.heap.MapOf (cr X.prog X.w) a (fun k=>findBy lE (Cq X.w.params L) k):=by
  refine⟨_,_,_,e,⟨rfl,rfl,rfl⟩,rfl,fun en o=> ?_,fun k=>rfl⟩
  have o:en∈(L.map fun p=>(⟨PyData.keyHash X.w.params p.1,.str p.1 p.2.1,p.2.2⟩:DictEntry)):=by simpa [Cq] using o
  obtain⟨p,_,rfl⟩:=Nn.mp o;exact⟨Sum.inr p.1,yz p.1 p.2.1,rfl⟩
 exact Oz (x:=u) hm.typeIs slot_dict_getitem.lookup (wpAny_getItem_of (Q:=fun r j=>r=u/\EP X C Z Q r j) (uB X.prog X.w k t) hm i ⟨rfl,⟨z,H,I.tok _,f,q⟩⟩) hs
end
section
variable {prog : Program} {w : World} {A : Around} {E : Value → Shared → Prop} {s : Shared}
theorem DE{q t:Addr}{k:Nat}{C:Array Value}{v:Value}{Q:Value->Shared->Prop}(U:s.heap.IsTupleIter q t k)(c:s.heap.IsTuple t C)(a:C[k]? =some v)
  (d:∀h',h'.IsTupleIter q t (k+1)->Heap.SameBut q s.heap h'->Q v {s with heap:=h'}):wpAny (model prog w) A (Builtin.SmallTypes.nextOf (.ref q)) Q E s:=by
 obtain⟨o,ho,b,hd⟩:=id U;obtain⟨f,I,_,e,J⟩:=c;unfold Builtin.SmallTypes.nextOf;refine mF (NB (name:=Str.ofString "__next__") U.typeIs NR (N5 NR U.typeIs OV ?_ (OO _)))
 show wpAny _ _ (field (.ref q) 0 >>= _) _ _ s
 refine mF (NA ho hd (x:= .ref t) rfl ?_)
 show wpAny _ _ (if (Value.ref t==Value.none)=true then _ else _) _ _ s
 rw[mC (show ¬((Value.ref t==Value.none)=true) from MP)];show wpAny _ _ (field (.ref q) 1 >>= _) _ _ s
 refine mF (NA ho hd (x:= .int k 0) rfl ?_)
 show wpAny _ _ (seqItems? (.ref t) >>= _) _ _ s
 refine mF (NS I J ?_)
 simp only[MN,a]
 refine mF (wpAny_setField ho hd (by simp) (MQ ⟨v,rfl,MQ (d _ ?_ (Heap.SameBut.update ..))⟩))
 exact⟨_,PZ _ ho (Obj.isFreed_of_fields (Obj.data_mapFields hd _)),(Obj.cls_mapFields ..).trans b,by rw[Obj.data_mapFields hd];simp [rawInt]⟩
theorem EE{q t:Addr}{k:Nat}{C:Array Value}{Q:Value->Shared->Prop}(b:A.handled=none)(U:s.heap.IsTupleIter q t k)(d:s.heap.IsTuple t C)(c:C[k]? =none)
  (f:∀h' e,Heap.ExtBut q s.heap h'->(∃o,h'.get? e=some o/\o.cls= .type "StopIteration")->E (.ref e) {s with heap:=h'}):wpAny (model prog w) A (Builtin.SmallTypes.nextOf (.ref q)) Q E s:=by
 obtain⟨o,ho,i,hd⟩:=id U;obtain⟨j,I,_,g,J⟩:=d;unfold Builtin.SmallTypes.nextOf;refine mF (NB (name:=Str.ofString "__next__") U.typeIs NR (N5 NR U.typeIs OV ?_ (OO _)))
 show wpAny _ _ (field (.ref q) 0 >>= _) _ _ s
 refine mF (NA ho hd (x:= .ref t) rfl ?_)
 show wpAny _ _ (if (Value.ref t==Value.none)=true then _ else _) _ _ s
 rw[mC (show ¬((Value.ref t==Value.none)=true) from MP)];show wpAny _ _ (field (.ref q) 1 >>= _) _ _ s
 refine mF (NA ho hd (x:= .int k 0) rfl ?_)
 show wpAny _ _ (seqItems? (.ref t) >>= _) _ _ s
 refine mF (NS I J ?_)
 simp only[MN,c]
 refine mF (Qz (mF (wpAny_setField ho hd (by simp) ?_)))
 show wpAny _ _ (newExc (.type "StopIteration") [] >>= _) _ _ _
 refine mF ?_
 simp only[newExc,newTuple]
 refine mF (NL ?_ (by size_fits))
 refine mF (m:=firstArgMember _ _) (wpAny_of_eq (a:=Value.none) (by first | rfl | (simp only[firstArgMember];rfl)) ?_)
 refine NL ?_ (by size_fits)
 simp only[raiseNew]
 refine mF (wpAny_handled ?_)
 first | rw[show A.in1.handled=none from b] | rw[b]
 refine mF (MQ (wpAny_throw ?_))
 exact f _ _ (((Heap.SameBut.update ..).extBut.push _).push _) ⟨_,M6 _ rfl,rfl⟩
end
theorem AK{prog:Program}{w:World}{A:Around}(b:A.handled=none)(q t:Addr)(I:t≠q)(C:Array Value):
  Draws prog w A q [q,t] C.size (fun i v=>C[i]? =some v) (fun i h=>h.IsTupleIter q t i/\h.IsTuple t C) where
 live:=fun _ _ st=>let ⟨o,ho,_⟩:=st.1;⟨o,ho⟩
 frame:=fun _ _ _ st U=>⟨st.1.at fun o e=>U q (by simp) o e,st.2.at fun o e=>U t (by simp) o e⟩
 item:=fun i s Q E J st d=>by
  refine DE st.1 st.2 (v:=C[i]) (by simp [J]) fun a c hs=> ?_
  exact d _ a s.toks (by simp [J]) ⟨c,st.2.extBut hs.extBut I⟩ hs
 done:=fun s Q E st f=>EE b st.1 st.2 (by simp) f
structure ZA (z TI TO i1 i2:Addr) (fp1 fp2:List Addr):Prop where
 TIz:TI≠z
 TOz:TO≠z
 i1z:i1≠z
 i2z:i2≠z
 TITO:TI≠TO
 TIi1:TI≠i1
 TIi2:TI≠i2
 TOi1:TO≠i1
 TOi2:TO≠i2
 i12:i1≠i2
 z1:z ∉ fp1
 z2:z ∉ fp2
 o1:TO ∉ fp1
 o2:TO ∉ fp2
 a2:i1 ∉ fp2
 a1:i2 ∉ fp1
section
variable {prog : Program} {w : World} {A : Around} {E : Value → Shared → Prop} {s : Shared} {z TI TO i1 i2 : Addr} {fp1 fp2 : List Addr} {n1 n2 : Nat} {P1 P2 : Nat → Value → Prop} {S1 S2 : Nat → Heap → Prop}
def ZK(z TO i1 i2:Addr)(h h':Heap):Prop:=∀c o,c≠z->c≠TO->c≠i1->c≠i2->h.get? c=some o->h'.get? c=some o
theorem mZ{D1:Draws prog w A i1 fp1 n1 P1 S1}{k:Nat}{h h':Heap}{b:Addr}(st:S1 k h)(hs:Heap.SameBut b h h')(C:b ∉ fp1):S1 k h':=D1.frame _ _ _ st fun c I o e=>hs.extBut c o (fun q=>C (q ▸ I)) e
theorem Ff{k:Nat}{a b:Value}{Q:Value->Shared->Prop}(D1:Draws prog w A i1 fp1 n1 P1 S1)(B:Draws prog w A i2 fp2 n2 P2 S2)(D:ZA z TI TO i1 i2 fp1 fp2)
  (N:IsZip s.heap z TI TO .none) (Y:IsPair s.heap TI (.ref i1) (.ref i2)) (a6:IsPair s.heap TO a b) (h1:S1 k s.heap) (h2:S2 k s.heap) (l1:k<n1) (l2:k<n2)
  (hQ:∀x y h' tk,P1 k x->P2 k y->IsZip h' z TI TO (rawInt s.heap.objs.size)->IsPair h' TO x y->S1 (k+1) h'->S2 (k+1) h'->IsPair h' s.heap.objs.size x y->ZK z TO i1 i2 s.heap h'->Q (.ref s.heap.objs.size) {s with heap:=h',toks:=tk}):
  wpAny (model prog w) A (Builtin.«zip.__next__» ⟨[.ref z],[]⟩) (fun fin s'=>∃v,fin= .done (.ret v)/\Q v s') E s:=by
 obtain⟨hp,g,d,ab,os⟩:=s;show wpAny _ _ (field (.ref z) 2 >>= _) _ _ _
 refine mF (NA N rfl (x:= .bool false) rfl ?_)
 show wpAny _ _ (field (.ref z) 3 >>= _) _ _ _
 refine mF (NA N rfl (x:= .ref TI) rfl ?_)
 refine mF (NS Y rfl ?_)
 show wpAny _ _ (Builtin.SmallTypes.ownedTupleIsFree (.ref z) >>= _) _ _ _
 refine mF ?_
 unfold Builtin.SmallTypes.ownedTupleIsFree;refine mF (NA N rfl (x:= .none) rfl (MQ ?_))
 simp only[O9]
 refine mF (Qz ?_)
 refine mF (NA N rfl (x:= .ref TO) rfl ?_)
 refine mF (NT N (by simp) fun H f p=> ?_)
 replace f:IsZip H z TI TO .ellipsis:=f
 replace p:Heap.SameBut z hp H:=p
 refine mF ?_
 simp only[List.zipIdx_cons,List.zipIdx_nil,PR,List.forIn_nil]
 refine mF (mF (Pe ?_))
 show wpAny _ _ (Builtin.SmallTypes.nextOf (.ref i1) >>= _) _ _ _
 have ar:S1 k H:=mZ (D1:=D1) h1 p D.z1;have a9:S2 k H:=mZ (D1:=B) h2 p D.z2;refine mF (D1.item k _ _ _ l1 ar fun x R t2 hx aR j=>MQ ?_)
 replace j:Heap.SameBut i1 H R:=j
 have a7:S2 k R:=mZ (D1:=B) a9 j D.a2;have G:IsPair R TO a b:=j.extBut _ _ D.TOi1 (p.extBut _ _ D.TOz a6);refine mF (NS G rfl ?_)
 refine mF (OL G fun F m i=> ?_)
 replace m:IsPair F TO x b:=m
 replace i:Heap.SameBut TO R F:=i
 refine mF (wpAny_letGo (MQ ?_))
 have ao:S1 (k+1) F:=mZ (D1:=D1) aR i D.o1;have a8:S2 k F:=mZ (D1:=B) a7 i D.o2;refine mF (mF (Pe ?_))
 show wpAny _ _ (Builtin.SmallTypes.nextOf (.ref i2) >>= _) _ _ _
 refine mF (B.item k _ _ _ l2 a8 fun y P t4 hy aH r=>MQ ?_)
 replace r:Heap.SameBut i2 F P:=r
 have T:S1 (k+1) P:=mZ (D1:=D1) ao r D.a1;have K:IsPair P TO x b:=r.extBut _ _ D.TOi2 m;refine mF (NS K rfl ?_)
 refine mF (OL K fun C J n=> ?_)
 replace J:IsPair C TO x y:=J
 replace n:Heap.SameBut TO P C:=n
 refine mF (wpAny_letGo (MQ (MQ ?_)))
 have X:S1 (k+1) C:=mZ (D1:=D1) T n D.o1;have aK:S2 (k+1) C:=mZ (D1:=B) aH n D.o2;refine mF (NS J rfl ?_)
 refine mF (wpAny_newTuple ?_)
 have M:C.objs.size=hp.objs.size:=by rw[n.1,r.1,i.1,j.1,p.1]
 have O:IsZip C z TI TO .ellipsis:=n.extBut _ _ D.TOz.symm (r.extBut _ _ D.i2z.symm (i.extBut _ _ D.TOz.symm (j.extBut _ _ D.i1z.symm f)));have Z:ZK z TO i1 i2 hp C:=fun c o c1 c2 c3 c4 e=>n.extBut _ _ c2 (r.extBut _ _ c4 (i.extBut _ _ c2 (j.extBut _ _ c3 (p.extBut _ _ c1 e))))
 have U:z<C.objs.size:=MK O;show wpAny _ _ (Builtin.SmallTypes.ownedTupleHandOut (.ref z) (.ref C.objs.size) >>= _) _ _ _
 refine mF ?_
 unfold Builtin.SmallTypes.ownedTupleHandOut;have a':IsZip (C.push {cls:= .type "tuple",data:= .seq #[x,y]}) z TI TO .ellipsis:=MB _ O;refine mF (NT a' (by simp) fun g7 u e7=> ?_)
 replace u:IsZip g7 z TI TO (rawInt C.objs.size):=u
 refine NT u (by simp) fun S I e8=> ?_
 replace I:IsZip S z TI TO (rawInt C.objs.size):=I
 have up:∀c o,c≠z->C.get? c=some o->S.get? c=some o:=fun c o c1 e=>e8.extBut _ _ c1 (e7.extBut _ _ c1 (MB _ e))
 have L:IsPair S C.objs.size x y:=e8.extBut _ _ (N_ U) (e7.extBut _ _ (N_ U) (M6 _ rfl));rw[M] at I L;refine MQ ⟨_,rfl,?_⟩
 show Q (.ref C.objs.size) _
 rw[M];exact hQ x y S _ hx hy I (up _ _ D.TOz J) (D1.frame _ _ _ X fun c hc o e=>up c o (fun q=>D.z1 (q ▸ hc)) e) (B.frame _ _ _ aK fun c hc o e=>up c o (fun q=>D.z2 (q ▸ hc)) e) L fun c o c1 c2 c3 c4 e=>up c o c1 (Z c o c1 c2 c3 c4 e)
theorem FK{k:Nat}{a b:Value}{Q:PySem.Fin->Shared->Prop}(D1:Draws prog w A i1 fp1 n1 P1 S1)(F:Draws prog w A i2 fp2 n2 P2 S2)(D:ZA z TI TO i1 i2 fp1 fp2)
  (B:IsZip s.heap z TI TO .none) (K:IsPair s.heap TI (.ref i1) (.ref i2)) (N:IsPair s.heap TO a b) (Z:S1 k s.heap) (h2:S2 k s.heap) (p:k=n1\/(k<n1/\k=n2))
  (X:∀h' e tk,ZK z TO i1 i2 s.heap h'->(∃o,h'.get? e=some o/\o.cls= .type "StopIteration")->E (.ref e) {s with heap:=h',toks:=tk}):
  wpAny (model prog w) A (Builtin.«zip.__next__» ⟨[.ref z],[]⟩) Q E s:=by
 obtain⟨hp,g,d,R,os⟩:=s;show wpAny _ _ (field (.ref z) 2 >>= _) _ _ _
 refine mF (NA B rfl (x:= .bool false) rfl ?_)
 show wpAny _ _ (field (.ref z) 3 >>= _) _ _ _
 refine mF (NA B rfl (x:= .ref TI) rfl ?_)
 refine mF (NS K rfl ?_)
 show wpAny _ _ (Builtin.SmallTypes.ownedTupleIsFree (.ref z) >>= _) _ _ _
 refine mF ?_
 unfold Builtin.SmallTypes.ownedTupleIsFree;refine mF (NA B rfl (x:= .none) rfl (MQ ?_))
 simp only[O9]
 refine mF (Qz ?_)
 refine mF (NA B rfl (x:= .ref TO) rfl ?_)
 refine mF (NT B (by simp) fun n U m=> ?_)
 replace U:IsZip n z TI TO .ellipsis:=U
 replace m:Heap.SameBut z hp n:=m
 refine mF ?_
 simp only[List.zipIdx_cons,List.zipIdx_nil,PR,List.forIn_nil]
 refine mF (mF (Pe ?_))
 show wpAny _ _ (Builtin.SmallTypes.nextOf (.ref i1) >>= _) _ _ _
 have y:S1 k n:=mZ (D1:=D1) Z m D.z1;have P:S2 k n:=mZ (D1:=F) h2 m D.z2;rcases p with rfl | ⟨l1,rfl⟩
 .refine mF (D1.done _ _ _ y fun i e I M=> ?_)
  replace I:Heap.ExtBut i1 n i:=I
  obtain⟨L,C,J⟩:=M;have q:IsZip i z TI TO .ellipsis:=I _ _ D.i1z.symm U;have j:e≠z:=fun x=>by subst x;rw[q] at C;cases C;simp at J
  exact NT q (by simp) fun r _ f=>X r e _ (fun c o c1 _ c3 _ x=>f.extBut _ _ c1 (I _ _ c3 (m.extBut _ _ c1 x))) ⟨L,f.extBut _ _ j C,J⟩
 .refine mF (D1.item k _ _ _ l1 y fun x i t2 hx Y I=>MQ ?_)
  replace I:Heap.SameBut i1 n i:=I
  have H:S2 k i:=mZ (D1:=F) P I D.a2;have u:IsPair i TO a b:=I.extBut _ _ D.TOi1 (m.extBut _ _ D.TOz N);refine mF (NS u rfl ?_)
  refine mF (OL u fun r ab f=> ?_)
  replace f:Heap.SameBut TO i r:=f
  refine mF (wpAny_letGo (MQ ?_))
  have O:S2 k r:=mZ (D1:=F) H f D.o2;refine mF (mF (Pe ?_))
  show wpAny _ _ (Builtin.SmallTypes.nextOf (.ref i2) >>= _) _ _ _
  refine mF (F.done _ _ _ O fun S e G M=> ?_)
  replace G:Heap.ExtBut i2 r S:=G
  obtain⟨L,C,J⟩:=M;have v:IsZip S z TI TO .ellipsis:=G _ _ D.i2z.symm (f.extBut _ _ D.TOz.symm (I.extBut _ _ D.i1z.symm U));have j:e≠z:=fun x=>by subst x;rw[v] at C;cases C;simp at J
  exact NT v (by simp) fun g5 _ T=>X g5 e _ (fun c o c1 c2 c3 c4 x=>T.extBut _ _ c1 (G _ _ c4 (f.extBut _ _ c2 (I.extBut _ _ c3 (m.extBut _ _ c1 x))))) ⟨L,T.extBut _ _ j C,J⟩
end
section
variable {X : Cx} {pins : List (Addr × Obj)} {σ : St} {H : Hp} {s : Shared} {h' : Heap}
theorem Inv.turnedN{t':Nat}{ch:List Addr}{p:Addr}{o:HO}(I:Inv X pins Z H s)(k:∀b u,b ∉ ch->s.heap.get? b=some u->h'.get? b=some u)(J:∀b∈ch,tM X pins H b)(f:s.heap.objs.size<=p)
  (new:dU X.prog X.w (upd H p o) h' p o):Inv X pins Z (upd H p o) {s with heap:=h',toks:=t'}:=by
 have U:=I.hok.fresh f;have a:∀b u,H b=some u->b ∉ ch:=fun b u e z=>by rw[(J b z).1] at e;cases e
 refine I.step (g':=s.gens) (d':=s.drawn) (ch:=ch) (fun b C=>⟨(J b C).2.2.2.1,(J b C).2.1,(J b C).2.2.2.2.1,(J b C).2.2.2.2.2⟩) (fun b u _ _ C e _=>k b u C e) (fun b u _ _ C e _=>⟨u.slots,k b u C e⟩)
  (fun b u C e n=>by rw[aj (M5 (MJ (MK e) f))];exact n) (fun b u C e=>⟨u,k b u C e⟩) (fun b g e=>by rw[aj (ak e U)];exact e) (fun b u v e=>by rw[aj (ak e U)];exact e)
  (fun b i e=>⟨#[],by rw[aj (ak e U),e];simp⟩) (fun m hm=> ?_) (fun b u e=> ?_) I.bare
 .obtain⟨v,es,ep,ho,r⟩:=hm;exact⟨v,es,ep,k _ v (fun z=>(J _ z).2.1 rfl) ho,r⟩
 .by_cases C:b=p
  .subst C;rw[ad] at e
   cases e
   exact new
  .rw[aj C] at e;refine(I.hok b u e).stay (fun c v d q=>k c v ?_ q) (fun c q=>by rw[aj (ak q U)];exact q) fun c g q=>by rw[aj (ak q U)];exact q
   rcases d with z | z
   .rw[z];exact a b u e
   .exact a c _ z
theorem Inv.turnedL{t':Nat}{ch:List Addr}(I:Inv X pins Z H s)(k:∀b u,b ∉ ch->s.heap.get? b=some u->h'.get? b=some u)(C:∀b∈ch,tM X pins H b):Inv X pins Z H {s with heap:=h',toks:=t'}:=by
 have J:∀b u,H b=some u->b ∉ ch:=fun b u e z=>by rw[(C b z).1] at e;cases e
 refine I.step (g':=s.gens) (d':=s.drawn) (ch:=ch) (fun b o=>⟨(C b o).2.2.2.1,(C b o).2.1,(C b o).2.2.2.2.1,(C b o).2.2.2.2.2⟩) (fun b u _ _ o e _=>k b u o e) (fun b u _ _ o e _=>⟨u.slots,k b u o e⟩)
  (fun b u o e n=>n) (fun b u o e=>⟨u,k b u o e⟩) (fun b a e=>e) (fun b u v e=>e) (fun b d e=>⟨#[],by rw[e];simp⟩) (fun m hm=> ?_) (fun b u e=> ?_) I.bare
 .obtain⟨v,es,ep,ho,r⟩:=hm;exact⟨v,es,ep,k _ v (fun z=>(C _ z).2.1 rfl) ho,r⟩
 .refine(I.hok b u e).stay (fun c v U q=>k c v ?_ q) (fun c q=>q) fun c a q=>q
  rcases U with z | z
  .rw[z];exact J b u e
  .exact J c _ z
end
def Sq(K:Frag)(H:Hp)(b:Bool)(a:Addr)(xs:List V):Prop:=if b=true then SqL K H a xs else SqT K H a xs
def qH(h:Heap)(b:Bool)(a:Addr)(o:Array Value):Prop:=if b=true then h.IsList a o else h.IsTuple a o
def sZ(h:Heap)(b:Bool)(q a:Addr)(i:Nat):Prop:=if b=true then h.IsListIter q a i else h.IsTupleIter q a i
noncomputable def D8(b:Bool):String:=if b=true then "list_iterator" else "tuple_iterator"
theorem qH.at{h h':Heap}{b:Bool}{a:Addr}{C:Array Value}(x:qH h b a C)(k:∀o,h.get? a=some o->h'.get? a=some o):qH h' b a C:=by
 cases b with
 | true=>exact Heap.IsList.at (show h.IsList a C from x) k
 | false=>exact Heap.IsTuple.at (show h.IsTuple a C from x) k
theorem sZ.at{h h':Heap}{b:Bool}{q a:Addr}{i:Nat}(x:sZ h b q a i)(k:∀o,h.get? q=some o->h'.get? q=some o):sZ h' b q a i:=by
 cases b with
 | true=>exact Heap.IsListIter.at (show h.IsListIter q a i from x) k
 | false=>exact Heap.IsTupleIter.at (show h.IsTupleIter q a i from x) k
theorem sZ.obj{h:Heap}{b:Bool}{q a:Addr}{i:Nat}(x:sZ h b q a i):∃o,h.get? q=some o/\∀v,o.data≠ .cell v:=by
 cases b with
 | true=>obtain⟨o,e,c,d⟩:=(show h.IsListIter q a i from x);exact⟨o,e,fun v z=>by rw[d] at z;cases z⟩
 | false=>obtain⟨o,e,c,d⟩:=(show h.IsTupleIter q a i from x);exact⟨o,e,fun v z=>by rw[d] at z;cases z⟩
theorem sZ.mk{h:Heap}{b:Bool}{q a:Addr}(e:h.get? q=some {cls:= .type (D8 b),data:= .fields #[.ref a,.int 0 0]}):sZ h b q a 0:=by
 cases b with
 | true=>exact⟨_,e,rfl,rfl⟩
 | false=>exact⟨_,e,rfl,rfl⟩
theorem qH.lt{h:Heap}{b:Bool}{a:Addr}{C:Array Value}(x:qH h b a C):a<h.objs.size:=by
 cases b with
 | true=>obtain⟨o,e,_⟩:=(show h.IsList a C from x);exact MK e
 | false=>obtain⟨o,e,_⟩:=(show h.IsTuple a C from x);exact MK e
theorem rq{prog:Program}{w:World}{A:Around}(I:A.handled=none)(b:Bool)(q a:Addr)(C:a≠q)(o:Array Value):
  Draws prog w A q [q,a] o.size (fun i v=>o[i]? =some v) (fun i h=>sZ h b q a i/\qH h b a o):=by
 cases b with
 | true=>exact Draws.list I q a C o
 | false=>exact AK I q a C o
section
variable {X : Cx} {pins : List (Addr × Obj)} {σ : St} {H : Hp} {s : Shared}
theorem Inv.sq{b:Bool}{a:Addr}{xs:List V}(I:Inv X pins Z H s)(h:Sq X.K H b a xs):∃o:List Value,bg xs o/\qH s.heap b a o.toArray:=by
 cases b with
 | true=>obtain⟨o,r,p,_⟩:=I.list (show SqL X.K H a xs from h);exact⟨o,r,p.isList⟩
 | false=>obtain⟨o,r,p,_⟩:=I.tuple (show SqT X.K H a xs from h);exact⟨o,r,p⟩
theorem Inv.sq_inj{b:Bool}{a:Addr}{xs ys:List V}(I:Inv X pins Z H s)(h:Sq X.K H b a xs)(h':Sq X.K H b a ys):xs=ys:=by
 cases b with
 | true=>exact I.list_inj (show SqL X.K H a xs from h) h'
 | false=>exact I.tuple_inj (show SqT X.K H a xs from h) h'
end
section
variable {prog : Program} {w : World} {A : Around} {E : Value → Shared → Prop} {s : Shared}
theorem yM{b:Bool}{a:Addr}{o:Array Value}{Q:Value->Shared->Prop}(h:qH s.heap b a o)
  (C:Q (.ref s.heap.objs.size) {s with heap:=s.heap.push {cls:= .type (D8 b),data:= .fields #[.ref a,.int 0 0]}}):wpAny (model prog w) A (pyIter (.ref a)) Q E s:=by
 cases b with
 | true=>exact wpAny_pyIter_list (show s.heap.IsList a o from h) C
 | false=>exact wpAny_pyIter_tuple (show s.heap.IsTuple a o from h) C
end
noncomputable abbrev zh1(b:Bool)(h:Heap)(a:Addr):Heap:=h.push {cls:= .type (D8 b),data:= .fields #[.ref a,.int 0 0]}
noncomputable abbrev zh2(b c:Bool)(h:Heap)(a d:Addr):Heap:=(zh1 b h a).push {cls:= .type (D8 c),data:= .fields #[.ref d,.int 0 0]}
noncomputable abbrev zh3(b c:Bool)(h:Heap)(a d:Addr):Heap:=(zh2 b c h a d).push {cls:= .type "tuple",data:= .seq #[.ref h.objs.size,.ref (zh1 b h a).objs.size]}
noncomputable abbrev zh4(b c:Bool)(h:Heap)(a d:Addr):Heap:=(zh3 b c h a d).push {cls:= .type "tuple",data:= .seq #[.none,.none]}
noncomputable abbrev zh5(b c:Bool)(h:Heap)(a d:Addr):Heap:=(zh4 b c h a d).push {cls:= .type "zip",data:= .fields #[.none,.bool false,.bool false,.ref (zh2 b c h a d).objs.size,.ref (zh3 b c h a d).objs.size]}
theorem F3(b c:Bool)(a d:Addr)(xs ys:Array Value):Meets (Builtin.«zip.__new__» ⟨[.type "zip",.ref a,.ref d],[]⟩) (fun _ R s=>qH s.heap b a xs/\qH s.heap c d ys/\R (.ok (.ret (.ref (zh4 b c s.heap a d).objs.size))) {s with heap:=zh5 b c s.heap a d}):=
 .of_wp fun n w A R s h=>by
  obtain⟨f,g,j,p,m⟩:=s;obtain⟨C,J,h⟩:=h;have i:=sub_zip;have I:qH (Shared.heap ⟨f,g,j,p,m⟩) b a xs:=C;have U:qH (Shared.heap ⟨zh1 b f a,g,j,p,m⟩) c d ys:=qH.at J fun o e=>MB _ e
  wp_walk using yM I,yM U
  exact⟨_,rfl,h⟩
theorem Fi{prog:Program}{w:World}{A:Around}{E:Value->Shared->Prop}{s:Shared}{b c:Bool}{a d:Addr}{xs ys:Array Value}{Q:Value->Shared->Prop}(C:qH s.heap b a xs)(J:qH s.heap c d ys)
  (h:∀h',IsZip h' (s.heap.objs.size+4) (s.heap.objs.size+2) (s.heap.objs.size+3) .none->IsPair h' (s.heap.objs.size+2) (.ref s.heap.objs.size) (.ref (s.heap.objs.size+1))->
   IsPair h' (s.heap.objs.size+3) .none .none->sZ h' b s.heap.objs.size a 0->sZ h' c (s.heap.objs.size+1) d 0->(∀e o,s.heap.get? e=some o->h'.get? e=some o)->Q (.ref (s.heap.objs.size+4)) {s with heap:=h'}):
  wpAny (model prog w) A (call (.type "zip") [.ref a,.ref d]) Q E s:=by
 refine callType_new F.called_zip (by decide) (F.typeCall_zip_2 _ _) (F.newCall_zip_2 _ _) (fun obj=>F.args_object_init_3 obj _ _) F.entry_zip_new (F3 b c a d xs ys) ⟨C,J,?_⟩
 have z1:(zh1 b s.heap a).objs.size=s.heap.objs.size+1:=Og ..;have z2:(zh2 b c s.heap a d).objs.size=s.heap.objs.size+2:=by rw[Og,z1]
 have z3:(zh3 b c s.heap a d).objs.size=s.heap.objs.size+3:=by rw[Og,z2]
 have z4:(zh4 b c s.heap a d).objs.size=s.heap.objs.size+4:=by rw[Og,z3]
 have I:(zh5 b c s.heap a d).get? (zh4 b c s.heap a d).objs.size=some _:=M6 _ rfl;have f:(zh5 b c s.heap a d).get? (zh3 b c s.heap a d).objs.size=some _:=MB _ (M6 _ rfl);have U:(zh5 b c s.heap a d).get? (zh2 b c s.heap a d).objs.size=some _:=MB _ (MB _ (M6 _ rfl));have g:(zh5 b c s.heap a d).get? (zh1 b s.heap a).objs.size=some _:=MB _ (MB _ (MB _ (M6 _ rfl)));have i:(zh5 b c s.heap a d).get? s.heap.objs.size=some _:=MB _ (MB _ (MB _ (MB _ (M6 _ rfl))));show _/\_
 rw[z2,z3,z4] at I;rw[z1,z2] at U;rw[z3] at f;rw[z1] at g;rw[z4];exact⟨⟨_,I,rfl⟩,h _ I U f (sZ.mk i) (sZ.mk g) fun e o x=>MB _ (MB _ (MB _ (MB _ (MB _ x))))⟩
noncomputable def Itz(K : Frag)(b c : Bool)(a d : Addr) : It :=
  ⟨fun i H => ∃o C x y, Sq K H b a o ∧ Sq K H c d C ∧ o[i]? = some x ∧ C[i]? = some y,
   fun i H v I => ∃p x y, H p = none ∧ v = .ref p ∧ I = upd H p (.tup [x, y]) ∧ (∀o, Sq K H b a o → o[i]? = some x) ∧ ∀C, Sq K H c d C → C[i]? = some y,
   fun i H => ∃o C, Sq K H b a o ∧ Sq K H c d C ∧ (o.length = i ∨ (i<o.length ∧ C.length = i))⟩
def ZAt(z TI TO C o:Addr)(b c:Bool)(a d:Addr)(i:Nat)(h:Heap):Prop:=IsZip h z TI TO .none/\IsPair h TI (.ref C) (.ref o)/\(∃x y,IsPair h TO x y)/\sZ h b C a i/\sZ h c o d i
theorem FH{P:Program}{w:World}{K:Frag}{N:List Expr}{tk:Nat}{tp:Pos}{b c:Bool}{a d z TI TO J U:Addr}(D:ZA z TI TO J U [J,a] [U,d])(ar:a≠J)(ab:d≠U):
  Dh P w K (.Tuple N tk tp) (Itz K b c a d) [z,TI,TO,J,U] z (ZAt z TI TO J U b c a d) where
 mem:=by simp
 obj:=fun i h st x j=>by
  obtain⟨g,m,⟨_,_,n⟩,p,B⟩:=st;have aR:x=z\/x=TI\/x=TO\/x=J\/x=U:=by simpa using j
  rcases aR with rfl | rfl | rfl | rfl | rfl
  .exact⟨_,g,fun v q=>by simp at q⟩
  .exact⟨_,m,fun v q=>by simp at q⟩
  .exact⟨_,n,fun v q=>by simp at q⟩
  .exact p.obj
  .exact B.obj
 keep:=fun i h h' st k=>by
  obtain⟨g,m,⟨u,v,n⟩,p,B⟩:=st;exact⟨k z (by simp) _ g,k TI (by simp) _ m,⟨u,v,k TO (by simp) _ n⟩,p.at fun o e=>k J (by simp) o e,B.at fun o e=>k U (by simp) o e⟩
 item:=by
  intro X hP hw hK hc i ao s Z H E I hf st hg;subst hP hw hK;obtain⟨xs,ys,x,y,q1,q2,e1,e2⟩:=hg;obtain⟨g,m,⟨u,v,n⟩,p,B⟩:=st;obtain⟨l1,r1,p1⟩:=I.sq q1;obtain⟨l2,r2,p2⟩:=I.sq q2;have Y:X.A.in1.handled=none:=I.ok.hd hc;have D1:=rq (prog:=X.prog) (w:=X.w) Y b J a ar l1.toArray;have D2:=rq (prog:=X.prog) (w:=X.w) Y c U d ab l2.toArray;obtain⟨u1,g1,w1⟩:=r1.get e1;obtain⟨u2,g2,w2⟩:=r2.get e2;have aK:i<l1.toArray.size:=by have:=(gV.mp g1).1;simpa using this
  have a6:i<l2.toArray.size:=by have:=(gV.mp g2).1;simpa using this
  have O:s.TypeIs (.ref z) "zip":=⟨_,g,rfl⟩;unfold pyNext
  refine mF (wpAny_attempt (NB (name:=Str.ofString "__next__") O OP (N5 OP O F.entry_zip_next
   (Ff D1 D2 D g m n ⟨p,p1⟩ ⟨B,p2⟩ aK a6 fun x' y' h' L j M a1 a2 a3 a4 a5 kz=>MQ ?_) (F.args_zip_next_1 _))))
  have j:u1=x':=by have j:l1.toArray[i]? =some x':=j;rw[OD,g1] at j;exact MR j
  have M:u2=y':=by have M:l2.toArray[i]? =some y':=M;rw[OD,g2] at M;exact MR M
  subst j M;refine⟨_,rfl,wpAny_letOwnedTupleGo_zip a1 fun G S f=> ?_⟩
  have f:Heap.SameBut z h' G:=f;have R:z<s.heap.objs.size:=MK g;have up:∀b o,b≠z->h'.get? b=some o->G.get? b=some o:=fun b o r e=>f.extBut _ _ r e
  have kept:∀b o,b ∉ [z,TI,TO,J,U]->s.heap.get? b=some o->G.get? b=some o:=fun b o r e=>by
   have C:b≠z/\b≠TI/\b≠TO/\b≠J/\b≠U:=by simpa using r
   exact up b o C.1 (kz b o C.1 C.2.2.1 C.2.2.2.1 C.2.2.2.2 e)
  refine⟨.ref s.heap.objs.size,upd H s.heap.objs.size (.tup [x,y]),?_,rfl,⟨_,x,y,I.fresh,rfl,rfl,fun zs hz=>by rw[I.sq_inj hz q1];exact e1,fun zs hz=>by rw[I.sq_inj hz q2];exact e2⟩,?_,fun b r=> ?_⟩
  .refine I.turnedN (t':=L) (ch:=[z,TI,TO,J,U]) kept hf (MC _) ⟨by show 2<=sizeLine;decide,[u1,u2],.cons w1 (.cons w2 .nil),⟨_,up _ _ (N_ R) a5,rfl,_,rfl⟩⟩
  .exact⟨S,up _ _ D.TIz (kz _ _ D.TIz D.TITO D.TIi1 D.TIi2 m),⟨_,_,up _ _ D.TOz a2⟩,a3.1.at fun o e=>up _ _ D.i1z e,a4.1.at fun o e=>up _ _ D.i2z e⟩
  .have h0:=(hf b r).1;rw[aj]
   .exact h0
   .have C:b=z\/b=TI\/b=TO\/b=J\/b=U:=by simpa using r
    rcases C with rfl | rfl | rfl | rfl | rfl
    .exact M5 R
    .exact M5 (MK m)
    .exact M5 (MK n)
    .obtain⟨o,e,_⟩:=p.obj;exact M5 (MK e)
    .obtain⟨o,e,_⟩:=B.obj;exact M5 (MK e)
 done:=by
  intro X hP hw hK hc i ao s Z H E I hf st hg;subst hP hw hK;obtain⟨xs,ys,q1,q2,a7⟩:=hg;obtain⟨g,m,⟨u,v,n⟩,p,B⟩:=st;obtain⟨l1,r1,p1⟩:=I.sq q1;obtain⟨l2,r2,p2⟩:=I.sq q2;have Y:X.A.in1.handled=none:=I.ok.hd hc;have D1:=rq (prog:=X.prog) (w:=X.w) Y b J a ar l1.toArray;have D2:=rq (prog:=X.prog) (w:=X.w) Y c U d ab l2.toArray;have z1:=r1.length;have z2:=r2.length;have he:i=l1.toArray.size\/(i<l1.toArray.size/\i=l2.toArray.size):=by simp only[MI];lia
  have O:s.TypeIs (.ref z) "zip":=⟨_,g,rfl⟩;unfold pyNext
  refine mF (wpAny_attempt (NB (name:=Str.ofString "__next__") O OP (N5 OP O F.entry_zip_next
   (FK D1 D2 D g m n ⟨p,p1⟩ ⟨B,p2⟩ he fun h' e L kz j=> ?_) (F.args_zip_next_1 _))))
  obtain⟨o,ho,aH⟩:=j;refine mF (wpAny_isInstance (T:="StopIteration") (b:=true) ⟨o,ho,aH⟩ isSubtype_stop ?_)
  refine MQ ⟨rfl,I.turnedL (t':=L) (ch:=[z,TI,TO,J,U]) (fun b o r e=> ?_) hf⟩
  have C:b≠z/\b≠TI/\b≠TO/\b≠J/\b≠U:=by simpa using r
  exact kz b o C.1 C.2.2.1 C.2.2.2.1 C.2.2.2.2 e
 self:=fun A i s Q E st h=>wpAny_pyIter_zip st.1 h
section
variable {X : Cx}
def Mv(K:Frag)(I:TA):TI:=fun Z H R=>I Z H fun U o=>∃b c a d,U=[.ref a,.ref d]/\(∃J,Sq K o b a J)/\(∃C,Sq K o c d C)/\R (Itz K b c a d) o
theorem KE{j C:Expr}{u:TA}{p U G:Pos}{J:List Expr}{Y:Nat}(F:Gl X "zip")(hm:X.mg "zip"=none)(N:PA X [j,C] u)(hs:starEach [j,C] X.env=[(false,eval j X.env),(false,eval C X.env)]:=by rfl)(f:starEach [C] X.env=[(false,eval C X.env)]:=by rfl):
  PI X (.Tuple J Y G) (.Call (.Name "zip" p) [j,C] [] U) (Mv X.K u):=by
 intro g s Z H R I h;refine Call_ (wL I F hm Kl (NN (cO (N U g s Z H _ I h) fun us v vs O i D S=> ?_) (by rw[hs,f]) (by rw[f];rfl)))
 obtain⟨b,c,a,d,e,⟨xs,M⟩,⟨ys,z⟩,q⟩:=S;subst e;obtain⟨u1,u2,rfl,r,m⟩:=FW D
 cases r
 cases m
 obtain⟨l1,Q,y⟩:=i.sq M;obtain⟨l2,P,x⟩:=i.sq z;have B:=y.lt;have L:=x.lt;refine Fi y x fun h' z1 z2 z3 z4 z5 E=>wpAny_pyIter_zip z1 ?_
 generalize w:v.heap.objs.size=n at*;have T:ZA (n+4) (n+2) (n+3) n (n+1) [n,a] [n+1,d]:=by
  refine⟨?_,?_,?_,?_,?_,?_,?_,?_,?_,?_,?_,?_,?_,?_,?_,?_⟩ <;> (try simp only[M3,Nr,Oo]) <;> (unfold Addr at *;lia)
 refine⟨n+4,[n+4,n+2,n+3,n,n+1],_,_,O,rfl,i.kept (t':=v.toks) E,FH T (M5 B) (M5 (Nat.lt_succ_of_lt L)),⟨z1,z2,⟨_,_,z3⟩,z4,z5⟩,fun b A=> ?_,q⟩
 have o:n<=b:=by
  have o:b=n+4\/b=n+2\/b=n+3\/b=n\/b=n+1:=by simpa using A
  unfold Addr at*
  lia
 exact i.fpOk (by rw[w];exact o) (i.hok.fresh (by rw[w];exact o))
end
theorem HP{K:Frag}{b c:Bool}{a d:Addr}{xs ys:List V}{g:TG}{q:TS}{D:xk}{Z:St}{H:Hp}(o:Nat->St->Hp->Prop)(u:o 0 Z H)(w:∀i Z H,o i Z H->Sq K H b a xs/\Sq K H c d ys)
  (hs:∀i x y p Z H,xs[i]? =some x->ys[i]? =some y->o i Z H->H p=none->g (.ref p) Z (upd H p (.tup [x,y])) fun J I=>q {D with nx:=o (i+1),ct:=o (i+1),bk:=D.nx} J I) (hd:∀Z H,o (min xs.length ys.length) Z H->D.nx Z H):
  ∃W:Nat->Nat->St->Hp->Prop,(∃m,W 0 m Z H)/\∀i m Z H,W i m Z H->
   ((Itz K b c a d).stop i H/\D.nx Z H)\/((Itz K b c a d).go i H/\∃N:St->Hp->Prop,(∀n C,N n C->∃m',m' < m/\W (i+1) m' n C)/\∀x C,(Itz K b c a d).yld i H x C->g x Z C fun J I=>q {D with nx:=N,ct:=N,bk:=D.nx} J I):=by
 refine⟨fun i m Z H=>m=min xs.length ys.length - i/\i<=min xs.length ys.length/\o i Z H,⟨_,rfl,Na _,u⟩,?_⟩
 rintro i m Z H ⟨rfl,A,p⟩
 obtain⟨f,U⟩:=w i Z H p
 by_cases j:i<min xs.length ys.length
 .have hx:i<xs.length:=by lia
  have s:i<ys.length:=by lia
  refine .inr ⟨⟨xs,ys,xs[i],ys[i],f,U,by simp [hx],by simp [s]⟩,o (i+1),fun n C z=>⟨_,?_,rfl,j,z⟩,fun v C y=> ?_⟩
  .lia
  .obtain⟨r,x,y,hr,rfl,rfl,e1,e2⟩:=y;exact hs i x y r Z H (e1 xs f) (e2 ys U) p hr
 .have e:i=min xs.length ys.length:=by lia
  refine .inl ⟨⟨xs,ys,f,U,by lia⟩,?_⟩
  subst e;exact hd Z H p
inductive Dt where
 | non | bl (b:Bool) | int (i:Int) | str (x:Str) | tup (l:List Dt) | lst (l:List Dt)
mutual
def Is(K:Frag)(H:Hp):Dt->V->Prop
 | .non,v=>v= .non
 | .bl b,v=>v= .bl b
 | .int i,v=>v= .int i
 | .str x,v=>v= .str x
 | .tup l,v=>∃a o,v= .ref a/\SqT K H a o/\Iss K H l o
 | .lst l,v=>∃a o,v= .ref a/\SqL K H a o/\Iss K H l o
def Iss(K:Frag)(H:Hp):List Dt->List V->Prop
 | [],xs=>xs=[]
 | d::r,xs=>∃x t,xs=x::t/\Is K H d x/\Iss K H r t
end
mutual
noncomputable def Dt.flat:Dt->Bool
 | .tup l=>Dt.flats l
 | .lst _=>false
 | _=>true
noncomputable def Dt.flats:List Dt->Bool
 | []=>true
 | d::r=>d.flat && Dt.flats r
end
theorem ax.tup{K:Frag}{H C:Hp}{a:Addr}{xs:List V}(e:ax H C)(h:SqT K H a xs):SqT K C a xs:=by
 rcases h with(h | ⟨o,h⟩) | h
 .exact .inl (.inl (e _ _ h))
 .exact .inl (.inr ⟨o,e _ _ h⟩)
 .exact .inr h
theorem But.tup{K:Frag}{H C:Hp}{a d:Addr}{xs ys:List V}(e:But d H C)(hd:H d=some (.lst ys))(h:SqT K H a xs):SqT K C a xs:=by
 rcases h with(h | ⟨o,h⟩) | h
 .exact .inl (.inl (e _ _ (eC h hd (by intro z;cases z)) h))
 .exact .inl (.inr ⟨o,e _ _ (eC h hd (by intro z;cases z)) h⟩)
 .exact .inr h
section
variable {K : Frag} {g : TG} {te : TE} {t : Nat} {js : List Nat} {σ : St} {H : Hp} {Q : VK} {p : Addr}
theorem sG{a:Addr}{xs:List V}(C:Nat->List V->Hp->Prop)(d:C 0 [] (upd H p (.lst [])))(f:∀i ys H,C i ys H->SqT K H a xs)
  (hs:∀i x ys H (F:List V->Hp->Prop),(∀o I,C (i+1) o I->F o I)->xs[i]? =some x->C i ys H->g x (blk t js Z) H fun c j=>Wk (blk t js Z) c/\te c j fun y b=>b p=some (.lst ys)/\ys.length<sizeLine/\F (ys++[y]) (upd b p (.lst (ys++[y]))))
  (hd:∀ys H,C xs.length ys H->Q (.ref p) H):
  pq (Itt K a) g te t js Z p H Q:=by
 refine⟨fun i m ys H=>m=xs.length - i/\i<=xs.length/\C i ys H,⟨xs.length,by simp,Na _,d⟩,?_⟩
 rintro i m ys H ⟨rfl,n,pv⟩
 have q:=f i ys H pv
 by_cases J:i<xs.length
 .refine .inr ⟨⟨xs,xs[i],q,by simp [J]⟩,fun x I y=> ?_⟩
  obtain⟨e,y⟩:=y;subst e;exact hs i x ys _ (fun o I=>∃U,U<xs.length - i/\U=xs.length - (i+1)/\i+1<=xs.length/\C (i+1) o I) (fun o I z=>⟨_,by lia,rfl,J,z⟩) (y xs q) pv
 .have e:i=xs.length:=by lia
  subst e;exact .inl ⟨⟨xs,q,MC _⟩,hd ys H pv⟩
theorem yS{a:Addr}{xs:List V}(C:Nat->List V->Hp->Prop)(d:C 0 [] (upd H p (.lst [])))(f:∀i ys H,C i ys H->SqL K H a xs)
  (hs:∀i x ys H (F:List V->Hp->Prop),(∀o I,C (i+1) o I->F o I)->xs[i]? =some x->C i ys H->g x (blk t js Z) H fun c j=>Wk (blk t js Z) c/\te c j fun y b=>b p=some (.lst ys)/\ys.length<sizeLine/\F (ys++[y]) (upd b p (.lst (ys++[y]))))
  (hd:∀ys H,C xs.length ys H->Q (.ref p) H):
  pq (Itl K a) g te t js Z p H Q:=by
 refine⟨fun i m ys H=>m=xs.length - i/\i<=xs.length/\C i ys H,⟨xs.length,by simp,Na _,d⟩,?_⟩
 rintro i m ys H ⟨rfl,n,pv⟩
 have q:=f i ys H pv
 by_cases J:i<xs.length
 .refine .inr ⟨⟨xs,xs[i],q,by simp [J]⟩,fun x I y=> ?_⟩
  obtain⟨e,y⟩:=y;subst e;exact hs i x ys _ (fun o I=>∃U,U<xs.length - i/\U=xs.length - (i+1)/\i+1<=xs.length/\C (i+1) o I) (fun o I z=>⟨_,by lia,rfl,J,z⟩) (y xs q) pv
 .have e:i=xs.length:=by lia
  subst e;exact .inl ⟨⟨xs,q,MC _⟩,hd ys H pv⟩
theorem qT{lo:Int}{n:Nat}(I:Nat->List V->Hp->Prop)(c:I 0 [] (upd H p (.lst [])))
  (hs:∀i ys H (F:List V->Hp->Prop),(∀o J,I (i+1) o J->F o J)->i<n->I i ys H->g (.int (lo+i)) (blk t js Z) H fun b d=>Wk (blk t js Z) b/\te b d fun y a=>a p=some (.lst ys)/\ys.length<sizeLine/\F (ys++[y]) (upd a p (.lst (ys++[y]))))
  (hd:∀ys H,I n ys H->Q (.ref p) H):
  pq (Itr lo n) g te t js Z p H Q:=by
 refine⟨fun i m ys H=>m=n - i/\i<=n/\I i ys H,⟨n,by simp,Na _,c⟩,?_⟩
 rintro i m ys H ⟨rfl,f,pv⟩
 by_cases C:i<n
 .refine .inr ⟨C,fun x J y=> ?_⟩
  obtain⟨e,y⟩:=y;subst e y;exact hs i ys _ (fun o J=>∃U,U<n - i/\U=n - (i+1)/\i+1<=n/\I (i+1) o J) (fun o J z=>⟨_,by lia,rfl,C,z⟩) C pv
 .have e:i=n:=by lia
  subst e;exact .inl ⟨MC _,hd ys H pv⟩
end
theorem bk{sc0 o:Scope}{N0:List Str}(N:List Str)(t:Nat)(C:List Nat)(b:o.kind= .function:=by rfl)(I:∀y∈o.names,y.2≠NameKind.cell:=by decide +kernel)(d:∀y∈o.names,y.2=NameKind.local->o.names.lookup y.1=some NameKind.local:=by decide +kernel)
  (c:∀y∈o.names,y.2=NameKind.free->sc0.names.lookup y.1=some NameKind.cell:=by decide +kernel) (a:∀x∈N.drop t,o.names.lookup x=some NameKind.free:=by decide +kernel) (e:(N.drop t).map some=C.map fun j=>N0[j]? :=by rfl)
  (U:t<=N.length:=by decide) (J:N.Nodup:=by decide +kernel):pJ sc0 o N0 N t C:=⟨b,I,d,c,a,e,U,J⟩
theorem jp{X:Cx}{k:Nat}{x:Str}{sp:Sp}{p o:Pos}(h:Has X.prog X.w X.K X.mg X.base k x [] sp)(a:Room k X.A)(J:Gl X x)(C:(x==("__debug__":Str))=false:=by decide):
  PE X (.Call (.Name x p) [] [] o) (fun Z H Q=>sp [] H Q E0):=by
 obtain⟨f,b,hm,U,I,F⟩:=h.ex;exact FV F a J hm U I .nil yJ C
section
variable {X : Cx}
theorem cI{a b v:Int}{j U:Nat}{p c C:Pos}(e:a^b.toNat=v)(J:0<=b/\b<=1000000/\a.natAbs<2^64:=by decide):PE X (.BinOp (.Constant (.int a) j p) .Pow (.Constant (.int b) U c) C) (tC (.int v)):=fun o s Z H Q I h=>
 au Ki aa aa o s Z H Q I ⟨a,b,rfl,rfl,J,by dsimp only;rw[e];exact h⟩
theorem tu{a v:Int}{j:Nat}{p C:Pos}(e: -a=v):PE X (.UnaryOp .USub (.Constant (.int a) j p) C) (tC (.int v)):=fun o s Z H Q I h=>Jp Go aa o s Z H Q I ⟨a,rfl,by dsimp only;rw[e];exact h⟩
structure aG (p:Prop):Prop where
 out:p
theorem aW{st:Stmt}{t:TS}(h:PS X st t):PS X st (fun D Z H=>aG (t D Z H)):=fun o s Z H D I C=>h o s Z H D I C.out
end
def gx(K:Frag)(a:Addr)(xs:List V):Prop:=∃(o:Obj) (C:Array Value) (n:Nat),K.lookup a=some o/\o.cls= .type "tuple"/\o.dict=none/\o.data= .seq C n/\C.size<=sizeLine/\bg xs C.toList
theorem gx.sq{K:Frag}{H:Hp}{a:Addr}{xs:List V}(h:gx K a xs):SqT K H a xs:=by
 obtain⟨o,C,n,U,I,_,b,c,J⟩:=h;exact .inr ⟨o,C,n,U,I,b,c,J⟩
theorem gx.ty{K:Frag}{H:Hp}{a:Addr}{xs:List V}(h:gx K a xs):tyV K "tuple" (.ref a) H:=by
 obtain⟨o,I,n,J,C,hd,_⟩:=h;exact .inr (.inl ⟨rfl,o,J,C,hd⟩)
theorem fP{K:Frag}{a:Addr}{xs:List V}{o:Array Value}{n:Nat}{sl:Array (Option Value)}(l:K.lookup a=some ⟨.type "tuple",none,.seq o n,sl⟩)(z:o.size<=sizeLine)(v:bg xs o.toList):gx K a xs:=⟨_,o,n,l,rfl,rfl,rfl,z,v⟩
theorem lv{o:Type}{x:o}{xs:List o}:atI (x::xs) 0=some x:=aY (j:=0) rfl
theorem ua{o:Type}{x y:o}{xs:List o}:atI (x::y::xs) 1=some y:=aY (j:=1) rfl
theorem p_{o:Type}{x y z:o}{xs:List o}:atI (x::y::z::xs) 2=some z:=aY (j:=2) rfl
theorem Db{o:Type}{x y z u:o}{xs:List o}:atI (x::y::z::u::xs) 3=some u:=aY (j:=3) rfl
section
variable {K : Frag} {H H' : Hp} {a p : Addr} {o o' : HO} {xs : List V} {d : Dt} {v : V}
theorem ck(C:H p=none)(h:H a=some o'):upd H p o a=some o':=by rw[aj (ak h C)];exact h
theorem Mh(C:H p=none)(h:SqT K H a xs):SqT K (upd H p o) a xs:=(af C o).tup h
theorem bK{C:Hp}(I:H p=none)(h:ax C H):ax C (upd H p o):=h.trans (af I o)
theorem cY{C:Hp}{d:Addr}(I:H p=none)(h:But d C H):But d C (upd H p o):=h.trans (af I o).but
theorem cf{C:Hp}(I:C p=none)(h:ax C H):ax C (upd H p o):=fun b u e=>by rw[aj (ak e I)];exact h b u e
end
noncomputable def Bz(x:V):List V->Nat->Option Nat
 | [],_=>none
 | y::r,k=>if eqV y x=true then some k else Bz x r (k+1)
theorem Cp{x:V}:∀{xs:List V}{k j:Nat},Bz x xs k=some j->k<=j/\mG x xs (j - k)
 | [],_,_,h=>by cases h
 | y::r,k,j,h=>by
  unfold Bz at h
  by_cases e:eqV y x=true
  .rw[ME e] at h
   cases h
   refine⟨MC _,⟨y,by simp,e⟩,fun m z hm=>absurd hm (by lia)⟩
  .rw[mC e] at h;obtain⟨a,⟨z,C,J⟩,I⟩:=Cp h;have U:j - k=(j - (k+1))+1:=by lia
   refine⟨by lia,⟨z,by rw[U,N7];exact C,J⟩,fun m z hm o=> ?_⟩
   cases m with
   | zero=>cases o;simpa using e
   | succ m=>exact I m z (by lia) (by simpa using o)
theorem HD{x:V}{xs:List V}{j:Nat}(h:Bz x xs 0=some j):mG x xs j:=by
 have q:=(Cp h).2
 rwa [PF] at q
end L2
namespace L2
open PySem
theorem r6{A:Around}{k:Nat}(o:Room k A):A.units+64<cLine:=o.units
end L2
namespace L2
open PySem PySem.Spec PyProof.Rows
@[irreducible] noncomputable def isTy(t T : String) : Option Bool := Mf t T
inductive TyS (K:Frag) (H:Hp):V->String->Prop where
 | non:TyS K H .non "NoneType"
 | bl (x:Bool):TyS K H (.bl x) "bool"
 | int (i:Int):TyS K H (.int i) "int"
 | str (x:Str):TyS K H (.str x) "str"
 | tup {a:Addr}{xs:List V}(e:SqT K H a xs):TyS K H (.ref a) "tuple"
 | lst {a:Addr}{xs:List V}(e:SqL K H a xs):TyS K H (.ref a) "list"
 | dic {a:Addr}(e:vA K H (.ref a) (.type "dict")):TyS K H (.ref a) "dict"
section
variable {X : Cx} {K : Frag}
theorem IZ(e:X.K=K):SlR X (K9 K):=by subst e;exact kZ
end
theorem sI{b:Bool}{A B:Prop}(h:b=false)(q:B):if b=true then A else B:=by
 rw[h];exact Do q
theorem Ec{b:Bool}{A B:Prop}(h:b=true)(q:A):if b=true then A else B:=by
 rw[h];exact zK q
theorem Kp{b:Bool}{A B:Prop}(C:b=true->A)(o:b=false->B):if b=true then A else B:=by
 cases b with
 | true=>exact zK (C rfl)
 | false=>exact Do (o rfl)
noncomputable def zi:Expr->Option V
 | .Constant (.int i) _ _=>some (.int i)
 | .Constant (.str x) _ _=>some (.str x)
 | .Constant .none _ _=>some .non
 | .Constant (.bool b) _ _=>some (.bl b)
 | _=>none
noncomputable def vN:List Expr->Option (List V)
 | []=>some []
 | e::r=>match zi e,vN r with
  | some v,some vs=>some (v::vs)
  | _,_=>none
theorem cN{X:Cx}:∀{J:List Expr}{vs:List V},vN J=some vs->PA X J (fun _ H Q=>Q vs H)
 | [],vs,h=>by
  cases h
  exact dA
 | e::r,vs,h=>by
  unfold vN at h
  cases hv:zi e with
  | none=>rw[hv] at h;cases h
  | some v=>
   cases hr:vN r with
   | none=>rw[hv,hr] at h;cases h
   | some ws=>
    rw[hv,hr] at h;have h:v::ws=vs:=MR h;subst h;have ih:=cN (X:=X) hr;have U:PE X e (tC v):=by
     unfold zi at hv
     split at hv
     .cases hv;exact aa
     .cases hv;exact av
     .cases hv;exact fH
     .cases hv;exact uT
     .cases hv
    have hs:starEach (e::r) X.env=(false,eval e X.env)::starEach r X.env:=by
     unfold zi at hv
     split at hv <;> first | rfl | cases hv
    intro C o s Z H Q I q;exact az U ih hs C o s Z H Q I q
open PySem PySem.Spec PyProof.Rows
end L2
namespace SpM
open PySem PyProof.Rows
theorem Bl:∀n:Nat,0<n->∃t u,n=(2*u+1)*2^t:=by
 intro n
 induction n using Nat.strongRecOn with
 | ind n ih=>
  intro h
  by_cases o:n %2=1
  .exact⟨0,n / 2,by lia⟩
  .obtain⟨t,u,e⟩:=ih (n / 2) (by lia) (by lia)
   refine⟨t+1,u,?_⟩
   rw[Nat.pow_succ, <-Nat.mul_assoc, <-e]
   lia
open Classical in
noncomputable def Zn(v:Int):Nat:=if h:v=0 then 32 else(Bl v.natAbs (by lia)).choose
theorem DN:Zn 0=32:=by simp [Zn]
theorem Ir{v:Int}(h:v≠0):∃u,v.natAbs=(2*u+1)*2^Zn v:=by
 unfold Zn;rw[dif_neg h];exact(Bl v.natAbs (by lia)).choose_spec
theorem Zn_case(v:Int):(v=0/\Zn v=32)\/∃u,v.natAbs=(2*u+1)*2^Zn v:=by
 by_cases h:v=0
 .subst h;exact .inl ⟨rfl,DN⟩
 .exact .inr (Ir h)
theorem pp(z:Nat):(0:Int)<2^z:=Int.pow_pos (by decide)
theorem CW{a b:Nat}(h:a<=b):(2:Int)^a∣2^b:=by
 obtain⟨c,rfl⟩:=Pu h;rw[Ow];exact Int.dvd_mul_right _ _
theorem ple{a b:Nat}(h:a<=b):(2:Int)^a<=2^b:=Int.le_of_dvd (pp b) (CW h)
theorem plt{a b:Nat}(h:a<b):(2:Int)^a<2^b:=by
 have:=ple (show a+1<=b from h);have e:(2:Int)^(a+1)=2^a*2:=PH _ _;have:=pp a
 lia
theorem p32:(2:Int)^32=4294967296:=by decide
theorem K8{z:Nat}(h:z<=32):(2:Int)^z<=4294967296:=ple h
theorem Lq{z:Nat}(h:z<=32):(2:Int)^z∣4294967296:=CW h
theorem Mg{z:Nat}(h:z<=32)(e:(2:Int)^z=4294967296):z=32:=by
 rcases Ol z 32 with c | c
 .have:=plt c;rw[p32] at this
  lia
 .lia
theorem wO(v:Int):(2:Int)^Zn v∣v:=by
 rcases Zn_case v with⟨rfl,_⟩|⟨u,e⟩
 .exact⟨0,by lia⟩
 .have:(2:Int)^Zn v∣(v.natAbs:Int):=by
   rw[e];refine⟨2*(u:Int)+1,?_⟩
   push_cast
   rw[PJ]
  exact Int.dvd_natAbs.mp this
theorem Ln{v:Int}(h:v.natAbs<2^33):Zn v<=32:=by
 rcases Zn_case v with⟨_,e⟩|⟨u,e⟩
 .lia
 .rcases Ol 32 (Zn v) with c | c
  .exfalso
   have:=NZ (show 2 >0 by decide) (show 33<=Zn v from c)
   have o:1*2^Zn v<=(2*u+1)*2^Zn v:=NK _ (by lia)
   lia
  .exact c
structure Span where
 lo:Int
 hi:Int
 z:Nat
structure Sv (s:Span):Prop where
 l0:0<=s.lo
 lh:s.lo<=s.hi
 hW:s.hi<4294967296
 zz:s.z<=32
 dl:(2:Int)^s.z∣s.lo
 dh:(2:Int)^s.z∣s.hi
 one:s.lo=s.hi->s.z=Zn s.lo
structure In (v:Int) (s:Span):Prop where
 lo:s.lo<=v
 hi:v<=s.hi
 dv:(2:Int)^s.z∣v
noncomputable def single(v:Int):Span:=⟨v,v,Zn v⟩
noncomputable def settled(lo o:Int)(z:Nat):Span:=if lo=o then single lo else⟨lo,o,z⟩
noncomputable def whole:Span:=⟨0,4294967295,0⟩
noncomputable def all(z:Nat):Span:=⟨0,4294967296 - 2^z,z⟩
noncomputable def kept(lo o:Int)(z:Nat):Span:=if lo<0\/4294967296<=o then all z else settled lo o z
noncomputable def addS(l r:Span):Span:=kept (l.lo+r.lo) (l.hi+r.hi) (min l.z r.z)
noncomputable def subS(l r:Span):Span:=kept (l.lo - r.hi) (l.hi - r.lo) (min l.z r.z)
noncomputable def moreS(s:Span)(n:Int):Span:=kept (s.lo+n) (s.hi+n) (min s.z (Zn n))
noncomputable def andS(l r:Span):Span:=settled 0 (min l.hi r.hi - min l.hi r.hi %2^max l.z r.z) (max l.z r.z)
noncomputable def jst(C o:Int):Nat->Nat->Nat
 | 0,j=>j
 | k+1,j=>if (2:Int)^j<=C\/(2:Int)^j<=o then jst C o k (j+1) else j
noncomputable def jf(C o:Int)(z:Nat):Nat:=jst C o 33 z
noncomputable def orS(l r:Span)(lo:Int):Span:=settled lo (2^jf l.hi r.hi (min l.z r.z) - 2^min l.z r.z) (min l.z r.z)
noncomputable def lessS(l r:Span):Span:=if l.hi<r.lo then single 1 else if r.hi<=l.lo then single 0 else⟨0,1,0⟩
noncomputable def leftS(l r:Span):Span:=if r.lo=r.hi then kept (l.lo*2^(r.lo %32).toNat) (l.hi*2^(r.lo %32).toNat) (min 32 (l.z+(r.lo %32).toNat)) else whole
noncomputable def rightS(l r:Span):Span:=if r.lo=r.hi then settled (l.lo / 2^(r.lo %32).toNat) (l.hi / 2^(r.lo %32).toNat) (l.z - (r.lo %32).toNat) else settled 0 l.hi 0
noncomputable def fitS(k:Nat)(base:Int)(s:Span):Span:=
 if base<=s.lo/\s.hi<base+2^k then s else settled base (base+2^k - 1 - (2^k - 1) %2^min s.z (Zn base)) (min s.z (Zn base))
noncomputable def aimV(m s:Nat)(v:Int):Int:=v %2^m*8*2^s
noncomputable def aimS(m s:Nat)(x:Span):Span:=if x.lo=x.hi then single (aimV m s x.lo) else settled 0 (aimV m s (2^m - 1)) (s+3)
theorem iA{a b:Nat}{v:Int}(h:(2:Int)^a∣v):(2:Int)^min a b∣v:=Qo (CW (PV _ _)) h
theorem gp{a b:Nat}{v:Int}(h:(2:Int)^b∣v):(2:Int)^min a b∣v:=Qo (CW (Pp _ _)) h
theorem Sv_single{v:Int}(o:0<=v)(C:v<4294967296):Sv (single v):=
 ⟨o,N1 _,C,Ln (by lia),wO v,wO v,fun _=>rfl⟩
theorem Sv_whole:Sv whole:=⟨by decide,by decide,by decide,by decide,⟨0,by decide⟩,⟨4294967295,by decide⟩,fun h=>by exact absurd h (by decide)⟩
theorem gh{lo o:Int}{z:Nat}(l0:0<=lo)(U:lo<=o)(C:o<4294967296)(J:z<=32)(dl:(2:Int)^z∣lo)(I:(2:Int)^z∣o):Sv (settled lo o z):=by
 unfold settled
 split
 .exact Sv_single l0 (by lia)
 .rename_i c
  exact⟨l0,U,C,J,dl,I,fun e=>absurd e c⟩
theorem KP{z:Nat}(o:z<=32):Sv (all z):=by
 have I:=pp z;have C:=K8 o;refine⟨N1 _,?_,?_,o,⟨0,by show(0:Int)=_;lia⟩,O_ (Lq o) (QT _),fun e=> ?_⟩
 .show(0:Int)<=4294967296 - 2^z;lia
 .show(4294967296:Int) - 2^z<_;lia
 .have e':(0:Int)=4294967296 - 2^z:=e;show z=Zn 0
  rw[DN];exact Mg o (by lia)
theorem Gc{z:Nat}{a b:Int}(C:(2:Int)^z∣a)(o:(2:Int)^z∣b)(h:a<b):a<=b - 2^z:=by
 have:=Int.le_of_dvd (show 0<b - a by lia) (O_ o C)
 lia
theorem Ep{z:Nat}{a b:Int}(C:(2:Int)^z∣a)(h:a<=b):a<=b - b %2^z:=by
 obtain⟨k,rfl⟩:=C;have o:=Int.ediv_le_ediv (pp z) h;rw[Pf _ (by have:=pp z;lia)] at o
 have I:=Int.mul_le_mul_of_nonneg_left o (OW (pp z));have J:=P0 b (2^z)
 lia
theorem Ba(z:Nat)(b:Int):(2:Int)^z∣b - b %2^z:=by
 have o:=P0 b (2^z);exact⟨b / 2^z,by lia⟩
theorem vT{lo o:Int}{z:Nat}(J:lo<=o)(C:z<=32)(dl:(2:Int)^z∣lo)(I:(2:Int)^z∣o):Sv (kept lo o z):=by
 unfold kept
 split
 .exact KP C
 .exact gh (by lia) J (by lia) C dl I
section
variable {l r : Span} {v w : Int} (hl : Sv l) (hr : Sv r) (iv : In v l) (iw : In w r)
include hl
theorem Kb(hr:Sv r):Sv (addS l r):=
 vT (by have:=hl.lh;have:=hr.lh;lia) (by have:=hl.zz;lia) (Pa (iA hl.dl) (gp hr.dl)) (Pa (iA hl.dh) (gp hr.dh))
theorem KL(hr:Sv r):Sv (subS l r):=
 vT (by have:=hl.lh;have:=hr.lh;lia) (by have:=hl.zz;lia) (O_ (iA hl.dl) (gp hr.dh)) (O_ (iA hl.dh) (gp hr.dl))
theorem Sv_more(n:Int):Sv (moreS l n):=
 vT (by have:=hl.lh;lia) (by have:=hl.zz;lia) (Pa (iA hl.dl) (gp (wO n))) (Pa (iA hl.dh) (gp (wO n)))
include iv
end
theorem JW{v w:Int}(o:0<=v)(hw:0<=w):0<=Builtin.bitAnd v w/\Builtin.bitAnd v w<=v/\Builtin.bitAnd v w<=w:=by
 rw[bitAnd_pp o hw];have I:= @Nat.and_le_left v.toNat w.toNat;have C:= @Nat.and_le_right v.toNat w.toNat
 lia
theorem Ld{v w:Int}{j:Nat}(o:0<=v)(hw:0<=w)(I:v<2^j)(C:w<2^j):v+w - Builtin.bitAnd v w<2^j:=by
 rw[bitAnd_pp o hw];have e:((2^j:Nat):Int)=2^j:=by push_cast;rfl
 have J:= @Nat.or_lt_two_pow v.toNat w.toNat j (by lia) (by lia)
 have U:=nat_or_add_and v.toNat w.toNat
 lia
theorem CU(x y:Int):Builtin.bitXor x y=x+y - 2*Builtin.bitAnd x y:=by
 unfold Builtin.bitXor;rw[bitOr_and]
 lia
theorem CA(C o:Int)(a1:C<4294967296)(a2:o<4294967296):∀(k j:Nat),j+k>=32->j<=32->j<=jst C o k j/\jst C o k j<=32/\C<2^jst C o k j/\o<2^jst C o k j
 | 0,j,hk,hj=>by
  have:j=32:=by lia
  subst this;exact⟨MC _,MC _,by show C<2^32;rw[p32];exact a1,by show o<2^32;rw[p32];exact a2⟩
 | k+1,j,hk,hj=>by
  unfold jst
  split
  .rename_i c
   have I:j<32:=by
    rcases Ol j 32 with x | x
    .exact x
    .have:j=32:=by lia
     subst this;rw[p32] at c
     lia
   obtain⟨b,U,J,a⟩:=CA C o a1 a2 k (j+1) (by lia) (by lia)
   exact⟨by lia,U,J,a⟩
  .exact⟨MC _,hj,by lia,by lia⟩
theorem Jh{C o:Int}{z:Nat}(a1:C<4294967296)(a2:o<4294967296)(I:z<=32):z<=jf C o z/\jf C o z<=32/\C<2^jf C o z/\o<2^jf C o z:=
 CA C o a1 a2 33 z (by lia) I
section
variable {l r : Span} {v w : Int} (hl : Sv l) (hr : Sv r)
include hl hr
theorem KA:Sv (andS l r):=by
 have b:=hl.l0;have o:=hl.lh;have c:=hr.l0;have U:=hr.lh;have J:=hl.hW;have d:=hl.zz;have I:=hr.zz;have C:=NY (min l.hi r.hi) (show(2:Int)^max l.z r.z≠0 by have:=pp (max l.z r.z);lia)
 refine gh (N1 _) ?_ ?_ (by lia) ⟨0,by lia⟩ (Ba _ _)
 .exact Ep (z:=max l.z r.z) (a:=0) ⟨0,by lia⟩ (by lia)
 .lia
theorem Jw{lo:Int}(J:0<=lo)(hd:(2:Int)^min l.z r.z∣lo)(U:lo<=l.hi\/lo<=r.hi):Sv (orS l r lo):=by
 have C:min l.z r.z<=32:=by have:=hl.zz;lia
 obtain⟨o,I,c,d⟩:=Jh hl.hW hr.hW C;have b:=pp (min l.z r.z);have a:=K8 I;exact gh J (Gc hd (CW o) (by lia)) (by lia) C hd (O_ (CW o) (QT _))
end
theorem IX(l r:Span):Sv (lessS l r):=by
 unfold lessS
 split
 .exact Sv_single (by decide) (by decide)
 .split
  .exact Sv_single (by decide) (by decide)
  .exact⟨by decide,by decide,by decide,by decide,⟨0,by decide⟩,⟨1,by decide⟩,fun h=>absurd h (by decide)⟩
theorem AT{z t:Nat}{v:Int}(h:(2:Int)^z∣v):(2:Int)^min 32 (z+t)∣v*2^t:=by
 refine Qo (CW (Pp 32 (z+t))) ?_
 rw[Ow];exact Int.mul_dvd_mul h (QT _)
theorem IV{l r:Span}(o:Sv l):Sv (leftS l r):=by
 unfold leftS
 split
 .exact vT (NJ o.lh (OW (pp _))) (PV _ _) (AT o.dl) (AT o.dh)
 .exact Sv_whole
theorem yW{z t:Nat}{v:Int}(h:(2:Int)^z∣v):(2:Int)^(z - t)∣v / 2^t:=by
 rcases Nat.le_total z t with c | c
 .rw[Nat.sub_eq_zero_of_le c];exact⟨v / 2^t,by rw[QU];lia⟩
 .obtain⟨d,rfl⟩:=Pu c;obtain⟨k,rfl⟩:=h;rw[Pw,Ow,Oq,Pf _ (by have:=pp t;lia)]
  exact Int.dvd_mul_right _ _
theorem HI{v:Int}(t:Nat)(h:0<=v):v / 2^t<=v:=Int.ediv_le_self _ h
theorem GB{v:Int}(t:Nat)(h:0<=v):0<=v / 2^t:=Int.ediv_nonneg h (OW (pp t))
theorem Gr{l r:Span}(o:Sv l):Sv (rightS l r):=by
 have I:=o.l0;have C:=o.lh;have J:=o.hW;have U:=o.zz;unfold rightS
 split
 .have h5:=HI (r.lo %32).toNat (show 0<=l.hi by lia)
  exact gh (GB _ I) (Int.ediv_le_ediv (pp _) C) (by lia) (by lia) (yW o.dl) (yW o.dh)
 .exact gh (N1 _) (by lia) J (by lia) ⟨0,by lia⟩ ⟨l.hi,by rw[QU];lia⟩
structure Room (k:Nat) (base:Int):Prop where
 k20:k<=20
 b0:0<=base
 bd:(2:Int)^k∣base
 bW:base+2^k<=4294967296
theorem fit_own{k:Nat}{base v:Int}(R:Room k base)(J:base<=v)(I:v<base+2^k):base+v %2^k=v:=by
 obtain⟨c,e⟩:=R.bd;have C:v=(v - base)+2^k*c:=by lia
 have o:v %2^k=(v - base) %2^k:=by
  conv=>lhs;rw[C]
  rw[Int.add_mul_emod_self_left]
 rw[o,N2 (by lia) (by lia)]
 lia
theorem fit_in{k:Nat}{base:Int}(v:Int):base<=base+v %2^k/\base+v %2^k<base+2^k:=by
 have C:=NY v (show(2:Int)^k≠0 by have:=pp k;lia)
 have o:=Ob v (pp k)
 lia
theorem Sv_fit{k:Nat}{base:Int}{s:Span}(R:Room k base)(h:Sv s):Sv (fitS k base s):=by
 unfold fitS
 split
 .exact h
 .have h1:=R.b0;have I:=R.bW;have b:=pp k;have U:=h.zz;have C:=Ba (min s.z (Zn base)) (2^k - 1);have c:(0:Int)<=(2^k - 1) - (2^k - 1) %2^min s.z (Zn base):=Ep (z:=min s.z (Zn base)) (a:=0) ⟨0,by lia⟩ (by lia)
  have J:=NY ((2:Int)^k - 1) (show(2:Int)^min s.z (Zn base)≠0 by have:=pp (min s.z (Zn base));lia)
  have o:(2:Int)^min s.z (Zn base)∣base:=gp (wO base);have e:base+2^k - 1 - (2^k - 1) %2^min s.z (Zn base)=base+((2^k - 1) - (2^k - 1) %2^min s.z (Zn base)):=by lia
  rw[e];exact gh h1 (by lia) (by lia) (by lia) o (Pa o C)
theorem aim_le{m s:Nat}(h:m+s<=7)(v:Int):0<=aimV m s v/\aimV m s v<=aimV m s (2^m - 1)/\aimV m s v<1024:=by
 have I:=NY v (show(2:Int)^m≠0 by have:=pp m;lia)
 have o:=Ob v (pp m);have e:((2:Int)^m - 1) %2^m=2^m - 1:=N2 (by have:=pp m;lia) (by lia)
 have C:(2:Int)^m*2^s<=128:=by rw[<- Ow];exact ple h
 unfold aimV;rw[e];have hs:=pp s;refine⟨?_,?_,?_⟩
 .exact O5 (by lia) (by lia)
 .exact NJ (by lia) (by lia)
 .have h3:v %2^m*8*2^s<=(2^m - 1)*8*2^s:=NJ (by lia) (by lia)
  have J:((2:Int)^m - 1)*8*2^s=8*(2^m*2^s) - 8*2^s:=by
   rw[PJ (2^m - 1) 8,Oq,Int.sub_mul,Int.mul_sub]
   lia
  lia
theorem Je(m s:Nat)(v:Int):(2:Int)^(s+3)∣aimV m s v:=by
 refine⟨v %2^m,?_⟩
 unfold aimV;rw[Ow];show _=2^s*8*_
 simp only[Oq,PJ,Int.mul_left_comm]
theorem Sv_aim{m s:Nat}(h:m+s<=7)(x:Span):Sv (aimS m s x):=by
 obtain⟨a1,a2,a3⟩:=aim_le h x.lo;obtain⟨o,C,b3⟩:=aim_le h (2^m - 1);unfold aimS
 split
 .exact Sv_single a1 (by lia)
 .exact gh (N1 _) o (by lia) (by lia) ⟨0,by lia⟩ (Je _ _ _)
inductive Op8 where
 | add | sub | and | or | xor | less | left | right
 deriving DecidableEq
noncomputable def jv:Op8->Int->Int->Int
 | .add,v,w=>(v+w) %4294967296
 | .sub,v,w=>(v - w) %4294967296
 | .and,v,w=>Builtin.bitAnd v w
 | .or,v,w=>Builtin.bitOr v w
 | .xor,v,w=>Builtin.bitXor v w
 | .less,v,w=>if v<w then 1 else 0
 | .left,v,w=>v*2^(w %32).toNat %4294967296
 | .right,v,w=>v / 2^(w %32).toNat
noncomputable def jS0:Op8->Span->Span->Span
 | .add,l,r=>addS l r
 | .sub,l,r=>subS l r
 | .and,l,r=>andS l r
 | .or,l,r=>orS l r (max l.lo r.lo)
 | .xor,l,r=>orS l r 0
 | .less,l,r=>lessS l r
 | .left,l,r=>leftS l r
 | .right,l,r=>rightS l r
noncomputable def jS(o:Op8)(l r:Span):Span:=
 if o≠ .add/\o≠ .sub/\l.lo=l.hi/\r.lo=r.hi then single (jv o l.lo r.lo) else jS0 o l r
theorem jv_in(o:Op8){v w:Int}(C:0<=v/\v<4294967296)(hw:0<=w/\w<4294967296):0<=jv o v w/\jv o v w<4294967296:=by
 obtain⟨a0,a1,a2⟩:=JW C.1 hw.1;have I:=Ld (j:=32) C.1 hw.1 (by rw[p32];lia) (by rw[p32];lia)
 rw[p32] at I
 cases o
 .show 0<=(v+w) %4294967296/\(v+w) %4294967296<_;lia
 .show 0<=(v - w) %4294967296/\(v - w) %4294967296<_;lia
 .show 0<=Builtin.bitAnd v w/\Builtin.bitAnd v w<_;lia
 .show 0<=Builtin.bitOr v w/\Builtin.bitOr v w<_;rw[bitOr_and];lia
 .show 0<=Builtin.bitXor v w/\Builtin.bitXor v w<_;rw[CU];lia
 .show 0<=(if v<w then(1:Int) else 0)/\(if v<w then(1:Int) else 0)<_;split <;> lia
 .show 0<=v*2^(w %32).toNat %4294967296/\v*2^(w %32).toNat %4294967296<_;lia
 .show 0<=v / 2^(w %32).toNat/\v / 2^(w %32).toNat<_
  have:=HI (w %32).toNat C.1;have:=GB (w %32).toNat C.1;lia
theorem Sv_j(o:Op8){l r:Span}(C:Sv l)(I:Sv r):Sv (jS o l r):=by
 have l1:=C.l0;have l2:=C.lh;have l3:=C.hW;have U:=I.l0;have J:=I.lh;have a:=I.hW;unfold jS
 split
 .obtain⟨h1,h2⟩:=jv_in o (v:=l.lo) (w:=r.lo) ⟨by lia,by lia⟩ ⟨by lia,by lia⟩
  exact Sv_single h1 h2
 .cases o
  .exact Kb C I
  .exact KL C I
  .exact KA C I
  .refine Jw C I (by lia) ?_ (by lia)
   rcases Int.le_total l.lo r.lo with c | c
   .rw[Int.max_eq_right c];exact gp I.dl
   .rw[Int.max_eq_left c];exact iA C.dl
  .exact Jw C I (N1 _) ⟨0,by lia⟩ (by lia)
  .exact IX l r
  .exact IV C
  .exact Gr C
end SpM
namespace L2
open PySem PySem.Spec PyProof.Rows PyProof PySem.SeqAt
section
variable {X : Cx}
def FI(K:Frag)(neg:Bool):R2:=fun x y H Q=>∃(a b:Addr) (o C:List Int),x= .ref a/\y= .ref b/\SqT K H a (o.map V.int)/\SqT K H b (C.map V.int)/\Q (.bl (if neg then !decide (o=C) else decide (o=C))) H
theorem gA(ns:List Int):shaped (.tuple (ns.map PyData.int))=true:=by
 have C:=W.depthAll_ints ns;have o:PyData.depth (.tuple (ns.map PyData.int))<=64:=by simp only[PyData.depth];lia
 show(PyData.canLay0 (.tuple (ns.map PyData.int)) && decide (PyData.depth (.tuple (ns.map PyData.int))<=64))=true
 rw[Nq];exact⟨by simp only[PyData.canLay0];exact W.canLayAll0_ints ns,MO o⟩
theorem iY{h:Heap}{a:Addr}{vs:List Value}{ns:List Int}(I:h.IsTuple a vs.toArray)(C:IntsAre vs ns):Reads h (.ref a) (.tuple (ns.map PyData.int)) []:=by
 obtain⟨o,ho,J,n,hd⟩:=I;exact Reads.tuple ho J hd (by simpa using W.readsAll_of_ints C)
theorem B0(i:X.A.units+64<cLine):OpR X (compareOp .Eq) (FI X.K false):=by
 intro U s Z H x y v u Q I f m h;obtain⟨a,b,C,c,rfl,rfl,d,g,q⟩:=h
 cases f
 cases m
 obtain⟨e,r,pl,_⟩:=I.tuple d;obtain⟨J,j,o,_⟩:=I.tuple g;exact Qp (iY pl (iH r)) (iY o (iH j)) (gA C) (gA c) i (by simp only[noMix];exact QW C c) (by simp only[PySem.Spec.same];rw[W.same_ints];exact⟨.bl _,H,I,rfl,q⟩)
def Lh(C:TI):TI:=fun Z H R=>C Z H fun J o=>aG (R J o)
theorem dY{a o:Expr}{b:TI}(h:PI X a o b):PI X a o (Lh b):=by
 intro C s Z H R I hw;refine thn (h C s Z H _ I hw) fun v q c=>thn c fun w u g=> ?_
 obtain⟨U,e,d,J,m,p,i,n,j,f,r⟩:=g;exact⟨U,e,d,J,m,p,i,n,j,f,r.out⟩
end
end L2
namespace L2
open PySem PySem.Spec PyProof.Rows
section
variable {X : Cx}
structure bC (P:Program) (w:World) (K:Frag) (mg:Str->Option Value) (base:Heap) (k:Nat) (C:Addr) (m:Str) (ps:List Str) (sp:Sp):Prop where
 ex:∃(f:Addr) (fd:FuncData),Cls K C/\FU K C m f/\jj K fd ps []/\je P w K mg base CX0 k f fd ps sp
theorem bC.mono{P:Program}{w:World}{K:Frag}{o:Str->Option Value}{base:Heap}{j k:Nat}{C:Addr}{m:Str}{ps:List Str}{sp:Sp}(h:bC P w K o base j C m ps sp)(b:j<=k):bC P w K o base k C m ps sp:=by
 obtain⟨f,c,I,a,J,U⟩:=h.ex;exact⟨f,c,I,a,J,U.mono b⟩
theorem bB{k:Nat}{C:Addr}{m:Str}{ps:List Str}{sp:Sp}{o e:Expr}{U:List Expr}{d:TE}{t:TA}{J I:Pos}{pl:Sem Bool}(h:bC X.prog X.w X.K X.mg X.base k C m ps sp)(q:Room k X.A)(j:PE X o d)(n:PA X (e::U) t)
  (b:starEach (e::U) X.env=(false,eval e X.env)::starEach U X.env:=by rfl) (a:(backTo I (starEach U X.env)).any (·.1)=false:=by rfl)
  (p:eval (.Call (.Attribute o m J) (e::U) [] I) X.env=(do
   let g <-eval o X.env
   standAt J.atName
   let (f,first) <-holding [g] (getMethod g m pl)
   callWith I f first (backTo I (starEach (e::U) X.env)) (backToKw I (keywordEach [] X.env))):=by rfl):
  PE X (.Call (.Attribute o m J) (e::U) [] I) (Ee C m sp [] E0 d t):=by
 obtain⟨f,r,c,hm,i,F⟩:=h.ex;exact IL (pl:=pl) j c hm F q i .nil yJ n b a p
theorem iG{k:Nat}{C:Addr}{m:Str}{ps:List Str}{sp:Sp}{o:Expr}{U:TE}{J I:Pos}{pl:Sem Bool}(h:bC X.prog X.w X.K X.mg X.base k C m ps sp)(g:Room k X.A)(d:PE X o U)
  (e:eval (.Call (.Attribute o m J) [] [] I) X.env=(do
   let a <-eval o X.env
   standAt J.atName
   let (f,first) <-holding [a] (getMethod a m pl)
   callWith I f first (backTo I (starEach [] X.env)) (backToKw I (keywordEach [] X.env))):=by rfl):
  PE X (.Call (.Attribute o m J) [] [] I) (Ee C m sp [] E0 U wg):=by
 obtain⟨f,i,c,hm,b,F⟩:=h.ex;exact Hx (pl:=pl) d c hm F g b .nil yJ e
structure cA (K:Frag) (mg:Str->Option Value) (x:Str) (C:Addr):Prop where
 mg:mg x=some (.ref C)
 cl:Cls K C
 mks:W.makesIn K C=true
 kp:W.keepIn K (.ref C)=true
theorem oP{k:Nat}{C:Addr}{x:Str}{ps:List Str}{sp:Sp}{e:Expr}{I:List Expr}{t:TA}{p o:Pos}(c:cA X.K X.mg x C)(h:bC X.prog X.w X.K X.mg X.base k C "__init__" ps sp)(i:Room (k+1) X.A)(b:Gl X x)
  (g:PA X (e::I) t) (J:(x==("__debug__":Str))=false:=by decide) (d:starEach (e::I) X.env=(false,eval e X.env)::starEach I X.env:=by rfl) (U:(backTo o (starEach I X.env)).any (·.1)=false:=by rfl):
  PE X (.Call (.Name x p) (e::I) [] o) (EC C sp [] E0 t):=by
 obtain⟨f,j,_,hm,a,F⟩:=h.ex;exact IS ⟨c.mks,hm.at_,hm.fn,c.kp⟩ F i b c.mg a .nil yJ g J d U
structure gM (K:Frag) (C:Addr) (m qual:Str) (st:Stmt) (ps:List Str):Prop where
 ex:∃(f:Addr) (fd:FuncData),Fun K m qual st f fd/\FU K C m f/\jj K fd ps []
theorem gM.has{P:Program}{w:World}{K:Frag}{a:Str->Option Value}{base:Heap}{k:Nat}{C:Addr}{m I:Str}{st:Stmt}{N ps:List Str}{sp:Sp}(D:gM K C m I st ps)(c:Cls K C)(S:aq N ps (ah st))(len:∀vs H Q E,sp vs H Q E->vs.length=ps.length)
  (U:∀(f:Addr) (J:Value) (A:Around) (o:List Env) (s:Shared) (H:Hp) (vs:List V) (Q:VK) (E:XK),Room k (A.deeper (envOfC I (ah st) s.heap.objs.size f J))->sp vs H Q E->
   ∃t,PSs (rP CX0 P w K a base N I (ah st) f J A o s H E).nox (fo st) t/\t {nx:=fun _ e=>Q .non e,rt:=Q} (start N vs) H):bC P w K a base (k+1) C m ps sp:=by
 obtain⟨f,g,F,hm,b⟩:=D.ex;exact⟨f,g,c,hm,b,F.ok S len fun J A o s H vs Q E d h=>U f J A o s H vs Q E d h⟩
def BdM(x o:Str)(st:Stmt)(ps:List Str):Prop:=∀(kV C U:Value) (a:Option Addr) (J b:Value) (I:List Value),I.length=ps.length->
 bindArgs (W.fnOf x o (jl st) (fo st) (ah st) .none kV C U a J b) ⟨I,[]⟩=pure (ps.zip I)
theorem bJ{K:Frag}{x o:Str}{st:Stmt}{ps:List Str}{C f:Addr}{e d:Option Addr}{sl:Array (Option Value)}{J kV I pm cd ct:Value}(b:BdM x o st ps)
  (a:W.findIn K (.ref C) x=some (some (.ref f))) (l:K.lookup f=some ⟨J,e,.func (W.fnOf x o (jl st) (fo st) (ah st) .none kV I pm d cd ct),sl⟩) (c:W.codeIn K cd o=true) (U:W.isFn K (.ref f)=true) (k:W.keepIn K (.ref f)=true):
  gM K C x o st ps:=by
 have F:=Dp (st:=st) l c k;exact⟨f,_,F,⟨a,U,k⟩,F.binds b⟩
theorem rM{K:Frag}{h:Heap}{o:Str->Option Value}{x:Str}{C:Addr}(X:K.In h)(G:h.Ns mainGlobals o)(a:W.nsIn K mainGlobals x=some (some (.ref C)))
  (pg:W.plainGet K C Str.empty=true) (hd:W.hasDictIn K C=true) (po:W.plainOver K C=true) (sa:W.findIn K (.ref C) "__setattr__"=some (some (.builtin "object.__setattr__")))
  (mk:W.makesIn K C=true) (kp:W.keepIn K (.ref C)=true):cA K o x C:=⟨Rw X G a,⟨pg,hd,po,sa⟩,mk,kp⟩
theorem rN:ni X (.type "dict") (fun xs H Q=>∃a kvs,xs=[V.ref a]/\H a=some (.dK kvs)/\∀p,H p=none->Q (.ref p) (upd H p (.dK kvs))):=by
 intro o s Z H xs c Q I r h;obtain⟨a,kvs,rfl,U,q⟩:=h;obtain⟨u,rfl,C⟩:=uW r
 cases C
 exact F5 I (.inl U) fun p d b J=>⟨.ref p,_,J,rfl,q p b⟩
def HY:V->List V->Hp->VK->Prop:=fun x I H Q=>∃a b C o,x= .ref a/\I=[.ref b]/\H a=some (.dK C)/\H b=some (.dK o)/\a≠b/\C.length+o.length<=sizeLine/\Q .non (upd H a (.dK (cP C o)))
theorem Fl:MtM X "dict.update" HY:=by
 intro m s Z H x G v E Q I A D h;obtain⟨a,b,f,J,rfl,rfl,j,n,c,i,q⟩:=h
 cases A
 obtain⟨u,rfl,B⟩:=D.one
 cases B
 obtain⟨z,hd,r,U,dd⟩:=Gs I.hok j;obtain⟨z2,d,e,o,g⟩:=Gs I.hok n;refine QP Pg dd.typeIs PySem.F.entry_dict_update (PySem.F.args_dict_update_2 _ _) (meets_dict_update (cr X.prog X.w) a b c d) ⟨r,e,dd,g,by rw[<- U.length, <-o.length];exact i,fun p C _ hs=> ?_⟩
 have y:∃q,p.get? a=some q:=let ⟨q,_,_,hq,_⟩:=C;⟨q,hq⟩
 refine⟨.non,_,zU (t':=s.toks) I (by rw[j];exact True.intro) hs y (C6 ?_ hd (KV.merge o U) C),rfl,q⟩
 exact MV (fN J f) i
def Cl(kvs:List (Key × V)):Prop:=∀o∈kvs, ∃i:Int,o.2= .int i
theorem BK:∀{kvs:List (Key × V)}{k:Key}{v:V},(kvs.map (·.1)).Nodup->(k,v)∈kvs->eZ kvs k=some v
 | p::r,k,v,hn,hm=>by
  rw[Nd,NM] at hn;rcases M3.mp hm with e | hm
  .subst e;exact iU rfl
  .rw[gD (fun e=>hn.1 (by rw[e];exact List.mem_map_of_mem (f:=(·.1)) hm))]
   exact BK hn.2 hm
theorem yR{A:Around}{s:Shared}{kvs:List (Key × V)}{kb:List (Key × Value)}(rb:KV kvs kb)(a:Cl kvs)(d:(kvs.map (·.1)).Nodup):∀{l:List (Key × V)}{C:List (Key × Value)},KV l C->(∀x∈l,x∈kvs)->PySem.W.KeqHits A s kb C true:=by
 intro l C r;unfold KV at r
 induction r with
 | nil=>intro _;exact .nil
 | @cons p q ps qs h t ih=>
  intro hm;obtain⟨i,U⟩:=a p (hm p (Nc ..));have g:eZ kvs p.1=some p.2:=BK d (hm p (Nc ..));have ho:=rb.val p.1;rw[g,U] at ho;obtain⟨f,J⟩:=h;rw[U] at J;obtain⟨o,m⟩:=(show ∃o,q.2=Value.int i o from J)
  cases hb:valueAt kb p.1 with
  | none=>rw[hb] at ho;exact ho.elim
  | some y=>
   rw[hb] at ho;obtain⟨I,c⟩:=(show ∃o,y=Value.int i o from ho)
   have e:=PySem.W.KeqHits.hit (A:=A) (s:=s) (kb:=kb) (k:=q.1) (v:=q.2) (y:=y) (e:=true) (r:=qs) (b:=true) (by rw[<- f];exact hb) (by
    rw[m,c];have:=SeqAt.EqAt.int_int (A:=A) (s:=s) i o i I;rw[NI] at this
    exact this) (ih fun x j=>hm x (M8 _ j))
   exact e
def LO(b:Bool):R2:=fun x y H Q=>∃(p q:Addr) (o:List (Key × V)),x= .ref p/\y= .ref q/\Rd H p (.dK o)/\Rd H q (.dK o)/\Cl o/\Q (.bl b) H
theorem wK(z:X.A.units+64<cLine):OpR X (compareOp .NotEq) (LO false):=by
 intro U s Z H x y v u Q I g n h;obtain⟨p,q,C,rfl,rfl,i,j,c,k⟩:=h
 cases g
 cases n
 obtain⟨_,d,B,b,e⟩:=qj I.hok i;obtain⟨_,m,w,J,a⟩:=qj I.hok j;have o:(C.map (·.1)).Nodup:=by rw[J.keys];obtain⟨_,_,_,_,_,_,_,_,o⟩:=a;exact o
 refine W.keq_ne (r:=true) d m e a (by lia) (fun _=>yR J c o b fun x f=>f) ?_
 rw[<- b.length, <-J.length,NI,Ph];exact⟨.bl false,H,I,rfl,k⟩
theorem cQ:ni X (.type "tuple") (fun xs H Q=>∃p ys,xs=[V.ref p]/\SqL X.K H p ys/\∀l,H l=none->Q (.ref l) (upd H l (.tup ys))):=by
 intro o s Z H xs J Q I r h;obtain⟨p,ys,e,C,q⟩:=h;exact iQ o s Z H xs J Q I r ⟨p,ys,e,.inl ⟨C,q⟩⟩
end
end L2
namespace L2
open PySem PySem.Spec PyProof.Rows PyProof PySem.SeqAt
section
variable {X : Cx}
def rTS(K:Frag)(neg:Bool):R2:=fun x y H Q=>∃(a b:Addr) (s t:Str) (o:List Int),x= .ref a/\y= .ref b/\SqT K H a (.str s::o.map V.int)/\SqT K H b [.str t]/\PyData.strOk s=true/\PyData.strOk t=true/\Q (.bl (if neg then !(decide (s=t) && decide (o=[])) else(decide (s=t) && decide (o=[])))) H
theorem lx{s:Str}(ns:List Int)(hs:PyData.strOk s=true):shaped (.tuple (.str s::ns.map PyData.int))=true:=by
 have C:=W.depthAll_ints ns;have o:PyData.depth (.tuple (.str s::ns.map PyData.int))<=64:=by simp only[PyData.depth,PyData.depthAll];lia
 show(PyData.canLay0 (.tuple (.str s::ns.map PyData.int)) && decide (PyData.depth (.tuple (.str s::ns.map PyData.int))<=64))=true
 rw[Nq];exact⟨by simp only[PyData.canLay0,PyData.canLayAll0];simp [W.canLayAll0_ints ns,hs],MO o⟩
theorem vV{h:Heap}{a:Addr}{vs:List Value}{s:Str}{ns:List Int}(I:h.IsTuple a vs.toArray)(C:bg (.str s::ns.map V.int) vs):Reads h (.ref a) (.tuple (.str s::ns.map PyData.int)) []:=by
 obtain⟨o,ho,J,n,hd⟩:=I
 cases C with
 | cons r rs=>
  obtain⟨t,rfl⟩:=r;refine Reads.tuple ho J hd ?_
  have:=ReadsAll.cons (Reads.str (h:=h) s t) (W.readsAll_of_ints (h:=h) (iH rs))
  simpa using this
theorem Ji{neg:Bool}(n:X.A.units+64<cLine):OpR X (compareOp (if neg then .NotEq else .Eq)) (rTS X.K neg):=by
 intro j s Z H x y v u Q I z E h;obtain⟨a,b,J,C,o,rfl,rfl,p,B,d,f,q⟩:=h
 cases z
 cases E
 obtain⟨w,r,pl,_⟩:=I.tuple p;obtain⟨g,D,U,_⟩:=I.tuple B;have c:=vV (s:=C) (ns:=[]) U D;have m:=vV pl r;have hs:same (.tuple (.str J::o.map PyData.int)) (.tuple (.str C::([]:List Int).map PyData.int))=(decide (J=C) && decide (o=[])):=by
  cases o with
  | nil=>
   by_cases e:J=C
   .simp [same,sameAll,e]
   .simp [same,sameAll,e]
  | cons i r=>simp [same,sameAll]
 have hm:noMix (.tuple (.str J::o.map PyData.int)) (.tuple (.str C::([]:List Int).map PyData.int))=true:=by
  cases o with
  | nil=>simp [noMix,noMixAll]
  | cons i r=>simp [noMix,noMixAll]
 cases neg with
 | true=>exact Qq m c (lx _ d) (lx _ f) n hm (by rw[hs];exact⟨.bl _,H,I,rfl,q⟩)
 | false=>exact Qp m c (lx _ d) (lx _ f) n hm (by rw[hs];exact⟨.bl _,H,I,rfl,q⟩)
theorem Bw(o:X.A.units+64<cLine):OpR X (compareOp .NotEq) (rTS X.K true):=Ji (neg:=true) o
theorem wU(o:X.A.units+64<cLine):OpR X (compareOp .Eq) (rTS X.K false):=Ji (neg:=false) o
end
end L2
namespace L2
open PySem PySem.Spec PyProof.Rows PyProof
theorem Lz{K:Frag}{p:Addr}{xs:List V}{i:Int}{v:V}{H:Hp}{Q:VK}(h:SqT K H p xs)(a:atI xs i=some v)(q:Q v H):KJ K (.ref p) (.int i) H Q:=⟨p,xs,i,v,rfl,rfl,h,a,q⟩
end L2
namespace L2
open PySem PySem.Spec PyProof.Rows
theorem dU.there{P:Program}{w:World}{H:Hp}{h:Heap}{a:Addr}{o:HO}(x:dU P w H h a o):∃I,h.get? a=some I:=by
 cases o with
 | lst xs=>obtain⟨_,_,_,_,q⟩:=x;exact⟨_,q⟩
 | tup xs=>obtain⟨_,_,_,_,q,_⟩:=x;exact⟨_,q⟩
 | dK kvs=>obtain⟨_,_,_,_,_,_,_,q,_⟩:=x;exact⟨_,q⟩
 | dT kvs=>obtain⟨_,_,_,_,_,_,_,q,_⟩:=x;exact⟨_,q⟩
 | set S n=>obtain⟨_,_,_,_,q,_⟩:=x;exact⟨_,q⟩
 | ins C dx fs=>obtain⟨_,_,_,q,_⟩:=x;exact⟨_,q⟩
 | own y=>exact x
 | xd fs=>obtain⟨_,⟨_,_,_,q,_⟩,_⟩:=x;exact⟨_,q⟩
 | rng lo hi=>obtain⟨_,_,_,q⟩:=x;exact⟨_,q⟩
 | frz I u=>obtain⟨q,_⟩:=x;exact⟨_,q⟩
 | tbl ps=>exact⟨_,(show h.get? a=some _ from x)⟩
 | met f y=>exact⟨_,(show h.get? a=some _ from x)⟩
 | ext φ=>obtain⟨_,q,_⟩:=x;exact q
structure xO (P:Program) (w:World) (l:List Env) (H:Hp) (s:Shared) (H':Hp) (B h':Heap):Prop where
 un:Un (frs l) [] H H' s.heap h'
 hok:HOk P w H' h'
 st:B.StaysIn h'
 kb:∀b o,s.heap.get? b=some o->H b=none->b ∉ frs l->B.get? b=some o
 hb:∀a u,H' a=some u->∃o,B.get? a=some o
 ab:∀b o,s.heap.get? b=some o->b ∉ frs l->∃o',B.get? b=some o'
 nf:∀b∈frs l, ∃o,h'.get? b=some o/\∀vs,o.data≠ .fields vs
theorem xO.next{P:Program}{w:World}{l:List Env}{H g:Hp}{s:Shared}{B i f:Heap}(F:xO P w l H s g B i)(st:B.StaysIn f)(us:i.UpToSlots f):xO P w l H s g B f where
 un:=by
  refine⟨fun b o q n C _=>st _ _ (F.kb b o q n C),fun b o q n C j=> ?_,F.un.free,fun b o q j=> ?_,F.un.tups,F.un.frzs,F.un.tbls⟩
  .obtain⟨sl,e⟩:=F.un.slot b o q n C j;obtain⟨c,I,d⟩:=F.nf b C;rw[e] at I
   cases I
   obtain⟨U,J⟩:=us b _ e d;exact⟨U,J⟩
  .by_cases C:b∈frs l
   .obtain⟨c,I,d⟩:=F.nf b C;obtain⟨U,J⟩:=us b _ I d;exact⟨_,J⟩
   .obtain⟨c,I⟩:=F.ab b o q C;exact⟨c,st _ _ I⟩
 hok:=fun a u e=>(F.hok a u e).stay (fun b p C q=>by
  have:∃v,g b=some v:=by
   rcases C with rfl | C
   .exact⟨_,e⟩
   .exact⟨_,C⟩
  obtain⟨v,m⟩:=this;obtain⟨c,I⟩:=F.hb b v m;have J:=F.st _ _ I;rw[q] at J
  cases J
  exact st _ _ I) (fun _ q=>q) fun _ _ q=>q
 st:=st
 kb:=F.kb
 hb:=F.hb
 ab:=F.ab
 nf:=fun b C=>by
  obtain⟨c,I,d⟩:=F.nf b C;obtain⟨U,J⟩:=us b _ I d;exact⟨_,J,d⟩
section
variable {X : Cx} {pins : List (Addr × Obj)} {σ : St} {H H' : Hp} {s : Shared} {B h' : Heap}
theorem xO.start(I:Inv X pins Z H s)(k:∀b o,s.heap.get? b=some o->h'.get? b=some o):xO X.prog X.w X.stack H s H (W.hideAll s.heap (frs X.stack)) h' where
 un:=Un.kept k
 hok:=I.hok.kept k
 st:=fun b o q=>k _ _ (QD _ q)
 kb:=fun b o q _ C=>Pc _ q C
 hb:=fun a u e=>by
  obtain⟨o,q⟩:=(I.hok a u e).there;refine⟨o,Pc _ q fun z=> ?_⟩
  rw[I.stkFree a z] at e
  cases e
 ab:=fun b o q C=>⟨o,Pc _ q C⟩
 nf:=fun b C=>by
  obtain⟨_,o,ho,d⟩:=I.stack.mem C;exact⟨o,k _ _ ho,d⟩
theorem xO.pop(F:xO X.prog X.w X.stack H s H' B h')(I:Inv X pins Z H s)(hs:X.stack=X.env::X.outer)(a:X.ex=[]):xO X.prog X.w X.outer X.H₀ X.s₀ H' B h':=by
 have J:Inv X pins Z H' {s with heap:=h',gens:=s.gens,drawn:=s.drawn,toks:=s.toks}:=I.call (ch:=[]) F.un F.hok I.bare (fun b z=>absurd z (by simp))
 have nx:∀b:Addr,b ∉ X.ex:=fun b z=>by rw[a] at z;exact absurd z (by simp)
 have U:∀b o,X.s₀.heap.get? b=some o->b ∉ frs X.outer->b ∉ frs X.stack:=fun b o q C z=>by
  rcases M3.mp (I.stkSub b z) with e | e
  .have h1:=MK q;have c:=I.ok.above;rw[e] at h1;exact absurd (MJ h1 c) (NQ _)
  .exact C e
 refine⟨?_,F.hok,F.st,fun b o q n C=> ?_,F.hb,fun b o q C=> ?_,fun b C=> ?_⟩
 .have u:=J.base;rw[a] at u;exact u
 .exact F.kb b o (I.base.keep b o q n C (nx b)) (I.base.free b o q n (nx b)) (U b o q C)
 .obtain⟨o2,e2⟩:=I.base.there b o q (nx b);exact F.ab b o2 e2 (U b o q C)
 .refine F.nf b ?_
  rw[hs];obtain⟨e,f,d⟩:=Oa.mp C;exact Oa.mpr ⟨e,M8 _ f,d⟩
end
def CXL(P:Program)(w:World):CXT:=fun o H s E e I=>
 ∃x C J B a0,e=Value.ref x/\I.os=s.os/\AllBare I.gens/\xO P w o H s J B I.heap/\Heap.FlyingW B o x C a0 I.heap/\E C none J
abbrev vbm:List Value:=[.type "ValueError",.type "Exception",.type "BaseException",.type "object"]
structure EK (K:Frag) (C:Addr):Prop where
 ex:W.excIn K C vbm "ValueError.__new__"=true
theorem EK.obj{K:Frag}{C:Addr}{h:Heap}(c:EK K C)(X:K.In h):∃bm N nm q bs hdct sn sub ab col dd k0 k1 k2 k3 k5 mN,
  h.get? C=some (excClassObj nm q C N bs bm hdct sn sub ab col dd k0 k1 k2 k3 k5 "ValueError.__new__")/\h.Ns N mN/\mN "__init__"=none/\OwnTail h vbm bm:=by
 have q:=c.ex;unfold W.excIn at q
 split at q
 case h_2=>cases q
 case h_1 dd cd sl ho=>
  split at q
  case h_2=>cases q
  case h_1 C' bm k0 k1 k2 k3 n k5 hm hs=>
   rw[Nq,Nq,Nq,Nq,Nq] at q;obtain⟨⟨⟨⟨⟨i,g⟩,e⟩,j⟩,I⟩,f⟩:=q;have r:=Ou.mp i;have b:=Ou.mp g;have m:=Ou.mp f;subst r b;obtain⟨nm,bs,o,U,J,hd,sn,sub,ab,col,del⟩:=cd;have a:del=false:=by simpa using e
   have p:o= .ref C'::bm:=hm;subst a p;have d:sl= #[k0,k1,k2,k3,some (.builtin "ValueError.__new__"),k5]:=by
    apply Array.ext'
    exact hs
   subst d;exact⟨bm,U,nm,J,bs,hd,sn,sub,ab,col,dd,k0,k1,k2,k3,k5,_,X _ _ ho,Heap.Ns.of_isNs (W.isNs_of_in X I),W.nsMap_none_of_in X I m,W.tail_of_in X j⟩
section
variable {P : Program} {w : World} {K : Frag} {mg : Str → Option Value} {base : Heap} {N : List Str} {qual : Str} {scope : Scope} {f : Addr} {cd : Value} {A : Around} {outer : List Env} {s₀ : Shared} {H₀ : Hp} {E : XK}
def Kx(E:XK)(C:Addr):TS:=fun _ _ H=>E (.ref C) none H
theorem E7{x:Str}{C:Addr}{np g j:Pos}(c:EK K C)(G:Gl (rP (CXL P w) P w K mg base N qual scope f cd A outer s₀ H₀ E) x)(hm:mg x=some (.ref C))(n:(x==("__debug__":Str))=false:=by decide):
  PS (rP (CXL P w) P w K mg base N qual scope f cd A outer s₀ H₀ E) (.Raise (some (.Call (.Name x np) [] [] g)) none j) (Kx E C):=by
 intro z s Z H D I h;obtain⟨bm,R,v,q,bs,J,u,d,B,U,dd,k0,k1,k2,k3,k5,r,L,S,p,T⟩:=c.obj I.kIn;refine wpAny_Raise_call_subT (C:=C) (nm:=v) (q:=q) (N:=R) (bs:=bs) (bm:=bm) (hdct:=J) (sn:=u) (sub:=d) (ab:=B) (col:=U) (dd:=dd) (k0:=k0) (k1:=k1) (k2:=k2) (k3:=k3) (k5:=k5)
  F.excBase_ValueError (mN:=r) (T.hasType rfl) (I.ok.hd rfl) rfl p (mO I G hm ⟨rfl,evalArgs_empty ⟨rfl,Na _,L,S,T,fun Y e m=> ?_⟩⟩ n)
 have X:=xO.start I m.keeps;refine wpAny_leaves_madeW (base:=W.hideAll s.heap (frs (envOfC qual scope s₀.heap.objs.size f cd::outer))) (h:=s.heap) I.ok.frames rfl (fun b o q=>QD _ q) (W.funFrames_hide I.stack fun i M a Q=>Oa.mpr ⟨i,M,Q⟩) m fun h2 t y _ _ O=> ?_
 exact⟨e,.ref C,H,_,_,rfl,I.os,I.bare,(X.next y.1 O).pop I rfl rfl,y,h⟩
end
def Jk(CX:CXT)(X:Cx)(I:St->XK):Prop:=∀(o:List (Addr × Obj)) (Z:St) (H:Hp) (s:Shared) (e:Value) (C:Shared),Inv X o Z H s->CX X.stack H s (I Z) e C->X.xe e C
section
variable {P : Program} {w : World} {K : Frag} {mg : Str → Option Value} {base : Heap} {N : List Str} {qual : Str} {scope : Scope} {f : Addr} {cd : Value} {A : Around} {outer : List Env} {s₀ : Shared} {H₀ : Hp} {E : XK}
theorem we:Jk (CXL P w) (rP (CXL P w) P w K mg base N qual scope f cd A outer s₀ H₀ E) (fun _=>E):=by
 rintro U Z H s e i I ⟨x,J,c,B,a0,rfl,d,o,F,b,q⟩
 refine wpAny_leaves_onW I.ok.frames rfl b fun g C a=> ?_
 exact⟨x,J,c,B,a0,rfl,d.trans I.os,o,(F.next C.1 a).pop I rfl rfl,C,q⟩
end
structure vM (P:Program) (w:World) (K:Frag) (mg:Str->Option Value) (base:Heap) (k:Nat) (x:Str) (ps:List Str) (sp:Sp):Prop where
 ex:∃(f:Addr) (fd:FuncData),mg x=some (.ref f)/\W.keepIn K (.ref f)=true/\jj K fd ps []/\je P w K mg base (CXL P w) k f fd ps sp
theorem Def.hasX{P:Program}{w:World}{K:Frag}{U:Str->Option Value}{base:Heap}{k:Nat}{x:Str}{st:Stmt}{N ps:List Str}{sp:Sp}(D:Def K U x st ps)(S:aq N ps (ah st))(len:∀vs H Q E,sp vs H Q E->vs.length=ps.length)
  (I:∀(f:Addr) (C:Value) (A:Around) (o:List Env) (s:Shared) (H:Hp) (vs:List V) (Q:VK) (E:XK),Room k (A.deeper (envOfC x (ah st) s.heap.objs.size f C))->sp vs H Q E->
   ∃t,PSs (rP (CXL P w) P w K U base N x (ah st) f C A o s H E) (fo st) t/\t {nx:=fun _ g=>Q .non g,rt:=Q} (start N vs) H):vM P w K U base (k+1) x ps sp:=by
 obtain⟨f,q,F,hm,a⟩:=D.ex;obtain⟨j,p,kV,c,i,m,C,n,d,rfl,b,J⟩:=F.ex;exact⟨f,_,hm,F.kp,a,JC b J S len fun A o s H vs Q E e h=>I f C A o s H vs Q E e h⟩
theorem vM.mono{P:Program}{w:World}{K:Frag}{o:Str->Option Value}{base:Heap}{j k:Nat}{x:Str}{ps:List Str}{sp:Sp}(h:vM P w K o base j x ps sp)(b:j<=k):vM P w K o base k x ps sp:=by
 obtain⟨f,a,I,C,U,J⟩:=h.ex;exact⟨f,a,I,C,U,J.mono b⟩
theorem q_{X:Cx}{st:Stmt}{t:TS}(h:PS X.nox st t):PS X st t:=fun o s Z H D I hw=>
 ND (h o s Z H D (I.wish _) hw) (fun _ _ q=>q.unwish) fun _ _ z=>False.elim z
def KD(sp:Sp)(C:St->XK)(t:TA):TE:=fun Z H Q=>t Z H fun I o=>sp I o Q (C Z)
section
variable {X : Cx}
theorem CC{k:Nat}{x:Str}{ps:List Str}{sp:Sp}{j:St->XK}{e:Expr}{b:List Expr}{t:TA}{p C:Pos}(h:vM X.prog X.w X.K X.mg X.base k x ps sp)(M:Room k X.A)(v:Gl X x)(D:Jk (CXL X.prog X.w) X j)
  (E:PA X (e::b) t) (g:(x==("__debug__":Str))=false:=by decide) (B:starEach (e::b) X.env=(false,eval e X.env)::starEach b X.env:=by rfl) (i:(backTo C (starEach b X.env)).any (·.1)=false:=by rfl):
  PE X (.Call (.Name x p) (e::b) [] C) (KD sp j t):=by
 obtain⟨f,P,hm,z,n,F⟩:=h.ex;intro o s Z H Q I G;refine NH (mO I v hm ?_ g)
 refine Py (h₀:=X.base) I.ok.mod.kin z (cO (E C o s Z H _ I G) fun c d L m U r q=>⟨U.kIn,?_⟩) B i
 have y:(c++[]).length=ps.length:=by
  rw[MS, <-r.length];exact F.len _ _ _ _ q
 have J:=n d c U.kIn y;rw[MS] at J;refine wpAny_call (Ox (F.run X.A X.stack d m ⟨c,[]⟩ c L Q (j Z) M U.env0 J r q) fun O N a=> ?_)
 cases O with
 | error e=>exact D o Z m d e N U a
 | ok fl=>
  cases fl with
  | ret u=>exact U.after a
  | next=>exact False.elim a
  | brk=>exact False.elim a
  | cont=>exact False.elim a
variable {pins : List (Addr × Obj)} {σ : St} {H : Hp} {s : Shared}
end
end L2
namespace L2
open PySem PySem.Spec PyProof.Rows PyProof PySem.SeqAt
theorem Aq:∀{ns:List Int}{o:List Value},bg (ns.map V.int) o->∃ps:List (Int × Tok),o=ps.map (fun p=>Value.int p.1 p.2)/\ps.map (·.1)=ns
 | [],o,r=>by
  cases r
  exact⟨[],rfl,rfl⟩
 | n::ns,o,r=>by
  cases r with
  | cons q r=>
   obtain⟨ps,I,C⟩:=Aq r;obtain⟨t,e⟩:=q;exact⟨(n,t)::ps,by rw[e,I];rfl,by rw[<- C];rfl⟩
theorem uU(ps:List (Int × Tok)):(ps.map (fun p=>Value.int p.1 p.2)).toArray=intItems ps.toArray:=by
 simp [intItems]
section
variable {X : Cx}
theorem Gb(f:X.calm=true):ni X (.builtin "sum") (fun xs H Q=>∃(p:Addr) (ns:List Int),xs=[.ref p]/\SqL X.K H p (ns.map V.int)/\(∀j,j<ns.length->InLong (ns.getD j 0)/\InLong (ns.take (j+1)).sum)/\Q (.int ns.sum) H):=by
 intro a s Z H xs z Q I r h;obtain⟨p,ns,rfl,n,c,q⟩:=h;obtain⟨u,rfl,g⟩:=uW r
 cases g
 obtain⟨b,i,pl,y⟩:=I.list n;obtain⟨C,w,J⟩:=Aq i;have U:=pl.isList;rw[w,uU] at U;have o:C.length=ns.length:=by rw[<- J,fI]
 refine sum_intList (I.ok.hd f) U (fun j m=> ?_) fun x v d k=> ?_
 .have hj':j<ns.length:=by simpa [o] using m
  rw[numAt_eq,preSum_eq];have:=c j hj'
  simp only[J]
  exact this
 .rw[preSum_eq];have e:((C.toArray.toList.map (·.1)).take C.toArray.size).sum=ns.sum:=by
   show((C.map (·.1)).take C.length).sum=ns.sum
   rw[J,o,ML]
  rw[e];exact⟨.int ns.sum,H,I.kept (t':=v) k,⟨_,rfl⟩,q⟩
theorem ER(x:X.calm=true):ni X (.builtin "max") (fun xs H Q=>∃(p:Addr) (ns:List Int),xs=[.ref p]/\SqL X.K H p (ns.map V.int)/\ns≠[]/\∀m,m∈ns->(∀n∈ns,n<=m)->Q (.int m) H):=by
 intro f s Z H xs M Q I r h;obtain⟨p,ns,rfl,B,J,q⟩:=h;obtain⟨u,rfl,y⟩:=uW r
 cases y
 obtain⟨w,A,pl,L⟩:=I.list B;obtain⟨o,E,d⟩:=Aq A;have c:=pl.isList;rw[E,uU] at c;have C:o.length=ns.length:=by rw[<- d,fI]
 have F:0<ns.length:=N3.mpr J;refine max_intList (I.ok.hd x) c (by show 0<o.length;lia) fun v G D b k=> ?_
 have z:o.toArray.size=ns.length:=by show o.length=_;exact C
 rw[z] at b;obtain⟨N,e⟩:=argBest_gt (numAt o.toArray) (ns.length - 1);obtain⟨t,rfl⟩:=intItems_at b;have U:∀j,numAt o.toArray j=ns.getD j 0:=fun j=>by rw[numAt_eq];show(o.map (·.1)).getD j 0=_;rw[d]
 rw[U];rw[U] at e;generalize argBest (fun i j=>decide (numAt o.toArray i >numAt o.toArray j)) (ns.length - 1)=k0 at*
 have a:k0<ns.length:=by lia
 refine⟨.int (ns.getD k0 0),H,I.kept (t':=D) k,⟨_,rfl⟩,q _ ?_ fun n g=> ?_⟩
 .simp [List.getD,be a]
 .obtain⟨j,hj,rfl⟩:=List.mem_iff_getElem.mp g;have:=e j (by lia)
  rw[U] at this
  simpa [List.getD,be hj] using this
end
theorem yH{X:Cx}{k:Nat}{C:Addr}{x:Str}{ps:List Str}{sp:Sp}{p o:Pos}(c:cA X.K X.mg x C)(h:bC X.prog X.w X.K X.mg X.base k C "__init__" ps sp)(a:Room (k+1) X.A)(U:Gl X x)
  (I:(x==("__debug__":Str))=false:=by decide):PE X (.Call (.Name x p) [] [] o) (EC C sp [] E0 wg):=by
 obtain⟨f,b,_,hm,J,F⟩:=h.ex;exact FE ⟨c.mks,hm.at_,hm.fn,c.kp⟩ F a U c.mg J .nil yJ I
noncomputable def Ite(K : Frag)(a : Addr) : It :=
  ⟨fun i H => ∃o x, SqL K H a o ∧ o[i]? = some x,
   fun i H v C => ∃p x, H p = none ∧ v = .ref p ∧ C = upd H p (.tup [.int i, x]) ∧ ∀o, SqL K H a o → o[i]? = some x,
   fun i H => ∃o, SqL K H a o ∧ o.length = i⟩
def EAt(e it a:Addr)(i:Nat)(h:Heap):Prop:=(∃o,IsEnum h e it i o)/\h.IsListIter it a i
theorem Fm{P:Program}{w:World}{K:Frag}{u:List Expr}{tk:Nat}{tp:Pos}{a e it:Addr}(m:e≠it)(B:a≠it)(R:a≠e):
  Dh P w K (.Tuple u tk tp) (Ite K a) [e,it] e (EAt e it a) where
 mem:=by simp
 obj:=fun i h st x n=>by
  obtain⟨⟨J,c⟩,p⟩:=st;have j:x=e\/x=it:=by simpa using n
  rcases j with rfl | rfl
  .exact⟨_,c,fun v q=>by cases q⟩
  .obtain⟨o,ho,L,hd⟩:=p;exact⟨o,ho,fun v q=>by rw[hd] at q;cases q⟩
 keep:=fun i h G st k=>by
  obtain⟨⟨J,c⟩,⟨o,ho,S⟩⟩:=st;exact⟨⟨J,k e (by simp) _ c⟩,⟨o,k it (by simp) _ ho,S⟩⟩
 item:=by
  intro X O hw T L i F s Z H E I M st hg;subst O hw T;obtain⟨xs,x,N,e1⟩:=hg;obtain⟨⟨J,c⟩,p⟩:=st;obtain⟨l1,r1,pl,_⟩:=I.list N;have hh:X.A.in1.handled=none:=I.ok.hd L;have D1:=Draws.list (prog:=X.prog) (w:=X.w) hh it a B l1.toArray;obtain⟨u1,g1,w1⟩:=r1.get e1;have Y:i<l1.toArray.size:=by have:=(gV.mp g1).1;simpa using this
  have f:e<s.heap.objs.size:=MK c;have r:it<s.heap.objs.size:=by obtain⟨o,ho,_⟩:=p;exact MK ho
  refine wpAny_pyNext_enum_itemD D1 c ⟨p,pl.isList⟩ Y m (by simp [m,Nb R]) fun x' G y n ho hs hT ar kk=> ?_
  have j:u1=x':=by
   have n:l1.toArray[i]? =some x':=n;rw[OD,g1] at n;exact MR n
  subst j;refine⟨_,rfl,wpAny_letOwnedTupleGo_enum ho fun g D U=> ?_⟩
  have U:Heap.SameBut e G g:=U;have up:∀b o,b≠e->G.get? b=some o->g.get? b=some o:=fun b o d z=>U.extBut _ _ d z
  have kept:∀b o,b ∉ [e,it]->s.heap.get? b=some o->g.get? b=some o:=fun b o d z=>by
   have C:b≠e/\b≠it:=by simpa using d
   exact up b o C.1 (kk b o C.1 C.2 z)
  refine⟨.ref s.heap.objs.size,upd H s.heap.objs.size (.tup [.int i,x]),?_,rfl,⟨_,x,I.fresh,rfl,rfl,fun zs hz=>by rw[I.list_inj hz N];exact e1⟩,?_,fun b d=> ?_⟩
  .refine I.turnedN (t':=y+1) (ch:=[e,it]) kept M (MC _) ⟨by show 2<=sizeLine;decide,[.int i y,u1],.cons ⟨_,rfl⟩ (.cons w1 .nil),⟨_,up _ _ (N_ f) hT,rfl,_,rfl⟩⟩
  .refine⟨⟨_,by simpa using D⟩,?_⟩
   obtain⟨o,ab,S⟩:=hs.1;exact⟨o,up _ _ (Nb m) ab,S⟩
  .have h0:=(M b d).1;rw[aj]
   .exact h0
   .have C:b=e\/b=it:=by simpa using d
    rcases C with rfl | rfl
    .exact M5 f
    .exact M5 r
 done:=by
  intro X O hw T L i F s Z H E I M st hg;subst O hw T;obtain⟨xs,N,ao⟩:=hg;obtain⟨⟨J,c⟩,p⟩:=st;obtain⟨l1,r1,pl,_⟩:=I.list N;have hh:X.A.in1.handled=none:=I.ok.hd L;have D1:=Draws.list (prog:=X.prog) (w:=X.w) hh it a B l1.toArray;have z1:=r1.length;have hi:i=l1.toArray.size:=by simp only[MI];lia
  subst hi;refine wpAny_pyNext_enum_endD D1 c ⟨p,pl.isList⟩ fun G ke=>⟨rfl,I.turnedL (t':=s.toks) (ch:=[e,it]) (fun b o d z=> ?_) M⟩
  have C:b≠e/\b≠it:=by simpa using d
  exact ke _ _ C.2 z
 self:=fun A i s Q E st h=>by
  obtain⟨⟨J,c⟩,_⟩:=st;exact wpAny_pyIter_enum c h
section
variable {X : Cx}
def K7(K:Frag)(C:TA):TI:=fun Z H R=>C Z H fun J o=>∃a,J=[.ref a]/\(∃I,SqL K o a I)/\R (Ite K a) o
theorem DP{f:Expr}{j:TA}{p U y:Pos}{J:List Expr}{G:Nat}(x:Gl X "enumerate")(hm:X.mg "enumerate"=none)(B:PA X [f] j)(hs:starEach [f] X.env=[(false,eval f X.env)]:=by rfl):
  PI X (.Tuple J G y) (.Call (.Name "enumerate" p) [f] [] U) (K7 X.K j):=by
 intro c s Z H R I h;refine Call_ (wL I x hm zP (NN (cO (B U c s Z H _ I h) fun N g P D d v F=> ?_) (by rw[hs];rfl) (by rfl)))
 obtain⟨a,e,⟨M,A⟩,q⟩:=F;subst e;obtain⟨O,rfl,i⟩:=uW v
 cases i
 obtain⟨l1,E,pl,_⟩:=d.list A;have m:a<g.heap.objs.size:=by obtain⟨o,n,z,_⟩:=pl;exact MK z
 refine call_enumerate_list pl.isList fun L z1 z2 _ w=>wpAny_pyIter_enum z1 ?_
 generalize r:g.heap.objs.size=n at*;refine⟨n+1,[n+1,n],_,_,D,rfl,d.kept (t':=g.toks) w,Fm (Nat.succ_ne_self n) (M5 m) (M5 (Nat.lt_succ_of_lt m)),⟨⟨_,z1⟩,z2⟩,fun b u=> ?_,q⟩
 have C:n<=b:=by
  have C:b=n+1\/b=n:=by simpa using u
  unfold Addr at*
  lia
 exact d.fpOk (by rw[r];exact C) (d.hok.fresh (by rw[r];exact C))
end
theorem BH{K:Frag}{a:Addr}{xs:List V}{g:TG}{d:TS}{D:xk}{Z:St}{H:Hp}(o:Nat->St->Hp->Prop)(f:o 0 Z H)(j:∀i Z H,o i Z H->SqL K H a xs)
  (hs:∀i x p Z H,xs[i]? =some x->o i Z H->H p=none->g (.ref p) Z (upd H p (.tup [.int i,x])) fun U J=>d {D with nx:=o (i+1),ct:=o (i+1),bk:=D.nx} U J) (hd:∀Z H,o xs.length Z H->D.nx Z H):
  ∃W:Nat->Nat->St->Hp->Prop,(∃m,W 0 m Z H)/\∀i m Z H,W i m Z H->
   ((Ite K a).stop i H/\D.nx Z H)\/((Ite K a).go i H/\∃N:St->Hp->Prop,(∀c C,N c C->∃m',m' < m/\W (i+1) m' c C)/\∀x C,(Ite K a).yld i H x C->g x Z C fun U J=>d {D with nx:=N,ct:=N,bk:=D.nx} U J):=by
 refine⟨fun i m Z H=>m=xs.length - i/\i<=xs.length/\o i Z H,⟨_,rfl,Na _,f⟩,?_⟩
 rintro i m Z H ⟨rfl,q,p⟩
 have b:=j i Z H p
 by_cases I:i<xs.length
 .refine .inr ⟨⟨xs,xs[i],b,by simp [I]⟩,o (i+1),fun c C n=>⟨_,?_,rfl,I,n⟩,fun v C y=> ?_⟩
  .lia
  .obtain⟨r,x,hr,rfl,rfl,e1⟩:=y;exact hs i x r Z H (e1 xs b) p hr
 .have e:i=xs.length:=by lia
  refine .inl ⟨⟨xs,b,e.symm⟩,?_⟩
  subst e;exact hd Z H p
section
variable {X : Cx}
theorem ox(i:X.A.units+64<cLine):OpR X (compareOp .NotEq) (FI X.K true):=by
 intro U s Z H x y v u Q I f m h;obtain⟨a,b,C,c,rfl,rfl,d,g,q⟩:=h
 cases f
 cases m
 obtain⟨e,r,pl,_⟩:=I.tuple d;obtain⟨J,j,o,_⟩:=I.tuple g;exact Qq (iY pl (iH r)) (iY o (iH j)) (gA C) (gA c) i (by simp only[noMix];exact QW C c) (by simp only[PySem.Spec.same];rw[W.same_ints];exact⟨.bl _,H,I,rfl,q⟩)
end
open PySem PySem.Spec PyProof.Rows PyProof PySem.SeqAt
def LC(kvs:List (Key × V)):Prop:=∀o∈kvs, ∃i:Int,o.1= .inl i
theorem Ci{P P':Program}{w w':World}{h:Heap}{a:Addr}{vs:List (Key × Value)}(y:∀J∈vs, ∃i:Int,J.1= .inl i)(d:h.DictOf (cr P w) a vs):h.DictOf (cr P' w') a vs:=by
 obtain⟨o,r,u,c,f,v,z,D,A⟩:=d;have n:∀{l:List DictEntry}{m:List (Key × Value)},Pairs (cr P w) l m->(∀J∈m, ∃i:Int,J.1= .inl i)->Pairs (cr P' w') l m/\∀e∈l, ∃i:Int,lE (.inl i) e.key=true:=by
  intro l m q
  induction q with
  | nil=>intro _;exact⟨.nil,fun e U=>nomatch U⟩
  | @cons e J r kvs q1 q2 q3 ih=>
   intro hm;obtain⟨i,b⟩:=hm J (.head _);obtain⟨c,f⟩:=ih fun x I=>hm x (.tail _ I)
   refine⟨.cons q1 q2 c,fun x I=> ?_⟩
   rcases M3.mp I with rfl | I
   .exact⟨i,by rw[<- b];exact q1⟩
   .exact f x I
 obtain⟨k1,k2⟩:=n D y;refine⟨o,r,u,c,f,v,fun e U=> ?_,k1,A⟩
 obtain⟨k,C,g⟩:=z e U;obtain⟨i,b⟩:=k2 e (Array.mem_toList_iff.mpr U);obtain⟨B,t,s,p⟩|⟨x,t,s,p⟩:=cw C
 .subst s;exact⟨.inl B,C,g⟩
 .obtain⟨j,t2,e3,e4⟩|⟨_,_,e3,_⟩:=cw b
  .rw[p] at e4;cases e4
  .cases e3
theorem D4{kvs:List (Key × V)}{vs:List (Key × Value)}(r:KV kvs vs)(h:LC kvs):∀C∈vs, ∃i:Int,C.1= .inl i:=by
 unfold KV at r
 induction r with
 | nil=>intro C o;exact nomatch o
 | @cons p q ps qs hq t ih=>
  intro C o;rcases M3.mp o with rfl | o
  .obtain⟨i,hi⟩:=h p (.head _);exact⟨i,by rw[<- hq.1];exact hi⟩
  .exact ih (fun x I=>h x (.tail _ I)) C o
inductive kr (K:Frag) (H:Hp):Nat->V->V->Prop where
 | int {n:Nat}(i:Int):kr K H n (.int i) (.int i)
 | str {n:Nat}(x:Str):kr K H n (.str x) (.str x)
 | tup {n:Nat}{a b:Addr}{xs ys:List V}:SqT K H a xs->SqT K H b ys->xs.length=ys.length->(∀(j:Nat) (x y:V),xs[j]? =some x->ys[j]? =some y->kr K H n x y)->kr K H (n+1) (.ref a) (.ref b)
 | lst {n:Nat}{a b:Addr}{xs ys:List V}:SqL K H a xs->SqL K H b ys->xs.length=ys.length->(∀(j:Nat) (x y:V),xs[j]? =some x->ys[j]? =some y->kr K H n x y)->kr K H (n+1) (.ref a) (.ref b)
 | dct {n:Nat}{p q:Addr}{kvs:List (Key × V)}:Rd H p (.dK kvs)->Rd H q (.dK kvs)->Cl kvs->LC kvs->kr K H (n+1) (.ref p) (.ref q)
theorem sS:∀n:Nat,(List.range n).all (fun _=>true)=true:=fun n=>by rw[List.all_eq_true];intro _ _;rfl
section
variable {X : Cx} {pins : List (Addr × Obj)} {σ : St} {H : Hp} {s : Shared}
theorem sM{xs ys:List V}{us vs:List Value}{R:V->V->Prop}{E:Value->Value->Prop}(o:bg xs us)(J:bg ys vs)(m:xs.length=ys.length)(h:∀(j:Nat) (x y:V),xs[j]? =some x->ys[j]? =some y->R x y)
  (t:∀x y u v,R x y->bv x u->bv y v->E u v):∀(j:Nat) (C:j<us.toArray.size) (d:j<vs.toArray.size),E us.toArray[j] vs.toArray[j]:=by
 intro j C d;have l1:=o.length;have l2:=J.length;have U:j<xs.length:=by simpa [l1] using C
 have I:j<ys.length:=by lia
 obtain⟨u,f,c⟩:=o.get (i:=j) (x:=xs[j]) (be U);obtain⟨v,a,e⟩:=J.get (i:=j) (x:=ys[j]) (be I);have g:us.toArray[j]=u:=by
  have:=(gV.mp f).2
  simpa using this
 have b:vs.toArray[j]=v:=by
  have:=(gV.mp a).2
  simpa using this
 rw[g,b];exact t _ _ _ _ (h j _ _ (be U) (be I)) c e
theorem kr.eqAt(I:Inv X pins Z H s){n:Nat}{x y:V}(h:kr X.K H n x y):∀{A:Around}{u v:Value},A.units+n<cLine->bv x u->bv y v->EqAt A s u v true:=by
 induction h with
 | int i=>
  rintro A u v g ⟨t,rfl⟩ ⟨F,rfl⟩
  have:=EqAt.int_int (A:=A) (s:=s) i t i F
  rwa [NI] at this
 | str x=>
  rintro A u v g ⟨t,rfl⟩ ⟨F,rfl⟩
  have:=EqAt.str_str (A:=A) (s:=s) x t x F
  rwa [NI] at this
 | @tup n a b xs ys U c hl _ ih=>
  intro A u v g o C
  cases o
  cases C
  by_cases e:a=b
  .subst e;exact EqAt.same _
  obtain⟨G,d,P,_⟩:=I.tuple U;obtain⟨L,f,D,_⟩:=I.tuple c;refine QY e ?_
  have:=RcAt.tuples (A:=A) (e:=fun _=>true) P D (by lia) (sM (E:=fun u v=>EqAt A.in1 s u v true) d f hl (fun j x y U c=>(⟨j,U,c⟩:∃j,xs[j]? =some x/\ys[j]? =some y)) fun x y u v ⟨j,N,M⟩ o C=>ih j x y N M (by show A.units+1+n<cLine;lia) o C)
  have z:G.toArray.size=L.toArray.size:=by simp only[MI];rw[<- d.length, <-f.length];exact hl
  rw[sS,Ph,z,NI] at this;exact this
 | @lst n a b xs ys U c hl _ ih=>
  intro A u v g o C
  cases o
  cases C
  by_cases e:a=b
  .subst e;exact EqAt.same _
  obtain⟨G,d,P,_⟩:=I.list U;obtain⟨L,f,D,_⟩:=I.list c;refine QY e ?_
  have z:G.toArray.size=L.toArray.size:=by simp only[MI];rw[<- d.length, <-f.length];exact hl
  have:=RcAt.lists (A:=A) (e:=fun _=>true) P.isList D.isList z (by lia) (sM (E:=fun u v=>EqAt A.in1 s u v true) d f hl (fun j x y U c=>(⟨j,U,c⟩:∃j,xs[j]? =some x/\ys[j]? =some y)) fun x y u v ⟨j,N,M⟩ o C=>ih j x y N M (by show A.units+1+n<cLine;lia) o C)
  rw[sS] at this;exact this
 | @dct n p q kvs hp hq hi hk=>
  intro A u v g o C
  cases o
  cases C
  by_cases e:p=q
  .subst e;exact EqAt.same _
  obtain⟨_,S,ka,O,T⟩:=qj I.hok hp;obtain⟨_,lq,kb,m,R⟩:=qj I.hok hq;have B:(kvs.map (·.1)).Nodup:=by rw[m.keys];obtain⟨_,_,_,_,_,_,_,_,B⟩:=R;exact B
  refine QY e fun J w E Q h=> ?_
  refine W.keq_eq (r:=true) S lq (Ci (P':=J) (w':=w) (D4 O hk) T) (Ci (P':=J) (w':=w) (D4 m hk) R) (by lia) (fun _=>yR m hi B O fun x Y=>Y) ?_
  rw[<- O.length, <-m.length,NI,Ph];exact h
def FL(K:Frag)(r:Bool):R2:=fun x y H Q=>∃(a b:Addr) (C o:List V),x= .ref a/\y= .ref b/\SqL K H a C/\SqL K H b o/\C.length=o.length/\(∀(j:Nat) (x y:V),C[j]? =some x->o[j]? =some y->kr K H 32 x y)/\Q (.bl r) H
theorem Bf(w:X.A.units+64<cLine):OpR X (compareOp .NotEq) (FL X.K false):=by
 intro pins s Z H x y v u Q I g n h;obtain⟨a,b,r,B,rfl,rfl,U,i,C,hs,q⟩:=h
 cases g
 cases n
 obtain⟨d,o,p,_⟩:=I.list U;obtain⟨j,J,c,_⟩:=I.list i;have z:d.toArray.size=j.toArray.size:=by simp only[MI];rw[<- o.length, <-J.length];exact C
 have:=RcNeAt.lists (A:=X.A) (e:=fun _=>true) p.isList c.isList z (by lia) (sM (E:=fun u v=>EqAt X.A.in1 s u v true) o J C (R:=kr X.K H 32) hs fun x y u v h f m=>h.eqAt I (by show X.A.units+1+32<cLine;lia) f m)
 rw[sS] at this;exact this _ _ _ _ ⟨.bl false,H,I,rfl,q⟩
end
open PySem PySem.Spec PyProof.Rows PyProof PySem.SeqAt
section
variable {prog : Program} {w : World} {A : Around} {E : Value → Shared → Prop} {s : Shared}
theorem sF{t sl:Addr}{o:Array Value}{d c:Value}{lo J:Option Int}{Q:Value->Shared->Prop}(C:IsTup s.heap t o)(hs:s.heap.IsSliceOf sl d c .none)(pl:IsPart d lo)(e:IsPart c J)
  (hw:HT.sIx o.size 0 lo=0/\HT.sIx o.size o.size J=o.size) (h:Q (.ref t) s):wpAny (model prog w) A (getItem (.ref t) (.ref sl)) Q E s:=by
 obtain⟨g,b,a,f⟩:=id hs;have U:s.TypeIs (.ref sl) "slice":=⟨g,b,a⟩;unfold getItem
 try with_reducible refine OI ?_
 first | refine mF (MQ ?_) | skip
 refine mF (wpAny_sequenceKey C.typeIs (by decide) ?_)
 refine mF (NB (name:=Str.ofString "__getitem__") C.typeIs Nj
  (N5 Nj C.typeIs entry_tuple_getitem ?_ (args_tuple_getitem _ _)))
 show wpAny _ _ (Builtin.Tuple.tupleItemsOf (.ref t) >>= _) _ _ s
 refine mF (tupleItemsOf_ C ?_)
 refine mF (QK U ?_)
 rw[ME (by decide)]
 refine mF (HT.sliceApplied_gen hs pl e ?_)
 have I:(((HT.sIx o.size 0 lo:Nat):Int)==0 && (1:Int)==1 && (HT.sIx o.size o.size J - HT.sIx o.size 0 lo)==o.size)=true:=by
  rw[hw.1,hw.2]
  simp
 show wpAny _ _ (if (((HT.sIx o.size 0 lo:Nat):Int)==0 && (1:Int)==1 && (HT.sIx o.size o.size J - HT.sIx o.size 0 lo)==o.size)=true then _ else _) _ _ s
 rw[ME I];refine mF ?_
 unfold Builtin.Tuple.tupleIsExact;refine mF (QK C.typeIs (MQ ?_))
 rw[ME (by decide)]
 exact mF (Qz (MQ ⟨_,rfl,MQ h⟩))
end
def Lo(K:Frag):V->Option Int->Option Int->Hp->VK->Prop:=fun x J I H Q=>∃a C,x= .ref a/\SqT K H a C/\∀t o,ax H o->SqT K o t (ik C J I)->Q (.ref t) o
theorem Fe{xs:List V}{lo o:Option Int}(h:HT.sIx xs.length 0 lo=0/\HT.sIx xs.length xs.length o=xs.length):ik xs lo o=xs:=by
 unfold ik;rw[h.1,h.2,List.drop_zero,PF,ML]
theorem Ia{X:Cx}:SlR X (Lo X.K):=by
 intro C s Z H x v j i e c sl Q I f hs pl d h;obtain⟨a,o,rfl,b,q⟩:=h
 by_cases hw:HT.sIx o.length 0 e=0/\HT.sIx o.length o.length c=o.length
 .cases f
  obtain⟨U,r,g,n⟩:=I.tuple b;have J:U.toArray.size=o.length:=by rw[MI];exact r.length.symm
  refine⟨"tuple",_,Nj.lookup,g.typeIs,?_⟩
  refine sF g hs pl d (by rw[J];exact hw) ?_
  exact⟨.ref a,_,I,rfl,q a H (ax.refl _) (by rw[Fe hw];exact b)⟩
 .exact kZ C s Z H (.ref a) v j i e c sl Q I f hs pl d ⟨a,o,rfl,b,hw,fun p m=>q p _ (af m _) (SqT.of ad)⟩
open PySem PySem.Spec PyProof.Rows PyProof PySem.SeqAt
open PySem PySem.Spec PyProof.Rows PyProof PySem.SeqAt
theorem Dv(l b:Addr)(o C:Array Value)(n n2:Nat)(dd U:Option Addr)(sl J:Array (Option Value))(f:o.isEmpty=true):
  Meets (Builtin.«tuple.__add__» ⟨[.ref l,.ref b],[]⟩) (fun _ R s=>s.heap.get? l=some {cls:= .type "tuple",dict:=dd,data:= .seq o n,slots:=sl}/\s.heap.get? b=some {cls:= .type "tuple",dict:=U,data:= .seq C n2,slots:=J}/\R (.ok (.ret (Value.ref b))) s):=
 .of_wp fun j i p u e I=>by
  obtain⟨m,g,d,r,q⟩:=e;obtain⟨c,a,I⟩:=I;have f2:=AutoSeq1.sub_tuple_tuple
  wp_walk using wpAny_loadPart' c,wpAny_loadPart' a
  exact⟨_,rfl,I⟩
section
variable {X : Cx}
def Lj(K:Frag):R2:=fun x y H Q=>∃a b I o,x= .ref a/\y= .ref b/\SqT K H a I/\SqT K H b o/\I.length+o.length<=sizeLine/\∀t C,ax H C->SqT K C t (I++o)->Q (.ref t) C
theorem EA:OpR X (binaryOp .Add) (Lj X.K):=by
 intro U s Z H x y v u Q I B E h;obtain⟨a,b,w,O,rfl,rfl,i,f,M,q⟩:=h
 by_cases A:w=[]
 .cases B
  cases E
  subst A;obtain⟨C,F,R,_⟩:=I.tuple i;obtain⟨J,S,G,_⟩:=I.tuple f;obtain⟨⟨P,dd,r,sl⟩,ho,z,n,hd⟩:=id R;obtain⟨⟨D,m,j,g⟩,d,c,n2,o⟩:=id G
  simp only at z hd c o
  subst z hd c o;have L:C=[]:=by cases F;rfl
  refine QH ⟨_,ho,rfl⟩ ⟨_,d,rfl⟩ Po Qm Oy Ov (On _ _) (Dv a b C.toArray J.toArray n n2 dd m sl g (by simp [L])) ⟨ho,d,?_⟩
  exact⟨.ref b,H,I,rfl,q b H (ax.refl _) f⟩
 .refine Ao U s Z H (.ref a) (.ref b) v u Q I B E ⟨a,b,w,O,rfl,rfl,i,f,A,M,fun e=> ?_,fun _ p N=>q p _ (af N _) (SqT.of ad)⟩
  subst e;exact q a H (ax.refl _) (by rw[MS];exact i)
end
end L2
namespace L2
open PySem PySem.Spec PyProof.Rows
theorem vM.has{P:Program}{w:World}{K:Frag}{U:Str->Option Value}{base:Heap}{k:Nat}{x:Str}{ps:List Str}{sp I:Sp}(h:vM P w K U base k x ps sp)(J:∀vs H Q E,I vs H Q E->sp vs H Q E0):Has P w K U base k x ps I:=by
 obtain⟨f,n,b,j,c,F⟩:=h.ex;refine⟨f,n,b,j,c,fun vs H Q E q=>F.len vs H Q E0 (J _ _ _ _ q),fun A o s H C i vs Q E m g a d hs=> ?_⟩
 refine Ox (F.run A o s H C i vs Q E0 m g a d (J _ _ _ _ hs)) fun r p q=> ?_
 cases r with
 | ok fl=>cases fl <;> exact q
 | error e=>
  obtain⟨_,_,_,_,_,_,_,_,_,_,z⟩:=q;exact z
end L2
namespace L2
open PySem PySem.Spec PyProof.Rows
section
variable {P : Program} {w : World} {H H1 : Hp} {h h1 : Heap} {C e dx d : Addr} {od : Option Addr} {cls : Value} {fl : List (Str × V)} {o : HO} {fs ex : List Addr}
noncomputable def del(H:Hp)(a:Addr):Hp:=fun b=>if b=a then none else H b
end
end L2
namespace L2
open PySem PySem.Spec PyProof.Rows PyProof PySem.SeqAt
open PySem PySem.Spec PyProof.Rows PyProof PySem.SeqAt
open PySem PySem.Spec PyProof.Rows PyProof PySem.SeqAt
section
variable {X : Cx}
def LA(K:Frag)(neg:Bool):R2:=fun x y H Q=>(x= .non/\∃(b:Addr) (o:List Int),y= .ref b/\SqT K H b (o.map V.int)/\Q (.bl neg) H)\/FI K neg x y H Q
theorem Gn(a:X.A.units+64<cLine):OpR X (compareOp .Eq) (LA X.K false):=by
 intro o s Z H x y v u Q I J c h;rcases h with⟨rfl,b,f,rfl,d,q⟩ | h
 .cases J
  cases c
  obtain⟨U,e,C,_⟩:=I.tuple d;exact Qp (Reads.none (h:=s.heap)) (iY C (iH e)) rfl (gA f) a (by simp only[noMix]) (by simp only[PySem.Spec.same];exact⟨.bl _,H,I,rfl,q⟩)
 .exact B0 a o s Z H x y v u Q I J c h
end
open PySem PySem.Spec PyProof.Rows PyProof PySem.SeqAt
theorem ex0{o:Type}:∀us:List o,us.length=0->us=[]
 | [],_=>rfl
theorem exS{o:Type}{n:Nat}:∀us:List o,us.length=n+1->∃a r,us=a::r/\r.length=n
 | a::r,h=>⟨a,r,rfl,Nat.succ.inj h⟩
theorem ex1{C:Type}:∀us:List C,us.length=1->∃a,us=[a]:=by
 intro us h;obtain⟨a,r,rfl,o⟩:=exS us h;exact⟨a,by rw[ex0 r o]⟩
theorem ex2{C:Type}:∀us:List C,us.length=2->∃a b,us=[a,b]:=by
 intro us h;obtain⟨a,r,rfl,o⟩:=exS us h;obtain⟨b,rfl⟩:=ex1 r o;exact⟨a,b,rfl⟩
theorem ex3{C:Type}:∀us:List C,us.length=3->∃a b c,us=[a,b,c]:=by
 intro us h;obtain⟨a,r,rfl,o⟩:=exS us h;obtain⟨b,c,rfl⟩:=ex2 r o;exact⟨a,b,c,rfl⟩
theorem ex4{C:Type}:∀us:List C,us.length=4->∃a b c d,us=[a,b,c,d]:=by
 intro us h;obtain⟨a,r,rfl,o⟩:=exS us h;obtain⟨b,c,d,rfl⟩:=ex3 r o;exact⟨a,b,c,d,rfl⟩
theorem ex5{C:Type}:∀us:List C,us.length=5->∃a b c d e,us=[a,b,c,d,e]:=by
 intro us h;obtain⟨a,r,rfl,o⟩:=exS us h;obtain⟨b,c,d,e,rfl⟩:=ex4 r o;exact⟨a,b,c,d,e,rfl⟩
theorem ex6{C:Type}:∀us:List C,us.length=6->∃a b c d e f,us=[a,b,c,d,e,f]:=by
 intro us h;obtain⟨a,r,rfl,o⟩:=exS us h;obtain⟨b,c,d,e,f,rfl⟩:=ex5 r o;exact⟨a,b,c,d,e,f,rfl⟩
theorem ex7{C:Type}:∀us:List C,us.length=7->∃a b c d e f g,us=[a,b,c,d,e,f,g]:=by
 intro us h;obtain⟨a,r,rfl,o⟩:=exS us h;obtain⟨b,c,d,e,f,g,rfl⟩:=ex6 r o;exact⟨a,b,c,d,e,f,g,rfl⟩
theorem ex8{C:Type}:∀us:List C,us.length=8->∃a b c d e f g i,us=[a,b,c,d,e,f,g,i]:=by
 intro us h;obtain⟨a,r,rfl,o⟩:=exS us h;obtain⟨b,c,d,e,f,g,i,rfl⟩:=ex7 r o;exact⟨a,b,c,d,e,f,g,i,rfl⟩
open PySem PySem.Spec PyProof.Rows PyProof PySem.SeqAt
end L2
namespace L2
open PySem
theorem Mb{a b:Sort _}{P:a->b->Prop}(k l)(h:P k l):∃k l,P k l:=⟨k,l,h⟩
theorem Mz{a b c:Sort _}{P:a->b->c->Prop}(k l m)(h:P k l m):∃k l m,P k l m:=⟨k,l,m,h⟩
theorem Mm{a b c d:Sort _}{P:a->b->c->d->Prop}(k l m n)(h:P k l m n):∃k l m n,P k l m n:=⟨k,l,m,n,h⟩
theorem L6{a b c d e:Sort _}{P:a->b->c->d->e->Prop}(k l m n o)(h:P k l m n o):∃k l m n o,P k l m n o:=⟨k,l,m,n,o,h⟩
theorem L7{a b c d e f:Sort _}{P:a->b->c->d->e->f->Prop}(k l m n o p)(h:P k l m n o p):∃k l m n o p,P k l m n o p:=⟨k,l,m,n,o,p,h⟩
theorem L0{a b c d e f g:Sort _}{P:a->b->c->d->e->f->g->Prop}(k l m n o p q)(h:P k l m n o p q):∃k l m n o p q,P k l m n o p q:=⟨k,l,m,n,o,p,q,h⟩
theorem L5{a b c d e f g h:Sort _}{P:a->b->c->d->e->f->g->h->Prop}(k l m n o p q r)(h:P k l m n o p q r):∃k l m n o p q r,P k l m n o p q r:=⟨k,l,m,n,o,p,q,r,h⟩
theorem Mc{a b c d e f g h i:Sort _}{P:a->b->c->d->e->f->g->h->i->Prop}(k l m n o p q r s)(h:P k l m n o p q r s):∃k l m n o p q r s,P k l m n o p q r s:=⟨k,l,m,n,o,p,q,r,s,h⟩
theorem Lg{a b c d e f g h i j:Sort _}{P:a->b->c->d->e->f->g->h->i->j->Prop}(k l m n o p q r s t)(h:P k l m n o p q r s t):∃k l m n o p q r s t,P k l m n o p q r s t:=⟨k,l,m,n,o,p,q,r,s,t,h⟩
theorem e11{a:Sort _}{A B:a->Prop}(x)(h:A x)(q:B x):∃x,A x/\B x:=⟨x,h,q⟩
theorem e22{a b:Sort _}{A C B:a->b->Prop}(x y)(h:A x y)(i:C x y)(q:B x y):∃x y,A x y/\C x y/\B x y:=⟨x,y,h,i,q⟩
theorem e44{a b c d:Sort _}{A C D E B:a->b->c->d->Prop}(x y z w)(h:A x y z w)(i:C x y z w)(j:D x y z w)(k:E x y z w)(q:B x y z w):∃x y z w,A x y z w/\C x y z w/\D x y z w/\E x y z w/\B x y z w:=⟨x,y,z,w,h,i,j,k,q⟩
theorem Hi{i:Nat}{Z:St}{H:Hp}{Q:VK}{v:V}(h:Z[i]? =some (some v))(q:Q v H):KO i Z H Q:=⟨v,h,q⟩
theorem aA{A:Prop}(h:∀G:Prop,(A->G)->G):A:=h A id
@[irreducible] def Nx(X : St → Hp → Prop) : St → Hp → Prop := X
structure NxH (A X:St->Hp->Prop):Prop where
 out:∀Z H,A Z H->Nx X Z H
theorem JO{t u:TS}{D:xk}{Z:St}{H:Hp}(h:∀X:St->Hp->Prop,NxH (u D) X->t ⟨Nx X,D.rt,D.bk,D.ct⟩ Z H):K3 t u D Z H:=by
 have e:Nx (u D)=u D:=by unfold Nx;rfl
 have:=h (u D) ⟨fun _ _ h=>by rw[e];exact h⟩
 rw[e] at this;exact this
theorem NxH.st{A X:St->Hp->Prop}{Z:St}{H:Hp}(r:NxH A X)(h:A Z H):Nx X Z H:=r.out _ _ h
theorem aT{P:Program}{w:World}{K:Frag}{I:Str->Option Value}{base:Heap}{N:List Str}{q:Str}{C:Scope}{f:Addr}{cd:Value}{A:Around}{o:List Env}{s:Shared}{H:Hp}{E:XK}:(rP CX0 P w K I base N q C f cd A o s H E).nox.K=K:=rfl
theorem Kc{P:Program}{w:World}{K:Frag}{I:Str->Option Value}{base:Heap}{N:List Str}{q:Str}{C:Scope}{f:Addr}{cd:Value}{A:Around}{o:List Env}{s:Shared}{H:Hp}{E:XK}{CX:CXT}:(rP CX P w K I base N q C f cd A o s H E).K=K:=rfl
theorem aC{N P:List Str}{o:Scope}(h:N.Nodup/\(∀x∈P,o.names.lookup x=some .local\/o.names.lookup x=some .cell)/\∀y∈o.names,y.2≠ .free:=by decide +kernel)(a:o.kind= .function:=by rfl)(b:o.isCoroutine=false:=by rfl)(c:o.isGenerator=false:=by rfl)(d:N.take P.length=P:=by rfl):aq N P o:=⟨a,b,c,h.1,d,h.2.1,h.2.2⟩
section
variable {X : Cx}
theorem psS(i:Nat){x:Str}{e:Expr}{I:TE}{C o:Pos}(b:X.N.Nodup)(a:PE X e I)(J:X.N[i]? =some x:=by rfl)(c:Loc X.env.scope x:=by first | (left;rfl) | (right;rfl))(hs:swapsWith e (some (.Name x o)) C.line X.env=pure false:=by rfl)(U:X.fn x=true\/X.env.scope.names.lookup x=some .local:=by first | exact .inl rfl | exact .inr rfl | assumption):PS X (.Assign [.Name x o] e C) (IT I (BS i)):=JQ b J c a hs U
theorem pcH{j k:Nat}{x:Str}{ps:List Str}{sp:Sp}{e:Expr}{C:List Expr}{t:TA}{p o:Pos}(h:Has X.prog X.w X.K X.mg X.base j x ps sp)(d:Room k X.A)(U:PA X (e::C) t)(c:j<=k:=by omega)(b:Gl X x:=by rfl)(I:(x==("__debug__":Str))=false:=by decide)(a:starEach (e::C) X.env=(false,eval e X.env)::starEach C X.env:=by rfl)(J:(backTo o (starEach C X.env)).any (·.1)=false:=by rfl):PE X (.Call (.Name x p) (e::C) [] o) (AH sp [] E0 t):=FS (h.mono c) d b U I a J
theorem pX{a b:Expr}{C I:TE}{o:Pos}{r:R2}(c:IxR X r)(U:PE X a C)(J:PE X b I)(hs:DY b:=by intro _ _;rfl):PE X (.Subscript a b o) (tOp r C I):=GC c U J hs
theorem pcE{a b:Expr}{I J:TE}{o:Pos}{C:CmpOp}{r:R2}(ho:OpR X (compareOp C) r)(c:PE X a I)(U:PE X b J)(hm:behindInMarks C b=false:=by exact C3 _):PE X (.Compare a [C] [b] o) (tOp r I J):=HZ ho c U hm
theorem pcT{a b:Expr}{I J:TE}{o:Pos}{C:CmpOp}{r:R2}(ho:OpR X (compareOp C) r)(c:PE X a I)(U:PE X b J)(hm:behindInMarks C b=false:=by exact C3 _):PT X (.Compare a [C] [b] o) (JA (tOp r I J)):=zC ho c U hm
theorem pa1{o:Expr}{C:TE}(I:PE X o C)(J:starEach [o] X.env=(false,eval o X.env)::starEach [] X.env:=by rfl):PA X [o] (gB C wg):=az I dA J
theorem pa2{C o:Expr}{I J:TE}(a:PE X C I)(b:PE X o J)(c:starEach [C,o] X.env=(false,eval C X.env)::starEach [o] X.env:=by rfl)(U:starEach [o] X.env=(false,eval o X.env)::starEach [] X.env:=by rfl):PA X [C,o] (gB I (gB J wg)):=az a (az b dA U) c
theorem pa3{I C o:Expr}{J a U:TE}(d:PE X I J)(e:PE X C a)(b:PE X o U)(f:starEach [I,C,o] X.env=(false,eval I X.env)::starEach [C,o] X.env:=by rfl)(c:starEach [C,o] X.env=(false,eval C X.env)::starEach [o] X.env:=by rfl)(g:starEach [o] X.env=(false,eval o X.env)::starEach [] X.env:=by rfl):PA X [I,C,o] (gB J (gB a (gB U wg))):=az d (az e (az b dA g) c) f
theorem pa4{J I C o:Expr}{a c b U:TE}(f:PE X J a)(g:PE X I c)(d:PE X C b)(i:PE X o U)(j:starEach [J,I,C,o] X.env=(false,eval J X.env)::starEach [I,C,o] X.env:=by rfl)(e:starEach [I,C,o] X.env=(false,eval I X.env)::starEach [C,o] X.env:=by rfl)(n:starEach [C,o] X.env=(false,eval C X.env)::starEach [o] X.env:=by rfl)(m:starEach [o] X.env=(false,eval o X.env)::starEach [] X.env:=by rfl):PA X [J,I,C,o] (gB a (gB c (gB b (gB U wg)))):=az f (az g (az d (az i dA m) n) e) j
theorem pa5{U J I C o:Expr}{e c b a d:TE}(g:PE X U e)(i:PE X J c)(n:PE X I b)(j:PE X C a)(m:PE X o d)(p:starEach [U,J,I,C,o] X.env=(false,eval U X.env)::starEach [J,I,C,o] X.env:=by rfl)(f:starEach [J,I,C,o] X.env=(false,eval J X.env)::starEach [I,C,o] X.env:=by rfl)(q:starEach [I,C,o] X.env=(false,eval I X.env)::starEach [C,o] X.env:=by rfl)(r:starEach [C,o] X.env=(false,eval C X.env)::starEach [o] X.env:=by rfl)(s:starEach [o] X.env=(false,eval o X.env)::starEach [] X.env:=by rfl):PA X [U,J,I,C,o] (gB e (gB c (gB b (gB a (gB d wg))))):=az g (az i (az n (az j (az m dA s) r) q) f) p
end
end L2
namespace L2
open PySem PySem.Spec PyProof.Rows PyProof PySem.SeqAt
section
variable {X : Cx}
def Ll(K:Frag):R2:=fun x y H Q=>∃(a b:Addr) (s t:Str) (o C:List Int),x= .ref a/\y= .ref b/\SqT K H a (.str s::o.map V.int)/\SqT K H b (.str t::C.map V.int)/\PyData.strOk s=true/\PyData.strOk t=true/\Q (.bl (!(decide (s=t) && decide (o=C)))) H
theorem FY(B:X.A.units+64<cLine):OpR X (compareOp .NotEq) (Ll X.K):=by
 intro f s Z H x y v u Q I p E h;obtain⟨a,b,U,J,o,C,rfl,rfl,g,w,m,n,q⟩:=h
 cases p
 cases E
 obtain⟨j,r,pl,_⟩:=I.tuple g;obtain⟨d,D,c,_⟩:=I.tuple w;have i:=vV c D;have z:=vV pl r;have hs:same (.tuple (.str U::o.map PyData.int)) (.tuple (.str J::C.map PyData.int))=(decide (U=J) && decide (o=C)):=by
  have:=W.same_ints o C
  by_cases e:U=J
  .simp only[same,sameAll,e]
   rw[this]
   simp
  .simp [same,sameAll,e]
 have hm:noMix (.tuple (.str U::o.map PyData.int)) (.tuple (.str J::C.map PyData.int))=true:=by
  have:=QW o C
  simp [noMix,noMixAll,this]
 exact Qq z i (lx _ m) (lx _ n) B hm (by rw[hs];exact⟨.bl _,H,I,rfl,q⟩)
end
open PySem PySem.Spec PyProof.Rows PyProof PySem.SeqAt
open PySem PySem.Spec PyProof.Rows PyProof PySem.SeqAt
section
variable {X : Cx}
theorem Co(B:X.A.units+64<cLine):OpR X (compareOp .Eq) (FL X.K true):=by
 intro J s Z H x y v u Q I i p h;obtain⟨a,b,w,D,rfl,rfl,c,j,C,hs,q⟩:=h
 cases i
 cases p
 obtain⟨f,o,r,_⟩:=I.list c;obtain⟨m,U,d,_⟩:=I.list j;have z:f.toArray.size=m.toArray.size:=by simp only[MI];rw[<- o.length, <-U.length];exact C
 have:=RcAt.lists (A:=X.A) (e:=fun _=>true) r.isList d.isList z (by lia) (sM (E:=fun u v=>EqAt X.A.in1 s u v true) o U C (R:=kr X.K H 32) hs fun x y u v h g n=>h.eqAt I (by show X.A.units+1+32<cLine;lia) g n)
 rw[sS] at this;exact this _ _ _ _ ⟨.bl true,H,I,rfl,q⟩
end
end L2
set_option compiler.extract_closed false
namespace My
open PySem L2
local macro_rules | `(tactic| walk_at"sq") => `(tactic| first | assumption | exact ad | exact SqT.of ad | exact SqL.of ad | exact SqT.of (by assumption) | exact SqL.of (by assumption) | exact gx.sq (by assumption) | exact gx.ty (by assumption) | (apply ck; (focus assumption); walk_at"sq") | (apply Mh; (focus assumption); walk_at"sq") | (apply bK; (focus assumption); walk_at"sq") | (apply ax.tup; (focus assumption); walk_at"sq") | (apply ax.seq; (focus assumption); walk_at"sq") | (apply ax.is; (focus assumption); walk_at"sq"))
local macro_rules | `(tactic| walk_at"c") => `(tactic| first | exact rfl | assumption | exact lv | exact ua | exact p_ | exact Db | exact Wk.none Wk.refl | walk_at"ty" | exact Nat.le_of_ble_eq_true rfl | decide | ((fail_if_success intro _); lia) | omega | exact And.intro (by decide) (by decide) | exact Or.inl ⟨by decide, by decide⟩ | exact Or.inr ⟨by decide, by decide⟩ | exact Or.inl ⟨by omega, by omega⟩ | exact Or.inr ⟨by omega, by omega⟩ | exact ⟨by omega, by omega, by first | decide | omega⟩ | exact ⟨by omega, by omega⟩ | walk_at"sq" | (apply Exists.intro; walk_at"sq"; done) | (apply Or.inl; walk_at"sq"; done) | (apply Or.inr; walk_at"sq"; done))
local macro_rules | `(tactic| walk_at"g") => `(tactic| first | ((with_reducible apply JO); intro _ _; walk_at"g") | (apply Hi; (focus (exact rfl)); walk_at"g") | (apply e44; (focus (walk_at"c"; done)); (focus (walk_at"c"; done)); (focus (walk_at"c"; done)); (focus (walk_at"c"; done)); walk_at"g") | (apply e22; (focus (walk_at"c"; done)); (focus (walk_at"c"; done)); walk_at"g") | (apply e11; (focus (walk_at"c"; done)); walk_at"g") | (apply Lg; walk_at"g") | (apply Mc; walk_at"g") | (apply L5; walk_at"g") | (apply L0; walk_at"g") | (apply L7; walk_at"g") | (apply L6; walk_at"g") | (apply Mm; walk_at"g") | (apply Mz; walk_at"g") | (apply Mb; walk_at"g") | (apply Exists.intro; walk_at"g") | (apply And.intro; (focus (walk_at"c"; done)); walk_at"g") | (apply NxH.st; (focus assumption); walk_at"g") | skip)
local macro_rules | `(tactic| walk_at"ty") => `(tactic| first | exact TyS.int _ | exact TyS.str _ | exact TyS.non | exact TyS.bl _ | (apply TyS.tup; walk_at"sq"; done) | (apply TyS.lst; walk_at"sq"; done))
local macro_rules | `(tactic| walk_at"wd") => `(tactic| repeat (first | (apply dG; (focus (decide)); walk_at"g") | (apply yT; (focus (decide)); walk_at"g")))
local macro_rules | `(tactic| walk_at"n") => `(tactic| first | (apply NxH.st; (focus assumption)) | skip)
section
variable {P : Program} {w : World} {K : Frag} {mg : Str → Option Value} {base : Heap}
noncomputable abbrev nG:List Str:=["bits"]
noncomputable abbrev lJ:List Str:=["v","bits"]
noncomputable abbrev pT:List Str:=["v"]
noncomputable abbrev Gi:List Str:=["field","number"]
noncomputable abbrev Gg:List Str:=["field","word"]
noncomputable abbrev dF:List Str:=["instruction"]
noncomputable abbrev Hr:List Str:=["word"]
noncomputable abbrev FG:List Str:=["code","at"]
noncomputable abbrev Fd:List Str:=["sort","b","c"]
noncomputable abbrev wv:List Str:=["plan","b"]
noncomputable abbrev Bm:List Str:=["plan","instruction","boxes"]
noncomputable abbrev Ck:List Str:=["z"]
noncomputable abbrev uH:List Str:=["span"]
noncomputable abbrev gO:List Str:=["lo","hi","z"]
noncomputable abbrev cX:List Str:=["left","right"]
noncomputable abbrev Cj:List Str:=["left","right","lo"]
noncomputable abbrev A1:List Str:=["sort","left","right"]
noncomputable abbrev Bp:List Str:=["span","n"]
noncomputable abbrev qz:List Str:=["plan","span"]
noncomputable abbrev jV:List Str:=["plan","instruction","spans"]
noncomputable abbrev dj:List Str:=["self"]
noncomputable abbrev nq:List Str:=["self","group"]
noncomputable abbrev bR:List Str:=["self","instruction"]
noncomputable abbrev pE:List Str:=["count"]
noncomputable abbrev qo:List Str:=["block"]
noncomputable abbrev AL:List Str:=["instruction","size"]
noncomputable abbrev Ch:List Str:=["block","size"]
noncomputable abbrev CF:List Str:=["blocks","size"]
noncomputable abbrev yA:List Str:=["blocks","room","gates"]
noncomputable abbrev uw:List Str:=["guest","room","gates"]
noncomputable abbrev CK:List Str:=["self","room"]
noncomputable abbrev Bv:List Str:=["self","instruction","group"]
noncomputable abbrev AO:List Str:=["self","member"]
noncomputable abbrev Cu:List Str:=["block","room"]
noncomputable abbrev Ce:List Str:=["plan","place"]
noncomputable abbrev yi:List Str:=["self","plan","gates","boxes","memory","replies"]
noncomputable abbrev BM:List Str:=["self","n"]
noncomputable abbrev Ct:List Str:=["self","code","place","holding"]
noncomputable abbrev ql:List Str:=["self","most"]
noncomputable abbrev yw:List Str:=["plan","code","stand","replies","most"]
noncomputable abbrev BV:List Str:=["self","guest","block","holding"]
noncomputable abbrev BN:List Str:=["self","place"]
noncomputable abbrev Cz:List Str:=["guest","room","gates","block","boxes","memory","replies","most"]
noncomputable abbrev Cb:List Str:=["_law_script","_law_k"]
noncomputable abbrev qm:List Str:=["_law_deal_here","_law_many"]
noncomputable abbrev D5:List Str:=["_law_deal_here"]
noncomputable abbrev ky:List Str:=["_law_deal_here","_law_room_here"]
noncomputable abbrev Gd:List Str:=["_law_deal_here","_law_room_here","_law_gates","_law_blocks"]
noncomputable abbrev F8:List Str:=["_law_script","_law_deal_here","_law_room_here","_law_gates"]
noncomputable abbrev Fz:List Str:=["_law_rows_here"]
noncomputable abbrev Hu:List Str:=["_law_made","_law_stand","_law_replies_here","_law_place"]
noncomputable abbrev GL:List Str:=["_law_guest_here","_law_room_here","_law_gates","_law_made","_law_start","_law_replies_here","_law_most"]
noncomputable abbrev Jx:List Str:=["_law_script"]
noncomputable def top(i:Nat):Stmt:=PySem.Challenge.pw_fencemask_k83_whole_plain_and_masked_ali.main.body.getD i (.Pass ⟨0,0,0,0⟩)
noncomputable abbrev jX:Stmt:=top 1
theorem fT:aq ["bits","power","step"] nG (ah jX):=aC
theorem vj:Bd "power_of_two" jX nG:=by intro _ _ _ _ _ _ u l;obtain⟨_,rfl⟩:=ex1 u l;rfl
noncomputable abbrev Dw:Stmt:=top 2
theorem II:aq ["v","bits"] lJ (ah Dw):=aC
theorem Jf:Bd "rest" Dw lJ:=by intro _ _ _ _ _ _ u l;obtain⟨_,_,rfl⟩:=ex2 u l;rfl
noncomputable abbrev zZ:Stmt:=top 3
theorem oa:aq ["v","count","left"] pT (ah zZ):=aC
theorem FA:Bd "zeros" zZ pT:=by intro _ _ _ _ _ _ u l;obtain⟨_,rfl⟩:=ex1 u l;rfl
noncomputable abbrev wp:Stmt:=top 4
theorem E_:aq ["v","bits"] lJ (ah wp):=aC
theorem ET:Bd "signed" wp lJ:=by intro _ _ _ _ _ _ u l;obtain⟨_,_,rfl⟩:=ex2 u l;rfl
noncomputable abbrev me:Stmt:=top 11
theorem x8:aq ["field","number"] Gi (ah me):=aC
theorem xU:Bd "field_bits" me Gi:=by intro _ _ _ _ _ _ u l;obtain⟨_,_,rfl⟩:=ex2 u l;rfl
noncomputable abbrev jT:Stmt:=top 12
theorem vL:aq ["field","word"] Gg (ah jT):=aC
theorem vF:Bd "field_number" jT Gg:=by intro _ _ _ _ _ _ u l;obtain⟨_,_,rfl⟩:=ex2 u l;rfl
noncomputable abbrev mB:Stmt:=top 13
theorem eF:aq ["instruction","sort","word","field","number"] dF (ah mB):=aC
theorem xJ:Bd "first_word" mB dF:=by intro _ _ _ _ _ _ u l;obtain⟨_,rfl⟩:=ex1 u l;rfl
noncomputable abbrev qK:Stmt:=top 14
theorem Cn:aq ["instruction"] dF (ah qK):=aC
theorem Cm:Bd "words_of" qK dF:=by intro _ _ _ _ _ _ u l;obtain⟨_,rfl⟩:=ex1 u l;rfl
noncomputable abbrev oV:Stmt:=top 15
theorem zo:aq ["instruction"] dF (ah oV):=aC
theorem AD:Bd "length_of" oV dF:=by intro _ _ _ _ _ _ u l;obtain⟨_,rfl⟩:=ex1 u l;rfl
noncomputable abbrev cJ:Stmt:=top 16
theorem bU:aq ["word","number","sort","numbers","instruction"] Hr (ah cJ):=aC
theorem lD:Bd "one_word_instruction" cJ Hr:=by intro _ _ _ _ _ _ u l;obtain⟨_,rfl⟩:=ex1 u l;rfl
noncomputable abbrev iu:Stmt:=top 17
theorem kd:aq ["code","at","instruction"] FG (ah iu):=aC
theorem tG:Bd "instruction_at" iu FG:=by intro _ _ _ _ _ _ u l;obtain⟨_,_,rfl⟩:=ex2 u l;rfl
noncomputable abbrev qW:Stmt:=top 20
theorem AU:aq ["instruction"] dF (ah qW):=aC
theorem BX:Bd "made_box" qW dF:=by intro _ _ _ _ _ _ u l;obtain⟨_,rfl⟩:=ex1 u l;rfl
noncomputable abbrev jJ:Stmt:=top 21
theorem nv:aq ["sort","b","c","power"] Fd (ah jJ):=aC
theorem vb:Bd "joined_value" jJ Fd:=by intro _ _ _ _ _ _ u l;obtain⟨_,_,_,rfl⟩:=ex3 u l;rfl
noncomputable abbrev n_:Stmt:=top 22
theorem yZ:aq ["plan","b"] wv (ah n_):=aC
theorem Ar:Bd "fit_value" n_ wv:=by intro _ _ _ _ _ _ u l;obtain⟨_,_,rfl⟩:=ex2 u l;rfl
noncomputable abbrev nW:Stmt:=top 23
theorem zM:aq ["plan","b"] wv (ah nW):=aC
theorem Ac:Bd "aim_value" nW wv:=by intro _ _ _ _ _ _ u l;obtain⟨_,_,rfl⟩:=ex2 u l;rfl
noncomputable abbrev lS:Stmt:=top 24
theorem kE:aq ["plan","instruction","boxes","sort","b"] Bm (ah lS):=aC
theorem xF:Bd "made_value" lS Bm:=by intro _ _ _ _ _ _ u l;obtain⟨_,_,_,rfl⟩:=ex3 u l;rfl
noncomputable abbrev mE:Stmt:=top 26
theorem x9:aq [] [] (ah mE):=aC
theorem xC:Bd "whole_span" mE []:=by intro _ _ _ _ _ _ u l;obtain rfl:=ex0 u l;rfl
noncomputable abbrev iN:Stmt:=top 27
theorem sJ:aq ["z"] Ck (ah iN):=aC
theorem rB:Bd "multiples_span" iN Ck:=by intro _ _ _ _ _ _ u l;obtain⟨_,rfl⟩:=ex1 u l;rfl
noncomputable abbrev wX:Stmt:=top 28
theorem Fs:aq ["v"] pT (ah wX):=aC
theorem EG:Bd "single" wX pT:=by intro _ _ _ _ _ _ u l;obtain⟨_,rfl⟩:=ex1 u l;rfl
noncomputable abbrev oO:Stmt:=top 29
theorem zF:aq ["span"] uH (ah oO):=aC
theorem y8:Bd "is_single" oO uH:=by intro _ _ _ _ _ _ u l;obtain⟨_,rfl⟩:=ex1 u l;rfl
noncomputable abbrev jN:Stmt:=top 30
theorem vo:aq ["lo","hi","z"] gO (ah jN):=aC
theorem vJ:Bd "settled_span" jN gO:=by intro _ _ _ _ _ _ u l;obtain⟨_,_,_,rfl⟩:=ex3 u l;rfl
noncomputable abbrev nY:Stmt:=top 31
theorem Ap:aq ["lo","hi","z"] gO (ah nY):=aC
theorem zX:Bd "kept_span" nY gO:=by intro _ _ _ _ _ _ u l;obtain⟨_,_,_,rfl⟩:=ex3 u l;rfl
noncomputable abbrev qU:Stmt:=top 32
theorem Cr:aq ["left","right"] cX (ah qU):=aC
theorem AN:Bd "add_span" qU cX:=by intro _ _ _ _ _ _ u l;obtain⟨_,_,rfl⟩:=ex2 u l;rfl
noncomputable abbrev qI:Stmt:=top 33
theorem BL:aq ["left","right"] cX (ah qI):=aC
theorem BO:Bd "sub_span" qI cX:=by intro _ _ _ _ _ _ u l;obtain⟨_,_,rfl⟩:=ex2 u l;rfl
noncomputable abbrev qR:Stmt:=top 34
theorem pi:aq ["left","right","z","hi"] cX (ah qR):=aC
theorem Bo:Bd "and_span" qR cX:=by intro _ _ _ _ _ _ u l;obtain⟨_,_,rfl⟩:=ex2 u l;rfl
noncomputable abbrev ut:Stmt:=top 35
theorem mS:aq ["left","right","lo","z","power"] Cj (ah ut):=aC
theorem Dq:Bd "or_span" ut Cj:=by intro _ _ _ _ _ _ u l;obtain⟨_,_,_,rfl⟩:=ex3 u l;rfl
noncomputable abbrev oQ:Stmt:=top 36
theorem zI:aq ["left","right"] cX (ah oQ):=aC
theorem Al:Bd "less_span" oQ cX:=by intro _ _ _ _ _ _ u l;obtain⟨_,_,rfl⟩:=ex2 u l;rfl
noncomputable abbrev o7:Stmt:=top 37
theorem mD:aq ["left","right","t","power"] cX (ah o7):=aC
theorem zL:Bd "left_span" o7 cX:=by intro _ _ _ _ _ _ u l;obtain⟨_,_,rfl⟩:=ex2 u l;rfl
noncomputable abbrev mI:Stmt:=top 38
theorem lf:aq ["left","right","t","power"] cX (ah mI):=aC
theorem xQ:Bd "right_span" mI cX:=by intro _ _ _ _ _ _ u l;obtain⟨_,_,rfl⟩:=ex2 u l;rfl
noncomputable abbrev kM:Stmt:=top 39
theorem wZ:aq ["sort","left","right"] A1 (ah kM):=aC
theorem wD:Bd "joined_span" kM A1:=by intro _ _ _ _ _ _ u l;obtain⟨_,_,_,rfl⟩:=ex3 u l;rfl
noncomputable abbrev o4:Stmt:=top 40
theorem zR:aq ["span","n"] Bp (ah o4):=aC
theorem zY:Bd "more_span" o4 Bp:=by intro _ _ _ _ _ _ u l;obtain⟨_,_,rfl⟩:=ex2 u l;rfl
noncomputable abbrev qV:Stmt:=top 41
theorem ki:aq ["plan","span","base","size","z"] qz (ah qV):=aC
theorem Bx:Bd "fit_span" qV qz:=by intro _ _ _ _ _ _ u l;obtain⟨_,_,rfl⟩:=ex2 u l;rfl
noncomputable abbrev qY:Stmt:=top 42
theorem uZ:aq ["plan","span","last_block"] qz (ah qY):=aC
theorem By:Bd "aim_span" qY qz:=by intro _ _ _ _ _ _ u l;obtain⟨_,_,rfl⟩:=ex2 u l;rfl
noncomputable abbrev kQ:Stmt:=top 44
theorem xz:aq [] [] (ah kQ):=aC
theorem wA:Bd "first_spans" kQ []:=by intro _ _ _ _ _ _ u l;obtain rfl:=ex0 u l;rfl
noncomputable abbrev nT:Stmt:=top 45
theorem my:aq ["plan","instruction","spans","sort","b"] jV (ah nT):=aC
theorem zV:Bd "made_span" nT jV:=by intro _ _ _ _ _ _ u l;obtain⟨_,_,_,rfl⟩:=ex3 u l;rfl
noncomputable abbrev ju:Stmt:=top 46
theorem m_:aq ["plan","instruction","spans","box"] jV (ah ju):=aC
theorem vh:Bd "spans_behind" ju jV:=by intro _ _ _ _ _ _ u l;obtain⟨_,_,_,rfl⟩:=ex3 u l;rfl
noncomputable abbrev jb:Stmt:=top 47
theorem fq:aq ["plan","instruction","spans","span","n","base"] jV (ah jb):=aC
theorem tQ:Bd "may_reach_out" jb jV:=by intro _ _ _ _ _ _ u l;obtain⟨_,_,_,rfl⟩:=ex3 u l;rfl
noncomputable abbrev eY:Stmt:=bN (top 49) 0
theorem nB:aq ["self"] dj (ah eY):=aC
theorem nA:BdM "__init__" "LaidBlock.__init__" eY dj:=by intro _ _ _ _ _ _ u l;obtain⟨_,rfl⟩:=ex1 u l;rfl
abbrev e_(K:Frag)(C:Addr):Prop:=gM K C "__init__" "LaidBlock.__init__" eY dj
noncomputable abbrev dz:Stmt:=bN (top 49) 1
theorem j9:aq ["self"] dj (ah dz):=aC
theorem j8:BdM "is_at_bundle" "LaidBlock.is_at_bundle" dz dj:=by intro _ _ _ _ _ _ u l;obtain⟨_,rfl⟩:=ex1 u l;rfl
abbrev dC(K:Frag)(C:Addr):Prop:=gM K C "is_at_bundle" "LaidBlock.is_at_bundle" dz dj
noncomputable abbrev cU:Stmt:=bN (top 49) 2
theorem mh:aq ["self","group"] nq (ah cU):=aC
theorem mM:BdM "has_space" "LaidBlock.has_space" cU nq:=by intro _ _ _ _ _ _ u l;obtain⟨_,_,rfl⟩:=ex2 u l;rfl
abbrev eI(K:Frag)(C:Addr):Prop:=gM K C "has_space" "LaidBlock.has_space" cU nq
noncomputable abbrev iL:Stmt:=bN (top 49) 3
theorem rZ:aq ["self","instruction"] bR (ah iL):=aC
theorem rn:BdM "take" "LaidBlock.take" iL bR:=by intro _ _ _ _ _ _ u l;obtain⟨_,_,rfl⟩:=ex2 u l;rfl
abbrev iI(K:Frag)(C:Addr):Prop:=gM K C "take" "LaidBlock.take" iL bR
noncomputable abbrev eA:Stmt:=bN (top 49) 4
theorem gr:aq ["self","group","instruction"] nq (ah eA):=aC
theorem lr:BdM "take_group" "LaidBlock.take_group" eA nq:=by intro _ _ _ _ _ _ u l;obtain⟨_,_,rfl⟩:=ex2 u l;rfl
abbrev d5(K:Frag)(C:Addr):Prop:=gM K C "take_group" "LaidBlock.take_group" eA nq
noncomputable abbrev dP:Stmt:=bN (top 49) 5
theorem kG:aq ["self"] dj (ah dP):=aC
theorem kU:BdM "fill_bundle" "LaidBlock.fill_bundle" dP dj:=by intro _ _ _ _ _ _ u l;obtain⟨_,rfl⟩:=ex1 u l;rfl
abbrev dN(K:Frag)(C:Addr):Prop:=gM K C "fill_bundle" "LaidBlock.fill_bundle" dP dj
noncomputable abbrev mw:Stmt:=top 50
theorem kR:aq ["count","bits"] pE (ah mw):=aC
theorem xW:Bd "least_bits" mw pE:=by intro _ _ _ _ _ _ u l;obtain⟨_,rfl⟩:=ex1 u l;rfl
noncomputable abbrev lL:Stmt:=top 51
theorem xR:aq ["block"] qo (ah lL):=aC
theorem ye:Bd "bundles_of" lL qo:=by intro _ _ _ _ _ _ u l;obtain⟨_,rfl⟩:=ex1 u l;rfl
noncomputable abbrev wj:Stmt:=top 52
theorem Fk:aq ["instruction","size"] AL (ah wj):=aC
theorem E9:Bd "placed" wj AL:=by intro _ _ _ _ _ _ u l;obtain⟨_,_,rfl⟩:=ex2 u l;rfl
noncomputable abbrev AA:Stmt:=top 53
theorem GF:aq ["count"] pE (ah AA):=aC
theorem Hw:Bd "stops" AA pE:=by intro _ _ _ _ _ _ u l;obtain⟨_,rfl⟩:=ex1 u l;rfl
noncomputable abbrev lg:Stmt:=top 54
theorem jQ:aq ["block","size","words","instruction"] Ch (ah lg):=aC
theorem wn:Bd "block_words" lg Ch:=by intro _ _ _ _ _ _ u l;obtain⟨_,_,rfl⟩:=ex2 u l;rfl
noncomputable abbrev ou:Stmt:=top 55
theorem fr:aq ["blocks","size","places","number","block","at","begin"] CF (ah ou):=aC
theorem Ag:Bd "places_of" ou CF:=by intro _ _ _ _ _ _ u l;obtain⟨_,_,rfl⟩:=ex2 u l;rfl
noncomputable abbrev fw:Stmt:=top 56
theorem cB:aq ["blocks","room","gates","m","s","size","code","block"] yA (ah fw):=aC
theorem sy:Bd "code_of_blocks" fw yA:=by intro _ _ _ _ _ _ u l;obtain⟨_,_,_,rfl⟩:=ex3 u l;rfl
noncomputable abbrev o3:Stmt:=top 58
theorem zp:aq ["instruction"] dF (ah o3):=aC
theorem zq:Bd "is_access" o3 dF:=by intro _ _ _ _ _ _ u l;obtain⟨_,rfl⟩:=ex1 u l;rfl
noncomputable abbrev g_:Stmt:=top 59
theorem rC:aq ["instruction"] dF (ah g_):=aC
theorem se:Bd "access_by_mask" g_ dF:=by intro _ _ _ _ _ _ u l;obtain⟨_,rfl⟩:=ex1 u l;rfl
noncomputable abbrev jU:Stmt:=top 60
theorem bP:aq ["instruction","b","n"] dF (ah jU):=aC
theorem vq:Bd "masked_group" jU dF:=by intro _ _ _ _ _ _ u l;obtain⟨_,rfl⟩:=ex1 u l;rfl
noncomputable abbrev jr:Stmt:=top 61
theorem fS:aq ["block","laid","instruction","group"] qo (ah jr):=aC
theorem vi:Bd "masked_block" jr qo:=by intro _ _ _ _ _ _ u l;obtain⟨_,rfl⟩:=ex1 u l;rfl
noncomputable abbrev zx:Stmt:=top 62
theorem Ie:aq ["guest","room","gates"] uw (ah zx):=aC
theorem Il:Bd "make" zx uw:=by intro _ _ _ _ _ _ u l;obtain⟨_,_,_,rfl⟩:=ex3 u l;rfl
noncomputable abbrev gS:Stmt:=bN (top 64) 0
theorem r_:aq ["self","room"] CK (ah gS):=aC
theorem rQ:BdM "__init__" "Known.__init__" gS CK:=by intro _ _ _ _ _ _ u l;obtain⟨_,_,rfl⟩:=ex2 u l;rfl
abbrev iB(K:Frag)(C:Addr):Prop:=gM K C "__init__" "Known.__init__" gS CK
noncomputable abbrev jI:Stmt:=bN (top 64) 1
theorem vH:aq ["self"] dj (ah jI):=aC
theorem vz:BdM "forget" "Known.forget" jI dj:=by intro _ _ _ _ _ _ u l;obtain⟨_,rfl⟩:=ex1 u l;rfl
abbrev jE(K:Frag)(C:Addr):Prop:=gM K C "forget" "Known.forget" jI dj
noncomputable abbrev fY:Stmt:=bN (top 64) 2
theorem qe:aq ["self","instruction"] bR (ah fY):=aC
theorem qg:BdM "thin_group" "Known.thin_group" fY bR:=by intro _ _ _ _ _ _ u l;obtain⟨_,_,rfl⟩:=ex2 u l;rfl
abbrev fW(K:Frag)(C:Addr):Prop:=gM K C "thin_group" "Known.thin_group" fY bR
noncomputable abbrev fJ:Stmt:=bN (top 64) 3
theorem i4:aq ["self","instruction","group","member"] Bv (ah fJ):=aC
theorem nZ:BdM "learn_group" "Known.learn_group" fJ Bv:=by intro _ _ _ _ _ _ u l;obtain⟨_,_,_,rfl⟩:=ex3 u l;rfl
abbrev fG(K:Frag)(C:Addr):Prop:=gM K C "learn_group" "Known.learn_group" fJ Bv
noncomputable abbrev gn:Stmt:=bN (top 64) 4
theorem ji:aq ["self","member","box"] AO (ah gn):=aC
theorem qa:BdM "is_lost_by" "Known.is_lost_by" gn AO:=by intro _ _ _ _ _ _ u l;obtain⟨_,_,rfl⟩:=ex2 u l;rfl
abbrev gf(K:Frag)(C:Addr):Prop:=gM K C "is_lost_by" "Known.is_lost_by" gn AO
noncomputable abbrev ja:Stmt:=top 65
theorem dM:aq ["block","room","laid","known","instruction","group"] Cu (ah ja):=aC
theorem uq:Bd "thinned_block" ja Cu:=by intro _ _ _ _ _ _ u l;obtain⟨_,_,rfl⟩:=ex2 u l;rfl
noncomputable abbrev zb:Stmt:=top 66
theorem Ik:aq ["guest","room","gates"] uw (ah zb):=aC
theorem Ix:Bd "thin" zb uw:=by intro _ _ _ _ _ _ u l;obtain⟨_,_,_,rfl⟩:=ex3 u l;rfl
noncomputable abbrev ur:Stmt:=top 68
theorem Dg:aq ["plan","place"] Ce (ah ur):=aC
theorem Du:Bd "in_room" ur Ce:=by intro _ _ _ _ _ _ u l;obtain⟨_,_,rfl⟩:=ex2 u l;rfl
noncomputable abbrev fV:Stmt:=bN (top 69) 0
theorem pU:aq ["self","plan","gates","boxes","memory","replies"] yi (ah fV):=aC
theorem pW:BdM "__init__" "Holding.__init__" fV yi:=by intro _ _ _ _ _ _ u l;obtain⟨_,_,_,_,_,_,rfl⟩:=ex6 u l;rfl
abbrev f9(K:Frag)(C:Addr):Prop:=gM K C "__init__" "Holding.__init__" fV yi
noncomputable abbrev fF:Stmt:=bN (top 69) 1
theorem iX:aq ["self","instruction","sort"] bR (ah fF):=aC
theorem oi:BdM "carry_out" "Holding.carry_out" fF bR:=by intro _ _ _ _ _ _ u l;obtain⟨_,_,rfl⟩:=ex2 u l;rfl
abbrev fC(K:Frag)(C:Addr):Prop:=gM K C "carry_out" "Holding.carry_out" fF bR
noncomputable abbrev i5:Stmt:=bN (top 69) 2
theorem hV:aq ["self","instruction","a","reached"] bR (ah i5):=aC
theorem ud:BdM "reach" "Holding.reach" i5 bR:=by intro _ _ _ _ _ _ u l;obtain⟨_,_,rfl⟩:=ex2 u l;rfl
abbrev jc(K:Frag)(C:Addr):Prop:=gM K C "reach" "Holding.reach" i5 bR
noncomputable abbrev kC:Stmt:=bN (top 69) 3
theorem jt:aq ["self","n","used","reply"] BM (ah kC):=aC
theorem wN:BdM "ask" "Holding.ask" kC BM:=by intro _ _ _ _ _ _ u l;obtain⟨_,_,rfl⟩:=ex2 u l;rfl
abbrev kT(K:Frag)(C:Addr):Prop:=gM K C "ask" "Holding.ask" kC BM
noncomputable abbrev gm:Stmt:=bN (top 70) 0
theorem pV:aq ["self","code","place","holding"] Ct (ah gm):=aC
theorem pZ:BdM "__init__" "Machine.__init__" gm Ct:=by intro _ _ _ _ _ _ u l;obtain⟨_,_,_,_,rfl⟩:=ex4 u l;rfl
abbrev gg(K:Frag)(C:Addr):Prop:=gM K C "__init__" "Machine.__init__" gm Ct
noncomputable abbrev gR:Stmt:=bN (top 70) 1
theorem eU:aq ["self","most","end","instruction"] ql (ah gR):=aC
theorem sT:BdM "run_on" "Machine.run_on" gR ql:=by intro _ _ _ _ _ _ u l;obtain⟨_,_,rfl⟩:=ex2 u l;rfl
abbrev iK(K:Frag)(C:Addr):Prop:=gM K C "run_on" "Machine.run_on" gR ql
noncomputable abbrev mT:Stmt:=bN (top 70) 2
theorem kD:aq ["self","instruction","sort","end"] bR (ah mT):=aC
theorem xZ:BdM "do" "Machine.do" mT bR:=by intro _ _ _ _ _ _ u l;obtain⟨_,_,rfl⟩:=ex2 u l;rfl
abbrev mz(K:Frag)(C:Addr):Prop:=gM K C "do" "Machine.do" mT bR
noncomputable abbrev eM:Stmt:=bN (top 70) 3
theorem gK:aq ["self","instruction","held"] bR (ah eM):=aC
theorem mW:BdM "place_ahead" "Machine.place_ahead" eM bR:=by intro _ _ _ _ _ _ u l;obtain⟨_,_,rfl⟩:=ex2 u l;rfl
abbrev eO(K:Frag)(C:Addr):Prop:=gM K C "place_ahead" "Machine.place_ahead" eM bR
noncomputable abbrev Fy:Stmt:=top 71
theorem xr:aq ["plan","code","stand","replies","most","holding","machine","end","behind"] yw (ah Fy):=aC
theorem J_:Bd "run" Fy yw:=by intro _ _ _ _ _ _ u l;obtain⟨_,_,_,_,_,rfl⟩:=ex5 u l;rfl
noncomputable abbrev fz:Stmt:=bN (top 73) 0
theorem nX:aq ["self","guest","block","holding"] BV (ah fz):=aC
theorem nU:BdM "__init__" "PlainRun.__init__" fz BV:=by intro _ _ _ _ _ _ u l;obtain⟨_,_,_,_,rfl⟩:=ex4 u l;rfl
abbrev fD(K:Frag)(C:Addr):Prop:=gM K C "__init__" "PlainRun.__init__" fz BV
noncomputable abbrev gZ:Stmt:=bN (top 73) 1
theorem gG:aq ["self","most","end"] ql (ah gZ):=aC
theorem rF:BdM "go_on" "PlainRun.go_on" gZ ql:=by intro _ _ _ _ _ _ u l;obtain⟨_,_,rfl⟩:=ex2 u l;rfl
abbrev gW(K:Frag)(C:Addr):Prop:=gM K C "go_on" "PlainRun.go_on" gZ ql
noncomputable abbrev iq:Stmt:=bN (top 73) 2
theorem gy:aq ["self","instruction","sort","end"] bR (ah iq):=aC
theorem sC:BdM "begin" "PlainRun.begin" iq bR:=by intro _ _ _ _ _ _ u l;obtain⟨_,_,rfl⟩:=ex2 u l;rfl
abbrev iy(K:Frag)(C:Addr):Prop:=gM K C "begin" "PlainRun.begin" iq bR
noncomputable abbrev dL:Stmt:=bN (top 73) 3
theorem kF:aq ["self"] dj (ah dL):=aC
theorem kI:BdM "place_behind" "PlainRun.place_behind" dL dj:=by intro _ _ _ _ _ _ u l;obtain⟨_,rfl⟩:=ex1 u l;rfl
abbrev dI(K:Frag)(C:Addr):Prop:=gM K C "place_behind" "PlainRun.place_behind" dL dj
noncomputable abbrev ff:Stmt:=bN (top 73) 4
theorem gN:aq ["self","instruction","held"] bR (ah ff):=aC
theorem nC:BdM "place_due" "PlainRun.place_due" ff bR:=by intro _ _ _ _ _ _ u l;obtain⟨_,_,rfl⟩:=ex2 u l;rfl
abbrev eV(K:Frag)(C:Addr):Prop:=gM K C "place_due" "PlainRun.place_due" ff bR
noncomputable abbrev iJ:Stmt:=bN (top 73) 5
theorem sX:aq ["self","place"] BN (ah iJ):=aC
theorem sO:BdM "go_to" "PlainRun.go_to" iJ BN:=by intro _ _ _ _ _ _ u l;obtain⟨_,_,rfl⟩:=ex2 u l;rfl
abbrev iz(K:Frag)(C:Addr):Prop:=gM K C "go_to" "PlainRun.go_to" iJ BN
noncomputable abbrev kK:Stmt:=top 74
theorem gF:aq ["guest","room","gates","block","boxes","memory","replies","most","holding","plain","end"] Cz (ah kK):=aC
theorem wW:Bd "run_plainly" kK Cz:=by intro _ _ _ _ _ _ u l;obtain⟨_,_,_,_,_,_,_,_,rfl⟩:=ex8 u l;rfl
noncomputable abbrev nO:Stmt:=top 76
theorem gL:aq ["_law_script","_law_k","_law_seed","_law_number"] Cb (ah nO):=aC
theorem zl:Bd "_law_deal" nO Cb:=by intro _ _ _ _ _ _ u l;obtain⟨_,_,rfl⟩:=ex2 u l;rfl
noncomputable abbrev oZ:Stmt:=top 77
theorem gE:aq ["_law_deal_here","_law_many","_law_number","_law_high","_law_low"] qm (ah oZ):=aC
theorem zW:Bd "_law_draw" oZ qm:=by intro _ _ _ _ _ _ u l;obtain⟨_,_,rfl⟩:=ex2 u l;rfl
noncomputable abbrev om:Stmt:=top 78
theorem sQ:aq ["_law_deal_here","_law_k"] D5 (ah om):=aC
theorem As:Bd "_law_room" om D5:=by intro _ _ _ _ _ _ u l;obtain⟨_,rfl⟩:=ex1 u l;rfl
noncomputable abbrev mK:Stmt:=top 79
theorem qp:aq ["_law_deal_here","_law_room_here","_law_form"] ky (ah mK):=aC
theorem xL:Bd "_law_value" mK ky:=by intro _ _ _ _ _ _ u l;obtain⟨_,_,rfl⟩:=ex2 u l;rfl
noncomputable abbrev mX:Stmt:=top 80
theorem bZ:aq ["_law_deal_here","_law_room_here","_law_a","_law_j","_law_d","_law_cut","_law_v","_law_n","_law_moved","_law_last"] ky (ah mX):=aC
theorem xT:Bd "_law_table" mX ky:=by intro _ _ _ _ _ _ u l;obtain⟨_,_,rfl⟩:=ex2 u l;rfl
noncomputable abbrev nN:Stmt:=top 81
theorem bO:aq ["_law_deal_here","_law_room_here","_law_gates","_law_blocks","_law_rows_here","_law_b","_law_n","_law_k","_law_form","_law_a","_law_sort","_law_ends"] Gd (ah nN):=aC
theorem Ay:Bd "_law_rows" nN Gd:=by intro _ _ _ _ _ _ u l;obtain⟨_,_,_,_,rfl⟩:=ex4 u l;rfl
noncomputable abbrev jk:Stmt:=top 82
theorem qh:aq ["_law_script","_law_deal_here","_law_room_here","_law_gates","_law_blocks"] F8 (ah jk):=aC
theorem xE:Bd "_law_guest" jk F8:=by intro _ _ _ _ _ _ u l;obtain⟨_,_,_,_,rfl⟩:=ex4 u l;rfl
noncomputable abbrev gC:Stmt:=top 83
theorem c_:aq ["_law_deal_here","_law_room_here","_law_found","_law_k","_law_boxes","_law_writes","_law_j"] ky (ah gC):=aC
theorem vB:Bd "_law_replies" gC ky:=by intro _ _ _ _ _ _ u l;obtain⟨_,_,rfl⟩:=ex2 u l;rfl
noncomputable abbrev kq:Stmt:=top 84
theorem At:aq ["_law_rows_here"] Fz (ah kq):=aC
theorem AE:Bd "_law_told" kq Fz:=by intro _ _ _ _ _ _ u l;obtain⟨_,rfl⟩:=ex1 u l;rfl
noncomputable abbrev jW:Stmt:=top 85
theorem aO:aq ["_law_made","_law_stand","_law_replies_here","_law_place","_law_plan","_law_code","_law_places","_law_end","_law_rows_here","_law_used","_law_kept","_law_k"] Hu (ah jW):=aC
theorem vE:Bd "_law_reached" jW Hu:=by intro _ _ _ _ _ _ u l;obtain⟨_,_,_,_,rfl⟩:=ex4 u l;rfl
noncomputable abbrev lV:Stmt:=top 86
theorem aM:aq ["_law_guest_here","_law_room_here","_law_gates","_law_made","_law_start","_law_replies_here","_law_most","_law_block","_law_boxes","_law_memory","_law_others","_law_whole","_law_trail","_law_stand","_law_rows_here","_law_j","_law_plain","_law_end","_law_kept","_law_used"] GL (ah lV):=aC
theorem x5:Bd "_law_alike" lV GL:=by intro _ _ _ _ _ _ u l;obtain⟨_,_,_,_,_,_,_,rfl⟩:=ex7 u l;rfl
noncomputable abbrev Es:Stmt:=top 87
theorem gX:aq ["_law_script","_law_deal_here","_law_room_here","_law_gates","_law_guest_here","_law_memory","_law_k","_law_boxes","_law_others","_law_start","_law_replies_here","_law_made"] Jx (ah Es):=aC
theorem KK:Bd "law" Es Jx:=by intro _ _ _ _ _ _ u l;obtain⟨_,rfl⟩:=ex1 u l;rfl
structure cZ (K:Frag) (C:Addr):Prop where
 plan:W.findIn K (.ref C) "plan"=some none
 gates:W.findIn K (.ref C) "gates"=some none
 boxes:W.findIn K (.ref C) "boxes"=some none
 memory:W.findIn K (.ref C) "memory"=some none
 replies:W.findIn K (.ref C) "replies"=some none
 rows:W.findIn K (.ref C) "rows"=some none
structure gQ (K:Frag) (C:Addr):Prop where
 code:W.findIn K (.ref C) "code"=some none
 place:W.findIn K (.ref C) "place"=some none
 holding:W.findIn K (.ref C) "holding"=some none
 turns:W.findIn K (.ref C) "turns"=some none
structure eB (K:Frag) (C:Addr):Prop where
 guest:W.findIn K (.ref C) "guest"=some none
 place:W.findIn K (.ref C) "place"=some none
 holding:W.findIn K (.ref C) "holding"=some none
 trail:W.findIn K (.ref C) "trail"=some none
structure cx (K:Frag) (C:Addr):Prop where
 instructions:W.findIn K (.ref C) "instructions"=some none
 begins:W.findIn K (.ref C) "begins"=some none
 length:W.findIn K (.ref C) "length"=some none
structure lT (K:Frag) (C:Addr):Prop where
 plan:W.findIn K (.ref C) "plan"=some none
 spans:W.findIn K (.ref C) "spans"=some none
 fitted:W.findIn K (.ref C) "fitted"=some none
section
variable (K) (mg)
abbrev pf:=Def K mg "power_of_two" jX nG
abbrev Gq:=Def K mg "rest" Dw lJ
abbrev DZ:=Def K mg "zeros" zZ pT
abbrev BF:=Def K mg "signed" wp lJ
abbrev sP:=Def K mg "field_bits" me Gi
abbrev oS:=Def K mg "field_number" jT Gg
abbrev sY:=Def K mg "first_word" mB dF
abbrev xg:=Def K mg "words_of" qK dF
abbrev uz:=Def K mg "length_of" oV dF
abbrev gI:=Def K mg "one_word_instruction" cJ Hr
abbrev lF:=Def K mg "instruction_at" iu FG
abbrev xf:=Def K mg "made_box" qW dF
abbrev pz:=Def K mg "joined_value" jJ Fd
abbrev uO:=Def K mg "fit_value" n_ wv
abbrev uK:=Def K mg "aim_value" nW wv
abbrev sf:=Def K mg "made_value" lS Bm
abbrev tF:=Def K mg "whole_span" mE []
abbrev lH:=Def K mg "multiples_span" iN Ck
abbrev BJ:=Def K mg "single" wX pT
abbrev uP:=Def K mg "is_single" oO uH
abbrev oB:=Def K mg "settled_span" jN gO
abbrev uV:=Def K mg "kept_span" nY gO
abbrev w_:=Def K mg "add_span" qU cX
abbrev wx:=Def K mg "sub_span" qI cX
abbrev wE:=Def K mg "and_span" qR cX
abbrev yK:=Def K mg "or_span" ut Cj
abbrev uF:=Def K mg "less_span" oQ cX
abbrev uD:=Def K mg "left_span" o7 cX
abbrev tz:=Def K mg "right_span" mI cX
abbrev qi:=Def K mg "joined_span" kM A1
abbrev uE:=Def K mg "more_span" o4 Bp
abbrev xu:=Def K mg "fit_span" qV qz
abbrev wY:=Def K mg "aim_span" qY qz
abbrev qw:=Def K mg "first_spans" kQ []
abbrev uA:=Def K mg "made_span" nT jV
abbrev nK:=Def K mg "spans_behind" ju jV
abbrev nj:=Def K mg "may_reach_out" jb jV
abbrev sD:=Def K mg "least_bits" mw pE
abbrev sr:=Def K mg "bundles_of" lL qo
abbrev Bc:=Def K mg "placed" wj AL
abbrev ED:=Def K mg "stops" AA pE
abbrev qr:=Def K mg "block_words" lg Ch
abbrev uY:=Def K mg "places_of" ou CF
abbrev lK:=Def K mg "code_of_blocks" fw yA
abbrev uM:=Def K mg "is_access" o3 dF
abbrev lC:=Def K mg "access_by_mask" g_ dF
abbrev oW:=Def K mg "masked_group" jU dF
abbrev oj:=Def K mg "masked_block" jr qo
abbrev Ht:=Def K mg "make" zx uw
abbrev nw:=Def K mg "thinned_block" ja Cu
abbrev GG:=Def K mg "thin" zb uw
abbrev yF:=Def K mg "in_room" ur Ce
abbrev Jy:=Def K mg "run" Fy yw
abbrev qA:=Def K mg "run_plainly" kK Cz
abbrev uR:=Def K mg "_law_deal" nO Cb
abbrev uG:=Def K mg "_law_draw" oZ qm
abbrev uJ:=Def K mg "_law_room" om D5
abbrev sW:=Def K mg "_law_value" mK ky
abbrev si:=Def K mg "_law_table" mX ky
abbrev uy:=Def K mg "_law_rows" nN Gd
abbrev rV:=Def K mg "_law_guest" jk F8
abbrev nL:=Def K mg "_law_replies" gC ky
abbrev uS:=Def K mg "_law_told" kq Fz
abbrev pC:=Def K mg "_law_reached" jW Hu
abbrev rA:=Def K mg "_law_alike" lV GL
end
def jA:Sp:=fun o H Q _=>∃n:Nat,o=[.int n]/\n<=64/\Q (.int (2^n)) H
def i8:Sp:=fun o H Q _=>∃(v:Int) (n:Nat),o=[.int v,.int n]/\n<=64/\Q (.int (v %2^n)) H
def Cs:Sp:=fun o H Q _=>∃(v:Int) (n:Nat),o=[.int v,.int ((n:Int)+1)]/\n<=63/\Q (.int (if v<2^n then v else v - 2^(n+1))) H
theorem vv(B:Bi mg)(D:pf K mg):Has P w K mg base 1 "power_of_two" nG jA:=by
 refine D.has fT (fun I H Q E h=> ?_) (fun f J A o s H I Q E a h=> ?_)
 .obtain⟨n,rfl,_⟩:=h
  rfl
 obtain⟨n,rfl,U,q⟩:=h
 refine⟨_,(ac (psS 1 fT.nd aa)
   (ac (aW (fg M7 (by rfl) (eD (by rfl) B.range (pa1 (pv 0))) (aD (i:=2) fT.nd (by rfl) (by left;rfl)) (ae (psS 1 fT.nd (au cG (pv 1) aa)))))
   (ae (ai (pv 1))))),?_⟩
 try dsimp only[aT]
 refine⟨_,rfl,n,rfl,by lia,by lia,gU (fun i Z C=>C=H/\∃st,Z=[some (.int n),some (.int (2^i)),st]) ⟨rfl,none,rfl⟩ ?_ ?_⟩
 .rintro i Z C hi ⟨rfl,st,rfl⟩
  exact⟨_,rfl,_,_,rfl,rfl,.inr ⟨by decide,by decide⟩,rfl,_,rfl⟩
 .rintro Z C ⟨rfl,st,rfl⟩
  exact⟨_,rfl,q⟩
theorem IQ(B:Bi mg)(D:Gq K mg)(I:Has P w K mg base 1 "power_of_two" nG jA):Has P w K mg base 2 "rest" lJ i8:=by
 refine D.has II (fun J H Q E h=> ?_) (fun f U A o s H J Q E a h=> ?_)
 .obtain⟨v,n,rfl,_⟩:=h
  rfl
 obtain⟨v,n,rfl,C,q⟩:=h;refine⟨_,(ae (ai (au fM (pv 0) (pcH I a (pa1 (pv 1)))))),?_⟩
 try dsimp only[aT]
 exact⟨_,rfl,_,rfl,n,rfl,C,_,_,rfl,rfl,Int.pow_pos (by decide),q⟩
theorem EZ(B:Bi mg)(D:BF K mg)(C:Has P w K mg base 1 "power_of_two" nG jA):Has P w K mg base 2 "signed" lJ Cs:=by
 refine D.has E_ (fun J H Q E h=> ?_) (fun f U A o s H J Q E I h=> ?_)
 .obtain⟨v,n,rfl,_⟩:=h
  rfl
 obtain⟨v,n,rfl,a,q⟩:=h
 refine⟨_,(ac (ay (pcT kh (pv 0) (pcH C I (pa1 (au bS (pv 1) aa)))) (ae (ai (pv 0))) am)
   (ae (ai (au bS (pv 0) (pcH C I (pa1 (pv 1))))))),?_⟩
 try dsimp only[aT]
 refine⟨_,rfl,_,rfl,_,_,rfl,rfl,n,(by show[V.int ((n:Int)+1 - 1)]=[V.int n];rw[Int.add_sub_cancel]),by lia,_,_,rfl,rfl,_,rfl,?_⟩
 refine bI (fun c=> ?_) (fun c=> ?_)
 .rw[ME c] at q;exact⟨_,rfl,q⟩
 .rw[mC c] at q;exact⟨_,rfl,_,rfl,n+1,rfl,by lia,_,_,rfl,rfl,q⟩
def v_:Sp:=fun o H Q _=>∃v:Int,o=[.int v]/\Q (.int (SpM.Zn v:Nat)) H
theorem FN(B:Bi mg)(D:DZ K mg):Has P w K mg base 1 "zeros" pT v_:=by
 refine D.has oa (fun d H Q E h=> ?_) (fun f i A C s H d Q E j h=> ?_)
 .obtain⟨v,rfl,_⟩:=h
  rfl
 obtain⟨v,rfl,q⟩:=h;have o:=SpM.Zn_case v;generalize SpM.Zn v=t at q o
 refine⟨_,(ac (ay (pcT aJ (pv 0) aa) (ae (ai aa)) am)
   (ac (psS 1 oa.nd aa)
   (ac (psS 2 oa.nd (aL AM (by rfl) B.abs F2 (pa1 (pv 0))))
   (ac (aW (lB M7 (pcT aJ (au fM (pv 2) aa) aa) (ac (psS 2 oa.nd (au fR (pv 2) aa))
   (ae (psS 1 oa.nd (au aP (pv 1) aa))))))
   (ae (ai (pv 1))))))),?_⟩
 try dsimp only[aT]
 refine⟨_,rfl,rfl,_,rfl,?_⟩
 refine bI (fun c=> ?_) (fun c=> ?_)
 .have c':v=0:=by injection c
  rcases o with⟨_,rfl⟩|⟨u,e⟩
  .exact q
  .rw[c'] at e;have:=Nat.mul_pos (show 0<2*u+1 by lia) (Nat.pow_pos (n:=t) (show 0<2 by decide))
   simp only[Int.natAbs_zero] at e
   lia
 .have c':v≠0:=fun z=>c (by rw[z])
  rcases o with⟨e,_⟩|⟨u,e⟩
  .exact absurd e c'
  refine⟨_,rfl,v,rfl,?_⟩
  refine⟨fun m Z I=>I=H/\m<=t/\Z=[some (.int v),some (.int ((t:Int) - m)),some (.int ((2*u+1)*2^m))],⟨t,rfl,MC t,?_⟩,?_⟩
  .have e1:(if v<0 then -v else v)=(2*(u:Int)+1)*2^t:=by
    have:((v.natAbs:Nat):Int)=(2*(u:Int)+1)*2^t:=by rw[e];push_cast;rfl
    rw[<- this]
    split <;> lia
   show[some (V.int v),some (.int 0),some (.int (if v<0 then -v else v))]=_
   rw[e1,Int.sub_self]
  .rintro m Z I ⟨rfl,hm,rfl⟩
   refine⟨_,rfl,_,_,rfl,rfl,(by decide:(0:Int)<2),rfl,_,rfl,?_⟩
   refine bI (fun c=> ?_) (fun c=> ?_)
   .have c1:((2*(u:Int)+1)*2^m) %2=0:=by injection c
    cases m with
    | zero=>rw[QU,Int.mul_one] at c1;lia
    | succ m=>
     walk_at"n";refine⟨fun U J=>J=I/\U=[some (.int v),some (.int ((t:Int) - m)),some (.int ((2*u+1)*2^m))],fun U J h=>⟨m,Pm m,h.1,by lia,h.2⟩,?_⟩
     refine⟨_,rfl,_,_,rfl,rfl,⟨by decide,by decide⟩,_,rfl,_,_,rfl,rfl,rfl,?_⟩
     have b:(2*(u:Int)+1)*2^(m+1) / 2=(2*u+1)*2^m:=by
      rw[PH, <-Oq,Int.mul_ediv_cancel _ (by decide)]
     have a:(t:Int) - ((m+1:Nat):Int)+1=t - m:=by lia
     show[some (V.int v),some (.int ((t:Int) - ((m+1:Nat):Int)+1)),some (.int ((2*(u:Int)+1)*2^(m+1) / 2))]=_
     rw[b,a]
   .cases m with
    | zero=>
     refine⟨_,rfl,?_⟩
     have g:(t:Int) - ((0:Nat):Int)=t:=by lia
     rw[g];exact q
    | succ m=>
     exfalso
     apply c
     show V.int (((2*(u:Int)+1)*2^(m+1)) %2)=V.int 0
     rw[PH, <-Oq,Int.mul_emod_left]
noncomputable def ue:List Str:=["stop","put","add","sub","and","or","xor","less","left","right","more","load","store","jump","jumpif","through","fit","aim","gate"]
noncomputable def Ij:List (List Str):=[[],["a"],["a","b","c"],["a","b","c"],["a","b","c"],["a","b","c"],["a","b","c"],["a","b","c"],["a","b","c"],["a","b","c"],["a","b","move"],["a","b","move"],["a","b","move"],["n"],["a","n"],["b"],["a","b"],["a","b"],["n"]]
noncomputable def bf(k:Nat):Str:=ue.getD k ""
noncomputable def aQ(k:Nat):List Str:=Ij.getD k []
noncomputable def Ey(f:Str)(n:Int):Int:=if f="a" then n*16777216 else if f="b" then n*2097152 else if f="c" then n*262144 else n %262144
noncomputable def gw(f:Str)(w:Int):Int:=if f="a" then w / 16777216 %8 else if f="b" then w / 2097152 %8 else if f="c" then w / 262144 %8 else if f="move" then(if w %262144<131072 then w %262144 else w %262144 - 262144) else w %262144
noncomputable def IN(acc:Int)(p:Str × Int):Int:=acc+Ey p.1 p.2
noncomputable def cK(k:Nat)(ns:List Int):Int:=((aQ k).zip ns).foldl IN (k*134217728)
noncomputable def aB(k:Nat)(ns:List Int):List V:= .str (bf k)::ns.map V.int
structure Tb (K:Frag) (mg:Str->Option Value) (prm:Params):Prop where
 sorts:∃a,mg "SORTS"=some (.ref a)/\gx K a (ue.map V.str)
 fields:∃a kvs,mg "FIELDS"=some (.ref a)/\SqD prm K a kvs/\∀k,k<19->∃b,kvs.lookup (bf k)=some (.ref b)/\gx K b ((aQ k).map V.str)
def KS:Sp:=fun o H Q _=>∃(f:Str) (n:Int),o=[.str f,.int n]/\Q (.int (Ey f n)) H
def LK:Sp:=fun o H Q _=>∃(f:Str) (n:Int),o=[.str f,.int n]/\Q (.int (gw f n)) H
def Ku(K:Frag):Sp:=fun I H Q _=>∃(a:Addr) (k:Nat) (C:List Int),I=[.ref a]/\k<19/\SqT K H a (aB k C)/\∀o,ax H o->Q (.int (cK k C)) o
theorem xA(B:Bi mg)(D:sP K mg)(J:Has P w K mg base 2 "rest" lJ i8):Has P w K mg base 3 "field_bits" Gi KS:=by
 refine D.has x8 (fun U H Q E h=> ?_) (fun f a A I s H U Q E b h=> ?_)
 .obtain⟨f,n,rfl,_⟩:=h
  rfl
 obtain⟨C,n,rfl,q⟩:=h;unfold Ey at q
 refine⟨_,(ac (ay (pcT aJ (pv 0) av) (ae (ai (au cG (pv 1) (cI (v:=16777216) (by rfl))))) am)
   (ac (ay (pcT aJ (pv 0) av) (ae (ai (au cG (pv 1) (cI (v:=2097152) (by rfl))))) am)
   (ac (ay (pcT aJ (pv 0) av) (ae (ai (au cG (pv 1) (cI (v:=262144) (by rfl))))) am)
   (ae (ai (pcH J b (pa2 (pv 1) aa))))))),?_⟩
 try dsimp only[aT]
 walk_at"g";refine bI (fun c=> ?_) (fun c=> ?_)
 .have o:C="a":=by injection c
  rw[ME o] at q;walk_at"g";exact q
 have o:¬C="a":=fun z=>c (by rw[z])
 rw[mC o] at q;walk_at"g";refine bI (fun c=> ?_) (fun c=> ?_)
 .have o:C="b":=by injection c
  rw[ME o] at q;walk_at"g";exact q
 have o:¬C="b":=fun z=>c (by rw[z])
 rw[mC o] at q;walk_at"g";refine bI (fun c=> ?_) (fun c=> ?_)
 .have o:C="c":=by injection c
  rw[ME o] at q;walk_at"g";exact q
 have o:¬C="c":=fun z=>c (by rw[z])
 rw[mC o] at q;walk_at"g";exact q
theorem vm(B:Bi mg)(D:oS K mg)(J:Has P w K mg base 2 "rest" lJ i8)(b:Has P w K mg base 2 "signed" lJ Cs):Has P w K mg base 3 "field_number" Gg LK:=by
 refine D.has vL (fun a H Q E h=> ?_) (fun f d A U s H a Q E I h=> ?_)
 .obtain⟨f,n,rfl,_⟩:=h
  rfl
 obtain⟨C,n,rfl,q⟩:=h;unfold gw at q
 refine⟨_,(ac (ay (pcT aJ (pv 0) av) (ae (ai (pcH J I (pa2 (au fR (pv 1) (cI (v:=16777216) (by rfl))) aa)))) am)
   (ac (ay (pcT aJ (pv 0) av) (ae (ai (pcH J I (pa2 (au fR (pv 1) (cI (v:=2097152) (by rfl))) aa)))) am)
   (ac (ay (pcT aJ (pv 0) av) (ae (ai (pcH J I (pa2 (au fR (pv 1) (cI (v:=262144) (by rfl))) aa)))) am)
   (ac (ay (pcT aJ (pv 0) av) (ae (ai (pcH b I (pa2 (pcH J I (pa2 (pv 1) aa)) aa)))) am)
   (ae (ai (pcH J I (pa2 (pv 1) aa)))))))),?_⟩
 try dsimp only[aT]
 walk_at"g";refine bI (fun c=> ?_) (fun c=> ?_)
 .have o:C="a":=by injection c
  rw[ME o] at q;walk_at"g";exact q
 have o:¬C="a":=fun z=>c (by rw[z])
 rw[mC o] at q;walk_at"g";refine bI (fun c=> ?_) (fun c=> ?_)
 .have o:C="b":=by injection c
  rw[ME o] at q;walk_at"g";exact q
 have o:¬C="b":=fun z=>c (by rw[z])
 rw[mC o] at q;walk_at"g";refine bI (fun c=> ?_) (fun c=> ?_)
 .have o:C="c":=by injection c
  rw[ME o] at q;walk_at"g";exact q
 have o:¬C="c":=fun z=>c (by rw[z])
 rw[mC o] at q;walk_at"g";refine bI (fun c=> ?_) (fun c=> ?_)
 .have o:C="move":=by injection c
  rw[ME o] at q;walk_at"g";exact q
 have o:¬C="move":=fun z=>c (by rw[z])
 rw[mC o] at q;walk_at"g";exact q
theorem EN{fs:List Str}{ns:List Int}{i:Nat}{f:Str}{n a:Int}(C:fs[i]? =some f)(o:ns[i]? =some n):((fs.zip ns).take (i+1)).foldl IN a=((fs.zip ns).take i).foldl IN a+Ey f n:=by
 have e:(fs.zip ns)[i]? =some (f,n):=by rw[List.getElem?_zip_eq_some];exact⟨C,o⟩
 rw[N8,e,OA]
 rfl
theorem cV{o C:Type}{g:o->C}{l:List o}{i:Nat}{y:C}(h:(l.map g)[i]? =some y):∃x,l[i]? =some x/\g x=y:=by
 rw[MW] at h
 cases e:l[i]? with
 | none=>rw[e] at h;cases h
 | some x=>rw[e] at h;exact⟨x,rfl,by cases h;rfl⟩
theorem Dj:∀k,k<19->Bz (.str (bf k)) (ue.map V.str) 0=some k:=by decide +kernel
theorem Mw(x:V)(xs:List V):ik (x::xs) (some 1) none=xs:=by
 unfold ik
 simp [HT.sIx]
theorem Kd{x:V}{xs:List V}{B:Prop}:¬(HT.sIx (x::xs).length 0 (some 1)=0/\B):=by
 rintro⟨h,_⟩
 simp [HT.sIx] at h
theorem xD(B:Bi mg)(T:Tb K mg w.params)(D:sY K mg)(d:Has P w K mg base 3 "field_bits" Gi KS):Has P w K mg base 4 "first_word" dF (Ku K):=by
 obtain⟨R,j,Ib⟩:=T.sorts;obtain⟨e,L,Y,GZ,J⟩:=T.fields;refine D.has eF (fun M H Q E h=> ?_) (fun f S A U s H M Q E X h=> ?_)
 .obtain⟨a,k,o,rfl,_⟩:=h
  rfl
 obtain⟨a,k,o,rfl,c,ha,q⟩:=h;obtain⟨b,O,C⟩:=J k c
 refine⟨_,(ac (psS 1 eF.nd (pX ag (pv 0) aa))
   (ac (psS 2 eF.nd (au cG (gH PySem.F.plainAttrs_tuple PySem.F.slot_tuple_index PySem.F.type_tuple_index E4 (pK (v:= .ref R) (by rfl) j (by rfl)) (pa1 (pv 1))) (cI (v:=134217728) (by rfl))))
   (ac (aW (fg M7 (by rfl) (KE (by rfl) B.zip (pa2 (GC Jt (pK (v:= .ref e) (by rfl) Y (by rfl)) (pv 1) (by intro _ _;rfl)) (di kZ (pv 0) (eP aa) eQ))) (k_ (n:=2) (by rfl) (aS (aD (i:=3) eF.nd (by rfl) (by left;rfl)) (aS (aD (i:=4) eF.nd (by rfl) (by left;rfl)) iS))) (ae (psS 2 eF.nd (au aP (pv 2) (pcH d X (pa2 (pv 3) (pv 4))))))))
   (ae (ai (pv 2)))))),?_⟩
 try dsimp only[aT]
 walk_at"g";refine⟨HD (Dj k c),?_⟩
 walk_at"g";refine⟨?_⟩
 walk_at"g";refine⟨Kd,fun p N=> ?_⟩
 have z:ik (aB k o) (some 1) none=o.map V.int:=Mw _ _;refine⟨false,false,b,p,rfl,⟨_,C.sq⟩,⟨_,SqT.of ad⟩,?_⟩
 rw[z];refine HP (xs:=(aQ k).map V.str) (ys:=o.map V.int) (fun i Z I=>aG (ax (upd H p (.tup (o.map V.int))) I/\∃x y,Z=[some (.ref a),some (.str (bf k)),some (.int ((((aQ k).zip o).take i).foldl IN (k*134217728))),x,y])) ⟨ax.refl _,_,_,rfl⟩ ?_ ?_ ?_
 .rintro i Z I ⟨hs,x,y,rfl⟩
  exact⟨C.sq,hs.tup (SqT.of ad)⟩
 .rintro i x y r Z I hx hy ⟨hs,u,v,rfl⟩ hr'
  obtain⟨fx,G,rfl⟩:=cV hx;obtain⟨ny,m,rfl⟩:=cV hy;walk_at"g";rw[EN G m];exact⟨bK hr' hs,_,_,rfl⟩
 .rintro Z I ⟨hs,x,y,rfl⟩
  walk_at"g";have g:((aQ k).zip o).take (min ((aQ k).map V.str).length (o.map V.int).length)=(aQ k).zip o:=by
   rw[fI,fI, <-List.length_zip,ML]
  rw[g];exact q _ ((af N _).trans hs)
noncomputable def fU(k:Nat)(ns:List Int):List Int:=if k=1 then[cK k ns,ns.getD 1 0] else[cK k ns]
theorem lm:∀k,k<19->(V.str (bf k)=V.str "put"↔k=1):=by decide +kernel
theorem LJ{k:Nat}{ns:List Int}(h:2<=ns.length):atI (aB k ns) 2=some (.int (ns.getD 1 0)):=by
 match ns,h with
 | x::y::r,_=>exact p_
 | [_],h=>exact absurd h (by simp)
 | [],h=>exact absurd h (by simp)
def KM(K:Frag):Sp:=fun I H Q _=>∃(a:Addr) (k:Nat) (C:List Int),I=[.ref a]/\k<19/\(k=1->2<=C.length)/\SqT K H a (aB k C)/\∀p o,H p=none->o p=some (.lst ((fU k C).map V.int))->ax H o->Q (.ref p) o
def IF(K:Frag):Sp:=fun C H Q _=>∃(a:Addr) (k:Nat) (o:List Int),C=[.ref a]/\k<19/\SqT K H a (aB k o)/\Q (.int (if k=1 then 2 else 1)) H
theorem BA(B:Bi mg)(D:xg K mg)(J:Has P w K mg base 4 "first_word" dF (Ku K)):Has P w K mg base 5 "words_of" dF (KM K):=by
 refine D.has Cn (fun e H Q E h=> ?_) (fun f j A I s H e Q E b h=> ?_)
 .obtain⟨a,k,d,rfl,_⟩:=h
  rfl
 obtain⟨a,k,d,rfl,U,g,m,q⟩:=h;unfold fU at q
 refine⟨_,(ac (ay (pcT aJ (pX ag (pv 0) aa) av) (ae (ai (bG (pa2 (pcH J b (pa1 (pv 0))) (pX ag (pv 0) aa))))) am)
   (ae (ai (bG (pa1 (pcH J b (pa1 (pv 0)))))))),?_⟩
 try dsimp only[aT]
 walk_at"g";refine bI (fun c=> ?_) (fun c=> ?_)
 .have c':=(lm k U).mp c;rw[ME c'] at q;walk_at"g";intro i o;walk_at"g";refine⟨LJ (g c'),?_⟩
  walk_at"g";intro p C;exact q p _ (o.free C) ad (bK C o)
 .have c':¬k=1:=fun z=>c ((lm k U).mpr z)
  rw[mC c'] at q;walk_at"g";intro i o;walk_at"g";intro p C;exact q p _ (o.free C) ad (bK C o)
theorem zO(B:Bi mg)(D:uz K mg):Has P w K mg base 1 "length_of" dF (IF K):=by
 refine D.has zo (fun J H Q E h=> ?_) (fun f U A o s H J Q E d h=> ?_)
 .obtain⟨a,k,I,rfl,_⟩:=h
  rfl
 obtain⟨a,k,I,rfl,C,b,q⟩:=h;refine⟨_,(ae (ai (oF (pcT aJ (pX ag (pv 0) aa) av) aa aa))),?_⟩
 try dsimp only[aT]
 walk_at"g";refine bI (fun c=> ?_) (fun c=> ?_)
 .rw[ME ((lm k C).mp c)] at q;exact q
 .rw[mC fun z=>c ((lm k C).mpr z)] at q
  exact q
noncomputable def owi(o:Int):Option (Nat × List Int):=
 if 19<=o / 134217728 then none else if cK (o / 134217728).toNat ((aQ (o / 134217728).toNat).map fun f=>gw f o)=o then some ((o / 134217728).toNat,(aQ (o / 134217728).toNat).map fun f=>gw f o) else none
def Jo(K:Frag)(H:Hp):Option (Nat × List Int)->V->Prop
 | none,v=>v= .non
 | some (k,ns),v=>∃a,v= .ref a/\SqT K H a (aB k ns)
def JP(K:Frag):Sp:=fun I H Q _=>∃C:Int,I=[.int C]/\0<=C/\∀v o,ax H o->Jo K o (owi C) v->Q v o
theorem Im{k:Nat}(o:k<19):atI (ue.map V.str) (k:Int)=some (.str (bf k)):=by
 refine aY ?_
 have:∀k,k<19->(ue.map V.str)[k]? =some (.str (bf k)):=by decide +kernel
 exact this k o
theorem xI{o C:Type}{g:o->C}{l:List o}{i:Nat}{x:o}(h:l[i]? =some x):(l.take (i+1)).map g=(l.take i).map g++[g x]:=by
 rw[N8,h,MH]
 rfl
theorem wF(k:Nat):(aQ k).length<=3:=by
 by_cases o:k<19
 .have:∀k,k<19->(aQ k).length<=3:=by decide +kernel
  exact this k o
 .unfold aQ;rw[MF,Od (by show 19<=k;lia)]
  exact Na _
theorem lw(B:Bi mg)(T:Tb K mg w.params)(D:gI K mg)(dX:Has P w K mg base 4 "first_word" dF (Ku K))(jy:Has P w K mg base 3 "field_number" Gg LK):
  Has P w K mg base 5 "one_word_instruction" Hr (JP K):=by
 obtain⟨X,y,Ib⟩:=T.sorts;obtain⟨wM,ao,xh,GZ,g⟩:=T.fields;refine D.has bU (fun vs H Q E h=> ?_) (fun f aR A j s H vs Q E Y h=> ?_)
 .obtain⟨o,rfl,_⟩:=h
  rfl
 obtain⟨o,rfl,h0,q⟩:=h
 refine⟨_,(ac (psS 1 bU.nd (au fR (pv 0) (cI (v:=134217728) (by rfl))))
   (ac (aW (cy (ay (PW.pt (gP (pcT kh (pv 1) aa) (hZ (pcT nh (pv 1) (aL aN (by rfl) B.len dD (pa1 (pK (v:= .ref X) (by rfl) y (by rfl)))))))) (ae (ai fH)) am)))
   (ac (psS 2 bU.nd (pX ag (pK (v:= .ref X) (by rfl) y (by rfl)) (pv 1)))
   (ac (HV (i:=3) (by rfl) (by rfl) (by rfl) (bk (sc0:=ah cJ) (N0:=["word","number","sort","numbers","instruction"]) ["field","word"] 1 [0]) bU.nd (by rfl) (by left;rfl) (oR (GC Jt (pK (v:= .ref wM) (by rfl) xh (by rfl)) (pv 2) (by intro _ _;rfl))) (fun _ _ _ _=>(aD (i:=0) (show List.Nodup (["field","word"]:List Str) by decide) (by rfl) (by left;rfl))) (fun _ _ _ _=>(pcH jy Y (pa2 (pv 0) (pv 1)))))
   (ac (psS 4 bU.nd (cn iQ (by rfl) B.tuple fQ (pa1 (au o5 (bG (pa1 (pv 2))) (pv 3)))))
   (ac (ay (pcT yo (pcH dX Y (pa1 (pv 4))) (pv 0)) (ae (ai fH)) am)
   (ae (ai (pv 4))))))))),?_⟩
 try dsimp only[aT]
 unfold owi at q;walk_at"g";refine⟨fun Z' d=>aG (d=H/\o / 134217728<19/\Z'=[some (.int o),some (.int (o / 134217728)),none,none,none]),?_,?_⟩
 .walk_at"g";refine dG (by lia) ?_
  walk_at"g";refine bI (fun c=> ?_) (fun c=> ?_)
  .have C:19<=o / 134217728:=c;rw[ME C] at q;exact q _ _ (ax.refl H) rfl
  .exact⟨rfl,by have C:¬19<=o / 134217728:=c;lia,rfl⟩
 rintro Z1 O ⟨rfl,ab,rfl⟩
 rw[mC (by lia)] at q
 obtain⟨k,L⟩:∃k:Nat,o / 134217728=k:=⟨(o / 134217728).toNat,by lia⟩
 rw[L,MN] at q;rw[L];have G:k<19:=by lia
 obtain⟨b,aK,I⟩:=g k G;walk_at"g";refine⟨Im G,?_⟩
 walk_at"g"
 first | refine⟨⟨_,I.sq⟩,?_⟩ | skip
 intro p R;refine sG (xs:=(aQ k).map V.str) (fun i a d=>aG (i<=3/\a=((aQ k).take i).map (fun f=>V.int (gw f o))/\d p=some (.lst a)/\ax O d)) ⟨by lia,rfl,ad,af R _⟩ (fun _ _ _ _=>I.sq) ?_ ?_
 .rintro i x a M F hF hx ⟨hi,rfl,U,m⟩
  obtain⟨fx,N,rfl⟩:=cV hx;have ar:i<(aQ k).length:=(gV.mp N).1;have aH:=wF k;walk_at"g";refine⟨?_,hF _ _ ⟨by lia,?_,ad,cf R m⟩⟩
  .rw[fI,M0];exact Nw (PV _ _) (Nw hi (by decide))
  .rw[xI N]
 rintro a M ⟨_,rfl,U,m⟩
 rw[fI,ML] at U;walk_at"g";intro l hl;walk_at"g";have J:[V.str (bf k)].length+((aQ k).map fun f=>V.int (gw f o)).length<=sizeLine:=by
  have:=wF k;rw[fI];exact MV (show 1+(aQ k).length<=4 by lia) (by decide)
 refine⟨J,fun r e=> ?_⟩
 refine⟨_,_,rfl,.inl ⟨SqL.of ad,fun t S=> ?_⟩⟩
 have u:[V.str (bf k)]++(aQ k).map (fun f=>V.int (gw f o))=aB k ((aQ k).map fun f=>gw f o):=by
  unfold aB;rw[QZ]
  rfl
 rw[u];rw[u] at S;have Z:ax O (upd (upd (upd M l (.lst [V.str (bf k)])) r (.lst (aB k ((aQ k).map fun f=>gw f o)))) t (.tup (aB k ((aQ k).map fun f=>gw f o)))):=bK S (bK e (bK hl m))
 walk_at"g";intro H3 n;walk_at"g";refine Ls (fun c=> ?_) (fun c=> ?_)
 .have C:¬cK k ((aQ k).map fun f=>gw f o)=o:=fun z=>by rw[z] at c;simp at c
  rw[mC C] at q;exact q _ _ (Z.trans n) rfl
 .have C:cK k ((aQ k).map fun f=>gw f o)=o:=by simpa using c
  rw[ME C] at q;walk_at"g";exact q _ _ (Z.trans n) ⟨t,rfl,n.tup (SqT.of ad)⟩
noncomputable def bQ(ws:List Int)(i:Int):Option (Nat × List Int):=
 if i<0 then none else match ws[i.toNat]? with
  | none=>none
  | some wd=>match owi wd with
   | none=>none
   | some (k,ns)=>if k=1 then(match ws[i.toNat+1]? with | none=>none | some v=>some (1,[ns.getD 0 0,v])) else some (k,ns)
def KR(K:Frag):Sp:=fun I H Q _=>∃(a:Addr) (C:List Int) (i:Int),I=[.ref a,.int i]/\SqL K H a (C.map V.int)/\(∀x∈C,0<=x)/\∀v o,ax H o->Jo K o (bQ C i) v->Q v o
theorem I0{C:Int}{ns:List Int}(h:owi C=some (1,ns)):∃x,ns=[x]:=by
 unfold owi at h
 split at h
 .cases h
 .split at h
  .have h:=MR h;have I:(C / 134217728).toNat=1:=Ng Prod.fst h;have o:=Ng Prod.snd h;dsimp only at o;rw[I] at o;exact⟨_,o.symm⟩
  .cases h
theorem FB{o:Int}{k:Nat}{ns:List Int}(C:0<=o)(h:owi o=some (k,ns)):k<19:=by
 unfold owi at h
 split at h
 .cases h
 .split at h
  .have h:=MR h;have I:(o / 134217728).toNat=k:=Ng Prod.fst h
   lia
  .cases h
theorem sR(B:Bi mg)(D:lF K mg)(y:Has P w K mg base 5 "one_word_instruction" Hr (JP K)):Has P w K mg base 6 "instruction_at" FG (KR K):=by
 refine D.has kd (fun L H Q E h=> ?_) (fun f N A e s H L Q E R h=> ?_)
 .obtain⟨a,o,i,rfl,_⟩:=h
  rfl
 obtain⟨a,o,i,rfl,Z,hw,q⟩:=h
 refine⟨_,(ac (aW (cy (ay (PW.pt (gP (pcT kh (pv 1) aa) (hZ (pcT nh (pv 1) (aL aN (by rfl) B.len dD (pa1 (pv 0))))))) (ae (ai fH)) am)))
   (ac (psS 2 kd.nd (pcH y R (pa1 (pX bc (pv 0) (pv 1)))))
   (ac (aW (cy (ay (PW.pt (gP (qC (qN (pv 2))) (hZ (pcT yo (pX ag (pv 2) aa) av)))) (ae (ai (pv 2))) am)))
   (ac (ay (pcT aJ (au aP (pv 1) aa) (aL aN (by rfl) B.len dD (pa1 (pv 0)))) (ae (ai fH)) am)
   (ae (ai (aw (pa3 av (pX ag (pv 2) aa) (pX bc (pv 0) (au aP (pv 1) aa)))))))))),?_⟩
 try dsimp only[aT]
 unfold bQ at q;walk_at"n";refine⟨fun n m=>aG (m=H/\0<=i/\i<o.length/\n=[some (.ref a),some (.int i),none]),?_,?_⟩
 .walk_at"g";refine bI (fun c=> ?_) (fun c=> ?_)
  .have C:i<0:=c;rw[ME C] at q;exact zK (q _ _ (ax.refl H) rfl)
  have C:¬i<0:=c;rw[mC C] at q;walk_at"g";refine bI (fun c=> ?_) (fun c=> ?_)
  .have c2:(((o.map V.int).length:Nat):Int)<=i:=c;rw[fI] at c2;rw[Od (by lia)] at q
   exact q _ _ (ax.refl H) rfl
  .have c2:¬(((o.map V.int).length:Nat):Int)<=i:=c;rw[fI] at c2;exact⟨rfl,by lia,by lia,rfl⟩
 rintro Z1 H1 ⟨rfl,F,O,rfl⟩
 rw[mC (by lia)] at q
 obtain⟨j,rfl⟩:∃j:Nat,i=j:=NC (by first | assumption | lia)
 rw[MN] at q;have g:j<o.length:=by lia
 rw[be g] at q;dsimp only at q;have T:atI (o.map V.int) (j:Int)=some (.int o[j]):=aY (by rw[MW,be g];rfl)
 have d:=hw _ (Nm g);walk_at"g";intro v G U J
 cases ho:owi o[j] with
 | none=>
  rw[ho] at q J
  cases J
  walk_at"g";refine⟨fun _ _=>aG False,?_,fun _ _ z=>z.out.elim⟩
  walk_at"g";exact q _ _ U rfl
 | some kn=>
  obtain⟨k,X⟩:=kn;rw[ho] at q J;have u:=FB d ho;obtain⟨p,rfl,M⟩:=J;dsimp only at q;walk_at"g";refine⟨fun n m=>aG (m=G/\k=1/\n=[some (.ref a),some (.int j),some (.ref p)]),?_,?_⟩
  .walk_at"g";refine Ls (fun c=> ?_) (fun c=> ?_)
   .have C:¬k=1:=fun z=>by rw[MO ((lm k u).mpr z)] at c;cases c
    rw[mC C] at q;walk_at"g";exact q _ _ U ⟨p,rfl,M⟩
   .have C:k=1:=(lm k u).mp (by simpa using c)
    exact⟨rfl,C,rfl⟩
  rintro Z2 Y ⟨rfl,rfl,rfl⟩
  obtain⟨x,rfl⟩:=I0 ho;rw[ME rfl] at q;walk_at"g";refine bI (fun c=> ?_) (fun c=> ?_)
  .have C:(j:Int)+1=(((o.map V.int).length:Nat):Int):=by injection c
   rw[fI] at C;rw[Od (by lia)] at q
   exact q _ _ U rfl
  .have C:¬(j:Int)+1=(((o.map V.int).length:Nat):Int):=fun z=>c (Ng V.int z)
   rw[fI] at C;have I:j+1<o.length:=by lia
   rw[be I] at q;have S:atI (o.map V.int) ((j:Int)+1)=some (.int o[j+1]):=aY (j:=j+1) (by rw[MW,be I];rfl)
   walk_at"g";intro r b;exact q _ _ (bK b U) ⟨r,rfl,SqT.of ad⟩
def aI(bx o:Int)(k:Nat)(ns:List Int):Prop:=
 (k=0/\ns=[])\/(k=1/\∃a v,ns=[a,v]/\0<=a/\a<bx/\0<=v/\v<4294967296)\/(2<=k/\k<=9/\∃a b c,ns=[a,b,c]/\0<=a/\a<bx/\0<=b/\b<bx/\0<=c/\c<bx)\/
 (10<=k/\k<=12/\∃a b n,ns=[a,b,n]/\0<=a/\a<bx/\0<=b/\b<bx/\ -131072<=n/\n<131072)\/((k=13\/k=18)/\∃n,ns=[n]/\0<=n/\n<o)\/(k=14/\∃a n,ns=[a,n]/\0<=a/\a<bx/\0<=n/\n<o)\/
 (k=15/\∃b,ns=[b]/\0<=b/\b<bx)\/((k=16\/k=17)/\∃a b,ns=[a,b]/\0<=a/\a<bx/\0<=b/\b<bx)
theorem D0:∀k,k<19->∀j,j<19->k≠j->¬V.str (bf k)=V.str (bf j):=by decide +kernel
theorem L4(w:Int):0<=gw "a" w/\gw "a" w<8:=by
 have e:gw "a" w=w / 16777216 %8:=rfl
 lia
theorem L8(w:Int):0<=gw "b" w/\gw "b" w<8:=by
 have e:gw "b" w=w / 2097152 %8:=rfl
 lia
theorem Mq(w:Int):0<=gw "c" w/\gw "c" w<8:=by
 have e:gw "c" w=w / 262144 %8:=rfl
 lia
theorem Mr(w:Int):0<=gw "n" w/\gw "n" w<262144:=by
 have e:gw "n" w=w %262144:=rfl
 lia
theorem Mp(w:Int): -131072<=gw "move" w/\gw "move" w<131072:=by
 have e:gw "move" w=if w %262144<131072 then w %262144 else w %262144 - 262144:=rfl
 rw[e]
 split <;> lia
theorem CN{ws:List Int}{i:Int}{k:Nat}{ns:List Int}(hw:∀x∈ws,0<=x/\x<4294967296)(h:bQ ws i=some (k,ns)):aI 8 262144 k ns:=by
 unfold bQ at h
 split at h
 .cases h
 .split at h
  .cases h
  .rename_i wd hwd
   split at h
   .cases h
   .rename_i k' ns' ho
    have g:=(hw wd (MD hwd)).1;have j:=FB g ho;have o:ns'=(aQ k').map fun f=>gw f wd:=by
     unfold owi at ho
     split at ho
     .cases ho
     .split at ho
      .have e:=MR ho;have d:=Ng Prod.fst e;have a:=Ng Prod.snd e;dsimp only at d a;rw[<- d, <-a]
      .cases ho
    have C:=L4 wd;have I:=L8 wd;have b:=Mq wd;have J:=Mr wd;have c:=Mp wd
    by_cases U:k'=1
    .rw[ME U] at h;subst U
     split at h
     .cases h
     .rename_i v hv
      cases h
      have e:ns'=[gw "a" wd]:=o;have v2:=hw v (MD hv);exact .inr (.inl ⟨rfl,_,_,rfl,by rw[e];exact C.1,by rw[e];exact C.2,v2.1,v2.2⟩)
    .rw[mC U] at h
     cases h
     obtain rfl | rfl | rfl | rfl | rfl | rfl | rfl | rfl | rfl | rfl | rfl | rfl | rfl | rfl | rfl | rfl | rfl | rfl:k=0\/k=2\/k=3\/k=4\/k=5\/k=6\/k=7\/k=8\/k=9\/k=10\/k=11\/k=12\/k=13\/k=14\/k=15\/k=16\/k=17\/k=18:=(show ∀k<19, ¬k=1->k=0\/k=2\/k=3\/k=4\/k=5\/k=6\/k=7\/k=8\/k=9\/k=10\/k=11\/k=12\/k=13\/k=14\/k=15\/k=16\/k=17\/k=18 by set_option synthInstance.maxSize 4000 in decide) k j (by assumption)
     .exact .inl ⟨rfl,o⟩
     iterate 8 exact .inr (.inr (.inl ⟨by decide,by decide,_,_,_,o,C.1,C.2,I.1,I.2,b.1,b.2⟩))
     iterate 3 exact .inr (.inr (.inr (.inl ⟨by decide,by decide,_,_,_,o,C.1,C.2,I.1,I.2,c.1,c.2⟩)))
     .exact .inr (.inr (.inr (.inr (.inl ⟨.inl rfl,_,o,J.1,J.2⟩))))
     .exact .inr (.inr (.inr (.inr (.inr (.inl ⟨rfl,_,_,o,C.1,C.2,J.1,J.2⟩)))))
     .exact .inr (.inr (.inr (.inr (.inr (.inr (.inl ⟨rfl,_,o,I.1,I.2⟩))))))
     .exact .inr (.inr (.inr (.inr (.inr (.inr (.inr ⟨.inl rfl,_,_,o,C.1,C.2,I.1,I.2⟩))))))
     .exact .inr (.inr (.inr (.inr (.inr (.inr (.inr ⟨.inr rfl,_,_,o,C.1,C.2,I.1,I.2⟩))))))
     .exact .inr (.inr (.inr (.inr (.inl ⟨.inr rfl,_,o,J.1,J.2⟩))))
abbrev Tr(H:Hp)(a:Addr)(s:SpM.Span):Prop:=H a=some (.tup [.int s.lo,.int s.hi,.int s.z])
def qS:Sp:=fun J H Q _=>∃(I C:Int) (z:Nat),J=[.int I,.int C,.int z]/\∀p o,ax H o->Tr o p (SpM.settled I C z)->Q (.ref p) o
theorem Da{lo o:Int}{z:Nat}(h:lo=o):SpM.settled lo o z=SpM.single lo:=ME h
theorem DD{lo o:Int}{z:Nat}(h:lo≠o):SpM.settled lo o z=⟨lo,o,z⟩:=mC h
theorem sw(a b:Nat):(if (b:Int)<(a:Int) then(b:Int) else(a:Int))=((min a b:Nat):Int):=by split <;> lia
theorem IG(a b:Nat):(if (b:Int) >(a:Int) then(b:Int) else(a:Int))=((max a b:Nat):Int):=by split <;> lia
theorem IU(a b:Int):(if b<a then b else a)=min a b:=by split <;> lia
theorem I_(a b:Int):(if b >a then b else a)=max a b:=by split <;> lia
theorem A4{lo o:Int}{z:Nat}(h:lo<0\/4294967296<=o):SpM.kept lo o z=SpM.all z:=ME h
theorem Jg{lo o:Int}{z:Nat}(h:¬(lo<0\/4294967296<=o)):SpM.kept lo o z=SpM.settled lo o z:=mC h
def tq:Sp:=fun C H Q _=>C=[]/\∀p o,ax H o->Tr o p SpM.whole->Q (.ref p) o
def F7:Sp:=fun C H Q _=>∃z:Nat,C=[.int z]/\z<=32/\∀p o,ax H o->Tr o p (SpM.all z)->Q (.ref p) o
def ln:Sp:=fun C H Q _=>∃v:Int,C=[.int v]/\∀p o,ax H o->Tr o p (SpM.single v)->Q (.ref p) o
def A2(K:Frag):Sp:=fun o H Q _=>∃(a:Addr) (s:SpM.Span),o=[.ref a]/\Tr H a s/\Q (.bl (decide (s.lo=s.hi))) H
def wJ:Sp:=fun J H Q _=>∃(I C:Int) (z:Nat),J=[.int I,.int C,.int z]/\z<=32/\∀p o,ax H o->Tr o p (SpM.kept I C z)->Q (.ref p) o
def nc(g:SpM.Span->SpM.Span->SpM.Span):Sp:=fun C H Q _=>∃(a b:Addr) (l r:SpM.Span),C=[.ref a,.ref b]/\Tr H a l/\Tr H b r/\SpM.Sv l/\SpM.Sv r/\∀p o,ax H o->Tr o p (g l r)->Q (.ref p) o
theorem xV(B:Bi mg)(D:tF K mg):Has P w K mg base 1 "whole_span" [] tq:=by
 refine D.has x9 (fun J H Q E h=> ?_) (fun f I A o s H J Q E U h=> ?_)
 .obtain⟨rfl,_⟩:=h
  rfl
 obtain⟨rfl,q⟩:=h;refine⟨_,(ae (ai (aw (pa3 aa (au bS (cI (v:=4294967296) (by rfl)) aa) aa)))),?_⟩
 try dsimp only[aT]
 walk_at"g";intro p C;exact q p _ (af C _) ad
theorem sj(B:Bi mg)(D:lH K mg)(C:Has P w K mg base 1 "power_of_two" nG jA):Has P w K mg base 2 "multiples_span" Ck F7:=by
 refine D.has sJ (fun I H Q E h=> ?_) (fun f U A o s H I Q E a h=> ?_)
 .obtain⟨z,rfl,_⟩:=h
  rfl
 obtain⟨z,rfl,b,q⟩:=h;refine⟨_,(ae (ai (aw (pa3 aa (au bS (cI (v:=4294967296) (by rfl)) (pcH C a (pa1 (pv 0)))) (pv 0))))),?_⟩
 try dsimp only[aT]
 walk_at"g";intro p J;exact q p _ (af J _) ad
theorem Fn(B:Bi mg)(D:BJ K mg)(C:Has P w K mg base 1 "zeros" pT v_):Has P w K mg base 2 "single" pT ln:=by
 refine D.has Fs (fun I H Q E h=> ?_) (fun f U A o s H I Q E a h=> ?_)
 .obtain⟨v,rfl,_⟩:=h
  rfl
 obtain⟨v,rfl,q⟩:=h;refine⟨_,(ae (ai (aw (pa3 (pv 0) (pv 0) (pcH C a (pa1 (pv 0))))))),?_⟩
 try dsimp only[aT]
 walk_at"g";intro p J;exact q p _ (af J _) ad
theorem Af(B:Bi mg)(D:uP K mg):Has P w K mg base 1 "is_single" uH (A2 K):=by
 refine D.has zF (fun I H Q E h=> ?_) (fun f J A C s H I Q E b h=> ?_)
 .obtain⟨a,o,rfl,_⟩:=h
  rfl
 obtain⟨a,o,rfl,U,q⟩:=h;refine⟨_,(ae (ai (pcE aJ (pX ag (pv 0) aa) (pX ag (pv 0) aa)))),?_⟩
 try dsimp only[aT]
 walk_at"g";have e:decide (V.int o.lo=V.int o.hi)=decide (o.lo=o.hi):=by
  by_cases h:o.lo=o.hi
  .rw[MO h,h,MO rfl]
  .rw[MG h,MG (fun z=>h (by injection z))]
 rw[<- e] at q;exact q
theorem vf(B:Bi mg)(D:oB K mg)(d:Has P w K mg base 2 "single" pT ln):Has P w K mg base 3 "settled_span" gO qS:=by
 refine D.has vo (fun a H Q E h=> ?_) (fun f e A I s H a Q E g h=> ?_)
 .obtain⟨C,o,z,rfl,_⟩:=h
  rfl
 obtain⟨C,o,z,rfl,q⟩:=h
 refine⟨_,(ac (ay (pcT aJ (pv 0) (pv 1)) (ae (ai (pcH d g (pa1 (pv 0))))) am)
   (ae (ai (aw (pa3 (pv 0) (pv 1) (pv 2)))))),?_⟩
 try dsimp only[aT]
 walk_at"g";refine bI (fun c=> ?_) (fun c=> ?_)
 .have c':C=o:=by injection c
  walk_at"g";intro p i J U;exact q p _ J (by rw[Da c'];exact U)
 .have c':C≠o:=fun z=>c (by rw[z])
  walk_at"g";intro p b;exact q p _ (af b _) (by rw[DD c'];exact ad)
theorem zD(B:Bi mg)(D:uV K mg)(e:Has P w K mg base 2 "multiples_span" Ck F7)(d:Has P w K mg base 3 "settled_span" gO qS):Has P w K mg base 4 "kept_span" gO wJ:=by
 refine D.has Ap (fun c H Q E h=> ?_) (fun f g A U s H c Q E b h=> ?_)
 .obtain⟨J,I,z,rfl,_⟩:=h
  rfl
 obtain⟨J,I,z,rfl,m,q⟩:=h
 refine⟨_,(ac (aW (cy (ay (PW.pt (gP (pcT kh (pv 0) aa) (hZ (pcT nh (pv 1) (cI (v:=4294967296) (by rfl)))))) (ae (ai (pcH e b (pa1 (pv 2))))) am)))
   (ae (ai (pcH d b (pa3 (pv 0) (pv 1) (pv 2)))))),?_⟩
 try dsimp only[aT]
 walk_at"n";refine⟨fun j i=>aG (i=H/\j=[some (.int J),some (.int I),some (.int z)]/\¬(J<0\/4294967296<=I)),?_,?_⟩
 .walk_at"g";refine bI (fun c1=> ?_) (fun c1=> ?_)
  .apply zK
   walk_at"g";intro p a o C;exact q p _ o (by rw[A4 (Or.inl c1)];exact C)
  .walk_at"g";refine bI (fun c2=> ?_) (fun c2=> ?_)
   .walk_at"g";intro p a o C;exact q p _ o (by rw[A4 (Or.inr c2)];exact C)
   .exact⟨rfl,rfl,fun h=>h.elim c1 c2⟩
 .rintro Z1 a ⟨rfl,rfl,hc⟩
  walk_at"g";intro p n o C;exact q p _ o (by rw[Jg hc];exact C)
theorem BU(B:Bi mg)(D:w_ K mg)(I:Has P w K mg base 4 "kept_span" gO wJ):Has P w K mg base 5 "add_span" cX (nc SpM.addS):=by
 refine D.has Cr (fun J H Q E h=> ?_) (fun f U A o s H J Q E c h=> ?_)
 .obtain⟨a,b,l,r,rfl,_⟩:=h
  rfl
 obtain⟨a,b,l,r,rfl,g,d,C,i,q⟩:=h;refine⟨_,(ae (ai (pcH I c (pa3 (au aP (pX ag (pv 0) aa) (pX ag (pv 1) aa)) (au aP (pX ag (pv 0) aa) (pX ag (pv 1) aa)) (aL (gv (by rfl)) (by rfl) B.min pA (pa2 (pX ag (pv 0) aa) (pX ag (pv 1) aa))))))),?_⟩
 try dsimp only[aT]
 have e:min l.z r.z<=32:=by have:=C.zz;lia
 walk_at"g";dsimp only;rw[sw];walk_at"g";exact q
theorem Cd(B:Bi mg)(D:wx K mg)(I:Has P w K mg base 4 "kept_span" gO wJ):Has P w K mg base 5 "sub_span" cX (nc SpM.subS):=by
 refine D.has BL (fun J H Q E h=> ?_) (fun f U A o s H J Q E c h=> ?_)
 .obtain⟨a,b,l,r,rfl,_⟩:=h
  rfl
 obtain⟨a,b,l,r,rfl,g,d,C,i,q⟩:=h;refine⟨_,(ae (ai (pcH I c (pa3 (au bS (pX ag (pv 0) aa) (pX ag (pv 1) aa)) (au bS (pX ag (pv 0) aa) (pX ag (pv 1) aa)) (aL (gv (by rfl)) (by rfl) B.min pA (pa2 (pX ag (pv 0) aa) (pX ag (pv 1) aa))))))),?_⟩
 try dsimp only[aT]
 have e:min l.z r.z<=32:=by have:=C.zz;lia
 walk_at"g";dsimp only;rw[sw];walk_at"g";exact q
theorem t5(x:Int):x %2^5=(((x %32).toNat:Nat):Int):=by show x %32=_;lia
theorem BG(x:Int):(x %32).toNat<=64:=by lia
theorem Jl(x:Int):(x %32).toNat<=31:=by lia
theorem wP{t:Nat}(h:t<=31): -(2^64)<(2:Int)^t/\(2:Int)^t<2^64:=by
 have C:=SpM.pp t;have o:=SpM.ple (show t<=32 by lia)
 rw[SpM.p32] at o
 lia
theorem DU{t:Nat}(h:t<=64):DV 0 ((2:Int)^t):=⟨SpM.pp t,SpM.ple (by lia)⟩
noncomputable def nm8:SpM.Op8->Str
 | .add=>"add" | .sub=>"sub" | .and=>"and" | .or=>"or" | .xor=>"xor" | .less=>"less" | .left=>"left" | .right=>"right"
def J0:Sp:=fun C H Q _=>∃(o:SpM.Op8) (b c:Int),C=[.str (nm8 o),.int b,.int c]/\Q (.int (SpM.jv o b c)) H
def KW:Sp:=fun I H Q _=>∃(a b:Addr) (C:Int) (l r:SpM.Span),I=[.ref a,.ref b,.int C]/\Tr H a l/\Tr H b r/\SpM.Sv l/\SpM.Sv r/\∀p o,ax H o->Tr o p (SpM.orS l r C)->Q (.ref p) o
def Lc:Sp:=fun I H Q _=>∃(o:SpM.Op8) (a b:Addr) (l r:SpM.Span),I=[.str (nm8 o),.ref a,.ref b]/\Tr H a l/\Tr H b r/\SpM.Sv l/\SpM.Sv r/\∀p C,ax H C->Tr C p (SpM.jS o l r)->Q (.ref p) C
def Ft:Sp:=fun C H Q _=>∃(a:Addr) (n:Int) (l:SpM.Span),C=[.ref a,.int n]/\Tr H a l/\SpM.Sv l/\∀p o,ax H o->Tr o p (SpM.moreS l n)->Q (.ref p) o
theorem vI(B:Bi mg)(D:pz K mg)(a:Has P w K mg base 1 "power_of_two" nG jA)(I:Has P w K mg base 2 "rest" lJ i8):Has P w K mg base 3 "joined_value" Fd J0:=by
 refine D.has nv (fun d H Q E h=> ?_) (fun f g A U s H d Q E C h=> ?_)
 .obtain⟨o,b,c,rfl,_⟩:=h
  rfl
 obtain⟨o,b,c,rfl,q⟩:=h
 refine⟨_,(ac (ay (pcT aJ (pv 0) av) (ae (ai (pcH I C (pa2 (au aP (pv 1) (pv 2)) aa)))) am)
   (ac (ay (pcT aJ (pv 0) av) (ae (ai (pcH I C (pa2 (au bS (pv 1) (pv 2)) aa)))) am)
   (ac (ay (pcT aJ (pv 0) av) (ae (ai (au JX (pv 1) (pv 2)))) am)
   (ac (ay (pcT aJ (pv 0) av) (ae (ai (au LD (pv 1) (pv 2)))) am)
   (ac (ay (pcT aJ (pv 0) av) (ae (ai (au Kw (pv 1) (pv 2)))) am)
   (ac (ay (pcT aJ (pv 0) av) (ae (ai (oF (pcT kh (pv 1) (pv 2)) aa aa))) am)
   (ac (psS 3 nv.nd (pcH a C (pa1 (pcH I C (pa2 (pv 2) aa)))))
   (ac (ay (pcT aJ (pv 0) av) (ae (ai (pcH I C (pa2 (au cG (pv 1) (pv 3)) aa)))) am)
   (ae (ai (au fR (pv 1) (pv 3)))))))))))),?_⟩
 try dsimp only[aT]
 have i:=wP (Jl c);have hd:=DU (BG c);have j:=BG c
 cases o
 all_goals dsimp only[nm8]
 .walk_at"g";walk_at"wd";exact q
 .walk_at"g";walk_at"wd";exact q
 .walk_at"g";walk_at"wd";exact q
 .walk_at"g";walk_at"wd";exact q
 .walk_at"g";walk_at"wd";exact q
 .walk_at"g";walk_at"wd";refine bI (fun J=> ?_) (fun J=> ?_)
  .have e:SpM.jv .less b c=1:=ME J;rw[e] at q;exact q
  .have e:SpM.jv .less b c=0:=mC J;rw[e] at q;exact q
 .walk_at"g";walk_at"wd";rw[t5];walk_at"g";walk_at"wd";exact q
 .walk_at"g";walk_at"wd";rw[t5];walk_at"g";walk_at"wd";exact q
theorem CG(B:Bi mg)(D:wE K mg)(J:Has P w K mg base 2 "rest" lJ i8)(U:Has P w K mg base 3 "settled_span" gO qS):Has P w K mg base 4 "and_span" cX (nc SpM.andS):=by
 refine D.has pi (fun c H Q E h=> ?_) (fun f d A o s H c Q E C h=> ?_)
 .obtain⟨a,b,l,r,rfl,_⟩:=h
  rfl
 obtain⟨a,b,l,r,rfl,j,g,I,e,q⟩:=h
 refine⟨_,(ac (psS 2 pi.nd (aL (uh (by rfl)) (by rfl) B.max Ax (pa2 (pX ag (pv 0) aa) (pX ag (pv 1) aa))))
   (ac (psS 3 pi.nd (aL (gv (by rfl)) (by rfl) B.min pA (pa2 (pX ag (pv 0) aa) (pX ag (pv 1) aa))))
   (ae (ai (pcH U C (pa3 aa (au bS (pv 3) (pcH J C (pa2 (pv 3) (pv 2)))) (pv 2))))))),?_⟩
 try dsimp only[aT]
 have i:max l.z r.z<=64:=by have:=I.zz;have:=e.zz;lia
 walk_at"g";rw[IG,IU];walk_at"g";exact q
theorem Dc(B:Bi mg)(D:yK K mg)(v:Has P w K mg base 1 "power_of_two" nG jA)(F:Has P w K mg base 3 "settled_span" gO qS):Has P w K mg base 4 "or_span" Cj KW:=by
 refine D.has mS (fun y H Q E h=> ?_) (fun f G A i s H y Q E n h=> ?_)
 .obtain⟨a,b,c,l,r,rfl,_⟩:=h
  rfl
 obtain⟨a,b,c,l,r,rfl,O,M,g,L,q⟩:=h
 refine⟨_,(ac (psS 3 mS.nd (aL (gv (by rfl)) (by rfl) B.min pA (pa2 (pX ag (pv 0) aa) (pX ag (pv 1) aa))))
   (ac (psS 4 mS.nd (pcH v n (pa1 (pv 3))))
   (ac (aW (lB M7 (PW.pt (gP (pcT nh (pX ag (pv 0) aa) (pv 4)) (hZ (pcT nh (pX ag (pv 1) aa) (pv 4))))) (ae (psS 4 mS.nd (au cG (pv 4) aa)))))
   (ae (ai (pcH F n (pa3 (pv 2) (au bS (pv 4) (pcH v n (pa1 (pv 3)))) (pv 3)))))))),?_⟩
 try dsimp only[aT]
 have N:min l.z r.z<=64:=by have:=g.zz;lia
 have x:min l.z r.z<=32:=by have:=g.zz;lia
 have T:=g.hW;have S:=L.hW;walk_at"g";rw[sw];walk_at"g";refine⟨fun m Z d=>d=H/\∃j,j+m=min l.z r.z+33/\SpM.jf l.hi r.hi (min l.z r.z)=SpM.jst l.hi r.hi m j/\Z=[some (.ref a),some (.ref b),some (.int c),some (.int (min l.z r.z:Nat)),some (.int (2^j))],⟨33,rfl,_,rfl,rfl,rfl⟩,?_⟩
 rintro m Z d ⟨rfl,j,R,p,rfl⟩
 have big:m=0->(4294967296:Int)<2^j:=fun h=>by
  have:=SpM.plt (show 32<j by lia)
  rw[SpM.p32] at this;exact this
 have next:((2:Int)^j<=l.hi\/(2:Int)^j<=r.hi)->∃o,m=o+1/\SpM.jf l.hi r.hi (min l.z r.z)=SpM.jst l.hi r.hi o (j+1):=fun I=>by
  cases m with
  | zero=>have:=big rfl;lia
  | succ o=>
   refine⟨o,rfl,?_⟩
   rw[p];show(if _ then _ else _)=_
   rw[ME I]
 have J:¬((2:Int)^j<=l.hi\/(2:Int)^j<=r.hi)->SpM.jf l.hi r.hi (min l.z r.z)=j:=fun I=>by
  rw[p]
  cases m with
  | zero=>rfl
  | succ o=>
   show(if _ then _ else _)=_
   rw[mC I]
 have turn:((2:Int)^j<=l.hi\/(2:Int)^j<=r.hi)->∃o,o<m/\(o=m - 1)/\SpM.jf l.hi r.hi (min l.z r.z)=SpM.jst l.hi r.hi o (j+1):=fun I=>by
  obtain⟨o,e,h⟩:=next I;exact⟨o,by lia,by lia,h⟩
 have u:(2:Int)^j*2=2^(j+1):=(PH _ _).symm;walk_at"g";refine bI (fun c1=> ?_) (fun c1=> ?_)
 .obtain⟨o,h1,h2,h3⟩:=turn (Or.inl c1);apply zK
  walk_at"n";refine⟨fun U C=>aG (C=d/\U=[some (.ref a),some (.ref b),some (.int c),some (.int (min l.z r.z:Nat)),some (.int (2^(j+1)))]),fun U C h=>⟨o,h1,h.out.1,j+1,by lia,h3,h.out.2⟩,?_⟩
  walk_at"g";dsimp only;rw[u];exact⟨rfl,rfl⟩
 .walk_at"g";refine bI (fun c2=> ?_) (fun c2=> ?_)
  .obtain⟨o,h1,h2,h3⟩:=turn (Or.inr c2);walk_at"n";refine⟨fun U C=>aG (C=d/\U=[some (.ref a),some (.ref b),some (.int c),some (.int (min l.z r.z:Nat)),some (.int (2^(j+1)))]),fun U C h=>⟨o,h1,h.out.1,j+1,by lia,h3,h.out.2⟩,?_⟩
   walk_at"g";dsimp only;rw[u];exact⟨rfl,rfl⟩
  .have e3:=J (fun h=>h.elim c1 c2)
   walk_at"g";unfold SpM.orS at q;rw[e3] at q;exact q
theorem y6(B:Bi mg)(D:uF K mg)(C:Has P w K mg base 2 "single" pT ln):Has P w K mg base 3 "less_span" cX (nc SpM.lessS):=by
 refine D.has zI (fun J H Q E h=> ?_) (fun f c A o s H J Q E I h=> ?_)
 .obtain⟨a,b,l,r,rfl,_⟩:=h
  rfl
 obtain⟨a,b,l,r,rfl,g,d,e,i,q⟩:=h
 refine⟨_,(ac (ay (pcT kh (pX ag (pv 0) aa) (pX ag (pv 1) aa)) (ae (ai (pcH C I (pa1 aa)))) am)
   (ac (ay (pcT nh (pX ag (pv 0) aa) (pX ag (pv 1) aa)) (ae (ai (pcH C I (pa1 aa)))) am)
   (ae (ai (aw (cN (by rfl))))))),?_⟩
 try dsimp only[aT]
 unfold SpM.lessS at q;walk_at"g";refine bI (fun c1=> ?_) (fun c1=> ?_)
 .rw[ME c1] at q;walk_at"g";exact q
 .rw[mC c1] at q;walk_at"g";refine bI (fun c2=> ?_) (fun c2=> ?_)
  .rw[ME c2] at q;walk_at"g";exact q
  .rw[mC c2] at q;walk_at"g";intro p U;exact q p _ (af U _) ad
theorem zA(B:Bi mg)(D:uD K mg)(j:Has P w K mg base 1 "is_single" uH (A2 K))(J:Has P w K mg base 1 "whole_span" [] tq)(d:Has P w K mg base 2 "rest" lJ i8)(U:Has P w K mg base 1 "power_of_two" nG jA)
  (I:Has P w K mg base 4 "kept_span" gO wJ):Has P w K mg base 5 "left_span" cX (nc SpM.leftS):=by
 refine D.has mD (fun g H Q E h=> ?_) (fun f i A C s H g Q E o h=> ?_)
 .obtain⟨a,b,l,r,rfl,_⟩:=h
  rfl
 obtain⟨a,b,l,r,rfl,u,m,n,y,q⟩:=h
 refine⟨_,(ac (ay (ip (eL (pcH j o (pa1 (pv 1))))) (ae (ai (jp (J.mono (by omega)) o (by rfl)))) am)
   (ac (psS 2 mD.nd (pcH d o (pa2 (pX ag (pv 1) aa) aa)))
   (ac (psS 3 mD.nd (pcH U o (pa1 (pv 2))))
   (ae (ai (pcH I o (pa3 (au cG (pX ag (pv 0) aa) (pv 3)) (au cG (pX ag (pv 0) aa) (pv 3)) (aL (gv (by rfl)) (by rfl) B.min pA (pa2 aa (au aP (pX ag (pv 0) aa) (pv 2))))))))))),?_⟩
 try dsimp only[aT]
 have v:=wP (Jl r.lo);have x:=BG r.lo;have p:min 32 (l.z+(r.lo %32).toNat)<=32:=by lia
 unfold SpM.leftS at q;walk_at"g"
 by_cases c:r.lo=r.hi
 .rw[ME c] at q;rw[MO c];walk_at"g";rw[t5];walk_at"g";have e:(if ((l.z:Int)+((r.lo %32).toNat:Nat))<32 then((l.z:Int)+((r.lo %32).toNat:Nat)) else 32)=((min 32 (l.z+(r.lo %32).toNat):Nat):Int):=by split <;> lia
  rw[e];walk_at"g";exact q
 .rw[mC c] at q;rw[MG c];walk_at"g";exact q
theorem x_(B:Bi mg)(D:tz K mg)(i:Has P w K mg base 1 "is_single" uH (A2 K))(U:Has P w K mg base 2 "rest" lJ i8)(J:Has P w K mg base 1 "power_of_two" nG jA)
  (I:Has P w K mg base 3 "settled_span" gO qS):Has P w K mg base 4 "right_span" cX (nc SpM.rightS):=by
 refine D.has lf (fun d H Q E h=> ?_) (fun f g A C s H d Q E o h=> ?_)
 .obtain⟨a,b,l,r,rfl,_⟩:=h
  rfl
 obtain⟨a,b,l,r,rfl,n,j,m,u,q⟩:=h
 refine⟨_,(ac (ay (ip (eL (pcH i o (pa1 (pv 1))))) (ae (ai (pcH I o (pa3 aa (pX ag (pv 0) aa) aa)))) am)
   (ac (psS 2 lf.nd (pcH U o (pa2 (pX ag (pv 1) aa) aa)))
   (ac (psS 3 lf.nd (pcH J o (pa1 (pv 2))))
   (ae (ai (pcH I o (pa3 (au fR (pX ag (pv 0) aa) (pv 3)) (au fR (pX ag (pv 0) aa) (pv 3)) (aL (uh (by rfl)) (by rfl) B.max Ax (pa2 aa (au bS (pX ag (pv 0) aa) (pv 2))))))))))),?_⟩
 try dsimp only[aT]
 have hd:=DU (BG r.lo);have p:=BG r.lo;unfold SpM.rightS at q;walk_at"g"
 by_cases c:r.lo=r.hi
 .rw[ME c] at q;rw[MO c];walk_at"g";rw[t5];walk_at"g";have e:(if ((l.z:Int) - ((r.lo %32).toNat:Nat)) >0 then((l.z:Int) - ((r.lo %32).toNat:Nat)) else 0)=((l.z - (r.lo %32).toNat:Nat):Int):=by split <;> lia
  rw[e];walk_at"g";exact q
 .rw[mC c] at q;rw[MG c];walk_at"g";exact q
theorem xc(B:Bi mg)(D:qi K mg)(v:Has P w K mg base 2 "single" pT ln)(d:Has P w K mg base 1 "is_single" uH (A2 K))(F:Has P w K mg base 3 "joined_value" Fd J0)
  (g:Has P w K mg base 5 "add_span" cX (nc SpM.addS)) (j:Has P w K mg base 5 "sub_span" cX (nc SpM.subS)) (p:Has P w K mg base 4 "and_span" cX (nc SpM.andS)) (c:Has P w K mg base 4 "or_span" Cj KW)
  (u:Has P w K mg base 3 "less_span" cX (nc SpM.lessS)) (i:Has P w K mg base 5 "left_span" cX (nc SpM.leftS)) (m:Has P w K mg base 4 "right_span" cX (nc SpM.rightS)):Has P w K mg base 6 "joined_span" A1 Lc:=by
 refine D.has wZ (fun n H Q E h=> ?_) (fun f x A U s H n Q E C h=> ?_)
 .obtain⟨o,a,b,l,r,rfl,_⟩:=h
  rfl
 obtain⟨o,a,b,l,r,rfl,M,G,L,R,q⟩:=h
 refine⟨_,(ac (ay (pcT aJ (pv 0) av) (ae (ai (pcH g C (pa2 (pv 1) (pv 2))))) am)
   (ac (ay (pcT aJ (pv 0) av) (ae (ai (pcH j C (pa2 (pv 1) (pv 2))))) am)
   (ac (aW (cy (ay (PW.pt (wc (eL (pcH d C (pa1 (pv 1)))) (sE (eL (pcH d C (pa1 (pv 2))))))) (ae (ai (pcH v C (pa1 (pcH F C (pa3 (pv 0) (pX ag (pv 1) aa) (pX ag (pv 2) aa))))))) am)))
   (ac (ay (pcT aJ (pv 0) av) (ae (ai (pcH p C (pa2 (pv 1) (pv 2))))) am)
   (ac (ay (pcT aJ (pv 0) av) (ae (ai (pcH c C (pa3 (pv 1) (pv 2) (aL (uh (by rfl)) (by rfl) B.max Ax (pa2 (pX ag (pv 1) aa) (pX ag (pv 2) aa))))))) am)
   (ac (ay (pcT aJ (pv 0) av) (ae (ai (pcH c C (pa3 (pv 1) (pv 2) aa)))) am)
   (ac (ay (pcT aJ (pv 0) av) (ae (ai (pcH u C (pa2 (pv 1) (pv 2))))) am)
   (ac (ay (pcT aJ (pv 0) av) (ae (ai (pcH i C (pa2 (pv 1) (pv 2))))) am)
   (ae (ai (pcH m C (pa2 (pv 1) (pv 2))))))))))))),?_⟩
 try dsimp only[aT]
 by_cases I:o= .add
 .subst I;have e:SpM.jS .add l r=SpM.addS l r:=mC (fun h=>h.1 rfl)
  rw[e] at q;dsimp only[nm8];walk_at"g";walk_at"wd";exact q
 by_cases J:o= .sub
 .subst J;have e:SpM.jS .sub l r=SpM.subS l r:=mC (fun h=>h.2.1 rfl)
  rw[e] at q;dsimp only[nm8];walk_at"g";walk_at"wd";exact q
 have n1:V.str (nm8 o)≠V.str "add":=by cases o <;> first | exact absurd rfl I | (dsimp only[nm8];decide)
 have n2:V.str (nm8 o)≠V.str "sub":=by cases o <;> first | exact absurd rfl J | (dsimp only[nm8];decide)
 walk_at"g";refine dG n1 ?_
 walk_at"g";refine dG n2 ?_
 walk_at"n";refine⟨fun z y=>aG (y=H/\z=[some (.str (nm8 o)),some (.ref a),some (.ref b)]/\SpM.jS o l r=SpM.jS0 o l r),?_,?_⟩
 .walk_at"g";refine bI (fun c1=> ?_) (fun c1=> ?_)
  .walk_at"g";refine bI (fun c2=> ?_) (fun c2=> ?_)
   .have e:SpM.jS o l r=SpM.single (SpM.jv o l.lo r.lo):=ME ⟨I,J,c1,c2⟩;rw[e] at q;walk_at"g";exact q
   .exact⟨rfl,rfl,mC (fun h=>c2 h.2.2.2)⟩
  .exact Do ⟨rfl,rfl,mC (fun h=>c1 h.2.2.1)⟩
 rintro O N ⟨rfl,rfl,e⟩
 rw[e] at q;clear n1 n2 e
 cases o
 .exact absurd rfl I
 .exact absurd rfl J
 all_goals dsimp only[nm8]
 all_goals walk_at"g"
 all_goals walk_at"wd"
 .exact q
 .rw[I_];walk_at"g";exact q
 .exact q
 .exact q
 .exact q
 .exact q
theorem zw(B:Bi mg)(D:uE K mg)(I:Has P w K mg base 1 "zeros" pT v_)(U:Has P w K mg base 4 "kept_span" gO wJ):Has P w K mg base 5 "more_span" Bp Ft:=by
 refine D.has zR (fun b H Q E h=> ?_) (fun f c A o s H b Q E C h=> ?_)
 .obtain⟨a,n,l,rfl,_⟩:=h
  rfl
 obtain⟨a,n,l,rfl,e,J,q⟩:=h;refine⟨_,(ae (ai (pcH U C (pa3 (au aP (pX ag (pv 0) aa) (pv 1)) (au aP (pX ag (pv 0) aa) (pv 1)) (aL (gv (by rfl)) (by rfl) B.min pA (pa2 (pX ag (pv 0) aa) (pcH I C (pa1 (pv 1))))))))),?_⟩
 try dsimp only[aT]
 have d:min l.z (SpM.Zn n)<=32:=by have:=J.zz;lia
 walk_at"g";rw[sw];walk_at"g";exact q
structure Pl (H:Hp) (a:Addr) (k:Nat) (b:Int) (m s:Nat) (g:Int):Prop where
 at_:H a=some (.tup [.int k,.int b,.int m,.int s,.int g])
 room:SpM.Room k b
 ms:m+s<=7
def CQ:Sp:=fun o H Q _=>∃(a:Addr) (k:Nat) (b:Int) (m s:Nat) (g v:Int),o=[.ref a,.int v]/\Pl H a k b m s g/\Q (.int (SpM.aimV m s v)) H
def JD:Sp:=fun C H Q _=>∃(a:Addr) (k:Nat) (b:Int) (m s:Nat) (g:Int) (c:Addr) (l:SpM.Span),C=[.ref a,.ref c]/\Pl H a k b m s g/\Tr H c l/\SpM.Sv l/\∀p o,ax H o->Tr o p (SpM.fitS k b l)->Q (.ref p) o
def JE:Sp:=fun C H Q _=>∃(a:Addr) (k:Nat) (b:Int) (m s:Nat) (g:Int) (c:Addr) (l:SpM.Span),C=[.ref a,.ref c]/\Pl H a k b m s g/\Tr H c l/\SpM.Sv l/\∀p o,ax H o->Tr o p (SpM.aimS m s l)->Q (.ref p) o
theorem Pl.mv{H o:Hp}{a:Addr}{k:Nat}{b:Int}{m s:Nat}{g:Int}(p:Pl H a k b m s g)(e:ax H o):Pl o a k b m s g:=⟨e _ _ p.at_,p.room,p.ms⟩
theorem zJ(B:Bi mg)(D:uK K mg)(J:Has P w K mg base 1 "power_of_two" nG jA)(U:Has P w K mg base 2 "rest" lJ i8):Has P w K mg base 3 "aim_value" wv CQ:=by
 refine D.has zM (fun c H Q E h=> ?_) (fun f e A o s H c Q E C h=> ?_)
 .obtain⟨a,k,b,m,s,g,v,rfl,_⟩:=h
  rfl
 obtain⟨a,k,b,m,i,g,v,rfl,pl,q⟩:=h;have d:=pl.at_;have I:=pl.ms;have j:=wP (t:=i) (by lia)
 refine⟨_,(ae (ai (au cG (au cG (pcH U C (pa2 (pv 1) (pX ag (pv 0) aa))) aa) (pcH J C (pa1 (pX ag (pv 0) aa)))))),?_⟩
 try dsimp only[aT]
 walk_at"g";exact q
theorem AJ(B:Bi mg)(D:xu K mg)(U:Has P w K mg base 1 "power_of_two" nG jA)(i:Has P w K mg base 2 "rest" lJ i8)(I:Has P w K mg base 1 "zeros" pT v_)
  (n:Has P w K mg base 3 "settled_span" gO qS):Has P w K mg base 4 "fit_span" qz JD:=by
 refine D.has ki (fun j H Q E h=> ?_) (fun f r A C s H j Q E o h=> ?_)
 .obtain⟨a,k,b,m,s,g,c,l,rfl,_⟩:=h
  rfl
 obtain⟨a,k,b,m,L,g,c,l,rfl,pl,d,J,q⟩:=h;have p:=pl.at_;have x:=pl.room.k20;have y:min l.z (SpM.Zn b)<=64:=by have:=J.zz;lia
 refine⟨_,(ac (psS 2 ki.nd (pX ag (pv 0) aa))
   (ac (psS 3 ki.nd (pcH U o (pa1 (pX ag (pv 0) aa))))
   (ac (aW (cy (ay (PW.pt (wc (pcT F6 (pv 2) (pX ag (pv 1) aa)) (sE (pcT kh (pX ag (pv 1) aa) (au aP (pv 2) (pv 3)))))) (ae (ai (pv 1))) am)))
   (ac (psS 4 ki.nd (aL (gv (by rfl)) (by rfl) B.min pA (pa2 (pX ag (pv 1) aa) (pcH I o (pa1 (pv 2))))))
   (ae (ai (pcH n o (pa3 (pv 2) (au bS (au bS (au aP (pv 2) (pv 3)) aa) (pcH i o (pa2 (au bS (pv 3) aa) (pv 4)))) (pv 4))))))))),?_⟩
 try dsimp only[aT]
 unfold SpM.fitS at q;walk_at"g";refine⟨fun v u=>aG (u=H/\v=[some (.ref a),some (.ref c),some (.int b),some (.int (2^k)),none]/\¬(b<=l.lo/\l.hi<b+2^k)),?_,?_⟩
 .walk_at"g";refine bI (fun c1=> ?_) (fun c1=> ?_)
  .walk_at"g";refine bI (fun c2=> ?_) (fun c2=> ?_)
   .rw[ME ⟨c1,c2⟩] at q;walk_at"g";exact q _ _ (ax.refl _) d
   .exact⟨rfl,rfl,fun h=>c2 h.2⟩
  .exact Do ⟨rfl,rfl,fun h=>c1 h.1⟩
 rintro G F ⟨rfl,rfl,e⟩
 rw[mC e] at q;walk_at"g";rw[sw];walk_at"g";exact q
theorem A3(B:Bi mg)(D:wY K mg)(U:Has P w K mg base 1 "power_of_two" nG jA)(j:Has P w K mg base 2 "single" pT ln)(p:Has P w K mg base 1 "is_single" uH (A2 K))(I:Has P w K mg base 3 "aim_value" wv CQ)
  (d:Has P w K mg base 3 "settled_span" gO qS):Has P w K mg base 4 "aim_span" qz JE:=by
 refine D.has uZ (fun e H Q E h=> ?_) (fun f n A C s H e Q E o h=> ?_)
 .obtain⟨a,k,b,m,s,g,c,l,rfl,_⟩:=h
  rfl
 obtain⟨a,k,b,m,v,g,c,l,rfl,pl,u,r,q⟩:=h;have i:=pl.at_;have J:=pl.ms;have hm:m<=64:=by lia
 refine⟨_,(ac (ay (eL (pcH p o (pa1 (pv 1)))) (ae (ai (pcH j o (pa1 (pcH I o (pa2 (pv 0) (pX ag (pv 1) aa))))))) am)
   (ac (psS 2 uZ.nd (au bS (pcH U o (pa1 (pX ag (pv 0) aa))) aa))
   (ae (ai (pcH d o (pa3 aa (pcH I o (pa2 (pv 0) (pv 2))) (au aP (pX ag (pv 0) aa) aa))))))),?_⟩
 try dsimp only[aT]
 unfold SpM.aimS at q;walk_at"g";refine bI (fun c1=> ?_) (fun c1=> ?_)
 .rw[ME c1] at q;walk_at"g";exact q
 .rw[mC c1] at q;walk_at"g";exact q
def SpA(H:Hp):List Addr->List SpM.Span->Prop
 | [],[]=>True
 | a::as,s::ss=>Tr H a s/\SpA H as ss
 | _,_=>False
theorem SpA.mono{H C:Hp}(I:∀a xs,H a=some (.tup xs)->C a=some (.tup xs)):∀{o:List Addr}{J:List SpM.Span},SpA H o J->SpA C o J
 | [],[],_=>True.intro
 | _::_,_::_,h=>⟨I _ _ h.1,SpA.mono I h.2⟩
 | [],_::_,h=>h.elim
 | _::_,[],h=>h.elim
theorem SpA.same{H C:Hp}(e:ax H C){o:List Addr}{I:List SpM.Span}(h:SpA H o I):SpA C o I:=h.mono (fun _ _ z=>e _ _ z)
theorem SpA.len{H:Hp}:∀{o:List Addr}{C:List SpM.Span},SpA H o C->o.length=C.length
 | [],[],_=>rfl
 | _::_,_::_,h=>Ng (· +1) (SpA.len h.2)
 | [],_::_,h=>h.elim
 | _::_,[],h=>h.elim
theorem SpA.app{H:Hp}{bs:List Addr}{I:List SpM.Span}(C:SpA H bs I):∀{o:List Addr}{J:List SpM.Span},SpA H o J->SpA H (o++bs) (J++I)
 | [],[],_=>C
 | _::_,_::_,h=>⟨h.1,SpA.app C h.2⟩
 | [],_::_,h=>h.elim
 | _::_,[],h=>h.elim
theorem SpA.take{H:Hp}:∀(n:Nat) {o:List Addr}{C:List SpM.Span},SpA H o C->SpA H (o.take n) (C.take n)
 | 0,_,_,_=>True.intro
 | n+1,[],[],_=>True.intro
 | n+1,_::_,_::_,h=>⟨h.1,SpA.take n h.2⟩
 | n+1,[],_::_,h=>h.elim
 | n+1,_::_,[],h=>h.elim
theorem SpA.drop{H:Hp}:∀(n:Nat) {o:List Addr}{C:List SpM.Span},SpA H o C->SpA H (o.drop n) (C.drop n)
 | 0,_,_,h=>h
 | n+1,[],[],_=>True.intro
 | n+1,_::_,_::_,h=>SpA.drop n h.2
 | n+1,[],_::_,h=>h.elim
 | n+1,_::_,[],h=>h.elim
theorem SpA.get{H:Hp}:∀{C:List Addr}{I:List SpM.Span},SpA H C I->∀(j:Nat) s,I[j]? =some s->∃a,C[j]? =some a/\Tr H a s
 | [],[],_=>fun j o e=>by cases j <;> cases e
 | t::_,p::_,h=>fun j o e=>by
  cases j with
  | zero=>
   have J:p=o:=MR e;subst J;exact⟨t,rfl,h.1⟩
  | succ j=>exact SpA.get h.2 j o e
 | [],_::_,h=>h.elim
 | _::_,[],h=>h.elim
theorem SpA.rep{H:Hp}{a:Addr}{s:SpM.Span}(h:Tr H a s):∀n,SpA H (List.replicate n a) (List.replicate n s)
 | 0=>True.intro
 | n+1=>by
  rw[Nu,Nu];exact⟨h,SpA.rep h n⟩
structure Sp8 (sp:List SpM.Span):Prop where
 len:sp.length=8
 sv:∀s∈sp,SpM.Sv s
noncomputable def spG(sp:List SpM.Span)(i:Int):SpM.Span:=sp.getD i.toNat SpM.whole
theorem Sp8.at{sp:List SpM.Span}(h:Sp8 sp){i:Int}(C:0<=i)(I:i<8):sp[i.toNat]? =some (spG sp i)/\SpM.Sv (spG sp i):=by
 have o:i.toNat<sp.length:=by rw[h.len];lia
 have e:spG sp i=sp[i.toNat]:=by unfold spG;rw[MF,be o];rfl
 rw[e];exact⟨be o,h.sv _ (Nm o)⟩
def SpT(K:Frag)(H:Hp)(a:Addr)(sp:List SpM.Span):Prop:=∃o,SqT K H a (o.map V.ref)/\SpA H o sp
theorem SpT.same{H o:Hp}(e:ax H o){a:Addr}{sp:List SpM.Span}(h:SpT K H a sp):SpT K o a sp:=let ⟨as,h1,h2⟩:=h;⟨as,e.tup h1,h2.same e⟩
theorem SpT.at{H:Hp}{a:Addr}{sp:List SpM.Span}{o:List Addr}(h:SpA H o sp)(C:Sp8 sp){i:Int}(I:0<=i)(J:i<8):∃b,atI (o.map V.ref) i=some (.ref b)/\Tr H b (spG sp i)/\SpM.Sv (spG sp i):=by
 obtain⟨f,U⟩:=C.at I J;obtain⟨b,c,d⟩:=h.get _ _ f;refine⟨b,?_,d,U⟩
 have e:i=((i.toNat:Nat):Int):=by lia
 have q:atI (o.map V.ref) ((i.toNat:Nat):Int)=some (.ref b):=aY (by rw[MW,c];rfl)
 rw[<- e] at q;exact q
def mk8(k:Nat):Prop:=(1<=k/\k<=11)\/k=16\/k=17
noncomputable instance {k:Nat}:Decidable (mk8 k):=inferInstanceAs (Decidable (_\/_))
noncomputable def Cg:Nat->SpM.Op8
 | 2=> .add | 3=> .sub | 4=> .and | 5=> .or | 6=> .xor | 7=> .less | 8=> .left | _=> .right
theorem JK:∀k,2<=k->k<=9->bf k=nm8 (Cg k):=by
 intro k C o;obtain rfl | rfl | rfl | rfl | rfl | rfl | rfl | rfl:k=2\/k=3\/k=4\/k=5\/k=6\/k=7\/k=8\/k=9:=by lia
 all_goals rfl
noncomputable def lZ(pk:Nat)(pb:Int)(pm ps:Nat)(k:Nat)(ns:List Int)(sp:List SpM.Span):SpM.Span:=
 if k=1 then SpM.single (ns.getD 1 0) else if k=11 then SpM.whole else if k=10 then SpM.moreS (spG sp (ns.getD 1 0)) (ns.getD 2 0) else if k=16 then SpM.fitS pk pb (spG sp (ns.getD 1 0)) else if k=17 then SpM.aimS pm ps (spG sp (ns.getD 1 0))
 else SpM.jS (Cg k) (spG sp (ns.getD 1 0)) (spG sp (ns.getD 2 0))
noncomputable def wb(pk:Nat)(pb:Int)(pm ps:Nat)(k:Nat)(ns:List Int)(sp:List SpM.Span):List SpM.Span:=
 if k=18 then List.replicate 7 SpM.whole++[spG sp 7] else if mk8 k then sp.set (ns.getD 0 0).toNat (lZ pk pb pm ps k ns sp) else sp
def HC(pk:Nat)(pb:Int)(ns:List Int)(sp:List SpM.Span):Prop:=(spG sp (ns.getD 1 0)).lo+ns.getD 2 0<pb\/pb+2^pk<=(spG sp (ns.getD 1 0)).hi+ns.getD 2 0
noncomputable instance {pk:Nat}{pb:Int}{ns:List Int}{sp:List SpM.Span}:Decidable (HC pk pb ns sp):=inferInstanceAs (Decidable (_\/_))
theorem sne{k j:Nat}(o:k<19)(C:j<19)(h:k≠j):V.str (bf k)≠V.str (bf j):=D0 k o j C h
theorem seq{k j:Nat}(o:k<19)(C:j<19)(h:V.str (bf k)=V.str (bf j)):k=j:=by
 by_cases e:k=j
 .exact e
 .exact absurd h (D0 k o j C e)
theorem aI.lt{nb c:Int}{k:Nat}{ns:List Int}(h:aI nb c k ns):k<19:=by
 rcases h with⟨rfl,rfl⟩|⟨rfl,x,v,rfl,o,C,v0,v1⟩|⟨U,b,x,y,z,rfl,o,C,J,I,z0,z1⟩|⟨U,b,x,y,z,rfl,o,C,J,I,z0,z1⟩|⟨a,z,rfl,z0,z1⟩|⟨rfl,x,z,rfl,o,C,z0,z1⟩|⟨rfl,y,rfl,J,I⟩|⟨a,x,y,rfl,o,C,J,I⟩
 all_goals lia
theorem EF{pk:Nat}{pb:Int}{pm ps k:Nat}{ns:List Int}{sp:List SpM.Span}(f:SpM.Room pk pb)(a:pm+ps<=7)(d:aI 8 262144 k ns)(hm:mk8 k)(J:Sp8 sp):SpM.Sv (lZ pk pb pm ps k ns sp):=by
 unfold mk8 at hm;unfold lZ;rcases d with⟨rfl,rfl⟩|⟨rfl,x,v,rfl,I,U,v0,v1⟩|⟨c,e,x,y,z,rfl,I,U,C,o,z0,z1⟩|⟨c,e,x,y,z,rfl,I,U,C,o,z0,z1⟩|⟨b,z,rfl,z0,z1⟩|⟨rfl,x,z,rfl,I,U,z0,z1⟩|⟨rfl,y,rfl,C,o⟩|⟨b,x,y,rfl,I,U,C,o⟩
 .lia
 .exact SpM.Sv_single v0 v1
 .rw[mC (by lia),mC (by lia),mC (by lia),mC (by lia),mC (by lia)]
  exact SpM.Sv_j _ (J.at C o).2 (J.at z0 z1).2
 .obtain rfl | rfl:k=10\/k=11:=by lia
  .exact SpM.Sv_more (J.at C o).2 _
  .exact SpM.Sv_whole
 .lia
 .lia
 .lia
 .rcases b with rfl | rfl
  .exact SpM.Sv_fit f (J.at C o).2
  .exact SpM.Sv_aim a _
theorem Sp8.set{sp:List SpM.Span}(h:Sp8 sp){i:Nat}{s:SpM.Span}(hs:SpM.Sv s):Sp8 (sp.set i s):=
 ⟨by rw[PQ];exact h.len,fun x o=>by
  rcases O6 o with o | o
  .exact h.sv x o
  .subst o;exact hs⟩
theorem Kh{pk:Nat}{pb:Int}{pm ps k:Nat}{ns:List Int}{sp:List SpM.Span}(I:SpM.Room pk pb)(C:pm+ps<=7)(J:aI 8 262144 k ns)(o:Sp8 sp):Sp8 (wb pk pb pm ps k ns sp):=by
 unfold wb
 split
 .refine⟨rfl,fun s hs=> ?_⟩
  rcases MZ.mp hs with hs | hs
  .rw[Pj hs];exact SpM.Sv_whole
  .have:s=spG sp 7:=by simpa using hs
   rw[this];exact(o.at (by decide) (by decide)).2
 .split
  .exact o.set (EF I C J (by assumption) o)
  .exact o
theorem C7{xs:List V}{n:Nat}:ik xs none (some (n:Int))=xs.take n:=by
 unfold ik;have o:HT.sIx xs.length 0 none=0:=rfl;rw[o,HT.sIx_nat]
 simp only[List.drop_zero,PF]
 rw[<- List.take_eq_take_min]
theorem oE{xs:List V}{n:Nat}:ik xs (some (n:Int)) none=xs.drop n:=by
 unfold ik;have o:HT.sIx xs.length xs.length none=xs.length:=rfl;rw[o,HT.sIx_nat]
 by_cases h:n<=xs.length
 .rw[OQ h];exact OB (by rw[Ni];exact MC _)
 .rw[Nat.min_eq_right (by lia),Oc (MC _),Oc (by lia)]
  exact List.take_nil
structure Tb2 (K:Frag) (mg:Str->Option Value):Prop where
 none_:∃a,mg "MAKING_NONE"=some (.ref a)/\gx K a [.str "stop",.str "store",.str "jump",.str "jumpif",.str "through",.str "gate"]
theorem Ex:∀k,k<19->inV (.str (bf k)) [.str "stop",.str "store",.str "jump",.str "jumpif",.str "through",.str "gate"]=decide (¬ mk8 k):=by decide +kernel
theorem yv{k:Nat}{ns:List Int}(h:aI 8 262144 k ns)(hm:mk8 k):∃x r,ns=x::r/\0<=x/\x<8:=by
 unfold mk8 at hm;rcases h with⟨rfl,rfl⟩|⟨rfl,x,v,rfl,o,C,v0,v1⟩|⟨U,b,x,y,z,rfl,o,C,J,I,z0,z1⟩|⟨U,b,x,y,z,rfl,o,C,J,I,z0,z1⟩|⟨a,z,rfl,z0,z1⟩|⟨rfl,x,z,rfl,o,C,z0,z1⟩|⟨rfl,y,rfl,J,I⟩|⟨a,x,y,rfl,o,C,J,I⟩
 all_goals first | lia | exact⟨_,_,rfl,o,C⟩
def KC(K:Frag):Sp:=fun C H Q _=>∃(a:Addr) (k:Nat) (o:List Int),C=[.ref a]/\aI 8 262144 k o/\SqT K H a (aB k o)/\(mk8 k->Q (.int (o.getD 0 0)) H)/\(¬ mk8 k->Q .non H)
theorem BD(B:Bi mg)(U:Tb2 K mg)(D:xf K mg):Has P w K mg base 1 "made_box" dF (KC K):=by
 obtain⟨e,d,m⟩:=U.none_;refine D.has AU (fun b H Q E h=> ?_) (fun f i A o s H b Q E q h=> ?_)
 .obtain⟨a,k,J,rfl,_⟩:=h
  rfl
 obtain⟨a,k,J,rfl,C,n,j,g⟩:=h;have I:=C.lt;have u:atI (aB k J) 0=some (.str (bf k)):=lv
 refine⟨_,(ac (ay (zC Fg (pX ag (pv 0) aa) (pK (v:= .ref e) (by rfl) d (by rfl)) (by rfl)) (ae (ai fH)) am)
   (ae (ai (pX ag (pv 0) aa)))),?_⟩
 try dsimp only[aT]
 walk_at"g";refine Kp (fun c=> ?_) (fun c=> ?_)
 .have hm:¬mk8 k:=of_decide_eq_true ((Ex k I).symm.trans c);walk_at"g";exact g hm
 .have hm:mk8 k:=by
   have:=of_decide_eq_false ((Ex k I).symm.trans c);exact Classical.not_not.mp this
  obtain⟨x,r,rfl,_⟩:=yv C hm;have p:atI (aB k (x::r)) 1=some (.int x):=ua;walk_at"g";exact j hm
def JS(K:Frag):Sp:=fun C H Q _=>C=[]/\∀p o,ax H o->SpT K o p (List.replicate 8 SpM.whole)->Q (.ref p) o
theorem xq(B:Bi mg)(D:qw K mg)(j:Has P w K mg base 1 "whole_span" [] tq):Has P w K mg base 2 "first_spans" [] (JS K):=by
 refine D.has xz (fun p H Q E h=> ?_) (fun f u A d s H p Q E v h=> ?_)
 .obtain⟨rfl,_⟩:=h
  rfl
 obtain⟨rfl,q⟩:=h;refine⟨_,(ae (ai (cn iQ (by rfl) B.tuple fQ (pa1 (au CY (bG (pa1 (jp (j.mono (by omega)) v (by rfl)))) aa))))),?_⟩
 try dsimp only[aT]
 walk_at"g";intro o c g n;walk_at"g";intro a J;have x:=g.trans (af J (.lst [.ref o]));have l2:upd c a (.lst [.ref o]) a=some (.lst [.ref o]):=ad;have m:Tr (upd c a (.lst [.ref o])) o SpM.whole:=ck J n;generalize upd c a (.lst [.ref o])=b at*;walk_at"g";intro U C;have r:(List.replicate (8:Int).toNat [V.ref o]).flatten=(List.replicate 8 o).map V.ref:=rfl;rw[r];have y:=x.trans (af C (.lst ((List.replicate 8 o).map V.ref)));have l3:upd b U (.lst ((List.replicate 8 o).map V.ref)) U=some (.lst ((List.replicate 8 o).map V.ref)):=ad;have e:Tr (upd b U (.lst ((List.replicate 8 o).map V.ref))) o SpM.whole:=ck C m;generalize upd b U (.lst ((List.replicate 8 o).map V.ref))=z at*;walk_at"g";refine .inl ⟨SqL.of l3,fun i I=> ?_⟩
 exact q i _ (y.trans (af I _)) ⟨_,SqT.of ad,SpA.rep (ck I e) 8⟩
def Lx(K:Frag):Sp:=fun c H Q _=>∃(pl a sa:Addr) (k:Nat) (C:List Int) (I:List SpM.Span) (pk:Nat) (U:Int) (b J:Nat) (pg:Int),c=[.ref pl,.ref a,.ref sa]/\Pl H pl pk U b J pg/\aI 8 262144 k C/\mk8 k/\SqT K H a (aB k C)/\SpT K H sa I/\Sp8 I/\
 ∀p o,ax H o->Tr o p (lZ pk U b J k C I)->Q (.ref p) o
theorem An(B:Bi mg)(D:uA K mg)(cF:Has P w K mg base 2 "single" pT ln)(R:Has P w K mg base 1 "whole_span" [] tq)(T:Has P w K mg base 5 "more_span" Bp Ft)(S:Has P w K mg base 4 "fit_span" qz JD)
  (X:Has P w K mg base 4 "aim_span" qz JE) (N:Has P w K mg base 6 "joined_span" A1 Lc):Has P w K mg base 7 "made_span" jV (Lx K):=by
 refine D.has my (fun Y H Q E h=> ?_) (fun f ab A m s H Y Q E U h=> ?_)
 .obtain⟨pl,a,sa,k,F,i,pk,r,M,L,pg,rfl,_⟩:=h
  rfl
 obtain⟨pl,a,sa,k,F,i,pk,r,M,L,pg,rfl,Z,p,hm,ha,⟨as,ao,C⟩,c,q⟩:=h;have i0:atI (aB k F) 0=some (.str (bf k)):=lv;have o:=p.lt
 refine⟨_,(ac (psS 3 my.nd (pX ag (pv 1) aa))
   (ac (ay (pcT aJ (pv 3) av) (ae (ai (pcH cF U (pa1 (pX ag (pv 1) aa))))) am)
   (ac (ay (pcT aJ (pv 3) av) (ae (ai (jp (R.mono (by omega)) U (by rfl)))) am)
   (ac (psS 4 my.nd (pX ag (pv 2) (pX ag (pv 1) aa)))
   (ac (ay (pcT aJ (pv 3) av) (ae (ai (pcH T U (pa2 (pv 4) (pX ag (pv 1) aa))))) am)
   (ac (ay (pcT aJ (pv 3) av) (ae (ai (pcH S U (pa2 (pv 0) (pv 4))))) am)
   (ac (ay (pcT aJ (pv 3) av) (ae (ai (pcH X U (pa2 (pv 0) (pv 4))))) am)
   (ae (ai (pcH N U (pa3 (pv 3) (pv 4) (pX ag (pv 2) (pX ag (pv 1) aa))))))))))))),?_⟩
 try dsimp only[aT]
 unfold mk8 at hm;rcases p with⟨rfl,rfl⟩|⟨rfl,x,v,rfl,b,g,v0,v1⟩|⟨n,G,x,y,z,rfl,b,g,J,I,z0,z1⟩|⟨n,G,x,y,z,rfl,b,g,J,I,z0,z1⟩|⟨u,z,rfl,z0,z1⟩|⟨rfl,x,z,rfl,b,g,z0,z1⟩|⟨rfl,y,rfl,J,I⟩|⟨u,x,y,rfl,b,g,J,I⟩
 .lia
 .have d:atI (aB 1 [x,v]) 2=some (.int v):=p_;walk_at"g";walk_at"wd";exact q
 .obtain⟨b1,e1,t1,v1⟩:=SpT.at (a:=sa) C c J I;obtain⟨b2,e2,t2,v2⟩:=SpT.at (a:=sa) C c z0 z1;have d:atI (aB k [x,y,z]) 2=some (.int y):=p_;have O:atI (aB k [x,y,z]) 3=some (.int z):=Db;have e:lZ pk r M L k [x,y,z] i=SpM.jS (Cg k) (spG i y) (spG i z):=by
   unfold lZ;rw[mC (by lia),mC (by lia),mC (by lia),mC (by lia),mC (by lia)]
   rfl
  rw[e] at q;have es:=JK k n G;walk_at"g";refine dG (sne o (j:=1) (by decide) (by lia)) ?_
  walk_at"g";refine dG (sne o (j:=11) (by decide) (by lia)) ?_
  walk_at"g";refine dG (sne o (j:=10) (by decide) (by lia)) ?_
  walk_at"g";refine dG (sne o (j:=16) (by decide) (by lia)) ?_
  walk_at"g";refine dG (sne o (j:=17) (by decide) (by lia)) ?_
  walk_at"g";rw[es];walk_at"g";exact q
 .obtain⟨b1,e1,t1,v1⟩:=SpT.at (a:=sa) C c J I;obtain rfl | rfl:k=10\/k=11:=by lia
  .have d:atI (aB 10 [x,y,z]) 2=some (.int y):=p_;have O:atI (aB 10 [x,y,z]) 3=some (.int z):=Db;walk_at"g";walk_at"wd";exact q
  .walk_at"g";walk_at"wd";exact q
 .lia
 .lia
 .lia
 .obtain⟨b1,e1,t1,v1⟩:=SpT.at (a:=sa) C c J I;rcases u with rfl | rfl
  .have d:atI (aB 16 [x,y]) 2=some (.int y):=p_;walk_at"g";walk_at"wd";exact q
  .have d:atI (aB 17 [x,y]) 2=some (.int y):=p_;walk_at"g";walk_at"wd";exact q
def LR(K:Frag):Sp:=fun c H Q _=>∃(pl a sa:Addr) (k:Nat) (C:List Int) (I:List SpM.Span) (pk:Nat) (U:Int) (b J:Nat) (pg:Int),c=[.ref pl,.ref a,.ref sa]/\Pl H pl pk U b J pg/\aI 8 262144 k C/\SqT K H a (aB k C)/\SpT K H sa I/\Sp8 I/\
 ∀p o,ax H o->SpT K o p (wb pk U b J k C I)->Q (.ref p) o
theorem kL{o:Type}{xs:List o}{i:Nat}{x:o}(h:i<xs.length):xs.take i++[x]++xs.drop (i+1)=xs.set i x:=by
 rw[List.set_eq_take_append_cons_drop,ME h,M4]
 rfl
theorem vg(B:Bi mg)(D:nK K mg)(bM:Has P w K mg base 1 "whole_span" [] tq)(hX:Has P w K mg base 1 "made_box" dF (KC K))(oM:Has P w K mg base 7 "made_span" jV (Lx K)):
  Has P w K mg base 8 "spans_behind" jV (LR K):=by
 refine D.has m_ (fun vs H Q E h=> ?_) (fun f bw A aR s H vs Q E hr h=> ?_)
 .obtain⟨pl,a,sa,k,m,c,pk,L,S,R,pg,rfl,_⟩:=h
  rfl
 obtain⟨pl,a,sa,k,m,c,pk,L,S,R,pg,rfl,aK,hv,ha,M,h8,q⟩:=h;obtain⟨J,y,d⟩:=M;have i0:atI (aB k m) 0=some (.str (bf k)):=lv;have aH:=hv.lt;have ao:J.length=8:=by rw[d.len];exact h8.len
 refine⟨_,(ac (ay (pcT aJ (pX ag (pv 1) aa) av) (ae (ai (cn iQ (by rfl) B.tuple fQ (pa1 (au o5 (au CY (bG (pa1 (jp (bM.mono (by omega)) hr (by rfl)))) aa) (bG (pa1 (pX ag (pv 2) aa)))))))) am)
   (ac (psS 3 m_.nd (pcH hX hr (pa1 (pv 1))))
   (ac (ay (qC (qN (pv 3))) (ae (ai (pv 2))) am)
   (ae (ai (au EA (au EA (di kZ (pv 2) eQ (eP (pv 3))) (aw (pa1 (pcH oM hr (pa3 (pv 0) (pv 1) (pv 2)))))) (di kZ (pv 2) (eP (au aP (pv 3) aa)) eQ))))))),?_⟩
 try dsimp only[aT]
 walk_at"g";refine bI (fun c1=> ?_) (fun c1=> ?_)
 .obtain rfl:=seq aH (j:=18) (by decide) c1
  have eb:wb pk L S R 18 m c=List.replicate 7 SpM.whole++[spG c 7]:=ME rfl;rw[eb] at q;walk_at"g";intro C H1 X t1;walk_at"g";intro b ab;have s2:=X.trans (af ab (.lst [.ref C]));have l2:upd H1 b (.lst [.ref C]) b=some (.lst [.ref C]):=ad;have t2:Tr (upd H1 b (.lst [.ref C])) C SpM.whole:=ck ab t1;generalize upd H1 b (.lst [.ref C])=T at*;walk_at"g";intro F v;have e7:(List.replicate (7:Int).toNat [V.ref C]).flatten=(List.replicate 7 C).map V.ref:=rfl;rw[e7];have O:=s2.trans (af v (.lst ((List.replicate 7 C).map V.ref)));have l3:upd T F (.lst ((List.replicate 7 C).map V.ref)) F=some (.lst ((List.replicate 7 C).map V.ref)):=ad;have t3:Tr (upd T F (.lst ((List.replicate 7 C).map V.ref))) C SpM.whole:=ck v t2;generalize upd T F (.lst ((List.replicate 7 C).map V.ref))=Z at*;have bD:=O.tup y;obtain⟨U,ba,t7,_⟩:=SpT.at (a:=sa) (d.same O) h8 (i:=7) (by decide) (by decide)
  walk_at"g";intro Y u;have s4:=O.trans (af u (.lst [.ref U]));have l4:upd Z Y (.lst [.ref U]) Y=some (.lst [.ref U]):=ad;have bo:=ck (o:= .lst [.ref U]) u l3;have t4:Tr (upd Z Y (.lst [.ref U])) C SpM.whole:=ck u t3;have a7:Tr (upd Z Y (.lst [.ref U])) U (spG c 7):=ck u t7;generalize upd Z Y (.lst [.ref U])=N at*;have bj:((List.replicate 7 C).map V.ref).length+[V.ref U].length<=sizeLine:=MV (show 8<=100 by decide) (by decide)
  walk_at"g";intro p g;have e5:(List.replicate 7 C).map V.ref++[V.ref U]=(List.replicate 7 C++[U]).map V.ref:=by rw[MH];rfl
  rw[e5];have s5:=s4.trans (af g (.lst ((List.replicate 7 C++[U]).map V.ref)));have l5:upd N p (.lst ((List.replicate 7 C++[U]).map V.ref)) p=some (.lst ((List.replicate 7 C++[U]).map V.ref)):=ad;have t5:Tr (upd N p (.lst ((List.replicate 7 C++[U]).map V.ref))) C SpM.whole:=ck g t4;have a6:Tr (upd N p (.lst ((List.replicate 7 C++[U]).map V.ref))) U (spG c 7):=ck g a7;generalize upd N p (.lst ((List.replicate 7 C++[U]).map V.ref))=H5 at*;walk_at"g";refine .inl ⟨SqL.of l5,fun p6 G=> ?_⟩
  exact q p6 _ (s5.trans (af G _)) ⟨_,SqT.of ad,SpA.app (show SpA _ [U] [spG c 7] from⟨ck G a6,True.intro⟩) (SpA.rep (ck G t5) 7)⟩
 have ar:k≠18:=fun e=>c1 (by rw[e];rfl)
 by_cases hm:mk8 k
 .have eb:wb pk L S R k m c=c.set (m.getD 0 0).toNat (lZ pk L S R k m c):=by
   unfold wb;rw[mC ar,ME hm]
  rw[eb] at q;obtain⟨x,r,a9,x0,x1⟩:=yv hv hm;have ex:m.getD 0 0=x:=by rw[a9];rfl
  have M:SpT K H sa c:=⟨J,y,d⟩;walk_at"g";refine⟨fun _=> ?_,fun z=>absurd hm z⟩
  rw[ex] at q ⊢;obtain⟨I,rfl⟩:∃n:Nat,x=n:=NC (by first | assumption | lia)
  rw[MN] at q;walk_at"g";refine⟨(fun z=>by have:=z.2;rw[fI,ao,HT.sIx_nat] at this;lia),fun C a8=> ?_⟩
  have ec:ik (J.map V.ref) none (some (I:Int))=(J.take I).map V.ref:=by rw[C7,Pk]
  rw[ec];have X:=af a8 (.tup ((J.take I).map V.ref));have t1:SqT K (upd H C (.tup ((J.take I).map V.ref))) C ((J.take I).map V.ref):=SqT.of ad;generalize upd H C (.tup ((J.take I).map V.ref))=H1 at*;have a':=aK.mv X;have bt:=X.tup ha;have bu:=M.same X;walk_at"g";intro b T s2 t2;walk_at"g";intro F v;have O:=af v (.tup [.ref b]);have t3:SqT K (upd T F (.tup [.ref b])) F [.ref b]:=SqT.of ad;generalize upd T F (.tup [.ref b])=Z at*;have bh:=O.tup (s2.tup t1);have bb:((J.take I).map V.ref).length+[V.ref b].length<=sizeLine:=MV (show _<=100 by rw[fI,M0];simp only[MU,Nl];lia) (by decide)
  walk_at"g";intro Y N s4 t4;have S4:=((X.trans s2).trans O).trans s4;have br:=S4.tup y;walk_at"g";refine⟨(fun z=>by have:=z.1;rw[fI,ao] at this;have e:HT.sIx 8 0 (some ((I:Int)+1))=min (I+1) 8:=HT.sIx_nat 8 0 (I+1);rw[e] at this;lia),fun p g=> ?_⟩
  have ed:ik (J.map V.ref) (some ((I:Int)+1)) none=(J.drop (I+1)).map V.ref:=by
   have:=oE (xs:=J.map V.ref) (n:=I+1);rw[<- List.map_drop] at this;exact this
  rw[ed];have s5:=af g (.tup ((J.drop (I+1)).map V.ref));have t5:SqT K (upd N p (.tup ((J.drop (I+1)).map V.ref))) p ((J.drop (I+1)).map V.ref):=SqT.of ad;generalize upd N p (.tup ((J.drop (I+1)).map V.ref))=H5 at*;have bx:=s5.tup t4;have bz:((J.take I).map V.ref++[V.ref b]).length+((J.drop (I+1)).map V.ref).length<=sizeLine:=MV (show _<=100 by rw[MA,fI,M0,fI,Ni];simp only[MU,Nl];lia) (by decide)
  walk_at"g";intro p6 H6 s6 t6;have S6:=(S4.trans s5).trans s6;refine q p6 H6 S6 ⟨J.set I b,?_,?_⟩
  .have e:(J.take I).map V.ref++[V.ref b]++(J.drop (I+1)).map V.ref=(J.set I b).map V.ref:=by
    rw[<- kL (x:=b) (show I<J.length by lia),MH,MH]
    rfl
   rw[e] at t6;exact t6
  .rw[<- kL (x:=b) (show I<J.length by lia), <-kL (x:=lZ pk L S R k m c) (show I<c.length by rw[h8.len];lia)]
   exact SpA.app (SpA.drop _ (d.same S6)) (SpA.app (show SpA H6 [b] [lZ pk L S R k m c] from⟨((O.trans s4).trans (s5.trans s6)) _ _ t2,True.intro⟩) (SpA.take _ (d.same S6)))
 .have eb:wb pk L S R k m c=c:=by
   unfold wb;rw[mC ar,mC hm]
  rw[eb] at q;walk_at"g";refine⟨fun z=>absurd z hm,fun _=> ?_⟩
  walk_at"g";exact q sa H (ax.refl _) ⟨J,y,d⟩
def JF(K:Frag):Sp:=fun J H Q _=>∃(pl a sa:Addr) (k:Nat) (o:List Int) (C:List SpM.Span) (pk:Nat) (I:Int) (b U:Nat) (pg:Int),J=[.ref pl,.ref a,.ref sa]/\Pl H pl pk I b U pg/\aI 8 262144 k o/\(k=11\/k=12)/\SqT K H a (aB k o)/\SpT K H sa C/\Sp8 C/\Q (.bl (decide (HC pk I o C))) H
theorem tN(B:Bi mg)(D:nj K mg)(O:Has P w K mg base 1 "power_of_two" nG jA):Has P w K mg base 2 "may_reach_out" jV (JF K):=by
 refine D.has fq (fun R H Q E h=> ?_) (fun f X A i s H R Q E Y h=> ?_)
 .obtain⟨pl,a,sa,k,F,o,pk,C,n,m,pg,rfl,_⟩:=h
  rfl
 obtain⟨pl,a,sa,k,F,o,pk,C,n,m,pg,rfl,d,M,r,ha,⟨as,Z,g⟩,N,q⟩:=h;obtain⟨x,y,z,rfl,I,U,b,J,z0,z1⟩:∃x y z,F=[x,y,z]/\0<=x/\x<8/\0<=y/\y<8/\ -131072<=z/\z<131072:=by
  rcases M with⟨rfl,rfl⟩|⟨rfl,x,v,rfl,I,U,v0,v1⟩|⟨L,S,x,y,z,rfl,I,U,b,J,z0,z1⟩|⟨L,S,x,y,z,rfl,I,U,b,J,z0,z1⟩|⟨r,z,rfl,z0,z1⟩|⟨rfl,x,z,rfl,I,U,z0,z1⟩|⟨rfl,y,rfl,b,J⟩|⟨r,x,y,rfl,I,U,b,J⟩
  all_goals first | lia | exact⟨x,y,z,rfl,I,U,b,J,z0,z1⟩
 obtain⟨b1,e1,t1,v1⟩:=SpT.at (a:=sa) g N b J;have T:=d.at_;have G:=d.room.k20;have p0:atI [V.int pk,V.int C,V.int n,V.int m,V.int pg] 0=some (.int pk):=aY (j:=0) rfl;have p1:atI [V.int pk,V.int C,V.int n,V.int m,V.int pg] 1=some (.int C):=aY (j:=1) rfl;have i2:atI (aB k [x,y,z]) 2=some (.int y):=p_;have i3:atI (aB k [x,y,z]) 3=some (.int z):=Db;have j0:atI [V.int (spG o y).lo,V.int (spG o y).hi,V.int (spG o y).z] 0=some (.int (spG o y).lo):=lv;have j1:atI [V.int (spG o y).lo,V.int (spG o y).hi,V.int (spG o y).z] 1=some (.int (spG o y).hi):=ua;have u:Q (.bl (decide ((spG o y).lo+z<C\/C+2^pk<=(spG o y).hi+z))) H:=q;clear q;have q:=u;clear u
 refine⟨_,(ac (psS 3 fq.nd (pX ag (pv 2) (pX ag (pv 1) aa)))
   (ac (psS 4 fq.nd (pX ag (pv 1) aa))
   (ac (psS 5 fq.nd (pX ag (pv 0) aa))
   (ae (ai (DO (pcE kh (au aP (pX ag (pv 3) aa) (pv 4)) (pv 5)) (wt (pcE nh (au aP (pX ag (pv 3) aa) (pv 4)) (au aP (pv 5) (pcH O Y (pa1 (pX ag (pv 0) aa)))))))))))),?_⟩
 try dsimp only[aT]
 walk_at"g"
 by_cases c:(spG o y).lo+z<C
 .rw[MO (p:=(spG o y).lo+z<C\/_) (.inl c)] at q;rw[MO c];walk_at"g";exact q
 .have e:decide ((spG o y).lo+z<C\/C+2^pk<=(spG o y).hi+z)=decide (C+2^pk<=(spG o y).hi+z):=N9.mpr ⟨fun h=>h.resolve_left c,.inr⟩
  rw[e] at q;rw[MG c];walk_at"g";exact q
structure Rm (H:Hp) (a:Addr) (k:Nat) (b:Int):Prop where
 at_:∃xs,H a=some (.tup (.int k:: .int b::xs))
 room:SpM.Room k b
theorem Pl.rm{H:Hp}{a:Addr}{k:Nat}{b:Int}{m s:Nat}{g:Int}(p:Pl H a k b m s g):Rm H a k b:=⟨⟨_,p.at_⟩,p.room⟩
theorem Rm.mv{H o:Hp}{a:Addr}{k:Nat}{b:Int}(p:Rm H a k b)(e:ax H o):Rm o a k b:=⟨let ⟨xs,h⟩:=p.at_;⟨xs,e _ _ h⟩,p.room⟩
def Hs:Sp:=fun o H Q _=>∃(a:Addr) (k:Nat) (b:Int) (v:Int),o=[.ref a,.int v]/\Rm H a k b/\Q (.int (b+v %2^k)) H
def A0:Sp:=fun o H Q _=>∃(a:Addr) (k:Nat) (b:Int) (v:Int),o=[.ref a,.int v]/\Rm H a k b/\Q (.bl (decide (b<=v/\v<b+2^k))) H
theorem zS(B:Bi mg)(D:uO K mg)(I:Has P w K mg base 2 "rest" lJ i8):Has P w K mg base 3 "fit_value" wv Hs:=by
 refine D.has yZ (fun J H Q E h=> ?_) (fun f c A o s H J Q E d h=> ?_)
 .obtain⟨a,k,b,v,rfl,_⟩:=h
  rfl
 obtain⟨a,k,b,v,rfl,pl,q⟩:=h;obtain⟨C,U⟩:=pl.at_;have e:=pl.room.k20;have g:atI (V.int k::V.int b::C) 0=some (.int k):=aY (j:=0) rfl;have i:atI (V.int k::V.int b::C) 1=some (.int b):=aY (j:=1) rfl;refine⟨_,(ae (ai (au aP (pX ag (pv 0) aa) (pcH I d (pa2 (pv 1) (pX ag (pv 0) aa)))))),?_⟩
 try dsimp only[aT]
 walk_at"g";exact q
theorem DH(B:Bi mg)(D:yF K mg)(I:Has P w K mg base 1 "power_of_two" nG jA):Has P w K mg base 2 "in_room" Ce A0:=by
 refine D.has Dg (fun J H Q E h=> ?_) (fun f d A o s H J Q E g h=> ?_)
 .obtain⟨a,k,b,v,rfl,_⟩:=h
  rfl
 obtain⟨a,k,b,v,rfl,pl,q⟩:=h;obtain⟨C,U⟩:=pl.at_;have i:=pl.room.k20;have m:atI (V.int k::V.int b::C) 0=some (.int k):=aY (j:=0) rfl;have n:atI (V.int k::V.int b::C) 1=some (.int b):=aY (j:=1) rfl;refine⟨_,(ae (ai (HF (pcE F6 (pX ag (pv 0) aa) (pv 1)) (wt (pcE kh (pv 1) (au aP (pX ag (pv 0) aa) (pcH I g (pa1 (pX ag (pv 0) aa))))))))),?_⟩
 try dsimp only[aT]
 walk_at"g";refine bI (fun c=> ?_) (fun c=> ?_)
 .walk_at"g";have e:decide (b<=v/\v<b+2^k)=decide (v<b+2^k):=N9.mpr ⟨fun h=>h.2,fun h=>⟨c,h⟩⟩
  rw[e] at q;exact q
 .rw[MG (fun h=>c h.1)] at q
  exact q
noncomputable def bxG(bx:List Int)(i:Int):Int:=bx.getD i.toNat 0
noncomputable def fe(pk:Nat)(pb:Int)(pm ps:Nat)(k:Nat)(ns bx:List Int):Int:=
 if k=1 then ns.getD 1 0 else if k=10 then(bxG bx (ns.getD 1 0)+ns.getD 2 0) %4294967296 else if k=16 then pb+bxG bx (ns.getD 1 0) %2^pk else if k=17 then SpM.aimV pm ps (bxG bx (ns.getD 1 0))
 else SpM.jv (Cg k) (bxG bx (ns.getD 1 0)) (bxG bx (ns.getD 2 0))
def makes(k:Nat):Prop:=(1<=k/\k<=10)\/k=16\/k=17
structure BxN (nb:Nat) (bx:List Int):Prop where
 len:bx.length=nb
 rng:∀x∈bx,0<=x/\x<4294967296
abbrev Bxs(bx:List Int):Prop:=BxN 8 bx
theorem BxN.at{nb:Nat}{bx:List Int}(h:BxN nb bx){i:Int}(I:0<=i)(J:i<nb):atI (bx.map V.int) i=some (.int (bxG bx i))/\0<=bxG bx i/\bxG bx i<4294967296:=by
 have o:i.toNat<bx.length:=by rw[h.len];lia
 have C:i=((i.toNat:Nat):Int):=by lia
 have e:bxG bx i=bx[i.toNat]:=by unfold bxG;rw[MF,be o];rfl
 have r:=h.rng _ (Nm o);refine⟨?_,by rw[e];exact r.1,by rw[e];exact r.2⟩
 rw[e];have q:atI (bx.map V.int) ((i.toNat:Nat):Int)=some (.int bx[i.toNat]):=aY (by rw[MW,be o] <;> rfl)
 rw[<- C] at q;exact q
theorem Bxs.at{bx:List Int}(h:Bxs bx){i:Int}(o:0<=i)(C:i<8):atI (bx.map V.int) i=some (.int (bxG bx i))/\0<=bxG bx i/\bxG bx i<4294967296:=BxN.at h o C
def K5(K:Frag):Sp:=fun c H Q _=>∃(pl a bl:Addr) (J k:Nat) (o C:List Int) (pk:Nat) (I:Int) (b U:Nat),c=[.ref pl,.ref a,.ref bl]/\Rm H pl pk I/\(k=17->∃pg,Pl H pl pk I b U pg)/\
 H bl=some (.lst (C.map V.int))/\BxN J C/\aI J 262144 k o/\makes k/\SqT K H a (aB k o)/\Q (.int (fe pk I b U k o C)) H
theorem xK(B:Bi mg)(D:sf K mg)(T:Has P w K mg base 2 "rest" lJ i8)(dJ:Has P w K mg base 3 "joined_value" Fd J0)(Z:Has P w K mg base 3 "fit_value" wv Hs)
  (fj:Has P w K mg base 3 "aim_value" wv CQ):Has P w K mg base 4 "made_value" Bm (K5 K):=by
 refine D.has kE (fun X H Q E h=> ?_) (fun f ab A m s H X Q E g h=> ?_)
 .obtain⟨pl,a,bl,Y,k,u,i,pk,r,N,M,rfl,_⟩:=h
  rfl
 obtain⟨pl,a,bl,Y,k,u,i,pk,r,N,M,rfl,S,U,hb,o,O,hm,ha,q⟩:=h;have i0:atI (aB k u) 0=some (.str (bf k)):=lv
 refine⟨_,(ac (psS 3 kE.nd (pX ag (pv 1) aa))
   (ac (ay (pcT aJ (pv 3) av) (ae (ai (pX ag (pv 1) aa))) am)
   (ac (psS 4 kE.nd (pX bc (pv 2) (pX ag (pv 1) aa)))
   (ac (ay (pcT aJ (pv 3) av) (ae (ai (pcH T g (pa2 (au aP (pv 4) (pX ag (pv 1) aa)) aa)))) am)
   (ac (ay (pcT aJ (pv 3) av) (ae (ai (pcH Z g (pa2 (pv 0) (pv 4))))) am)
   (ac (ay (pcT aJ (pv 3) av) (ae (ai (pcH fj g (pa2 (pv 0) (pv 4))))) am)
   (ae (ai (pcH dJ g (pa3 (pv 3) (pv 4) (pX bc (pv 2) (pX ag (pv 1) aa)))))))))))),?_⟩
 try dsimp only[aT]
 rcases O with⟨rfl,rfl⟩|⟨rfl,x,v,rfl,b,d,v0,v1⟩|⟨p,F,x,y,z,rfl,b,d,J,I,z0,z1⟩|⟨p,F,x,y,z,rfl,b,d,J,I,z0,z1⟩|⟨C,z,rfl,z0,z1⟩|⟨rfl,x,z,rfl,b,d,z0,z1⟩|⟨rfl,y,rfl,J,I⟩|⟨C,x,y,rfl,b,d,J,I⟩
 .unfold makes at hm;lia
 .have c:atI (aB 1 [x,v]) 2=some (.int v):=p_;walk_at"g";walk_at"wd";exact q
 .have C:k<19:=by lia
  obtain⟨L,G,b3⟩:=o.at J I;obtain⟨c1,c2,c3⟩:=o.at z0 z1;have c:atI (aB k [x,y,z]) 2=some (.int y):=p_;have R:atI (aB k [x,y,z]) 3=some (.int z):=Db;have e:fe pk r N M k [x,y,z] i=SpM.jv (Cg k) (bxG i y) (bxG i z):=by
   unfold fe;rw[mC (by lia),mC (by lia),mC (by lia),mC (by lia)]
   rfl
  rw[e] at q;have es:=JK k p F;walk_at"g";refine dG (sne C (j:=1) (by decide) (by lia)) ?_
  walk_at"g";refine dG (sne C (j:=10) (by decide) (by lia)) ?_
  walk_at"g";refine dG (sne C (j:=16) (by decide) (by lia)) ?_
  walk_at"g";refine dG (sne C (j:=17) (by decide) (by lia)) ?_
  walk_at"g";rw[es];walk_at"g";exact q
 .have C:k<19:=by lia
  have n:k=10:=by unfold makes at hm;lia
  subst n;obtain⟨L,G,b3⟩:=o.at J I;have c:atI (aB 10 [x,y,z]) 2=some (.int y):=p_;have R:atI (aB 10 [x,y,z]) 3=some (.int z):=Db;walk_at"g";walk_at"wd";exact q
 .unfold makes at hm;lia
 .unfold makes at hm;lia
 .unfold makes at hm;lia
 .obtain⟨L,G,b3⟩:=o.at J I;rcases C with rfl | rfl
  .have c:atI (aB 16 [x,y]) 2=some (.int y):=p_;walk_at"g";walk_at"wd";exact q
  .have c:atI (aB 17 [x,y]) 2=some (.int y):=p_;obtain⟨pg,U⟩:=U rfl;walk_at"g";walk_at"wd";exact q
noncomputable def uv(k:Nat)(ns bx:List Int)(p:Int):Int:=if k=13 then ns.getD 0 0 else if k=15 then bxG bx (ns.getD 0 0) else if bxG bx (ns.getD 0 0)≠0 then ns.getD 1 0 else p+1
def b_(kvs:List (Key × V)):Prop:=∀o∈kvs, ∃i v:Int,o=(.inl i,.int v)/\0<=v/\v<4294967296
noncomputable def vp(kvs:List (Key × V))(r:Int):Int:=match eZ kvs (.inl r) with
 | some (.int v)=>v
 | _=>0
theorem z_:∀{kvs:List (Key × V)}{k:Key}{x:V},eZ kvs k=some x->(k,x)∈kvs
 | [],k,x,h=>by cases h
 | p::r,k,x,h=>by
  by_cases e:p.1=k
  .rw[iU e] at h;have o:=MR h;rw[<- e, <-o];exact Nc ..
  .rw[gD e] at h;exact M8 _ (z_ h)
theorem b_.get{kvs:List (Key × V)}(h:b_ kvs)(r:Int):(eZ kvs (.inl r)).getD (.int 0)= .int (vp kvs r)/\0<=vp kvs r/\vp kvs r<4294967296:=by
 unfold vp
 cases e:eZ kvs (.inl r) with
 | none=>exact⟨rfl,by decide,by decide⟩
 | some x=>
  obtain⟨i,v,o,v0,v1⟩:=h _ (z_ e);have C:x= .int v:=Ng Prod.snd o;subst C;exact⟨rfl,v0,v1⟩
theorem b_.put{kvs:List (Key × V)}(h:b_ kvs){r v:Int}(v0:0<=v)(v1:v<4294967296):b_ (dw kvs (.inl r) (.int v)):=by
 intro C o;unfold dw at o
 split at o
 .obtain⟨x,hx,e⟩:=Nn.mp o
  split at e
  .rename_i ek
   rw[<- e,ek];exact⟨r,v,rfl,v0,v1⟩
  .rw[<- e];exact h x hx
 .rcases MZ.mp o with hx | hx
  .exact h C hx
  .have:C=(.inl r,.int v):=by simpa using hx
   exact⟨r,v,this,v0,v1⟩
theorem BxN.set{nb:Nat}{bx:List Int}(h:BxN nb bx){i:Nat}{v:Int}(v0:0<=v)(v1:v<4294967296):BxN nb (bx.set i v):=
 ⟨by rw[PQ];exact h.len,fun x o=>by
  rcases O6 o with o | o
  .exact h.rng x o
  .subst o;exact⟨v0,v1⟩⟩
theorem Bxs.set{bx:List Int}(h:Bxs bx){i:Nat}{v:Int}(v0:0<=v)(v1:v<4294967296):Bxs (bx.set i v):=BxN.set h v0 v1
noncomputable def bq(ns bx:List Int):Int:=(bxG bx (ns.getD 1 0)+ns.getD 2 0) %4294967296
def InR(pk:Nat)(pb r:Int):Prop:=pb<=r/\r<pb+2^pk
noncomputable instance {pk:Nat}{pb r:Int}:Decidable (InR pk pb r):=inferInstanceAs (Decidable (_/\_))
theorem KU{H:Hp}{a b:Addr}{u o:HO}{xs:List V}(C:H b=some u)(I:∀ys,u≠ .tup ys/\∀o,u≠ .frz o (.tup ys))(h:SqT K H a xs):SqT K (upd H b o) a xs:=by
 unfold SqT at h ⊢;rcases h with h | h
 .refine .inl ?_
  rcases h with h | ⟨ob,h⟩
  .exact .inl (by rw[aj (fun z=>by rw[z,C] at h;exact(I _).1 (MR h))];exact h)
  .exact .inr ⟨ob,by rw[aj (fun z=>by rw[z,C] at h;exact(I _).2 _ (MR h))];exact h⟩
 .exact .inr h
theorem Ew{n j:Nat}(h:j<n):ixN n (j:Int)=some j:=by
 unfold ixN;rw[ME (by lia),ME (by lia),MN]
noncomputable abbrev hfs(pl:Addr)(g:Int)(bl C o rw:Addr):List (Str × V):=
 [("plan",.ref pl),("gates",.int g),("boxes",.ref bl),("memory",.ref C),("replies",.ref o),("rows",.ref rw)]
def Eo(K:Frag)(C:Addr):Sp:=fun e H Q _=>∃(o a i pl bl c f rw:Addr) (g:Int) (d k:Nat) (J U:List Int) (I:List (Key × V)) (pk:Nat) (b:Int),e=[.ref o,.ref a]/\H o=some (.ins C i (hfs pl g bl c f rw))/\Rm H pl pk b/\
 H bl=some (.lst (U.map V.int))/\BxN d U/\aI d 262144 k J/\(k=11\/k=12)/\SqT K H a (aB k J)/\H c=some (.dK I)/\b_ I/\I.length<=10000/\
 (¬ InR pk b (bq J U)->∀q,H q=none->Q (.ref q) (upd H q (.tup [.str "beyond",.int (bq J U)])))/\
 (InR pk b (bq J U)->k=11->Q .non (upd H bl (.lst ((U.set (J.getD 0 0).toNat (vp I (bq J U))).map V.int))))/\
 (InR pk b (bq J U)->k=12->Q .non (upd H c (.dK (dw I (.inl (bq J U)) (.int (bxG U (J.getD 0 0)))))))
theorem uj{C:Addr}(B:Bi mg)(c:cA K mg "Holding" C)(n:cZ K C)(D:jc K C)(bh:Has P w K mg base 2 "rest" lJ i8)(t_:Has P w K mg base 2 "in_room" Ce A0):
  bC P w K mg base 3 C "reach" bR (Eo K C):=by
 refine D.has c.cl hV (fun vs H Q E h=> ?_) (fun f aH A G s H vs Q E p h=> ?_)
 .obtain⟨o,a,dx,pl,bl,U,rl,rw,g,M,k,O,I,J,pk,L,rfl,_⟩:=h
  rfl
 obtain⟨o,a,dx,pl,bl,U,rl,rw,g,M,k,O,I,J,pk,L,rfl,ho,ab,S,d,hv,u,ha,hm,N,q,X,R,T⟩:=h;obtain⟨x,y,z,rfl,b,e,j,i,z0,z1⟩:∃x y z,O=[x,y,z]/\0<=x/\x<M/\0<=y/\y<M/\ -131072<=z/\z<131072:=by
  rcases hv with⟨rfl,rfl⟩|⟨rfl,x,v,rfl,b,e,v0,v1⟩|⟨h1,h2,x,y,z,rfl,b,e,j,i,z0,z1⟩|⟨h1,h2,x,y,z,rfl,b,e,j,i,z0,z1⟩|⟨u,z,rfl,z0,z1⟩|⟨rfl,x,z,rfl,b,e,z0,z1⟩|⟨rfl,y,rfl,j,i⟩|⟨u,x,y,rfl,b,e,j,i⟩
  all_goals first | lia | exact⟨x,y,z,rfl,b,e,j,i,z0,z1⟩
 have hc:=c.cl;have n1:=n.boxes;have n2:=n.plan;have n3:=n.memory;have Z:k<19:=by lia
 have i0:atI (aB k [x,y,z]) 0=some (.str (bf k)):=lv;have i1:atI (aB k [x,y,z]) 1=some (.int x):=ua;have i2:atI (aB k [x,y,z]) 2=some (.int y):=p_;have i3:atI (aB k [x,y,z]) 3=some (.int z):=Db;obtain⟨b1,b2,b3⟩:=d.at j i;obtain⟨a1,a2,a3⟩:=d.at b e;have er:bq [x,y,z] I=(bxG I y+z) %4294967296:=rfl;rw[er] at X R T;have ao:o≠bl:=by rintro rfl;rw[ho] at S;cases S
 have ar:o≠U:=by rintro rfl;rw[ho] at hm;cases hm
 refine⟨_,(ac (psS 2 hV.nd (pX ag (pv 1) aa))
   (ac (psS 3 hV.nd (pcH bh p (pa2 (au aP (pX bc (aE (pv 0) (by rfl)) (pX ag (pv 1) aa)) (pX ag (pv 1) aa)) aa)))
   (ac (ay (ip (eL (pcH t_ p (pa2 (aE (pv 0) (by rfl)) (pv 3))))) (ae (ai (aw (pa2 av (pv 3))))) am)
   (ac (aW (cy (ay (pcT aJ (pX ag (pv 1) aa) av) (ae (kN (Hk (uQ p) (aE (pv 0) (by rfl)) (pv 3) aa ⟨(by rfl),(by rfl),(by rfl),(by rfl)⟩) (zQ (aE (pv 0) (by rfl)) (pv 2) rL))) (ae (vW (uQ p) (aE (pv 0) (by rfl)) (pv 3) (pX bc (aE (pv 0) (by rfl)) (pv 2)) (by rfl))))))
   (ae (ai fH)))))),?_⟩
 try dsimp only[aT]
 walk_at"g";have F:(bxG I y+z) %2^32=(bxG I y+z) %4294967296:=rfl;rw[F];generalize (bxG I y+z) %4294967296=r at*
 by_cases m:L<=r/\r<L+2^pk
 .rw[MO m];walk_at"g";obtain⟨g1,g2,g3⟩:=N.get r;have hD:IsD H U:= .inl ⟨_,.inl hm⟩;have hg:wR H U (.int r) (eZ J (.inl r)):=wR.k (k:= .inl r) hm;have aR:tI H U (.int r) (.int (bxG I x)) (upd H U (.dK (dw J (.inl r) (.int (bxG I x))))):=tI.k (k:= .inl r) hm (Nw q (by decide))
  have aK:ixN (I.map V.int).length x=some x.toNat:=by
   have ek:x=((x.toNat:Nat):Int):=by lia
   rw[ek,fI,d.len];exact Ew (by lia)
  walk_at"n";refine⟨fun Z' Y=>aG (Z'=[some (.ref o),some (.ref a),some (.int x),some (.int r)]/\((k=11/\Y=upd H bl (.lst ((I.set x.toNat (vp J r)).map V.int)))\/(k=12/\Y=upd H U (.dK (dw J (.inl r) (.int (bxG I x))))))),?_,?_⟩
  .rcases u with rfl | rfl
   .walk_at"g";walk_at"wd";rw[g1, <-List.map_set];exact⟨rfl,.inl ⟨rfl,rfl⟩⟩
   .walk_at"g";walk_at"wd";exact⟨rfl,.inr ⟨rfl,rfl⟩⟩
  rintro Z1 H1 ⟨rfl,hH⟩
  rcases hH with⟨rfl,rfl⟩|⟨rfl,rfl⟩
  .walk_at"g";exact R m rfl
  .walk_at"g";exact T m rfl
 .rw[MG m];walk_at"g";exact X m
structure Rep (K:Frag) (H:Hp) (ml:Addr) (v:V) (bs:List Int) (ws:List (Key × V)):Prop where
 ex:∃a b d:Addr,v= .ref a/\SqT K H a [.ref b,.ref d]/\SqT K H b (bs.map V.int)/\H d=some (.dK ws)/\d≠ml
 len:bs.length=7
 rng:∀x∈bs,0<=x/\x<4294967296
 mem:b_ ws
 few:ws.length<=100
 nod:(ws.map (·.1)).Nodup
def JG(H:Hp)(r:Addr)(n:Int)(bx:List Int)(kvs:List (Key × V)):Prop:=∃t d,H r=some (.tup [.int n,.ref t,.ref d])/\H t=some (.tup (bx.map V.int))/\H d=some (.dK kvs)
def HX(H o:Hp)(r:Addr)(n:Int)(bx:List Int)(kvs:List (Key × V)):Prop:=∃t d,H t=none/\H d=none/\o r=some (.tup [.int n,.ref t,.ref d])/\o t=some (.tup (bx.map V.int))/\o d=some (.dK kvs)
def Bu(S:List Addr)(H o:Hp):Prop:=∀b u,b ∉ S->H b=some u->o b=some u
def Jv(K:Frag)(C:Addr):Sp:=fun m H Q _=>∃(o j pl bl b e rw:Addr) (g n:Int) (f:Nat) (d:List Int) (I:List (Key × V)) (c U:List V),m=[.ref o,.int n]/\H o=some (.ins C j (hfs pl g bl b e rw))/\
 H bl=some (.lst (d.map V.int))/\BxN f d/\0<f/\f<=8/\H b=some (.dK I)/\b_ I/\I.length<=10000/\H rw=some (.lst c)/\c.length<=10000/\SqL K H e U/\e≠rw/\bl≠rw/\
 (g<=n->∀q,H q=none->Q (.ref q) (upd H q (.tup [.str "lost"])))/\
 (n<g->U.length<=c.length->∀q r J,Bu [rw] H J->H q=none->H r=none->J q=some (.tup [.str "asks",.int n])->J rw=some (.lst (c++[.ref r]))->HX H J r n d I->Q (.ref q) J)/\
 (n<g->∀v,U[c.length]? =some v->∃bs i,Rep K H b v bs i/\∀a r J,Bu [o,bl,b,rw] H J->H a=none->H r=none->J o=some (.ins C j (hfs pl g a b e rw))->J a=some (.lst ((bs.take f++d.drop 7).map V.int))->
  J b=some (.dK (cP I i))->J rw=some (.lst (c++[.ref r]))->HX H J r n d I->Q .non J)
theorem ww{C:Addr}(B:Bi mg)(c:cA K mg "Holding" C)(n:cZ K C)(D:kT K C):bC P w K mg base 1 C "ask" BM (Jv K C):=by
 refine D.has c.cl jt (fun vs H Q E h=> ?_) (fun f da A bt s H vs Q E hr h=> ?_)
 .obtain⟨o,dx,pl,bl,p,rl,rw,g,n,x,I,a,M,r,rfl,_⟩:=h
  rfl
 obtain⟨o,dx,pl,bl,p,rl,rw,pg,m,x,I,a,M,r,rfl,ho,hb,bh,c6,cR,hm,dn,bo,U,b8,b0,cc,cb,q1,q2,q3⟩:=h;have hc:=c.cl;have n1:=n.boxes;have n2:=n.gates;have n3:=n.memory;have n4:=n.rows;have n5:=n.replies
 refine⟨_,(ac (ay (pcT nh (pv 1) (aE (pv 0) (by rfl))) (ae (ai (aw (pa1 av)))) am)
   (ac (psS 2 jt.nd (aL aN (by rfl) B.len dD (pa1 (aE (pv 0) (by rfl)))))
   (ac (bL (gH MX M9 M_ cC (aE (pv 0) (by rfl)) (pa1 (aw (pa3 (pv 1) (cn cQ (by rfl) B.tuple fQ (pa1 (aE (pv 0) (by rfl)))) (cn rN (by rfl) B.dict DX (pa1 (aE (pv 0) (by rfl)))))))))
   (ac (ay (pcT nh (pv 2) (aL aN (by rfl) B.len dD (pa1 (aE (pv 0) (by rfl))))) (ae (ai (aw (pa2 av (pv 1))))) am)
   (ac (psS 3 jt.nd (pX bc (aE (pv 0) (by rfl)) (pv 2)))
   (ac (bT (pv 0) (au o5 (cn lW (by rfl) B.list Az (pa1 (di Ia (pX ag (pv 3) aa) eQ (eP (aL aN (by rfl) B.len dD (pa1 (aE (pv 0) (by rfl)))))))) (di vY (aE (pv 0) (by rfl)) (eP aa) eQ)) (by rfl))
   (ac (bL (gH Pr Pg PySem.F.type_dict_update Fl (aE (pv 0) (by rfl)) (pa1 (pX ag (pv 3) aa))))
   (ae (ai fH))))))))),?_⟩
 try dsimp only[aT]
 walk_at"g";refine bI (fun c1=> ?_) (fun c1=> ?_)
 .walk_at"g";exact q1 c1
 have a8:m<pg:=by lia
 have dc:tyV K "list" (.ref rw) H:= .inl ⟨rfl,_,SqL.of U⟩;walk_at"g";intro d J;have c':p≠d:=ak hm J;have cL:rw≠d:=ak U J;have c8:=ck (o:= .tup (I.map V.int)) J hm;have dp:=ck (o:= .tup (I.map V.int)) J ho;walk_at"g";intro j y;walk_at"g";intro i L;have S:ax H (upd (upd (upd H d (.tup (I.map V.int))) j (.dK a)) i (.tup [.int m,.ref d,.ref j])):=bK L (bK y (af J _));have d1:H j=none:=by
  cases e:H j with
  | none=>rfl
  | some u=>rw[ck (o:= .tup (I.map V.int)) J e] at y;cases y
 have r1:H i=none:=by
  cases e:H i with
  | none=>rfl
  | some u=>rw[ck (o:= .dK a) y (ck (o:= .tup (I.map V.int)) J e)] at L;cases L
 have bj:upd (upd (upd H d (.tup (I.map V.int))) j (.dK a)) i (.tup [.int m,.ref d,.ref j]) i=some (.tup [.int m,.ref d,.ref j]):=ad;have a7:upd (upd (upd H d (.tup (I.map V.int))) j (.dK a)) i (.tup [.int m,.ref d,.ref j]) d=some (.tup (I.map V.int)):=ck L (ck y ad);have aR:upd (upd (upd H d (.tup (I.map V.int))) j (.dK a)) i (.tup [.int m,.ref d,.ref j]) j=some (.dK a):=ck L ad;generalize upd (upd (upd H d (.tup (I.map V.int))) j (.dK a)) i (.tup [.int m,.ref d,.ref j])=H1 at*;have ab:=S _ _ U;have cM:M.length<sizeLine:=Nw b8 (by decide)
 have G:But rw H1 (upd H1 rw (.lst (M++[V.ref i]))):=But.upd;have N:upd H1 rw (.lst (M++[V.ref i])) rw=some (.lst (M++[V.ref i])):=ad;have a':o≠rw:=by rintro rfl;rw[ho] at U;cases U
 have a6:p≠rw:=by rintro rfl;rw[hm] at U;cases U
 have b5:i≠rw:=(ak U r1).symm;have ba:=G _ _ a' (S _ _ ho);have bb:=G _ _ cb (S _ _ hb);have bM:=G _ _ a6 (S _ _ hm);have ct:=But.seq G cc (S.seq b0);have ar:=G _ _ b5 bj;have Z:=G _ _ (ak U J).symm a7;have ao:=G _ _ (ak U d1).symm aR;have O:Bu [rw] H (upd H1 rw (.lst (M++[V.ref i]))):=fun b u Y e=>G _ _ (by simpa using Y) (S _ _ e)
 walk_at"g";generalize upd H1 rw (.lst (M++[V.ref i]))=H2 at*;refine bI (fun c2=> ?_) (fun c2=> ?_)
 .walk_at"g";intro q X;have b7:H q=none:=by
   by_cases z:q=rw
   .rw[z,N] at X;cases X
   .cases e:H q with
    | none=>rfl
    | some u=>rw[O q u (by simpa using z) e] at X;cases X
  refine q2 a8 (by lia) q i _ (fun b u Y e=>ck X (O b u Y e)) b7 r1 ad (ck X N) ⟨d,j,J,d1,ck X ar,ck X Z,ck X ao⟩
 .have hlr:M.length<r.length:=by lia
  obtain⟨v,hv⟩:∃v,r[M.length]? =some v:=⟨_,be hlr⟩;obtain⟨bs,ws,rep,q4⟩:=q3 a8 v hv;obtain⟨ra,rx,rd,rfl,h1,h2,h3,h4⟩:=rep.ex;have dg:atI r ((M.length:Nat):Int)=some (.ref ra):=aY hv;have bX:=But.tup G ab (S.tup h1);have c9:=But.tup G ab (S.tup h2);have cm:rd≠rw:=by rintro rfl;rw[h3] at U;cases U
  have bH:=G _ _ cm (S _ _ h3);have de:(bs.map V.int).length=7:=by rw[fI,rep.len]
  have bu:(I.map V.int).length=x:=by rw[fI,bh.len]
  walk_at"g";intro t1 H3 s3 bw;rw[bu,C7, <-Pk] at bw;have cF:=s3 _ _ ba;have cD:=s3 _ _ bb;walk_at"g";intro l1 bV;have br:upd H3 l1 (.lst ((bs.take x).map V.int)) l1=some (.lst ((bs.take x).map V.int)):=ad;have s4:=bK (o:= .lst ((bs.take x).map V.int)) bV s3;have cj:=s4 _ _ ba;have df:=s4 _ _ bb;generalize upd H3 l1 (.lst ((bs.take x).map V.int))=H4 at*;walk_at"g";intro l2 aH;have e7:ik (I.map V.int) (some 7) none=(I.drop 7).map V.int:=by
   have:=oE (xs:=I.map V.int) (n:=7);rw[List.map_drop];exact this
  rw[e7];have b9:=ck (o:= .lst ((I.drop 7).map V.int)) aH cj;have c7:=ck (o:= .lst ((I.drop 7).map V.int)) aH br;have cz:upd H4 l2 (.lst ((I.drop 7).map V.int)) l2=some (.lst ((I.drop 7).map V.int)):=ad;have s5:=bK (o:= .lst ((I.drop 7).map V.int)) aH s4;generalize upd H4 l2 (.lst ((I.drop 7).map V.int))=H5 at*;have dh:((bs.take x).map V.int).length+((I.drop 7).map V.int).length<=sizeLine:=by
   rw[fI,fI,M0,Ni,rep.len,bh.len];exact MV (show _<=100 by lia) (by decide)
  walk_at"g";intro l3 T;rw[<- MH];have bz:=ck (o:= .lst ((bs.take x++I.drop 7).map V.int)) T b9;have b':upd H5 l3 (.lst ((bs.take x++I.drop 7).map V.int)) l3=some (.lst ((bs.take x++I.drop 7).map V.int)):=ad;have s6:=bK (o:= .lst ((bs.take x++I.drop 7).map V.int)) T s5;have R:H2 l3=none:=by
   cases e:H2 l3 with
   | none=>rfl
   | some u=>rw[s5 _ _ e] at T;cases T
  generalize upd H5 l3 (.lst ((bs.take x++I.drop 7).map V.int))=H6 at*;walk_at"g";have e6:upd H6 o (.ins C dx (aU "boxes" (.ref l3) (hfs pl pg bl p rl rw))) o=some (.ins C dx (hfs pl pg l3 p rl rw)):=ad;have b6:But o H6 (upd H6 o (.ins C dx (aU "boxes" (.ref l3) (hfs pl pg bl p rl rw)))):=But.upd;have a9:p≠o:=by rintro rfl;rw[ho] at hm;cases hm
  have b1:rd≠o:=by rintro rfl;rw[ho] at h3;cases h3
  have bD:=b6 _ _ a9 (s6 _ _ bM);have cH:=b6 _ _ b1 (s6 _ _ bH);have cv:SqT K (upd H6 o (.ins C dx (aU "boxes" (.ref l3) (hfs pl pg bl p rl rw)))) ra [.ref rx,.ref rd]:=KU bz (fun _=>⟨(fun z=>by cases z),(fun _ z=>by cases z)⟩) (s6.tup bX)
  generalize upd H6 o (.ins C dx (aU "boxes" (.ref l3) (hfs pl pg bl p rl rw)))=H7 at*;have cq:tyV K "dict" (.ref p) H7:= .inr (.inr (.inl ⟨rfl,.inl ⟨_,bD⟩⟩));have dm:a.length+ws.length<=sizeLine:=MV (Nat.add_le_add bo rep.few) (by decide)
  have cp:p≠rd:=Nb h4;walk_at"g";have aK:H l3=none:=by
   by_cases z:l3=rw
   .rw[z,N] at R;cases R
   .cases e:H l3 with
    | none=>rfl
    | some u=>rw[O l3 u (by simpa using z) e] at R;cases R
  have b4:l3≠o:=(ak ho aK).symm;have bW:l3≠p:=(ak hm aK).symm;have bE:rw≠o:=Nb a';have up:∀b u,b≠o->b≠p->H2 b=some u->upd H7 p (.dK (cP a ws)) b=some u:=fun b u z1 z2 e=>by
   rw[aj z2];exact b6 _ _ z1 (s6 _ _ e)
  refine q4 l3 i _ (fun b u Y e=> ?_) aK r1 ?_ ?_ ad (up _ _ bE (Nb a6) N) ?_
  .have hn':b≠o/\b≠bl/\b≠p/\b≠rw:=by
    refine⟨fun z=>Y (by simp [z]),fun z=>Y (by simp [z]),fun z=>Y (by simp [z]),fun z=>Y (by simp [z])⟩
   exact up b u hn'.1 hn'.2.2.1 (O b u (by simpa using hn'.2.2.2) e)
  .rw[aj (Nb a9)];exact e6
  .rw[aj bW];exact b6 _ _ b4 b'
  .exact⟨d,j,J,d1,up _ _ (ak ho r1).symm (ak hm r1).symm ar,up _ _ (ak ho J).symm (ak hm J).symm Z,up _ _ (ak ho d1).symm (ak hm d1).symm ao⟩
structure HSt where
 bx:List Int
 kvs:List (Key × V)
 rows:List (Int × List Int × List (Key × V))
structure Fx where
 pk:Nat
 pb:Int
 pm:Nat
 ps:Nat
 pg:Int
 reps:List (List Int × List (Key × V))
noncomputable def bA(x:Fx)(k:Nat)(ns:List Int)(st:HSt):Option (Str × List Int) × HSt:=
 if k=18 then
  if x.pg<=ns.getD 0 0 then(some ("lost",[]),st)
  else match x.reps[st.rows.length]? with
   | none=>(some ("asks",[ns.getD 0 0]),{st with rows:=st.rows++[(ns.getD 0 0,st.bx,st.kvs)]})
   | some (bs,ws)=>(none,⟨bs.take st.bx.length++st.bx.drop 7,cP st.kvs ws,st.rows++[(ns.getD 0 0,st.bx,st.kvs)]⟩)
 else if k=11\/k=12 then
  if InR x.pk x.pb (bq ns st.bx) then
   if k=11 then(none,{st with bx:=st.bx.set (ns.getD 0 0).toNat (vp st.kvs (bq ns st.bx))})
   else(none,{st with kvs:=dw st.kvs (.inl (bq ns st.bx)) (.int (bxG st.bx (ns.getD 0 0)))})
  else(some ("beyond",[bq ns st.bx]),st)
 else(none,{st with bx:=st.bx.set (ns.getD 0 0).toNat (fe x.pk x.pb x.pm x.ps k ns st.bx)})
def yC(H:Hp)(o:Addr):List Addr->List (Int × List Int × List (Key × V))->Prop
 | [],[]=>True
 | r::rs,x::xs=>(∃t d,H r=some (.tup [.int x.1,.ref t,.ref d])/\H t=some (.tup (x.2.1.map V.int))/\H d=some (.dK x.2.2)/\d≠o)/\yC H o rs xs
 | _,_=>False
def dS(o H:Hp)(C:Addr):List (Addr × Addr)->List (Int × List Int × List (Key × V))->Prop
 | [],[]=>True
 | e::es,x::xs=>(o e.2=none/\e.2≠C/\H e.2=some (.dK x.2.2)/\∃t,H e.1=some (.tup [.int x.1,.ref t,.ref e.2])/\H t=some (.tup (x.2.1.map V.int)))/\dS o H C es xs
 | _,_=>False
theorem dS.mono{i o H J:Hp}{U C:Addr}(I:∀a xs,H a=some (.tup xs)->J a=some (.tup xs))(f:∀a kvs,i a=none->a≠U->H a=some (.dK kvs)->o a=none/\J a=some (.dK kvs)/\a≠C):∀{g:List (Addr × Addr)}{xs:List (Int × List Int × List (Key × V))},dS i H U g xs->dS o J C g xs
 | [],[],_=>True.intro
 | _::_,_::_,h=>by
  obtain⟨⟨a,b,c,t,d,e⟩,r⟩:=h;obtain⟨c1,c2,c3⟩:=f _ _ a b c;exact⟨⟨c1,c3,c2,t,I _ _ d,I _ _ e⟩,dS.mono I f r⟩
 | [],_::_,h=>h.elim
 | _::_,[],h=>h.elim
theorem dS.len{I H:Hp}{C:Addr}:∀{o:List (Addr × Addr)}{xs:List (Int × List Int × List (Key × V))},dS I H C o xs->o.length=xs.length
 | [],[],_=>rfl
 | _::_,_::_,h=>Ng (· +1) (dS.len h.2)
 | [],_::_,h=>h.elim
 | _::_,[],h=>h.elim
theorem dS.there{I H:Hp}{C:Addr}:∀{o:List (Addr × Addr)}{xs:List (Int × List Int × List (Key × V))},dS I H C o xs->∀d∈o.map (·.2), ∃u,H d=some u
 | [],[],_=>fun d h=>by cases h
 | _::_,_::_,h=>fun d hd=>by
  rcases M3.mp hd with rfl | hd
  .exact⟨_,h.1.2.2.1⟩
  .exact dS.there h.2 d hd
 | [],_::_,h=>h.elim
 | _::_,[],h=>h.elim
theorem dS.push{C H:Hp}{o:Addr}{e:Addr × Addr}{x:Int × List Int × List (Key × V)}(I:C e.2=none/\e.2≠o/\H e.2=some (.dK x.2.2)/\∃t,H e.1=some (.tup [.int x.1,.ref t,.ref e.2])/\H t=some (.tup (x.2.1.map V.int))):∀{J:List (Addr × Addr)}{xs:List (Int × List Int × List (Key × V))},dS C H o J xs->dS C H o (J++[e]) (xs++[x])
 | [],[],_=>⟨I,True.intro⟩
 | _::_,_::_,h=>⟨h.1,dS.push I h.2⟩
 | [],_::_,h=>h.elim
 | _::_,[],h=>h.elim
theorem dS.rows{I H:Hp}{o:Addr}:∀{C:List (Addr × Addr)}{xs:List (Int × List Int × List (Key × V))},dS I H o C xs->yC H o (C.map (·.1)) xs
 | [],[],_=>True.intro
 | _::_,_::_,h=>by
  obtain⟨⟨a,b,c,t,d,e⟩,r⟩:=h;exact⟨⟨t,_,d,e,c,b⟩,dS.rows r⟩
 | [],_::_,h=>h.elim
 | _::_,[],h=>h.elim
theorem wV{xs:List Addr}{d:Addr}(h:xs.Nodup)(hd:d ∉ xs):(xs++[d]).Nodup:=by
 rw[List.nodup_append]
 exact⟨h,NM.mpr ⟨by simp,O2⟩,fun a C b o=>by
  have e:b=d:=by simpa using o
  rintro rfl
  exact hd (e ▸ C)⟩
structure HoH (C:Addr) (nb:Nat) (H0 H:Hp) (o dx pl rl:Addr) (g:Int) (st:HSt):Prop where
 ex:∃(bl ml rw:Addr) (es:List (Addr × Addr)),H o=some (.ins C dx (hfs pl g bl ml rl rw))/\H bl=some (.lst (st.bx.map V.int))/\H ml=some (.dK st.kvs)/\H rw=some (.lst ((es.map (·.1)).map V.ref))/\H0 o=none/\H0 bl=none/\H0 ml=none/\H0 rw=none/\bl≠rw/\(es.map (·.2)).Nodup/\dS H0 H ml es st.rows
 same:ax H0 H
 bxs:BxN nb st.bx
 mem:b_ st.kvs
theorem HoH.grow{C:Addr}{nb:Nat}{c H a:Hp}{o b pl U:Addr}{g:Int}{st:HSt}(h:HoH C nb c H o b pl U g st)(e:ax H a):HoH C nb c a o b pl U g st:=by
 obtain⟨bl,j,rw,p,ho,d,hm,I,i,n,m0,f,J,m,rows⟩:=h.ex;exact⟨⟨bl,j,rw,p,e _ _ ho,e _ _ d,e _ _ hm,e _ _ I,i,n,m0,f,J,m,rows.mono (fun _ _ z=>e _ _ z) (fun _ _ z1 z2 z=>⟨z1,e _ _ z,z2⟩)⟩,h.same.trans e,h.bxs,h.mem⟩
theorem HoH.add{C:Addr}{nb:Nat}{i H:Hp}{o f pl d:Addr}{g:Int}{st:HSt}(h:HoH C nb i H o f pl d g st){b:Addr}(u:HO)(I:H b=none):HoH C nb (upd i b u) (upd H b u) o f pl d g st:=by
 obtain⟨bl,n,rw,r,ho,c,hm,J,m,q,m0,j,U,p,rows⟩:=h.ex;refine⟨⟨bl,n,rw,r,ck I ho,ck I c,ck I hm,ck I J,by rw[aj (ak ho I)];exact m,by rw[aj (ak c I)];exact q,by rw[aj (ak hm I)];exact m0,by rw[aj (ak J I)];exact j,U,p,rows.mono (fun _ _ z=>ck I z) (fun _ _ z1 z2 z=>⟨by rw[aj (ak z I)];exact z1,ck I z,z2⟩)⟩,fun a v e=> ?_,h.bxs,h.mem⟩
 by_cases z:a=b
 .subst z;rw[ad] at e ⊢;exact e
 .rw[aj z] at e ⊢;exact h.same _ _ e
theorem HoH.write{C:Addr}{nb:Nat}{I H:Hp}{o n pl i:Addr}{g:Int}{st:HSt}(h:HoH C nb I H o n pl i g st){b:Addr}{u:HO}(m:HO)(j:I b=some u)(q:∀ys,u≠ .tup ys):HoH C nb (upd I b m) (upd H b m) o n pl i g st:=by
 obtain⟨bl,r,rw,x,ho,p,hm,U,c,f,m0,J,d,s,rows⟩:=h.ex;have ne:∀a,I a=none->a≠b:=fun a e=>(ak j e).symm
 refine⟨⟨bl,r,rw,x,by rw[aj (ne _ c)];exact ho,by rw[aj (ne _ f)];exact p,by rw[aj (ne _ m0)];exact hm,by rw[aj (ne _ J)];exact U,by rw[aj (ne _ c)];exact c,by rw[aj (ne _ f)];exact f,by rw[aj (ne _ m0)];exact m0,by rw[aj (ne _ J)];exact J,d,s,
  rows.mono (fun a y z=>by rw[aj (fun z2=>by rw[z2,h.same _ _ j] at z;exact q _ (MR z))];exact z) (fun a _ z1 z2 z=>⟨by rw[aj (ne _ z1)];exact z1,by rw[aj (ne _ z1)];exact z,z2⟩)⟩,fun a v e=> ?_,h.bxs,h.mem⟩
 by_cases z:a=b
 .subst z;rw[ad] at e ⊢;exact e
 .rw[aj z] at e ⊢;exact h.same _ _ e
theorem HoH.take{C:Addr}{nb:Nat}{c H:Hp}{o p pl n:Addr}{g:Int}{st:HSt}(h:HoH C nb c H o p pl n g st){b:Addr}{u:HO}(J:H b=some u)(f:∃ys,u= .tup ys\/∃U,u= .frz U (.tup ys)):HoH C nb (upd c b u) H o p pl n g st/\ax c (upd c b u):=by
 obtain⟨bl,s,rw,A,ho,m,hm,I,r,y,m0,q,i,x,rows⟩:=h.ex;have n1:∀a d,H a=some (.lst d)->a≠b:=fun a d e=>by
  rintro rfl
  rw[J] at e;obtain⟨ys,rfl | ⟨U,rfl⟩⟩:=f <;> cases e
 have n2:∀a j,H a=some (.dK j)->a≠b:=fun a d e=>by
  rintro rfl
  rw[J] at e;obtain⟨ys,rfl | ⟨U,rfl⟩⟩:=f <;> cases e
 have n3:o≠b:=by
  rintro rfl
  rw[J] at ho;obtain⟨ys,rfl | ⟨U,rfl⟩⟩:=f <;> cases ho
 refine⟨⟨⟨bl,s,rw,A,ho,m,hm,I,by rw[aj n3];exact r,by rw[aj (n1 _ _ m)];exact y,by rw[aj (n2 _ _ hm)];exact m0,by rw[aj (n1 _ _ I)];exact q,i,x,
  rows.mono (fun _ _ z=>z) (fun a _ z1 z2 z=>⟨by rw[aj (n2 _ _ z)];exact z1,z,z2⟩)⟩,fun a v e=> ?_,h.bxs,h.mem⟩,fun a v e=> ?_⟩
 .by_cases z:a=b
  .subst z;rw[ad] at e;rw[J];exact e
  .rw[aj z] at e;exact h.same _ _ e
 .by_cases z:a=b
  .subst z;rw[ad];have:=h.same _ _ e;rw[J] at this;exact this
  .rw[aj z];exact e
theorem HoH.takeT{C:Addr}{nb:Nat}{U H:Hp}{o d pl c:Addr}{g:Int}{st:HSt}(h:HoH C nb U H o d pl c g st){b:Addr}{ys:List V}(I:SqT K H b ys):∃J,HoH C nb J H o d pl c g st/\ax U J/\SqT K J b ys:=by
 unfold SqT at I ⊢;rcases I with I | I
 .rcases I with I | ⟨ob,I⟩
  .obtain⟨a,b⟩:=h.take I ⟨ys,.inl rfl⟩;exact⟨_,a,b,.inl (.inl ad)⟩
  .obtain⟨a,b⟩:=h.take I ⟨ys,.inr ⟨ob,rfl⟩⟩;exact⟨_,a,b,.inl (.inr ⟨ob,ad⟩)⟩
 .exact⟨U,h,ax.refl _,.inr I⟩
structure EnH (K:Frag) (H0:Hp) (pl rl:Addr) (x:Fx):Prop where
 rm:Rm H0 pl x.pk x.pb
 there:∃u,H0 rl=some u
 reps:∃vs:List V,SqL K H0 rl vs/\vs.length=x.reps.length/\∀(i:Nat) (v:V) (bs:List Int) (ws:List (Key × V)),vs[i]? =some v->x.reps[i]? =some (bs,ws)->(∀ml,H0 ml=none->Rep K H0 ml v bs ws)
theorem Rep.mv{H o:Hp}{C:Addr}{v:V}{bs:List Int}{ws:List (Key × V)}(h:Rep K H C v bs ws)(e:ax H o):Rep K o C v bs ws:=by
 obtain⟨U,I,J,f,a,b,c,d⟩:=h.ex;exact⟨⟨U,I,J,f,e.tup a,e.tup b,e _ _ c,d⟩,h.len,h.rng,h.mem,h.few,h.nod⟩
theorem none_of{H o:Hp}{a:Addr}(e:ax H o)(h:o a=none):H a=none:=by
 cases z:H a with
 | none=>rfl
 | some u=>rw[e _ _ z] at h;cases h
theorem EnH.mv{H C:Hp}{pl o:Addr}{x:Fx}(h:EnH K H pl o x)(e:ax H C):EnH K C pl o x:=by
 obtain⟨d,I,f,J⟩:=h.reps;obtain⟨u,g⟩:=h.there;exact⟨h.rm.mv e,⟨u,e _ _ g⟩,d,e.seq I,f,fun i v bs U a b c hm=>(J i v bs U a b c (none_of e hm)).mv e⟩
def sV(H:Hp):Option (Str × List Int)->V->Prop
 | none,v=>v= .non
 | some (x,ns),v=>∃q,v= .ref q/\H q=some (.tup (.str x::ns.map V.int))
def Ad(K:Frag)(C:Addr):Sp:=fun e H Q _=>∃(I:Nat) (U:Hp) (o a d pl b:Addr) (st:HSt) (x:Fx) (k:Nat) (J:List Int),e=[.ref o,.ref a]/\HoH C I U H o d pl b x.pg st/\EnH K U pl b x/\(k=17->∃pg,Pl U pl x.pk x.pb x.pm x.ps pg)/\0<I/\I<=8/\aI I 262144 k J/\
 k≠0/\k≠13/\k≠14/\k≠15/\SqT K H a (aB k J)/\st.kvs.length<=9000/\st.rows.length<=9000/\
 ∀v c,HoH C I U c o d pl b x.pg (bA x k J st).2->sV c (bA x k J st).1 v->Q v c
theorem aI.box{nb c:Int}{k:Nat}{ns:List Int}(h:aI nb c k ns)(hm:makes k):∃x r,ns=x::r/\0<=x/\x<nb:=by
 unfold makes at hm;rcases h with⟨rfl,rfl⟩|⟨rfl,x,v,rfl,o,C,v0,v1⟩|⟨U,b,x,y,z,rfl,o,C,J,I,z0,z1⟩|⟨U,b,x,y,z,rfl,o,C,J,I,z0,z1⟩|⟨a,z,rfl,z0,z1⟩|⟨rfl,x,z,rfl,o,C,z0,z1⟩|⟨rfl,y,rfl,J,I⟩|⟨a,x,y,rfl,o,C,J,I⟩
 all_goals first | lia | exact⟨_,_,rfl,o,C⟩
theorem aI.gate{nb c:Int}{ns:List Int}(h:aI nb c 18 ns):∃n,ns=[n]:=by
 rcases h with⟨e,rfl⟩|⟨e,x,v,rfl,o,C,v0,v1⟩|⟨U,b,x,y,z,rfl,o,C,J,I,z0,z1⟩|⟨U,b,x,y,z,rfl,o,C,J,I,z0,z1⟩|⟨a,z,rfl,z0,z1⟩|⟨e,x,z,rfl,o,C,z0,z1⟩|⟨e,y,rfl,J,I⟩|⟨a,x,y,rfl,o,C,J,I⟩
 all_goals first | lia | exact⟨_,rfl⟩
theorem yU{o:List (Key × V)}:∀{kvs:List (Key × V)},b_ kvs->b_ o->b_ (cP kvs o):=by
 induction o with
 | nil=>intro kvs h _;exact h
 | cons p r ih=>
  intro kvs h hm;obtain⟨i,v,e,v0,v1⟩:=hm p (Nc ..);show b_ (cP (dw kvs p.1 p.2) r)
  rw[e];exact ih (h.put v0 v1) (fun C I=>hm C (M8 _ I))
theorem wT{nb:Nat}{k:Nat}{ns bx:List Int}{pk:Nat}{pb:Int}{pm ps:Nat}(e:aI nb 262144 k ns)(hm:makes k)(b:BxN nb bx)(R:SpM.Room pk pb)(o:k=17->pm+ps<=7):0<=fe pk pb pm ps k ns bx/\fe pk pb pm ps k ns bx<4294967296:=by
 unfold fe;have f:=R.b0;have c:=R.bW;rcases e with⟨rfl,rfl⟩|⟨rfl,x,v,rfl,C,J,v0,v1⟩|⟨d,g,x,y,z,rfl,C,J,U,I,z0,z1⟩|⟨d,g,x,y,z,rfl,C,J,U,I,z0,z1⟩|⟨a,z,rfl,z0,z1⟩|⟨rfl,x,z,rfl,C,J,z0,z1⟩|⟨rfl,y,rfl,U,I⟩|⟨a,x,y,rfl,C,J,U,I⟩
 .exact absurd hm (by unfold makes;decide)
 .exact⟨v0,v1⟩
 .rw[mC (by lia),mC (by lia),mC (by lia),mC (by lia)]
  obtain⟨_,i,b3⟩:=b.at U I;obtain⟨_,c2,c3⟩:=b.at z0 z1;exact SpM.jv_in (Cg k) (v:=bxG bx y) (w:=bxG bx z) ⟨i,b3⟩ ⟨c2,c3⟩
 .have e10:k=10:=by unfold makes at hm;clear o f c;lia
  subst e10;rw[mC (by decide),ME rfl]
  lia
 .rcases a with rfl | rfl <;> exact absurd hm (by unfold makes;decide)
 .exact absurd hm (by unfold makes;decide)
 .exact absurd hm (by unfold makes;decide)
 .rcases a with rfl | rfl
  .rw[mC (by decide),mC (by decide),ME rfl]
   obtain⟨f1,f2⟩:=SpM.fit_in (k:=pk) (base:=pb) (bxG bx ([x,y].getD 1 0))
   lia
  .rw[mC (by decide),mC (by decide),mC (by decide),ME rfl]
   obtain⟨f1,f2,f3⟩:=SpM.aim_le (o rfl) (bxG bx ([x,y].getD 1 0))
   lia
theorem wB{nb:Nat}{bs bx:List Int}(C:BxN nb bx)(U:nb<=8)(J:bs.length=7)(I:∀x∈bs,0<=x/\x<4294967296):BxN nb (bs.take nb++bx.drop 7):=by
 refine⟨by rw[MA,M0,Ni,J,C.len];lia,fun x o=> ?_⟩
 rcases MZ.mp o with o | o
 .exact I x (Oi o)
 .exact C.rng x (List.mem_of_mem_drop o)
theorem oG{C:Addr}(B:Bi mg)(c:cA K mg "Holding" C)(n:cZ K C)(D:fC K C)(xM:bC P w K mg base 1 C "ask" BM (Jv K C))(vd:bC P w K mg base 3 C "reach" bR (Eo K C))
  (lN:Has P w K mg base 4 "made_value" Bm (K5 K)):bC P w K mg base 5 C "carry_out" bR (Ad K C):=by
 refine D.has c.cl iX (fun vs H Q E h=> ?_) (fun f b7 A br s H vs Q E hr h=> ?_)
 .obtain⟨nb,H0,o,a,dx,pl,rl,st,x,k,U,rfl,_⟩:=h
  rfl
 obtain⟨nb,H0,o,a,dx,pl,rl,st,x,k,U,rfl,I,en,aH,b4,bt,hv,k0,cm,b1,b8,ha,b9,cc,q⟩:=h;obtain⟨bl,p,rw,G,ho,N,hm,J,o0,Z,m0,X,F,nd,rows⟩:=I.ex;have hk:=hv.lt;have hc:=c.cl;have n1:=n.boxes;have n2:=n.plan;have b2:=en.rm.mv I.same;have T:=I.bxs;have cq:=I.mem;have i0:atI (aB k U) 0=some (.str (bf k)):=lv;have a8:bl≠o:=by rintro rfl;rw[ho] at N;cases N
 have bw:p≠o:=by rintro rfl;rw[ho] at hm;cases hm
 have bz:rw≠o:=by rintro rfl;rw[ho] at J;cases J
 have ab:bl≠p:=by rintro rfl;rw[N] at hm;cases hm
 have aK:p≠rw:=by rintro rfl;rw[hm] at J;cases J
 refine⟨_,(ac (psS 2 iX.nd (pX ag (pv 1) aa))
   (ac (ay (pcT aJ (pv 2) av) (ae (ai (bB (xM.mono (by omega)) hr (pv 0) (pa1 (pX ag (pv 1) aa))))) am)
   (ac (aW (cy (ay (PW.pt (gP (pcT aJ (pv 2) av) (hZ (pcT aJ (pv 2) av)))) (ae (ai (bB (vd.mono (by omega)) hr (pv 0) (pa1 (pv 1))))) am)))
   (ac (kN (pcH lN hr (pa3 (aE (pv 0) (by rfl)) (pv 1) (aE (pv 0) (by rfl)))) (zQ (aE (pv 0) (by rfl)) (pX ag (pv 1) aa) rL))
   (ae (ai fH)))))),?_⟩
 try dsimp only[aT]
 walk_at"g";refine bI (fun c1=> ?_) (fun c1=> ?_)
 .have e:=seq hk (j:=18) (by decide) c1
  subst e;obtain⟨m,rfl⟩:=hv.gate;obtain⟨vs,bo,b',a6⟩:=en.reps;have a7:=rows.len;have b6:=I.same.seq bo;have cj:rl≠rw:=by
   obtain⟨u,hu⟩:=en.there;exact ak hu X
  have i1:atI (aB 18 [m]) 1=some (.int m):=ua;have bW:((G.map (·.1)).map V.ref).length<=10000:=by rw[fI,fI];lia
  have a9:st.kvs.length<=10000:=by lia
  have Y:((G.map (·.1)).map V.ref).length=st.rows.length:=by rw[fI,fI];exact a7
  have g1:x.pg<=m->∀q,H q=none->Q (.ref q) (upd H q (.tup [.str "lost"])):=fun hp qq hq=>by
   have G:bA x 18 [m] st=(some (("lost":Str),([]:List Int)),st):=by
    unfold bA;rw[ME rfl];exact ME hp
   rw[G] at q;exact q _ _ (I.grow (af hq _)) ⟨qq,rfl,ad⟩
  have g2:m<x.pg->vs.length<=((G.map (·.1)).map V.ref).length->∀q r i,Bu [rw] H i->H q=none->H r=none->i q=some (.tup [.str "asks",.int m])->i rw=some (.lst ((G.map (·.1)).map V.ref++[.ref r]))->HX H i r m st.bx st.kvs->Q (.ref q) i:=fun hp hl qq r i bu hq bE e1 e2 O=>by
   have hn:x.reps[st.rows.length]? =none:=Od (by rw[Y] at hl;lia)
   have g:bA x 18 [m] st=(some (("asks":Str),[m]),{st with rows:=st.rows++[(m,st.bx,st.kvs)]}):=by
    unfold bA;rw[ME rfl];refine(mC (by show ¬x.pg<=m;lia)).trans ?_
    rw[hn]
    rfl
   rw[g] at q;obtain⟨tt,dd,t0,d0,f1,f2,f3⟩:=O;have d:∀b u,b≠rw->H b=some u->i b=some u:=fun b u z e=>bu b u (by simpa using z) e
   refine q _ _ ⟨⟨bl,p,rw,G++[(r,dd)],d _ _ (Nb bz) ho,d _ _ F N,d _ _ aK hm,by rw[MH,MH];exact e2,o0,Z,m0,X,F,?_,?_⟩,fun b u e=>d b u (ak e X) (I.same b u e),I.bxs,I.mem⟩ ⟨qq,rfl,e1⟩
   .rw[MH];exact wV nd (fun z=>by obtain⟨u,hu⟩:=rows.there _ z;rw[d0] at hu;cases hu)
   .exact dS.push (e:=(r,dd)) (x:=(m,st.bx,st.kvs)) ⟨none_of I.same d0,(ak hm d0).symm,f3,tt,f1,f2⟩ (rows.mono (fun S _ e=>d _ _ (by rintro rfl;rw[J] at e;cases e) e) (fun S _ z1 z2 e=>⟨z1,d _ _ (by rintro rfl;rw[J] at e;cases e) e,z2⟩))
  have g3:m<x.pg->∀v,vs[((G.map (·.1)).map V.ref).length]? =some v->∃bs ws,Rep K H p v bs ws/\∀M r i,Bu [o,bl,p,rw] H i->H M=none->H r=none->i o=some (.ins C dx (hfs pl x.pg M p rl rw))->i M=some (.lst ((bs.take nb++st.bx.drop 7).map V.int))->
    i p=some (.dK (cP st.kvs ws))->i rw=some (.lst ((G.map (·.1)).map V.ref++[.ref r]))->HX H i r m st.bx st.kvs->Q .non i:=fun hp v ao=>by
   rw[Y] at ao;have bH:st.rows.length<vs.length:=(gV.mp ao).1;have bD:st.rows.length<x.reps.length:=by lia
   obtain⟨⟨bs,ws⟩,aR⟩:∃y,x.reps[st.rows.length]? =some y:=⟨_,be bD⟩;have R:=a6 st.rows.length v bs ws ao aR p m0;refine⟨bs,ws,R.mv I.same,fun M r i bu ba bE f1 f2 f3 f4 O=> ?_⟩
   have g:bA x 18 [m] st=(none,⟨bs.take nb++st.bx.drop 7,cP st.kvs ws,st.rows++[(m,st.bx,st.kvs)]⟩):=by
    unfold bA;rw[ME rfl];refine(mC (by show ¬x.pg<=m;lia)).trans ?_
    rw[aR,T.len]
    rfl
   rw[g] at q;obtain⟨tt,dd,t0,d0,i1,i2,i3⟩:=O;have d:∀b u,b≠o->b≠bl->b≠p->b≠rw->H b=some u->i b=some u:=fun b u z1 z2 z3 z4 e=>bu b u (by simp [z1,z2,z3,z4]) e
   refine q _ _ ⟨⟨M,p,rw,G++[(r,dd)],f1,f2,f3,by rw[MH,MH];exact f4,o0,none_of I.same ba,m0,X,(ak J ba).symm,?_,?_⟩,fun b u e=>d b u (ak e o0) (ak e Z) (ak e m0) (ak e X) (I.same b u e),wB T bt R.len R.rng,yU I.mem R.mem⟩ rfl
   .rw[MH];exact wV nd (fun z=>by obtain⟨u,hu⟩:=rows.there _ z;rw[d0] at hu;cases hu)
   .exact dS.push (e:=(r,dd)) (x:=(m,st.bx,st.kvs)) ⟨none_of I.same d0,(ak hm d0).symm,i3,tt,i1,i2⟩ (rows.mono (fun S _ e=>d _ _ (by rintro rfl;rw[ho] at e;cases e) (by rintro rfl;rw[N] at e;cases e) (by rintro rfl;rw[hm] at e;cases e) (by rintro rfl;rw[J] at e;cases e) e) (fun S _ z1 z2 e=>⟨z1,d _ _ (by rintro rfl;rw[ho] at e;cases e) (by rintro rfl;rw[N] at e;cases e) z2 (by rintro rfl;rw[J] at e;cases e) e,z2⟩))
  walk_at"g";exact g3
 have bb:k≠18:=fun e=>c1 (by rw[e];rfl)
 walk_at"n";refine⟨fun Z' i=>aG (H=i/\Z'=[some (.ref o),some (.ref a),some (.str (bf k))]/\k≠11/\k≠12),?_,?_⟩
 .by_cases L:k=11\/k=12
  .have a9:st.kvs.length<=10000:=by lia
   have g:bA x k U st=if InR x.pk x.pb (bq U st.bx) then(if k=11 then(none,{st with bx:=st.bx.set (U.getD 0 0).toNat (vp st.kvs (bq U st.bx))}) else(none,{st with kvs:=dw st.kvs (.inl (bq U st.bx)) (.int (bxG st.bx (U.getD 0 0)))})) else(some (("beyond":Str),[bq U st.bx]),st):=by
    unfold bA;rw[mC bb,ME L]
   obtain⟨y,hy,y0,y1⟩:∃y,U.getD 0 0=y/\0<=y/\y<nb:=by
    rcases hv with⟨rfl,rfl⟩|⟨rfl,x,v,rfl,x0,x1,v0,v1⟩|⟨h1,h2,x,y,z,rfl,x0,x1,y0,y1,z0,z1⟩|⟨h1,h2,x,y,z,rfl,x0,x1,y0,y1,z0,z1⟩|⟨hk,z,rfl,z0,z1⟩|⟨rfl,x,z,rfl,x0,x1,z0,z1⟩|⟨rfl,y,rfl,y0,y1⟩|⟨hk,x,y,rfl,x0,x1,y0,y1⟩
    all_goals first | lia | exact⟨_,rfl,x0,x1⟩
   have p1:¬InR x.pk x.pb (bq U st.bx)->∀q,H q=none->Q (.ref q) (upd H q (.tup [.str "beyond",.int (bq U st.bx)])):=fun hn qq hq=>by
    rw[g,mC hn] at q;exact q _ _ (I.grow (af hq _)) ⟨qq,rfl,ad⟩
   have p2:InR x.pk x.pb (bq U st.bx)->k=11->Q .non (upd H bl (.lst ((st.bx.set (U.getD 0 0).toNat (vp st.kvs (bq U st.bx))).map V.int))):=fun hi e11=>by
    rw[g,ME hi,ME e11] at q;obtain⟨_,g2,g3⟩:=I.mem.get (bq U st.bx);exact q _ _ ⟨⟨bl,p,rw,G,by rw[aj (Nb a8)];exact ho,ad,by rw[aj (Nb ab)];exact hm,by rw[aj (Nb F)];exact J,o0,Z,m0,X,F,nd,rows.mono (fun S _ e=>by rw[aj (fun z=>by rw[z,N] at e;cases e)];exact e) (fun S _ z1 z2 e=>⟨z1,by rw[aj (fun z=>by rw[z,N] at e;cases e)];exact e,z2⟩)⟩,cf Z I.same,I.bxs.set g2 g3,I.mem⟩ rfl
   have p3:InR x.pk x.pb (bq U st.bx)->k=12->Q .non (upd H p (.dK (dw st.kvs (.inl (bq U st.bx)) (.int (bxG st.bx (U.getD 0 0)))))):=fun hi b5=>by
    rw[g,ME hi,mC (by lia)] at q
    rw[hy] at q ⊢;obtain⟨_,g2,g3⟩:=I.bxs.at y0 y1;exact q _ _ ⟨⟨bl,p,rw,G,by rw[aj (Nb bw)];exact ho,by rw[aj ab];exact N,ad,by rw[aj (Nb aK)];exact J,o0,Z,m0,X,F,nd,rows.mono (fun S _ e=>by rw[aj (fun z=>by rw[z,hm] at e;cases e)];exact e) (fun S _ z1 z2 e=>⟨z1,by rw[aj z2];exact e,z2⟩)⟩,cf m0 I.same,I.bxs,I.mem.put g2 g3⟩ rfl
   have bV:=L;rcases L with rfl | rfl
   .walk_at"g";walk_at"wd";exact p3
   .walk_at"g";walk_at"wd";exact p3
  .have a11:k≠11:=fun e=>L (.inl e)
   have ar:k≠12:=fun e=>L (.inr e)
   walk_at"g";refine dG (sne hk (j:=11) (by decide) a11) ?_
   walk_at"g";refine dG (sne hk (j:=12) (by decide) ar) ?_
   exact⟨rfl,rfl,a11,ar⟩
 rintro Z1 H1 ⟨rfl,rfl,L,cp⟩
 have bj:makes k:=by unfold makes;lia
 obtain⟨bi,r,bh,bX,cb⟩:=hv.box bj;have g:bA x k U st=(none,{st with bx:=st.bx.set (U.getD 0 0).toNat (fe x.pk x.pb x.pm x.ps k U st.bx)}):=by
  unfold bA;rw[mC bb,mC (by lia)]
 rw[g] at q;have i1:atI (aB k U) 1=some (.int bi):=by rw[bh];exact ua
 have bH:ixN (st.bx.map V.int).length bi=some bi.toNat:=by
  have ek:bi=((bi.toNat:Nat):Int):=by lia
  rw[ek,fI,T.len];exact Ew (by lia)
 have e0:U.getD 0 0=bi:=by rw[bh];rfl
 have bM:k=17->∃pg,Pl H pl x.pk x.pb x.pm x.ps pg:=fun e=>let ⟨pg,h⟩:=aH e;⟨pg,h.mv I.same⟩
 have ms:k=17->x.pm+x.ps<=7:=fun e=>let ⟨pg,h⟩:=aH e;h.ms
 walk_at"g";rw[<- List.map_set];rw[e0] at q;obtain⟨v0,v1⟩:=wT hv bj T en.rm.room ms;exact q _ _ ⟨⟨bl,p,rw,G,by rw[aj (Nb a8)];exact ho,ad,by rw[aj (Nb ab)];exact hm,by rw[aj (Nb F)];exact J,o0,Z,m0,X,F,nd,rows.mono (fun S _ e=>by rw[aj (fun z=>by rw[z,N] at e;cases e)];exact e) (fun S _ z1 z2 e=>⟨z1,by rw[aj (fun z=>by rw[z,N] at e;cases e)];exact e,z2⟩)⟩,cf Z I.same,I.bxs.set v0 v1,I.mem⟩ rfl
def yY(K:Frag)(C:Addr):Sp:=fun i H Q _=>∃(c:Nat) (J:Hp) (o d pl f e a:Addr) (g:Int) (U:List Int) (I:List (Key × V)),i=[.ref o,.ref pl,.int g,.ref f,.ref e,.ref a]/\H o=some (.ins C d [])/\J o=none/\ax J H/\
 SqT K J f (U.map V.int)/\J e=some (.dK I)/\BxN c U/\b_ I/\∀b,HoH C c J b o d pl a g ⟨U,I,[]⟩->Q .non b
theorem qd{C:Addr}(B:Bi mg)(c:cA K mg "Holding" C)(n:cZ K C)(D:f9 K C):bC P w K mg base 1 C "__init__" yi (yY K C):=by
 refine D.has c.cl pU (fun vs H Q E h=> ?_) (fun f a' A O s H vs Q E hr h=> ?_)
 .obtain⟨nb,r,o,I,pl,bt,md,p,g,i,U,rfl,_⟩:=h
  rfl
 obtain⟨nb,r,o,I,pl,bt,md,p,g,i,U,rfl,ho,j,sm,a7,G,ab,aR,q⟩:=h;have hc:=c.cl;have n1:=n.plan;have n2:=n.gates;have n4:=n.boxes;have n5:=n.memory;have n6:=n.replies;have n7:=n.rows
 refine⟨_,(ac (bT (pv 0) (pv 1) (by rfl))
   (ac (bT (pv 0) (pv 2) (by rfl))
   (ac (bT (pv 0) (cn lW (by rfl) B.list Az (pa1 (pv 3))) (by rfl))
   (ac (bT (pv 0) (cn rN (by rfl) B.dict DX (pa1 (pv 4))) (by rfl))
   (ac (bT (pv 0) (pv 5) (by rfl))
   (ae (bT (pv 0) (bG dA) (by rfl)))))))),?_⟩
 try dsimp only[aT]
 have s3:ax r (upd (upd H o (.ins C I (aU "plan" (.ref pl) []))) o (.ins C I (aU "gates" (.int g) (aU "plan" (.ref pl) [])))):=cf j (cf j sm);have v:upd (upd H o (.ins C I (aU "plan" (.ref pl) []))) o (.ins C I (aU "gates" (.int g) (aU "plan" (.ref pl) []))) o=some (.ins C I [("plan",.ref pl),("gates",.int g)]):=ad;walk_at"g";intro bl e;generalize upd (upd H o (.ins C I (aU "plan" (.ref pl) []))) o (.ins C I (aU "gates" (.int g) (aU "plan" (.ref pl) [])))=H3 at*;have ba:=ck (o:= .lst (i.map V.int)) e v;have aH:upd H3 bl (.lst (i.map V.int)) bl=some (.lst (i.map V.int)):=ad;have s4:=bK (o:= .lst (i.map V.int)) e s3;have Z:r bl=none:=none_of s3 e;have d:bl≠o:=(ak v e).symm;generalize upd H3 bl (.lst (i.map V.int))=F at*;have s5:ax r (upd F o (.ins C I (aU "boxes" (.ref bl) [("plan",.ref pl),("gates",.int g)]))):=cf j s4;have y:upd F o (.ins C I (aU "boxes" (.ref bl) [("plan",.ref pl),("gates",.int g)])) o=some (.ins C I [("plan",.ref pl),("gates",.int g),("boxes",.ref bl)]):=ad;have L:upd F o (.ins C I (aU "boxes" (.ref bl) [("plan",.ref pl),("gates",.int g)])) bl=some (.lst (i.map V.int)):=by rw[aj d];exact aH
 have a6:=s5 _ _ G;walk_at"g";generalize upd F o (.ins C I (aU "boxes" (.ref bl) [("plan",.ref pl),("gates",.int g)]))=H5 at*;intro J b;have a8:=ck (o:= .dK U) b y;have R:=ck (o:= .dK U) b L;have ar:upd H5 J (.dK U) J=some (.dK U):=ad;have s6:=bK (o:= .dK U) b s5;have N:r J=none:=none_of s5 b;have m:J≠o:=(ak y b).symm;generalize upd H5 J (.dK U)=x at*;walk_at"g";intro rw a;have z:upd (upd x o (.ins C I (aU "memory" (.ref J) [("plan",.ref pl),("gates",.int g),("boxes",.ref bl)]))) o (.ins C I (aU "replies" (.ref p) (aU "memory" (.ref J) [("plan",.ref pl),("gates",.int g),("boxes",.ref bl)]))) o=some (.ins C I [("plan",.ref pl),("gates",.int g),("boxes",.ref bl),("memory",.ref J),("replies",.ref p)]):=ad;have s8:ax r (upd (upd x o (.ins C I (aU "memory" (.ref J) [("plan",.ref pl),("gates",.int g),("boxes",.ref bl)]))) o (.ins C I (aU "replies" (.ref p) (aU "memory" (.ref J) [("plan",.ref pl),("gates",.int g),("boxes",.ref bl)])))):=cf j (cf j s6);have u:upd (upd x o (.ins C I (aU "memory" (.ref J) [("plan",.ref pl),("gates",.int g),("boxes",.ref bl)]))) o (.ins C I (aU "replies" (.ref p) (aU "memory" (.ref J) [("plan",.ref pl),("gates",.int g),("boxes",.ref bl)]))) bl=some (.lst (i.map V.int)):=by rw[aj d,aj d];exact R
 have aK:upd (upd x o (.ins C I (aU "memory" (.ref J) [("plan",.ref pl),("gates",.int g),("boxes",.ref bl)]))) o (.ins C I (aU "replies" (.ref p) (aU "memory" (.ref J) [("plan",.ref pl),("gates",.int g),("boxes",.ref bl)]))) J=some (.dK U):=by rw[aj m,aj m];exact ar
 generalize upd (upd x o (.ins C I (aU "memory" (.ref J) [("plan",.ref pl),("gates",.int g),("boxes",.ref bl)]))) o (.ins C I (aU "replies" (.ref p) (aU "memory" (.ref J) [("plan",.ref pl),("gates",.int g),("boxes",.ref bl)])))=H8 at*;have a9:=ck (o:= .lst []) a z;have S:=ck (o:= .lst []) a u;have T:=ck (o:= .lst []) a aK;have Y:upd H8 rw (.lst []) rw=some (.lst []):=ad;have s9:=bK (o:= .lst []) a s8;have M:r rw=none:=none_of s8 a;have X:rw≠o:=(ak z a).symm;have ao:bl≠rw:=ak u a;generalize upd H8 rw (.lst [])=H9 at*;walk_at"g";refine q _ ⟨⟨bl,J,rw,[],ad,?_,?_,?_,j,Z,N,M,ao,O2,True.intro⟩,cf j s9,ab,aR⟩
 .rw[aj d];exact S
 .rw[aj m];exact T
 .rw[aj X];exact Y
structure MSt where
 p:Int
 bx:List Int
 kvs:List (Key × V)
 rows:List (Int × List Int × List (Key × V))
noncomputable def cg(x:Fx)(k:Nat)(ns:List Int)(st:MSt):Option (Str × List Int) × MSt:=
 if k=0 then(some ("stopped",[]),st)
 else if k=18 then
  if x.pg<=ns.getD 0 0 then(some ("lost",[]),st)
  else match x.reps[st.rows.length]? with
   | none=>(some ("asks",[ns.getD 0 0]),{st with rows:=st.rows++[(ns.getD 0 0,st.bx,st.kvs)]})
   | some (bs,ws)=>(none,⟨st.p+1,bs++[bxG st.bx 7],cP st.kvs ws,st.rows++[(ns.getD 0 0,st.bx,st.kvs)]⟩)
 else if k=11\/k=12 then
  if InR x.pk x.pb (bq ns st.bx) then
   if k=11 then(none,{st with p:=st.p+1,bx:=st.bx.set (ns.getD 0 0).toNat (vp st.kvs (bq ns st.bx))})
   else(none,{st with p:=st.p+1,kvs:=dw st.kvs (.inl (bq ns st.bx)) (.int (bxG st.bx (ns.getD 0 0)))})
  else(some ("beyond",[bq ns st.bx]),st)
 else if k=13\/k=14\/k=15 then(none,{st with p:=uv k ns st.bx st.p})
 else(none,{st with p:=st.p+(if k=1 then 2 else 1),bx:=st.bx.set (ns.getD 0 0).toNat (fe x.pk x.pb x.pm x.ps k ns st.bx)})
structure En (K:Frag) (H0:Hp) (pl rl:Addr) (x:Fx):Prop where
 plan:Pl H0 pl x.pk x.pb x.pm x.ps x.pg
 there:∃u,H0 rl=some u
 reps:∃vs:List V,SqL K H0 rl vs/\vs.length=x.reps.length/\∀(i:Nat) (v:V) (bs:List Int) (ws:List (Key × V)),vs[i]? =some v->x.reps[i]? =some (bs,ws)->(∀ml,H0 ml=none->Rep K H0 ml v bs ws)
theorem En.h{C:Hp}{pl o:Addr}{x:Fx}(h:En K C pl o x):EnH K C pl o x:=⟨h.plan.rm,h.there,h.reps⟩
noncomputable def MSt.h(st:MSt):HSt:=⟨st.bx,st.kvs,st.rows⟩
theorem Iz{x:Fx}{k:Nat}{ns:List Int}{st:MSt}(a:Bxs st.bx)(d:∀y∈x.reps,y.1.length=7)(k0:k≠0)(f:k≠13)(g:k≠14)(i:k≠15):
  (cg x k ns st).1=(bA x k ns st.h).1/\(cg x k ns st).2.h=(bA x k ns st.h).2/\(cg x k ns st).2.p=(match (bA x k ns st.h).1 with | none=>st.p+(if k=1 then 2 else 1) | some _=>st.p):=by
 unfold cg bA;rw[mC k0]
 by_cases C:k=18
 .subst C;rw[ME rfl,ME rfl]
  by_cases J:x.pg<=ns.getD 0 0
  .rw[ME J,ME J];exact⟨rfl,rfl,rfl⟩
  .rw[mC J,mC J];show _/\_/\_
   cases e:x.reps[st.rows.length]? with
   | none=>
    have U:x.reps[st.h.rows.length]? =none:=e;rw[U];exact⟨rfl,rfl,rfl⟩
   | some bw=>
    obtain⟨bs,b⟩:=bw;have U:x.reps[st.h.rows.length]? =some (bs,b):=e;rw[U];refine⟨rfl,?_,rfl⟩
    have m:bs.length=7:=d _ (MD e);have j:bs.take st.h.bx.length++st.h.bx.drop 7=bs++[bxG st.bx 7]:=by
     have c:st.h.bx.length=8:=a.len;rw[c,OB (by lia)]
     congr 1
     have:st.bx.length=8:=a.len;show st.bx.drop 7=[st.bx.getD 7 0]
     rw[NG (by lia),Oc (by lia),MF,be (by lia)]
     rfl
    show HSt.mk (bs++[bxG st.bx 7]) _ _=HSt.mk (bs.take st.h.bx.length++st.h.bx.drop 7) _ _
    rw[j]
    rfl
 .rw[mC C,mC C]
  by_cases o:k=11\/k=12
  .rw[ME o,ME o];have k1:k≠1:=by lia
   by_cases I:InR x.pk x.pb (bq ns st.bx)
   .have hi':InR x.pk x.pb (bq ns st.h.bx):=I;rw[ME I,ME hi']
    by_cases e11:k=11
    .rw[ME e11,ME e11];exact⟨rfl,rfl,by rw[mC k1]⟩
    .rw[mC e11,mC e11];exact⟨rfl,rfl,by rw[mC k1]⟩
   .have hi':¬InR x.pk x.pb (bq ns st.h.bx):=I;rw[mC I,mC hi'];exact⟨rfl,rfl,rfl⟩
  .rw[mC o,mC o,mC (by lia)]
   exact⟨rfl,rfl,rfl⟩
noncomputable abbrev mfs(cd:Addr)(p:Int)(o:Addr)(t:Int):List (Str × V):=[("code",.ref cd),("place",.int p),("holding",.ref o),("turns",.int t)]
structure MaH (C C2:Addr) (H0 H:Hp) (m dm cd o dx pl rl:Addr) (g:Int) (st:MSt) (t:Int):Prop where
 ex:∃Hm,ax H0 Hm/\H0 m=none/\Hm m=some (.ins C2 dm (mfs cd st.p o t))/\HoH C 8 Hm H o dx pl rl g st.h
theorem MaH.same{C J:Addr}{I H:Hp}{m b cd o c pl U:Addr}{g:Int}{st:MSt}{t:Int}(h:MaH C J I H m b cd o c pl U g st t):ax I H:=by
 obtain⟨_,a,_,_,d⟩:=h.ex;exact a.trans d.same
theorem MaH.bxs{C I:Addr}{b H:Hp}{m U cd o a pl J:Addr}{g:Int}{st:MSt}{t:Int}(h:MaH C I b H m U cd o a pl J g st t):Bxs st.bx:=by
 obtain⟨_,_,_,_,d⟩:=h.ex;exact d.bxs
theorem MaH.mem{C I:Addr}{b H:Hp}{m U cd o a pl J:Addr}{g:Int}{st:MSt}{t:Int}(h:MaH C I b H m U cd o a pl J g st t):b_ st.kvs:=by
 obtain⟨_,_,_,_,d⟩:=h.ex;exact d.mem
theorem MaH.at{C I:Addr}{b H:Hp}{m J cd o a pl U:Addr}{g:Int}{st:MSt}{t:Int}(h:MaH C I b H m J cd o a pl U g st t):H m=some (.ins I J (mfs cd st.p o t)):=by
 obtain⟨_,_,_,c,d⟩:=h.ex;exact d.same _ _ c
theorem MaH.grow{C I:Addr}{j H f:Hp}{m U cd o i pl J:Addr}{g:Int}{st:MSt}{t:Int}(h:MaH C I j H m U cd o i pl J g st t)(e:ax H f):MaH C I j f m U cd o i pl J g st t:=by
 obtain⟨n,a,b,c,d⟩:=h.ex;exact⟨n,a,b,c,d.grow e⟩
theorem MaH.put{C I:Addr}{i H:Hp}{m J cd o f pl e:Addr}{g:Int}{st:MSt}{t:Int}(h:MaH C I i H m J cd o f pl e g st t)(U t':Int):MaH C I i (upd H m (.ins I J (mfs cd U o t'))) m J cd o f pl e g {st with p:=U} t':=by
 obtain⟨j,a,b,c,d⟩:=h.ex;exact⟨_,cf b a,b,ad,d.write _ c (fun _ z=>by cases z)⟩
def Lv(K:Frag)(C U:Addr):Sp:=fun c H Q _=>∃(m a e cd o f pl bl b d rw:Addr) (p t g:Int) (k:Nat) (I J:List Int),c=[.ref m,.ref a]/\H m=some (.ins U e (mfs cd p o t))/\H o=some (.ins C f (hfs pl g bl b d rw))/\
 aI 8 262144 k I/\(k=13\/k=14\/k=15)/\SqT K H a (aB k I)/\H bl=some (.lst (J.map V.int))/\Bxs J/\Q (.int (uv k I J p)) H
theorem mQ{C I:Addr}(B:Bi mg)(S:cA K mg "Holding" C)(nH:cZ K C)(c:cA K mg "Machine" I)(n:gQ K I)(D:eO K I):bC P w K mg base 1 I "place_ahead" bR (Lv K C I):=by
 refine D.has c.cl gK (fun T H Q E h=> ?_) (fun f ab A u s H T Q E hr h=> ?_)
 .obtain⟨m,a,Z,cd,o,dx,pl,bl,R,Y,rw,p,t,g,k,F,j,rfl,_⟩:=h
  rfl
 obtain⟨m,a,Z,cd,o,dx,pl,bl,R,Y,rw,p,t,g,k,F,j,rfl,N,ho,M,hm,ha,hb,U,q⟩:=h;have hc:=c.cl;have ao:=S.cl;have n1:=n.holding;have n2:=n.place;have n3:=nH.boxes;have i0:atI (aB k F) 0=some (.str (bf k)):=lv
 refine⟨_,(ac (ay (pcT aJ (pX ag (pv 1) aa) av) (ae (ai (pX ag (pv 1) aa))) am)
   (ac (psS 2 gK.nd (pX bc (aE (aE (pv 0) (by rfl)) (by rfl)) (pX ag (pv 1) aa)))
   (ac (ay (pcT aJ (pX ag (pv 1) aa) av) (ae (ai (pv 2))) am)
   (ae (ai (oF (pcT yo (pv 2) aa) (pX ag (pv 1) aa) (au aP (aE (pv 0) (by rfl)) aa))))))),?_⟩
 try dsimp only[aT]
 rcases M with⟨rfl,rfl⟩|⟨rfl,x,v,rfl,J,b,v0,v1⟩|⟨L,X,x,y,z,rfl,J,b,i,d,z0,z1⟩|⟨L,X,x,y,z,rfl,J,b,i,d,z0,z1⟩|⟨O,z,rfl,z0,z1⟩|⟨rfl,x,z,rfl,J,b,z0,z1⟩|⟨rfl,y,rfl,i,d⟩|⟨O,x,y,rfl,J,b,i,d⟩
 .lia
 .lia
 .lia
 .lia
 .have e:k=13:=by lia
  subst e;have G:atI (aB 13 [z]) 1=some (.int z):=ua;walk_at"g";walk_at"wd";exact q
 .obtain⟨b1,b2,b3⟩:=U.at J b;have G:atI (aB 14 [x,z]) 1=some (.int x):=ua;have i2:atI (aB 14 [x,z]) 2=some (.int z):=p_;walk_at"g";walk_at"wd"
  by_cases r:bxG j x=0
  .have e:uv 14 [x,z] j p=p+1:=by
    unfold uv;rw[mC (by decide),mC (by decide),mC (fun h=>h r)]
   rw[e] at q;refine qk (by rw[r]) ?_
   walk_at"g";exact q
  .have e:uv 14 [x,z] j p=z:=by
    unfold uv;rw[mC (by decide),mC (by decide)]
    exact ME r
   rw[e] at q;rw[MG (fun h=>r (by injection h))]
   walk_at"g";exact q
 .obtain⟨b1,b2,b3⟩:=U.at i d;have G:atI (aB 15 [y]) 1=some (.int y):=ua;walk_at"g";walk_at"wd";exact q
 .lia
def LS(K:Frag)(C c:Addr):Sp:=fun f H Q _=>∃(b:Hp) (m a d cd o e pl J:Addr) (st:MSt) (t:Int) (x:Fx) (k:Nat) (I:List Int),f=[.ref m,.ref a]/\MaH C c b H m d cd o e pl J x.pg st t/\En K b pl J x/\aI 8 262144 k I/\SqT K H a (aB k I)/\st.kvs.length<=9000/\st.rows.length<=9000/\
 ∀v U,MaH C c b U m d cd o e pl J x.pg (cg x k I st).2 t->sV U (cg x k I st).1 v->Q v U
theorem ya{C d:Addr}(B:Bi mg)(cH:cA K mg "Holding" C)(nH:cZ K C)(c:cA K mg "Machine" d)(n:gQ K d)(D:mz K d)(dq:Has P w K mg base 1 "length_of" dF (IF K))(fL:bC P w K mg base 5 C "carry_out" bR (Ad K C))
  (nF:bC P w K mg base 1 d "place_ahead" bR (Lv K C d)):bC P w K mg base 6 d "do" bR (LS K C d):=by
 refine D.has c.cl kD (fun vs H Q E h=> ?_) (fun f bu A ar s H vs Q E hr h=> ?_)
 .obtain⟨H0,m,a,dm,cd,o,dx,pl,rl,st,t,x,k,r,rfl,_⟩:=h
  rfl
 obtain⟨H0,m,a,dm,cd,o,dx,pl,rl,st,t,x,k,r,rfl,F,en,hv,ha,a7,a8,q⟩:=h;have Y:=hv.lt;have hc:=c.cl;have br:=cH.cl;have n1:=n.holding;have n2:=n.place;have bt:=F.at;have i0:atI (aB k r) 0=some (.str (bf k)):=lv
 refine⟨_,(ac (psS 2 kD.nd (pX ag (pv 1) aa))
   (ac (ay (pcT aJ (pv 2) av) (ae (ai (aw (pa1 av)))) am)
   (ac (aW (cy (ay (PW.pt (gP (pcT aJ (pv 2) av) (gP (pcT aJ (pv 2) av) (hZ (pcT aJ (pv 2) av))))) (ac (bT (pv 0) (bB (nF.mono (by omega)) hr (pv 0) (pa1 (pv 1))) (by rfl))
   (ae (ai fH))) am)))
   (ac (psS 3 kD.nd (bB (fL.mono (by omega)) hr (aE (pv 0) (by rfl)) (pa1 (pv 1))))
   (ac (aW (cy (ay (qC (qN (pv 3))) (ae (bT (pv 0) (au aP (aE (pv 0) (by rfl)) (pcH dq hr (pa1 (pv 1)))) (by rfl))) am)))
   (ae (ai (pv 3)))))))),?_⟩
 try dsimp only[aT]
 walk_at"g";refine bI (fun c0=> ?_) (fun c0=> ?_)
 .have e:=seq Y (j:=0) (by decide) c0
  subst e;have es:cg x 0 r st=(some (("stopped":Str),([]:List Int)),st):=ME rfl;rw[es] at q;walk_at"g";intro qq hq;exact q _ _ (F.grow (af hq _)) ⟨qq,rfl,ad⟩
 have k0:k≠0:=fun e=>c0 (by rw[e];rfl)
 walk_at"n";refine⟨fun O H'=>aG (H=H'/\O=[some (.ref m),some (.ref a),some (.str (bf k)),none]/\k≠13/\k≠14/\k≠15),?_,?_⟩
 .by_cases kj:k=13\/k=14\/k=15
  .refine aA fun b I=> ?_
   obtain⟨Hm,T,m0,u,hh⟩:=F.ex;refine I ?_
   refine aA fun b I=> ?_
   obtain⟨bl,ml,rw,es,ho,hb,hm,bz,o0,b0,m1,w0,bH,nd,rows⟩:=hh.ex;refine I ?_
   have bE:=F.bxs;have a9:cg x k r st=(none,{st with p:=uv k r st.bx st.p}):=by
    unfold cg;rw[mC k0,mC (by lia),mC (by lia),ME kj]
   rw[a9] at q;have bD:H bl=some (.lst (st.bx.map V.int)):=hb;have fin:Q .non (upd H m (.ins d dm (mfs cd (uv k r st.bx st.p) o t))):=q _ _ (F.put _ _) rfl;clear hb;rcases kj with rfl | rfl | rfl
   .walk_at"g";walk_at"wd";exact fin
   .walk_at"g";walk_at"wd";exact fin
   .walk_at"g";walk_at"wd";exact fin
  .have a13:k≠13:=fun e=>kj (.inl e)
   have M:k≠14:=fun e=>kj (.inr (.inl e))
   have S:k≠15:=fun e=>kj (.inr (.inr e))
   walk_at"g";refine dG (sne Y (j:=13) (by decide) a13) ?_
   walk_at"g";refine dG (sne Y (j:=14) (by decide) M) ?_
   walk_at"g";refine dG (sne Y (j:=15) (by decide) S) ?_
   exact⟨rfl,rfl,a13,M,S⟩
 intro Z2 H2 U;refine aA fun b I=> ?_
 obtain⟨rfl,rfl,a',ao,a6⟩:=U;refine I ?_
 refine aA fun b I=> ?_
 obtain⟨Hm,T,m0,u,L⟩:=F.ex;refine I ?_
 refine aA fun b I=> ?_
 obtain⟨H1,hh,R,aH⟩:=L.takeT ha;refine I ?_
 clear L;have J:=R _ _ u;have enh:=en.h.mv (T.trans R);have bj:k=17->∃pg,Pl H1 pl x.pk x.pb x.pm x.ps pg:=fun _=>⟨_,en.plan.mv (T.trans R)⟩
 have h7:∀y∈x.reps,y.1.length=7:=fun y hy=>by
  refine aA fun b I=> ?_
  obtain⟨vs,X,e2,G⟩:=en.reps;refine I ?_
  refine aA fun b I=> ?_
  obtain⟨i,hi,ey⟩:=List.mem_iff_getElem.mp hy;refine I ?_
  have ab:i<vs.length:=by lia
  exact(G i _ y.1 y.2 (be ab) (by rw[be hi,ey]) m m0).len
 refine aA fun b I=> ?_
 obtain⟨X,e2,G⟩:=Iz (ns:=r) F.bxs h7 k0 a' ao a6;refine I ?_
 have bh:0<8:=by decide
 have bo:8<=8:=by decide
 have ba:st.h.kvs.length<=9000:=a7;have bb:st.h.rows.length<=9000:=a8;refine aA fun b I=> ?_
 obtain⟨bl,ml,rw,es,ho,hx⟩:=hh.ex;refine I ?_
 clear hx;walk_at"g";intro v H' g Z;have bw:=g.same _ _ J;have bM:=g.same.tup aH
 cases hst:(bA x k r st.h).1 with
 | none=>
  rw[hst] at Z X G;have aK:v= .non:=Z;subst aK;walk_at"g";refine⟨fun O N=>aG (N=upd H' m (.ins d dm (mfs cd (st.p+(if k=1 then 2 else 1)) o t))/\O=[some (.ref m),some (.ref a),some (.str (bf k)),some .non]),?_,?_⟩
  .walk_at"g";exact⟨rfl,rfl⟩
  intro Z3 N U;refine aA fun b I=> ?_
  obtain⟨rfl,rfl⟩:=U;refine I ?_
  walk_at"g";refine q _ _ ⟨⟨upd H1 m (.ins d dm (mfs cd (st.p+(if k=1 then 2 else 1)) o t)),cf m0 (T.trans R),m0,ad.trans ?_,?_⟩⟩ (by rw[X];rfl)
  .rw[G]
  .rw[e2];exact g.write _ J (fun _ z=>by cases z)
 | some ee=>
  rw[hst] at Z X G;refine aA fun b I=> ?_
  obtain⟨q3,rfl,aR⟩:=Z;refine I ?_
  walk_at"g";refine⟨fun O N=>aG (N=H'/\O=[some (.ref m),some (.ref a),some (.str (bf k)),some (.ref q3)]),?_,?_⟩
  .walk_at"g";exact⟨rfl,rfl⟩
  intro Z3 N U;refine aA fun b I=> ?_
  obtain⟨rfl,rfl⟩:=U;refine I ?_
  walk_at"g";refine q _ _ ⟨⟨H1,T.trans R,m0,?_,?_⟩⟩ (by rw[X];exact⟨q3,rfl,aR⟩)
  .rw[G];exact J
  .rw[e2];exact g
noncomputable def cu(x:Fx)(ws:List Int):Nat->MSt->Int->(Str × List Int) × MSt × Int
 | 0,st,t=>match bQ ws st.p with
  | none=>(("lost",[]),st,t)
  | some _=>(("spent",[]),st,t)
 | n+1,st,t=>match bQ ws st.p with
  | none=>(("lost",[]),st,t)
  | some (k,ns)=>match cg x k ns st with
   | (some e,st')=>(e,st',t+1)
   | (none,st')=>cu x ws n st' (t+1)
structure BdS (x:Fx) (st:MSt) (t:Int):Prop where
 r:st.rows.length<=x.reps.length
 m:(st.kvs.length:Int)<=2000+t+100*(st.rows.length:Int)
structure vw (x:Fx):Prop where
 few:x.reps.length<=20
 wr:∀y∈x.reps,y.2.length<=100
theorem nM(kvs:List (Key × V))(k:Key)(v:V):(dw kvs k v).length<=kvs.length+1:=by
 unfold dw
 split
 .rw[fI];lia
 .rw[MA];exact MC _
theorem FJ{x:Fx}{k:Nat}{ns:List Int}{st:MSt}{t:Int}(J:vw x)(h:BdS x st t)(o:(cg x k ns st).1=none):BdS x (cg x k ns st).2 (t+1):=by
 have C:=h.r;have a:=h.m
 revert o
 unfold cg
 split
 .intro o;cases o
 .split
  .split
   .intro o;cases o
   .split
    .intro o;cases o
    .rename_i bs ws e
     intro _;have I:st.rows.length<x.reps.length:=(gV.mp e).1;have hw:=J.wr _ (MD e);have c:=fN ws st.kvs;refine⟨?_,?_⟩
     .show(st.rows++[_]).length<=_
      rw[MA];exact I
     .show((cP st.kvs ws).length:Int)<=2000+(t+1)+100*((st.rows++[_]).length:Int)
      rw[MA];have U:ws.length<=100:=hw
      simp only[MU,Nl]
      lia
  .split
   .split
    .split
     .intro _;exact⟨C,by show(st.kvs.length:Int)<=2000+(t+1)+100*(st.rows.length:Int);lia⟩
     .intro _;have b:=nM st.kvs (.inl (bq ns st.bx)) (.int (bxG st.bx (ns.getD 0 0)));exact⟨C,by show((dw st.kvs _ _).length:Int)<=2000+(t+1)+100*(st.rows.length:Int);lia⟩
    .intro o;cases o
   .split
    .intro _;exact⟨C,by show(st.kvs.length:Int)<=2000+(t+1)+100*(st.rows.length:Int);lia⟩
    .intro _;exact⟨C,by show(st.kvs.length:Int)<=2000+(t+1)+100*(st.rows.length:Int);lia⟩
def Ea(K:Frag)(C b:Addr):Sp:=fun e H Q _=>∃(J:Hp) (m c cd o d pl U:Addr) (st:MSt) (t:Int) (x:Fx) (I:List Int) (n:Nat),e=[.ref m,.int (t+n)]/\MaH C b J H m c cd o d pl U x.pg st t/\En K J pl U x/\vw x/\BdS x st t/\0<=t/\t+n<=1000/\
 SqL K J cd (I.map V.int)/\(∀y∈I,0<=y/\y<4294967296)/\∀v a,MaH C b J a m c cd o d pl U x.pg (cu x I n st t).2.1 (cu x I n st t).2.2->sV a (some (cu x I n st t).1) v->Q v a
theorem tE{C d:Addr}(B:Bi mg)(c:cA K mg "Machine" d)(n:gQ K d)(D:iK K d)(g0:Has P w K mg base 6 "instruction_at" FG (KR K))(Ai:bC P w K mg base 6 d "do" bR (LS K C d)):
  bC P w K mg base 7 d "run_on" ql (Ea K C d):=by
 refine D.has c.cl eU (fun vs H Q E h=> ?_) (fun f bj A ao s H vs Q E hr h=> ?_)
 .obtain⟨S,m,F,cd,o,R,pl,O,st,t,x,a,U,rfl,_⟩:=h
  rfl
 obtain⟨S,m,F,cd,o,R,pl,O,st,t,x,a,U,rfl,ma,en,fx,bd,t0,t1,ar,X,q⟩:=h;have hc:=c.cl;have n1:=n.code;have n2:=n.place;have n3:=n.turns;have bh:∀y∈a,0<=y:=fun y hy=>(X y hy).1
 refine⟨_,(ac (psS 2 eU.nd fH)
   (ac (aW (lB M7 (qC (qN (pv 2))) (ac (psS 3 eU.nd (pcH g0 hr (pa2 (aE (pv 0) (by rfl)) (aE (pv 0) (by rfl)))))
   (ac (ay (qC (qN (pv 3))) (ae (ai (aw (pa1 av)))) am)
   (ac (ay (pcT nh (aE (pv 0) (by rfl)) (pv 1)) (ae (ai (aw (pa1 av)))) am)
   (ac (bT (pv 0) (au aP (aE (pv 0) (by rfl)) aa) (by rfl))
   (ae (psS 2 eU.nd (bB (Ai.mono (by omega)) hr (pv 0) (pa1 (pv 3)))))))))))
   (ae (ai (pv 2))))),?_⟩
 try dsimp only[aT]
 walk_at"g"
 refine⟨fun mm Z G=>(∃(N:Nat) (I:MSt) (J:Int) (i:Option V),mm=N+1/\J+N=t+U/\0<=J/\MaH C d S G m F cd o R pl O x.pg I J/\BdS x I J/\cu x a N I J=cu x a U st t/\Z=[some (.ref m),some (.int (t+U)),some .non,i])\/
  (∃(v:V) (i:Option V),mm=0/\v≠ .non/\MaH C d S G m F cd o R pl O x.pg (cu x a U st t).2.1 (cu x a U st t).2.2/\sV G (some (cu x a U st t).1) v/\Z=[some (.ref m),some (.int (t+U)),some v,i]),⟨U+1,.inl ⟨U,st,t,_,rfl,rfl,t0,ma,bd,rfl,rfl⟩⟩,?_⟩
 rintro mm Z H1 (⟨N,I,J,i,rfl,ht,tp,g,L,er,rfl⟩|⟨v,i,rfl,aK,g,ev,rfl⟩)
 .have ho:=g.at;have br:=g.same.seq ar;refine⟨_,rfl,_,rfl,yT rfl ?_⟩
  walk_at"n"
  refine⟨fun Z' G=>aG ((∃(n2:Nat) (I:MSt) (J:Int) (i:Option V),n2+1<N+1/\J+n2=t+U/\0<=J/\MaH C d S G m F cd o R pl O x.pg I J/\BdS x I J/\cu x a n2 I J=cu x a U st t/\Z'=[some (.ref m),some (.int (t+U)),some .non,i])\/
   (∃(v:V) (i:Option V),v≠ .non/\MaH C d S G m F cd o R pl O x.pg (cu x a U st t).2.1 (cu x a U st t).2.2/\sV G (some (cu x a U st t).1) v/\Z'=[some (.ref m),some (.int (t+U)),some v,i])),fun Z' G h=> ?_,?_⟩
  .rcases h.out with⟨n2,st2,t2,i2,a1,a2,a3,a4,a5,a6,a7⟩|⟨v2,i2,a1,a2,a3,a4⟩
   .exact⟨n2+1,a1,.inl ⟨n2,st2,t2,i2,rfl,a2,a3,a4,a5,a6,a7⟩⟩
   .exact⟨0,by lia,.inr ⟨v2,i2,rfl,a1,a2,a3,a4⟩⟩
  walk_at"g";intro v H2 a8 hi;have j:=g.grow a8;have aR:=j.at
  cases hins:bQ a I.p with
  | none=>
   rw[hins] at hi;have hv:v= .non:=hi;subst hv;have b:cu x a U st t=((("lost":Str),([]:List Int)),I,J):=by
    rw[<- er]
    cases N with
    | zero=>unfold cu;rw[hins]
    | succ n2=>unfold cu;rw[hins]
   rw[b] at q;walk_at"g";intro qq hq;exact q _ _ (j.grow (af hq _)) ⟨qq,rfl,ad⟩
  | some kn=>
   obtain⟨k,T⟩:=kn;rw[hins] at hi;obtain⟨ia,rfl,aH⟩:=hi;have a':=CN X hins;walk_at"g"
   cases N with
   | zero=>
    have b:cu x a U st t=((("spent":Str),([]:List Int)),I,J):=by
     rw[<- er];unfold cu;rw[hins]
    rw[b] at q;refine yT (by lia) ?_
    walk_at"g";intro qq hq;exact q _ _ (j.grow (af hq _)) ⟨qq,rfl,ad⟩
   | succ n2=>
    refine dG (by lia) ?_
    have bb:MaH C d S (upd H2 m (.ins d F (mfs cd I.p o (J+1)))) m F cd o R pl O x.pg I (J+1):=j.put I.p (J+1);have ba:SqT K (upd H2 m (.ins d F (mfs cd I.p o (J+1)))) ia (aB k T):=KU aR (fun _=>⟨(fun z=>by cases z),(fun _ z=>by cases z)⟩) aH
    have f1:=L.r;have f2:=L.m;have f3:=fx.few;have bo:I.kvs.length<=9000:=by lia
    have bt:I.rows.length<=9000:=by lia
    walk_at"g";intro v3 H3 M u;have b:cu x a U st t=match cg x k T I with | (some e,st2)=>(e,st2,J+1) | (none,st2)=>cu x a n2 st2 (J+1):=by
     rw[<- er]
     conv=>lhs;unfold cu
     rw[hins]
    have Y:=FJ (k:=k) (ns:=T) fx L;walk_at"g"
    cases hst:cg x k T I with
    | mk e1 st2=>
     rw[hst] at b M u Y
     cases e1 with
     | none=>
      have a9:v3= .non:=u;subst a9;exact aG.mk (Or.inl ⟨n2,st2,J+1,_,by lia,by lia,by lia,M,Y rfl,b.symm,rfl⟩)
     | some ee=>
      have ab:cu x a U st t=(ee,st2,J+1):=b;refine aG.mk (Or.inr ⟨v3,_,?_,by rw[ab];exact M,by rw[ab];exact u,rfl⟩)
      obtain⟨q3,rfl,_⟩:=u;intro z
      cases z
 .walk_at"g";rw[MG aK];walk_at"g";exact q _ _ g ev
def HA(K:Frag)(C U:Addr):Sp:=fun e H Q _=>∃(J I:Hp) (m b cd o d pl a:Addr) (p g:Int) (st:HSt),e=[.ref m,.ref cd,.int p,.ref o]/\I m=some (.ins U b [])/\J m=none/\ax J I/\HoH C 8 I H o d pl a g st/\
 ∀c,MaH C U J c m b cd o d pl a g ⟨p,st.bx,st.kvs,st.rows⟩ 0->Q .non c
theorem qc{C I:Addr}(B:Bi mg)(c:cA K mg "Machine" I)(n:gQ K I)(D:gg K I):bC P w K mg base 1 I "__init__" Ct (HA K C I):=by
 refine D.has c.cl pV (fun i H Q E h=> ?_) (fun f x A U s H i Q E L h=> ?_)
 .obtain⟨F,v,m,J,cd,o,y,pl,j,p,g,st,rfl,_⟩:=h
  rfl
 obtain⟨F,v,m,J,cd,o,y,pl,j,p,g,st,rfl,hm,m0,u,a,q⟩:=h;have G:=c.cl;have n2:=n.code;have n3:=n.place;have n4:=n.holding;have n5:=n.turns;have ho:=a.same _ _ hm
 refine⟨_,(ac (bT (pv 0) (pv 1) (by rfl))
   (ac (bT (pv 0) (pv 2) (by rfl))
   (ac (bT (pv 0) (pv 3) (by rfl))
   (ae (bT (pv 0) aa (by rfl)))))),?_⟩
 try dsimp only[aT]
 walk_at"g";have b:=a.write (.ins I J [("code",.ref cd)]) hm (fun _ z=>by cases z)
 have r:=b.write (.ins I J [("code",.ref cd),("place",.int p)]) ad (fun _ z=>by cases z)
 have d:=r.write (.ins I J [("code",.ref cd),("place",.int p),("holding",.ref o)]) ad (fun _ z=>by cases z)
 have e:=d.write (.ins I J [("code",.ref cd),("place",.int p),("holding",.ref o),("turns",.int 0)]) ad (fun _ z=>by cases z)
 exact q _ ⟨⟨_,cf m0 (cf m0 (cf m0 (cf m0 u))),m0,ad,e⟩⟩
structure Bq (H0 H:Hp) (q:Addr) (R:(Str × List Int) × MSt × Int):Prop where
 ex:∃(eq sq tb db rw:Addr) (rs:List Addr),H q=some (.tup [.ref eq,.ref sq,.ref rw,.int R.2.2])/\H eq=some (.tup (.str R.1.1::R.1.2.map V.int))/\H sq=some (.tup [.int R.2.1.p,.ref tb,.ref db])/\H tb=some (.tup (R.2.1.bx.map V.int))/\H db=some (.dK R.2.1.kvs)/\
  H rw=some (.lst (rs.map V.ref))/\H0 rw=none/\H0 db=none/\yC H db rs R.2.1.rows
structure CS (H0 H:Hp) (q:Addr) (R:(Str × List Int) × MSt × Int):Prop where
 ex:∃(eq sq tb db rw:Addr) (es:List (Addr × Addr)),H q=some (.tup [.ref eq,.ref sq,.ref rw,.int R.2.2])/\H eq=some (.tup (.str R.1.1::R.1.2.map V.int))/\H sq=some (.tup [.int R.2.1.p,.ref tb,.ref db])/\H tb=some (.tup (R.2.1.bx.map V.int))/\H db=some (.dK R.2.1.kvs)/\
  H rw=some (.lst ((es.map (·.1)).map V.ref))/\H0 rw=none/\H0 db=none/\(es.map (·.2)).Nodup/\dS H0 H db es R.2.1.rows
theorem CS.weak{C H:Hp}{q:Addr}{R:(Str × List Int) × MSt × Int}(h:CS C H q R):Bq C H q R:=by
 obtain⟨g,sq,I,f,rw,m,J,e,U,c,i,d,b,a,j,o⟩:=h.ex;exact⟨g,sq,I,f,rw,_,J,e,U,c,i,d,b,a,o.rows⟩
def GP(K:Frag):Sp:=fun c H Q _=>∃(pl cd sa a b U:Addr) (p:Int) (I:List Int) (o:List (Key × V)) (x:Fx) (C:List Int) (n:Nat),c=[.ref pl,.ref cd,.ref sa,.ref U,.int n]/\SqT K H sa [.int p,.ref a,.ref b]/\SqT K H a (I.map V.int)/\H b=some (.dK o)/\Bxs I/\b_ o/\o.length<=2000/\
 En K H pl U x/\vw x/\n<=1000/\SqL K H cd (C.map V.int)/\(∀y∈C,0<=y/\y<4294967296)/\∀q J,ax H J->Bq H J q (cu x C n ⟨p,I,o,[]⟩ 0)->b_ (cu x C n ⟨p,I,o,[]⟩ 0).2.1.kvs->Bxs (cu x C n ⟨p,I,o,[]⟩ 0).2.1.bx->Q (.ref q) J
def Hv(K:Frag):Sp:=fun c H Q _=>∃(pl cd sa a b U:Addr) (p:Int) (I:List Int) (o:List (Key × V)) (x:Fx) (C:List Int) (n:Nat),c=[.ref pl,.ref cd,.ref sa,.ref U,.int n]/\SqT K H sa [.int p,.ref a,.ref b]/\SqT K H a (I.map V.int)/\H b=some (.dK o)/\Bxs I/\b_ o/\o.length<=2000/\
 En K H pl U x/\vw x/\n<=1000/\SqL K H cd (C.map V.int)/\(∀y∈C,0<=y/\y<4294967296)/\∀q J,ax H J->CS H J q (cu x C n ⟨p,I,o,[]⟩ 0)->b_ (cu x C n ⟨p,I,o,[]⟩ 0).2.1.kvs->Bxs (cu x C n ⟨p,I,o,[]⟩ 0).2.1.bx->Q (.ref q) J
theorem DK{vs:List V}{H:Hp}{Q:VK}{E:XK}(h:GP K vs H Q E):Hv K vs H Q E:=by
 obtain⟨pl,cd,sa,u,A,r,p,v,J,x,e,n,c,m,d,i,z,j,g,f,s,C,o,I,U⟩:=h;exact⟨pl,cd,sa,u,A,r,p,v,J,x,e,n,c,m,d,i,z,j,g,f,s,C,o,I,fun q y a b=>U q y a b.weak⟩
theorem Kz{o:Addr}{n:Nat}:V.ref o::([V.int (n:Int)]++[])=[V.ref o,V.int ((0:Int)+(n:Int))]:=by rw[Int.zero_add];rfl
theorem IR{C c:Addr}(B:Bi mg)(bE:cA K mg "Holding" C)(nH:cZ K C)(eG:cA K mg "Machine" c)(n:gQ K c)(D:Jy K mg)(fX:bC P w K mg base 1 C "__init__" yi (yY K C))
  (rf:bC P w K mg base 1 c "__init__" Ct (HA K C c)) (uu:bC P w K mg base 7 c "run_on" ql (Ea K C c)):Has P w K mg base 8 "run" yw (Hv K):=by
 refine D.has xr (fun vs H Q E h=> ?_) (fun f bH A T s H vs Q E X h=> ?_)
 .obtain⟨pl,cd,sa,bt,md,rl,p,Y,U,x,ws,nn,rfl,_⟩:=h
  rfl
 obtain⟨pl,cd,sa,bt,md,rl,p,Y,U,x,ws,nn,rfl,a7,ab,O,a9,bh,bM,en,fx,bz,Z,aK,q⟩:=h;have hc:=eG.cl;have bw:=bE.cl;have n1:=n.place;have n2:=n.turns;have n3:=nH.boxes;have n4:=nH.memory;have n5:=nH.rows;have br:=en.plan.at_;have p4:atI [V.int x.pk,V.int x.pb,V.int x.pm,V.int x.ps,V.int x.pg] 4=some (.int x.pg):=aY (j:=4) rfl
 refine⟨_,(ac (psS 5 xr.nd (oP bE (fX.mono (by omega)) X (by rfl) (pa5 (pv 0) (pX ag (pv 0) aa) (pX ag (pv 2) aa) (pX ag (pv 2) aa) (pv 3))))
   (ac (psS 6 xr.nd (oP eG (rf.mono (by omega)) X (by rfl) (pa3 (pv 1) (pX ag (pv 2) aa) (pv 5))))
   (ac (psS 7 xr.nd (bB (uu.mono (by omega)) X (pv 6) (pa1 (pv 4))))
   (ac (psS 8 xr.nd (aw (pa3 (aE (pv 6) (by rfl)) (cn cQ (by rfl) B.tuple fQ (pa1 (aE (pv 5) (by rfl)))) (aE (pv 5) (by rfl)))))
   (ae (ai (aw (pa4 (pv 7) (pv 8) (aE (pv 5) (by rfl)) (aE (pv 6) (by rfl)))))))))),?_⟩
 try dsimp only[aT]
 walk_at"g";intro o dx ho ba aH;have aR:upd H dx (.own o) o=none:=by rw[aj (Nb aH)];exact ho
 refine⟨8,H,o,dx,pl,bt,md,rl,x.pg,Y,U,rfl,ad,ho,bK aR (af ba _),ab,O,a9,bh,fun H1 J=>⟨rfl,?_⟩⟩
 have bo:=J.same.tup a7;walk_at"g";intro m M F i z;have bj:upd H1 M (.own m) m=none:=by rw[aj (Nb z)];exact F
 have b:H m=none:=none_of J.same F;have G:H M=none:=none_of J.same i;refine⟨H,_,m,M,cd,o,dx,pl,rl,p,x.pg,_,rfl,ad,b,?_,(J.add (.own m) i).add (.ins c M []) bj,fun H2 r=>⟨rfl,?_⟩⟩
 .exact bK (by rw[aj (Nb z)];exact b) (af G _)
 have bu:=r.at;walk_at"g";refine⟨Kz,r,en,fx,⟨Na _,by show(U.length:Int)<=2000+0+100*((0:Nat):Int);lia⟩,N1 0,by lia,Z,aK,fun v N I ev=> ?_⟩
 obtain⟨eq,rfl,bb⟩:=ev;generalize cu x ws nn ⟨p,Y,U,[]⟩ 0=R at*;have a6:=I.at;obtain⟨Hm,s0,m0,bD,hh⟩:=I.ex;obtain⟨bl,u,rw,es,ao,hb,S,a8,o0,b0,m1,w0,bX,nd,rows⟩:=hh.ex;have bV:N bl=some (.lst (R.2.1.bx.map V.int)):=hb;have L:N u=some (.dK R.2.1.kvs):=S;clear hb;walk_at"g";intro y d;have ar:=ck (o:= .tup (R.2.1.bx.map V.int)) d a6;have a':=ck (o:= .tup (R.2.1.bx.map V.int)) d ao;walk_at"g";intro sq a;have b1:=ck (o:= .tup [.int R.2.1.p,.ref y,.ref u]) a ar;have bW:=ck (o:= .tup [.int R.2.1.p,.ref y,.ref u]) a a';walk_at"g";intro qq hq;have g:ax N (upd (upd (upd N y (.tup (R.2.1.bx.map V.int))) sq (.tup [.int R.2.1.p,.ref y,.ref u])) qq (.tup [.ref eq,.ref sq,.ref rw,.int R.2.2])):=bK hq (bK a (af d _));refine q qq _ (I.same.trans g) ⟨⟨eq,sq,y,u,rw,es,ad,g _ _ bb,ck hq ad,ck hq (ck a ad),g _ _ L,g _ _ a8,none_of s0 w0,none_of s0 m1,nd,rows.mono (fun _ _ e=>g _ _ e) (fun _ _ z1 z2 e=>⟨none_of s0 z1,g _ _ e,z2⟩)⟩⟩ I.mem I.bxs
structure PSt where
 b:Int
 i:Int
 h:HSt
 tr:List (Int × Int)
noncomputable def du(gl:Nat)(p:Int × Int)(st:PSt):Option (Str × List Int) × PSt:=if (gl:Int)<=p.1 then(some ("leaves",[]),st) else(none,{st with b:=p.1,i:=p.2})
noncomputable def mJ(k:Nat)(ns bx:List Int)(b i:Int):Int × Int:=if k=13 then(ns.getD 0 0,0) else if k=15 then(bxG bx (ns.getD 0 0),0) else if bxG bx (ns.getD 0 0)≠0 then(ns.getD 1 0,0) else(b,i+1)
noncomputable def bn(x:Fx)(gl:Nat)(k:Nat)(ns:List Int)(st:PSt):Option (Str × List Int) × PSt:=
 if k=0 then(some ("stopped",[]),st)
 else if k=13\/k=14\/k=15 then du gl (mJ k ns st.h.bx st.b st.i) st
 else match bA x k ns st.h with
  | (none,h)=>du gl (st.b,st.i+1) {st with h:=h}
  | (some e,h)=>(some (if e.1="beyond" then("leaves",[]) else e),{st with h:=h})
noncomputable abbrev pfs(C pt o I:Addr):List (Str × V):=[("guest",.ref C),("place",.ref pt),("holding",.ref o),("trail",.ref I)]
def TrA(H:Hp):List Addr->List (Int × Int)->Prop
 | [],[]=>True
 | t::ts,p::ps=>H t=some (.tup [.int p.1,.int p.2])/\TrA H ts ps
 | _,_=>False
theorem TrA.mono{H o:Hp}(I:∀a xs,H a=some (.tup xs)->o a=some (.tup xs)):∀{C:List Addr}{ps:List (Int × Int)},TrA H C ps->TrA o C ps
 | [],[],_=>True.intro
 | _::_,_::_,h=>⟨I _ _ h.1,TrA.mono I h.2⟩
 | [],_::_,h=>h.elim
 | _::_,[],h=>h.elim
theorem TrA.len{H:Hp}:∀{o:List Addr}{ps:List (Int × Int)},TrA H o ps->o.length=ps.length
 | [],[],_=>rfl
 | _::_,_::_,h=>Ng (· +1) (TrA.len h.2)
 | [],_::_,h=>h.elim
 | _::_,[],h=>h.elim
theorem TrA.push{H:Hp}{t:Addr}{p:Int × Int}(C:H t=some (.tup [.int p.1,.int p.2])):∀{o:List Addr}{ps:List (Int × Int)},TrA H o ps->TrA H (o++[t]) (ps++[p])
 | [],[],_=>⟨C,True.intro⟩
 | _::_,_::_,h=>⟨h.1,TrA.push C h.2⟩
 | [],_::_,h=>h.elim
 | _::_,[],h=>h.elim
structure PrH (C C2:Addr) (nb:Nat) (H0 H:Hp) (r dr ga o dx pl rl:Addr) (g:Int) (st:PSt):Prop where
 ex:∃(Hm:Hp) (pt tl:Addr) (ts:List Addr),ax H0 Hm/\H0 r=none/\H0 tl=none/\Hm r=some (.ins C2 dr (pfs ga pt o tl))/\Hm pt=some (.tup [.int st.b,.int st.i])/\Hm tl=some (.lst (ts.map V.ref))/\TrA Hm ts st.tr/\HoH C nb Hm H o dx pl rl g st.h
theorem PrH.same{C J:Addr}{nb:Nat}{I H:Hp}{r b e o c pl U:Addr}{g:Int}{st:PSt}(h:PrH C J nb I H r b e o c pl U g st):ax I H:=by
 obtain⟨_,_,_,_,a,_,_,_,_,_,_,d⟩:=h.ex;exact a.trans d.same
theorem PrH.bxs{C I:Addr}{nb:Nat}{b H:Hp}{r U c o a pl J:Addr}{g:Int}{st:PSt}(h:PrH C I nb b H r U c o a pl J g st):BxN nb st.h.bx:=by
 obtain⟨_,_,_,_,_,_,_,_,_,_,_,d⟩:=h.ex;exact d.bxs
theorem PrH.mem{C I:Addr}{nb:Nat}{b H:Hp}{r U c o a pl J:Addr}{g:Int}{st:PSt}(h:PrH C I nb b H r U c o a pl J g st):b_ st.h.kvs:=by
 obtain⟨_,_,_,_,_,_,_,_,_,_,_,d⟩:=h.ex;exact d.mem
theorem PrH.grow{C I:Addr}{nb:Nat}{d H b:Hp}{r a J o c pl U:Addr}{g:Int}{st:PSt}(h:PrH C I nb d H r a J o c pl U g st)(e:ax H b):PrH C I nb d b r a J o c pl U g st:=by
 obtain⟨j,pt,f,m,a1,a2,a3,a4,a5,i,n,p⟩:=h.ex;exact⟨j,pt,f,m,a1,a2,a3,a4,a5,i,n,p.grow e⟩
theorem PrH.go{C f:Addr}{nb:Nat}{d H c:Hp}{r q n o x pl v pt J I:Addr}{s:List Addr}{g:Int}{st:PSt}{b i:Int}(a1:ax d c)(a2:d r=none)(a3:d J=none)(a4:c r=some (.ins f q (pfs n pt o J)))(p:c J=some (.lst (s.map V.ref)))(A:TrA c s st.tr)(D:HoH C nb c H o x pl v g st.h)
  (y:H I=some (.tup [.int b,.int i])):PrH C f nb d (upd H r (.ins f q (pfs n I o J))) r q n o x pl v g {st with b:=b,i:=i}:=by
 obtain⟨B,U⟩:=D.take y ⟨_,.inl rfl⟩;have u:∀a j,upd c I (.tup [.int b,.int i]) a=some (.tup j)->a≠r:=fun a j e z=>by rw[z,U _ _ a4] at e;cases e
 have m:J≠r:=by rintro rfl;rw[a4] at p;cases p
 refine⟨⟨_,I,J,s,cf a2 (a1.trans U),a2,a3,ad,?_,?_,?_,B.write _ (U _ _ a4) (fun _ z=>by cases z)⟩⟩
 .rw[aj (u _ _ ad)];exact ad
 .rw[aj m];exact U _ _ p
 .exact A.mono (fun a j e=>by rw[aj (u _ _ (U _ _ e))];exact U _ _ e)
def Hl(K:Frag)(C:Addr):Sp:=fun U H Q _=>∃(r I a pt o J:Addr) (b i:Int),U=[.ref r]/\H r=some (.ins C I (pfs a pt o J))/\H pt=some (.tup [.int b,.int i])/\∀q,H q=none->Q (.ref q) (upd H q (.tup [.int b,.int (i+1)]))
theorem kJ{C:Addr}(B:Bi mg)(c:cA K mg "PlainRun" C)(n:eB K C)(D:dI K C):bC P w K mg base 1 C "place_behind" dj (Hl K C):=by
 refine D.has c.cl kF (fun d H Q E h=> ?_) (fun f e A I s H d Q E u h=> ?_)
 .obtain⟨r,g,a,pt,o,U,b,i,rfl,_⟩:=h
  rfl
 obtain⟨r,g,a,pt,o,U,b,i,rfl,J,p,q⟩:=h;have m:=c.cl;have n2:=n.place;have v:atI [V.int b,V.int i] 0=some (.int b):=aY (j:=0) rfl;have x:atI [V.int b,V.int i] 1=some (.int i):=aY (j:=1) rfl;refine⟨_,(ae (ai (aw (pa2 (pX ag (aE (pv 0) (by rfl)) aa) (au aP (pX ag (aE (pv 0) (by rfl)) aa) aa))))),?_⟩
 try dsimp only[aT]
 walk_at"g";exact q
def JH(K:Frag)(C U:Addr)(nb:Nat):Sp:=fun f H Q _=>∃(r a m e pt o d n pl bl c j rw:Addr) (b i g:Int) (k:Nat) (I J:List Int),f=[.ref r,.ref a]/\H r=some (.ins U m (pfs e pt o d))/\H pt=some (.tup [.int b,.int i])/\H o=some (.ins C n (hfs pl g bl c j rw))/\
 aI nb 262144 k I/\(k=13\/k=14\/k=15)/\SqT K H a (aB k I)/\H bl=some (.lst (J.map V.int))/\BxN nb J/\∀q,H q=none->Q (.ref q) (upd H q (.tup [.int (mJ k I J b i).1,.int (mJ k I J b i).2]))
theorem nE{C I:Addr}{nb:Nat}(B:Bi mg)(X:cA K mg "Holding" C)(nH:cZ K C)(c:cA K mg "PlainRun" I)(n:eB K I)(D:eV K I)(R:bC P w K mg base 1 I "place_behind" dj (Hl K I)):bC P w K mg base 2 I "place_due" bR (JH K C I nb):=by
 refine D.has c.cl gN (fun vs H Q E h=> ?_) (fun f ab A F s H vs Q E hr h=> ?_)
 .obtain⟨r,a,dr,Z,pt,o,Y,dx,pl,bl,S,rl,rw,b,i,g,k,G,p,rfl,_⟩:=h
  rfl
 obtain⟨r,a,dr,Z,pt,o,Y,dx,pl,bl,S,rl,rw,b,i,g,k,G,p,rfl,T,hp,ho,N,hm,ha,hb,U,q⟩:=h;have hc:=c.cl;have ao:=X.cl;have n1:=n.holding;have n2:=n.place;have n3:=nH.boxes;have i0:atI (aB k G) 0=some (.str (bf k)):=lv
 refine⟨_,(ac (ay (pcT aJ (pX ag (pv 1) aa) av) (ae (ai (aw (pa2 (pX ag (pv 1) aa) aa)))) am)
   (ac (psS 2 gN.nd (pX bc (aE (aE (pv 0) (by rfl)) (by rfl)) (pX ag (pv 1) aa)))
   (ac (ay (pcT aJ (pX ag (pv 1) aa) av) (ae (ai (aw (pa2 (pv 2) aa)))) am)
   (ae (ai (oF (pcT yo (pv 2) aa) (aw (pa2 (pX ag (pv 1) aa) aa)) (iG (R.mono (by omega)) hr (pv 0)))))))),?_⟩
 try dsimp only[aT]
 rcases N with⟨rfl,rfl⟩|⟨rfl,x,v,rfl,J,d,v0,v1⟩|⟨M,h2,x,y,z,rfl,J,d,m,j,z0,z1⟩|⟨M,h2,x,y,z,rfl,J,d,m,j,z0,z1⟩|⟨O,z,rfl,z0,z1⟩|⟨rfl,x,z,rfl,J,d,z0,z1⟩|⟨rfl,y,rfl,m,j⟩|⟨O,x,y,rfl,J,d,m,j⟩
 .lia
 .lia
 .lia
 .lia
 .have e:k=13:=by lia
  subst e;have L:atI (aB 13 [z]) 1=some (.int z):=ua;walk_at"g";walk_at"wd";exact q
 .obtain⟨b1,b2,b3⟩:=U.at J d;have L:atI (aB 14 [x,z]) 1=some (.int x):=ua;have i2:atI (aB 14 [x,z]) 2=some (.int z):=p_;walk_at"g";walk_at"wd"
  by_cases u:bxG p x=0
  .have e:mJ 14 [x,z] p b i=(b,i+1):=by
    unfold mJ;rw[mC (by decide),mC (by decide),mC (fun h=>h u)]
   rw[e] at q;refine qk (by rw[u]) ?_
   walk_at"g";exact q
  .have e:mJ 14 [x,z] p b i=(z,0):=by
    unfold mJ;rw[mC (by decide),mC (by decide)]
    exact ME u
   rw[e] at q;rw[MG (fun h=>u (by injection h))]
   walk_at"g";exact q
 .obtain⟨b1,b2,b3⟩:=U.at m j;have L:atI (aB 15 [y]) 1=some (.int y):=ua;walk_at"g";walk_at"wd";exact q
 .lia
def Hz(K:Frag)(U:Addr):Sp:=fun d H Q _=>∃(r C a J pt o c:Addr) (b i:Int) (I:List V),d=[.ref r,.ref C]/\H r=some (.ins U a (pfs J pt o c))/\H C=some (.tup [.int b,.int i])/\SqT K H J I/\
 ((I.length:Int)<=b->∀q,H q=none->Q (.ref q) (upd H q (.tup [.str "leaves"])))/\(¬ (I.length:Int)<=b->Q .non (upd H r (.ins U a (pfs J C o c))))
theorem su{C:Addr}(B:Bi mg)(c:cA K mg "PlainRun" C)(n:eB K C)(D:iz K C):bC P w K mg base 1 C "go_to" BN (Hz K C):=by
 refine D.has c.cl sX (fun g H Q E h=> ?_) (fun f p A J s H g Q E z h=> ?_)
 .obtain⟨r,I,u,e,pt,o,d,b,i,U,rfl,_⟩:=h
  rfl
 obtain⟨r,I,u,e,pt,o,d,b,i,U,rfl,a,y,v,q,m⟩:=h;have x:=c.cl;have n2:=n.place;have n3:=n.guest;have F:atI [V.int b,V.int i] 0=some (.int b):=aY (j:=0) rfl
 refine⟨_,(ac (ay (pcT nh (pX ag (pv 1) aa) (aL aN (by rfl) B.len dD (pa1 (aE (pv 0) (by rfl))))) (ae (ai (aw (pa1 av)))) am)
   (ac (bT (pv 0) (pv 1) (by rfl))
   (ae (ai fH)))),?_⟩
 try dsimp only[aT]
 walk_at"g";refine bI (fun c1=> ?_) (fun c1=> ?_)
 .walk_at"g";exact q c1
 .walk_at"g";exact m c1
def Eh(K:Frag)(C e:Addr)(nb:Nat):Sp:=fun i H Q _=>∃(U:Hp) (r a f b o g pl c:Addr) (st:PSt) (x:Fx) (I:List V) (k:Nat) (J:List Int),i=[.ref r,.ref a]/\PrH C e nb U H r f b o g pl c x.pg st/\EnH K U pl c x/\SqT K U b I/\k≠17/\0<nb/\nb<=8/\aI nb 262144 k J/\SqT K H a (aB k J)/\st.h.kvs.length<=9000/\st.h.rows.length<=9000/\
 ∀v d,PrH C e nb U d r f b o g pl c x.pg (bn x I.length k J st).2->sV d (bn x I.length k J st).1 v->Q v d
theorem rX{C u:Addr}{nb:Nat}(B:Bi mg)(cH:cA K mg "Holding" C)(nH:cZ K C)(c:cA K mg "PlainRun" u)(n:eB K u)(D:iy K u)(fL:bC P w K mg base 5 C "carry_out" bR (Ad K C))
  (oh:bC P w K mg base 2 u "place_due" bR (JH K C u nb)) (dR:bC P w K mg base 1 u "place_behind" dj (Hl K u)) (lz:bC P w K mg base 1 u "go_to" BN (Hz K u)):
  bC P w K mg base 6 u "begin" bR (Eh K C u nb):=by
 refine D.has c.cl gy (fun vs H Q E h=> ?_) (fun f bu A ab s H vs Q E O h=> ?_)
 .obtain⟨H0,r,a,dr,G,o,dx,pl,rl,st,x,J,k,m,rfl,_⟩:=h
  rfl
 obtain⟨H0,r,a,dr,G,o,dx,pl,rl,st,x,J,k,m,rfl,Y,en,hg,aR,br,bj,hv,ha,bz,bE,q⟩:=h;have hk:=hv.lt;have hc:=c.cl;have bo:=cH.cl;have n1:=n.holding;have n2:=n.place;obtain⟨Hm,pt,F,ts,a1,a2,a3,a4,a5,Z,T,R⟩:=Y.ex;have aK:=R.same _ _ a4;have bH:=R.same _ _ a5;have ao:=Y.same.tup hg;have i0:atI (aB k m) 0=some (.str (bf k)):=lv
 refine⟨_,(ac (psS 2 gy.nd (pX ag (pv 1) aa))
   (ac (ay (pcT aJ (pv 2) av) (ae (ai (aw (pa1 av)))) am)
   (ac (aW (cy (ay (PW.pt (gP (pcT aJ (pv 2) av) (gP (pcT aJ (pv 2) av) (hZ (pcT aJ (pv 2) av))))) (ae (ai (bB (lz.mono (by omega)) O (pv 0) (pa1 (bB (oh.mono (by omega)) O (pv 0) (pa1 (pv 1))))))) am)))
   (ac (psS 3 gy.nd (bB (fL.mono (by omega)) O (aE (pv 0) (by rfl)) (pa1 (pv 1))))
   (ac (ay (qC (qN (pv 3))) (ae (ai (bB (lz.mono (by omega)) O (pv 0) (pa1 (iG (dR.mono (by omega)) O (pv 0)))))) am)
   (ae (ai (oF (pcT aJ (pX ag (pv 3) aa) av) (aw (pa1 av)) (pv 3))))))))),?_⟩
 try dsimp only[aT]
 walk_at"g";refine bI (fun c0=> ?_) (fun c0=> ?_)
 .have e:=seq hk (j:=0) (by decide) c0
  subst e;have es:bn x J.length 0 m st=(some (("stopped":Str),([]:List Int)),st):=ME rfl;rw[es] at q;walk_at"g";intro U g;exact q _ _ (Y.grow (af g _)) ⟨U,rfl,ad⟩
 have k0:k≠0:=fun e=>c0 (by rw[e];rfl)
 walk_at"n";refine⟨fun Z' H'=>aG (H=H'/\Z'=[some (.ref r),some (.ref a),some (.str (bf k)),none]/\k≠13/\k≠14/\k≠15),?_,?_⟩
 .by_cases kj:k=13\/k=14\/k=15
  .refine aA fun y I=> ?_
   obtain⟨bl,ml,rw,es,ho,hb,hm,bD,o0,b0,m1,w0,bV,nd,rows⟩:=R.ex;refine I ?_
   have bM:=Y.bxs;have M:bn x J.length k m st=du J.length (mJ k m st.h.bx st.b st.i) st:=by
    unfold bn;rw[mC k0,ME kj]
   rw[M] at q;have fin:∀U,H U=none->∀p,p=upd H U (.tup [.int (mJ k m st.h.bx st.b st.i).1,.int (mJ k m st.h.bx st.b st.i).2])->p r=some (.ins u dr (pfs G pt o F))/\p U=some (.tup [.int (mJ k m st.h.bx st.b st.i).1,.int (mJ k m st.h.bx st.b st.i).2])/\SqT K p G J/\
     ((J.length:Int)<=(mJ k m st.h.bx st.b st.i).1->∀q,p q=none->Q (.ref q) (upd p q (.tup [.str "leaves"])))/\(¬ (J.length:Int)<=(mJ k m st.h.bx st.b st.i).1->Q .non (upd p r (.ins u dr (pfs G U o F)))):=by
    rintro U g p rfl
    refine⟨ck g aK,ad,(af g _).tup ao,fun L q2 N=> ?_,fun L=> ?_⟩
    .have e2:du J.length (mJ k m st.h.bx st.b st.i) st=(some (("leaves":Str),([]:List Int)),st):=ME L;rw[e2] at q;exact q _ _ (Y.grow ((af g _).trans (af N _))) ⟨q2,rfl,ad⟩
    .have e2:du J.length (mJ k m st.h.bx st.b st.i) st=(none,{st with b:=(mJ k m st.h.bx st.b st.i).1,i:=(mJ k m st.h.bx st.b st.i).2}):=mC L
     rw[e2] at q;exact q _ _ (PrH.go a1 a2 a3 a4 Z T (R.grow (af g _)) ad) rfl
   rcases kj with rfl | rfl | rfl
   .walk_at"g";walk_at"wd";intro U g;refine aA fun y I=> ?_
    obtain⟨z1,z2,z3,z4,z5⟩:=fin U g _ rfl;refine I ?_
    walk_at"g";exact z5
   .walk_at"g";walk_at"wd";intro U g;refine aA fun y I=> ?_
    obtain⟨z1,z2,z3,z4,z5⟩:=fin U g _ rfl;refine I ?_
    walk_at"g";exact z5
   .walk_at"g";walk_at"wd";intro U g;refine aA fun y I=> ?_
    obtain⟨z1,z2,z3,z4,z5⟩:=fin U g _ rfl;refine I ?_
    walk_at"g";exact z5
  .have a13:k≠13:=fun e=>kj (.inl e)
   have S:k≠14:=fun e=>kj (.inr (.inl e))
   have X:k≠15:=fun e=>kj (.inr (.inr e))
   walk_at"g";refine dG (sne hk (j:=13) (by decide) a13) ?_
   walk_at"g";refine dG (sne hk (j:=14) (by decide) S) ?_
   walk_at"g";refine dG (sne hk (j:=15) (by decide) X) ?_
   exact⟨rfl,rfl,a13,S,X⟩
 intro Z2 H2 aH;refine aA fun y I=> ?_
 obtain⟨rfl,rfl,bW,bb,bw⟩:=aH;refine I ?_
 have enh:=en.mv a1;have bh:k=17->∃pg,Pl Hm pl x.pk x.pb x.pm x.ps pg:=fun e=>absurd e aR
 refine aA fun y I=> ?_
 obtain⟨bl,ml,rw,es,ho,hx⟩:=R.ex;refine I ?_
 clear hx;have M:bn x J.length k m st=match bA x k m st.h with
  | (none,h)=>du J.length (st.b,st.i+1) {st with h:=h}
  | (some e,h)=>(some (if e.1="beyond" then("leaves",[]) else e),{st with h:=h}):=by
  unfold bn;rw[mC k0,mC (by lia)]
  all_goals rfl
 rw[M] at q;walk_at"g";intro v H' d ev;have ar:=d.same _ _ a4;have bt:=d.same _ _ a5;have ba:=(a1.trans d.same).tup hg
 cases hst:bA x k m st.h with
 | mk e1 h1=>
  rw[hst] at q ev d
  cases e1 with
  | none=>
   have a9:v= .non:=ev;subst a9;dsimp only at q d;have fin:∀U,H' U=none->∀p,p=upd H' U (.tup [.int st.b,.int (st.i+1)])->p r=some (.ins u dr (pfs G pt o F))/\p U=some (.tup [.int st.b,.int (st.i+1)])/\SqT K p G J/\
     ((J.length:Int)<=st.b->∀q,p q=none->Q (.ref q) (upd p q (.tup [.str "leaves"])))/\(¬ (J.length:Int)<=st.b->Q .non (upd p r (.ins u dr (pfs G U o F)))):=by
    rintro U g p rfl
    refine⟨ck g ar,ad,(af g _).tup ba,fun L q2 N=> ?_,fun L=> ?_⟩
    .have e2:du J.length (st.b,st.i+1) {st with h:=h1}=(some (("leaves":Str),([]:List Int)),{st with h:=h1}):=ME L
     rw[e2] at q;exact q _ _ ⟨⟨Hm,pt,F,ts,a1,a2,a3,a4,a5,Z,T,d.grow ((af g _).trans (af N _))⟩⟩ ⟨q2,rfl,ad⟩
    .have e2:du J.length (st.b,st.i+1) {st with h:=h1}=(none,{st with h:=h1,i:=st.i+1}):=mC L
     rw[e2] at q;exact q _ _ (PrH.go (st:={st with h:=h1}) a1 a2 a3 a4 Z T (d.grow (af g _)) ad) rfl
   walk_at"g";intro U g;refine aA fun y I=> ?_
   obtain⟨z1,z2,z3,z4,z5⟩:=fin U g _ rfl;refine I ?_
   walk_at"g";exact z5
  | some ee=>
   refine aA fun y I=> ?_
   obtain⟨q3,rfl,a'⟩:=ev;refine I ?_
   dsimp only at q d;refine aA fun y I=> ?_
   obtain⟨ex,en⟩:=ee;refine I ?_
   have i1:atI (V.str ex::en.map V.int) 0=some (.str ex):=lv;walk_at"g";refine bI (fun cb=> ?_) (fun cb=> ?_)
   .have cb':ex="beyond":=by injection cb
    rw[ME cb'] at q;walk_at"g";intro U g;exact q _ _ ⟨⟨Hm,pt,F,ts,a1,a2,a3,a4,a5,Z,T,d.grow (af g _)⟩⟩ ⟨U,rfl,ad⟩
   .have cb':¬ex="beyond":=fun z=>cb (by rw[z])
    rw[mC cb'] at q;walk_at"g";exact q _ _ ⟨⟨Hm,pt,F,ts,a1,a2,a3,a4,a5,Z,T,d⟩⟩ ⟨q3,rfl,a'⟩
noncomputable def rY(gs:List (List (Nat × List Int)))(b i:Int):Option (Nat × List Int):=(gs[b.toNat]?).bind (fun blk=>blk[i.toNat]?)
structure Dz (K:Frag) (H:Hp) (ga:Addr) (gs:List (List (Nat × List Int))):Prop where
 ex:∃bas:List Addr,SqT K H ga (bas.map V.ref)/\bas.length=gs.length/\∀(i:Nat) (blk:List (Nat × List Int)),gs[i]? =some blk->∃(ba:Addr) (ias:List Addr),bas[i]? =some ba/\SqT K H ba (ias.map V.ref)/\ias.length=blk.length/\∀(j:Nat) (kn:Nat × List Int),blk[j]? =some kn->∃ia,ias[j]? =some ia/\SqT K H ia (aB kn.1 kn.2)
theorem Dz.mv{H J:Hp}{I:Addr}{gs:List (List (Nat × List Int))}(h:Dz K H I gs)(e:ax H J):Dz K J I gs:=by
 obtain⟨C,b,m,c⟩:=h.ex;refine⟨C,e.tup b,m,fun i blk U=> ?_⟩
 obtain⟨r,o,n,p,f,g⟩:=c i blk U;refine⟨r,o,n,e.tup p,f,fun j d q=> ?_⟩
 obtain⟨a,f1,f2⟩:=g j d q;exact⟨a,f1,e.tup f2⟩
structure yX (nb:Nat) (gs:List (List (Nat × List Int))):Prop where
 ne:∀blk∈gs,blk≠[]
 val:∀blk∈gs, ∀kn∈blk,aI nb 262144 kn.1 kn.2/\kn.1≠16/\kn.1≠17
 last:∀blk∈gs, ∀(j:Nat) (kn:Nat × List Int),blk[j]? =some kn->j+1=blk.length->kn.1=0\/kn.1=13\/kn.1=15
structure u_ (gs:List (List (Nat × List Int))) (st:PSt):Prop where
 b0:0<=st.b
 i0:0<=st.i
 at_:∃kn,rY gs st.b st.i=some kn
noncomputable def aX(x:Fx)(gs:List (List (Nat × List Int))):Nat->PSt->(Str × List Int) × PSt
 | 0,st=>(("spent",[]),st)
 | n+1,st=>match rY gs st.b st.i with
  | none=>(("spent",[]),st)
  | some (k,ns)=>match bn x gs.length k ns {st with tr:=st.tr++[(st.b,st.i)]} with
   | (some e,st')=>(e,st')
   | (none,st')=>aX x gs n st'
structure BdP (x:Fx) (st:PSt):Prop where
 r:st.h.rows.length<=x.reps.length
 m:st.h.kvs.length<=2000+st.tr.length+100*st.h.rows.length
theorem FT{x:Fx}{k:Nat}{ns:List Int}{st:HSt}(J:vw x)(C:st.rows.length<=x.reps.length)(o:(bA x k ns st).1=none):(bA x k ns st).2.rows.length<=x.reps.length/\(bA x k ns st).2.kvs.length+100*st.rows.length<=st.kvs.length+1+100*(bA x k ns st).2.rows.length:=by
 revert o
 unfold bA
 split
 .split
  .intro o;cases o
  .split
   .intro o;cases o
   .rename_i bs ws e
    intro _;have I:st.rows.length<x.reps.length:=(gV.mp e).1;have hw:=J.wr _ (MD e);have b:=fN ws st.kvs;have U:ws.length<=100:=hw;refine⟨?_,?_⟩
    .show(st.rows++[_]).length<=_
     rw[MA];exact I
    .show(cP st.kvs ws).length+100*st.rows.length<=st.kvs.length+1+100*(st.rows++[_]).length
     rw[MA]
     simp only[MU,Nl]
     lia
 .split
  .split
   .split
    .intro _;exact⟨C,by show st.kvs.length+100*st.rows.length<=st.kvs.length+1+100*st.rows.length;lia⟩
    .intro _;have a:=nM st.kvs (.inl (bq ns st.bx)) (.int (bxG st.bx (ns.getD 0 0)));exact⟨C,by show(dw st.kvs _ _).length+100*st.rows.length<=st.kvs.length+1+100*st.rows.length;lia⟩
   .intro o;cases o
  .intro _;exact⟨C,by show st.kvs.length+100*st.rows.length<=st.kvs.length+1+100*st.rows.length;lia⟩
theorem CL{x:Fx}{gl:Nat}{p:Int × Int}{st:PSt}(h:BdP x st):BdP x (du gl p st).2:=by
 unfold du
 split
 .exact h
 .exact⟨h.r,h.m⟩
theorem Hq{x:Fx}{gl k:Nat}{ns:List Int}{st:PSt}{p:Int × Int}(b:vw x)(h:BdP x st)(o:(bn x gl k ns {st with tr:=st.tr++[p]}).1=none):BdP x (bn x gl k ns {st with tr:=st.tr++[p]}).2:=by
 have I:=h.r;have c:=h.m;have J:BdP x {st with tr:=st.tr++[p]}:=⟨I,by show st.h.kvs.length<=2000+(st.tr++[p]).length+100*st.h.rows.length;rw[MA];lia⟩
 revert o
 unfold bn
 split
 .intro o;cases o
 .split
  .intro _;exact CL J
  .have h3:=FT (k:=k) (ns:=ns) (st:=st.h) b I
   split
   .rename_i h' e
    intro _;have a:bA x k ns st.h=(none,h'):=e;rw[a] at h3;obtain⟨C,U⟩:=h3 rfl;dsimp only at C U;refine CL ⟨C,?_⟩
    show h'.kvs.length<=2000+(st.tr++[p]).length+100*h'.rows.length
    rw[MA]
    simp only[MU,Nl]
    lia
   .intro o;cases o
theorem BZ{x:Fx}{nb:Nat}{gs:List (List (Nat × List Int))}{k:Nat}{ns:List Int}{st:PSt}(B:yX nb gs)(M:u_ gs st)(j:rY gs st.b st.i=some (k,ns))(N:BxN nb st.h.bx)(a:(bn x gs.length k ns st).1=none):u_ gs (bn x gs.length k ns st).2:=by
 obtain⟨blk,c,F⟩:∃blk,gs[st.b.toNat]? =some blk/\blk[st.i.toNat]? =some (k,ns):=by
  unfold rY at j
  cases e:gs[st.b.toNat]? with
  | none=>rw[e] at j;cases j
  | some blk=>rw[e] at j;exact⟨blk,rfl,j⟩
 have p:=MD c;have u:=(B.val blk p _ (MD F)).1;have L:=B.last blk p _ _ F;dsimp only at L u;have O:=M.b0;have Q:=M.i0;have A:∀(b:Int) (o:PSt),0<=b->(du gs.length (b,0) o).1=none->u_ gs (du gs.length (b,0) o).2:=by
  intro b o G;unfold du
  split
  .intro a;cases a
  .rename_i s
   intro _;have d:b.toNat<gs.length:=by
    have:¬((gs.length:Nat):Int)<=b:=s
    lia
   refine⟨G,N1 0,?_⟩
   have D:=B.ne _ (Nm d);have H:0<(gs[b.toNat]).length:=N3.mpr D;refine⟨(gs[b.toNat])[0],?_⟩
   show(gs[b.toNat]?).bind (fun blk=>blk[(0:Int).toNat]?)=_
   rw[be d];show(gs[b.toNat])[0]? =_
   exact be H
 have on:k≠0->k≠13->k≠15->∀(o:PSt),u_ gs (du gs.length (st.b,st.i+1) o).2\/(du gs.length (st.b,st.i+1) o).1≠none:=by
  intro k0 f g o;unfold du
  split
  .right;intro z;cases z
  .left
   have s:=(gV.mp F).1;have r:st.i.toNat+1<blk.length:=by
    rcases Ol (st.i.toNat+1) blk.length with h | h
    .exact h
    .have:=L (by lia)
     lia
   refine⟨O,by show 0<=st.i+1;lia,blk[st.i.toNat+1],?_⟩
   show(gs[st.b.toNat]?).bind (fun blk=>blk[(st.i+1).toNat]?)=_
   rw[c];show blk[(st.i+1).toNat]? =_
   have e:(st.i+1).toNat=st.i.toNat+1:=by lia
   rw[e];exact be r
 revert a
 unfold bn
 split
 .intro a;cases a
 .rename_i k0
  split
  .rename_i kj
   unfold mJ
   split
   .rename_i f
    subst f;refine A _ _ ?_
    rcases u with⟨e,rfl⟩|⟨e,x,v,rfl,C,I,v0,v1⟩|⟨m,q,x,y,z,rfl,C,I,U,J,z0,z1⟩|⟨m,q,x,y,z,rfl,C,I,U,J,z0,z1⟩|⟨n,z,rfl,z0,z1⟩|⟨e,x,z,rfl,C,I,z0,z1⟩|⟨e,y,rfl,U,J⟩|⟨n,x,y,rfl,C,I,U,J⟩
    all_goals first | lia | exact z0
   .rename_i f
    split
    .rename_i g
     subst g;refine A _ _ ?_
     rcases u with⟨e,rfl⟩|⟨e,x,v,rfl,C,I,v0,v1⟩|⟨m,q,x,y,z,rfl,C,I,U,J,z0,z1⟩|⟨m,q,x,y,z,rfl,C,I,U,J,z0,z1⟩|⟨n,z,rfl,z0,z1⟩|⟨e,x,z,rfl,C,I,z0,z1⟩|⟨e,y,rfl,U,J⟩|⟨n,x,y,rfl,C,I,U,J⟩
     all_goals first | lia | exact(N.at U J).2.1
    .rename_i g
     have E:k=14:=by lia
     subst E
     split
     .refine A _ _ ?_
      rcases u with⟨e,rfl⟩|⟨e,x,v,rfl,C,I,v0,v1⟩|⟨m,q,x,y,z,rfl,C,I,U,J,z0,z1⟩|⟨m,q,x,y,z,rfl,C,I,U,J,z0,z1⟩|⟨n,z,rfl,z0,z1⟩|⟨e,x,z,rfl,C,I,z0,z1⟩|⟨e,y,rfl,U,J⟩|⟨n,x,y,rfl,C,I,U,J⟩
      all_goals first | lia | exact z0
     .intro a;rcases on (by decide) (by decide) (by decide) st with h | h
      .exact h
      .exact absurd a h
  .rename_i kj
   split
   .rename_i h' e
    intro a;rcases on k0 (by lia) (by lia) {st with h:=h'} with h | h
    .exact h
    .exact absurd a h
   .intro a;cases a
theorem BB{gl:Nat}{p:Int × Int}{st:PSt}:(du gl p st).2.tr=st.tr:=by
 unfold du
 split <;> rfl
theorem lG{x:Fx}{gl k:Nat}{ns:List Int}{st:PSt}:(bn x gl k ns st).2.tr=st.tr:=by
 unfold bn
 split
 .rfl
 .split
  .exact BB
  .split
   .exact BB
   .rfl
theorem Fu{x:Fx}{gl k:Nat}{ns:List Int}{st:PSt}(e:Option (Str × List Int))(o:PSt)(h:bn x gl k ns st=(e,o)):o.tr=st.tr:=by
 have:=lG (x:=x) (gl:=gl) (k:=k) (ns:=ns) (st:=st);rw[h] at this;exact this
theorem PrH.trail{C m:Addr}{nb:Nat}{d H J:Hp}{r s n o u pl q pt I:Addr}{c:List Addr}{g:Int}{st:PSt}(a1:ax d J)(a2:d r=none)(a3:d I=none)(a4:J r=some (.ins m s (pfs n pt o I)))(a5:J pt=some (.tup [.int st.b,.int st.i]))(U:J I=some (.lst (c.map V.ref)))(x:TrA J c st.tr)(y:HoH C nb J H o u pl q g st.h):
  PrH C m nb d (upd H I (.lst (c.map V.ref++[.ref pt]))) r s n o u pl q g {st with tr:=st.tr++[(st.b,st.i)]}:=by
 have f:∀a j,J a=some (.tup j)->a≠I:=fun a j e z=>by rw[z,U] at e;cases e
 have v:r≠I:=by rintro rfl;rw[a4] at U;cases U
 refine⟨⟨_,pt,I,c++[pt],cf a3 a1,a2,a3,?_,?_,?_,?_,y.write _ U (fun _ z=>by cases z)⟩⟩
 .rw[aj v];exact a4
 .rw[aj (f _ _ a5)];exact a5
 .rw[MH];exact ad
 .exact TrA.push (p:=(st.b,st.i)) (by rw[aj (f _ _ a5)];exact a5) (x.mono (fun a j e=>by rw[aj (f _ _ e)];exact e))
def HK(K:Frag)(C c:Addr)(nb:Nat):Sp:=fun f H Q _=>∃(J:Hp) (r d U o e pl a:Addr) (st:PSt) (x:Fx) (I:List (List (Nat × List Int))) (n:Nat),f=[.ref r,.int ((st.tr.length+n:Nat):Int)]/\PrH C c nb J H r d U o e pl a x.pg st/\EnH K J pl a x/\vw x/\BdP x st/\Dz K J U I/\yX nb I/\u_ I st/\st.tr.length+n<=1001/\0<nb/\nb<=8/\
 ∀v b,PrH C c nb J b r d U o e pl a x.pg (aX x I n st).2->sV b (some (aX x I n st).1) v->Q v b
theorem sB{C y:Addr}{nb:Nat}(B:Bi mg)(c:cA K mg "PlainRun" y)(n:eB K y)(D:gW K y)(tK:bC P w K mg base 6 y "begin" bR (Eh K C y nb)):bC P w K mg base 7 y "go_on" ql (HK K C y nb):=by
 refine D.has c.cl gG (fun vs H Q E h=> ?_) (fun f cc A bb s H vs Q E hr h=> ?_)
 .obtain⟨H0,r,dr,ga,o,dx,pl,rl,st,x,d,g,rfl,_⟩:=h
  rfl
 obtain⟨H0,r,dr,ga,o,dx,pl,rl,st,x,d,g,rfl,ma,en,fx,bd,gu,go,pk,hn,b',b9,q⟩:=h;have hc:=c.cl;have n1:=n.trail;have n2:=n.place;have n3:=n.guest
 refine⟨_,(ac (psS 2 gG.nd fH)
   (ac (aW (lB M7 (qC (qN (pv 2))) (ac (ay (pcT nh (aL aN (by rfl) B.len dD (pa1 (aE (pv 0) (by rfl)))) (pv 1)) (ae (ai (aw (pa1 av)))) am)
   (ac (bL (gH MX M9 M_ cC (aE (pv 0) (by rfl)) (pa1 (aE (pv 0) (by rfl)))))
   (ae (psS 2 gG.nd (bB (tK.mono (by omega)) hr (pv 0) (pa1 (pX ag (pX ag (aE (pv 0) (by rfl)) (pX ag (aE (pv 0) (by rfl)) aa)) (pX ag (aE (pv 0) (by rfl)) aa))))))))))
   (ae (ai (pv 2))))),?_⟩
 try dsimp only[aT]
 walk_at"g"
 refine⟨fun mm Z R=>(∃(n':Nat) (I:PSt),mm=n'+1/\I.tr.length+n'=st.tr.length+g/\PrH C y nb H0 R r dr ga o dx pl rl x.pg I/\BdP x I/\u_ d I/\aX x d n' I=aX x d g st/\Z=[some (.ref r),some (.int ((st.tr.length+g:Nat):Int)),some .non])\/
  (∃(v:V),mm=0/\v≠ .non/\PrH C y nb H0 R r dr ga o dx pl rl x.pg (aX x d g st).2/\sV R (some (aX x d g st).1) v/\Z=[some (.ref r),some (.int ((st.tr.length+g:Nat):Int)),some v]),⟨g+1,.inl ⟨g,st,rfl,rfl,ma,bd,pk,rfl,rfl⟩⟩,?_⟩
 rintro mm Z H1 (⟨n',I,rfl,ht,G,S,T,er,rfl⟩|⟨v,rfl,bu,G,ev,rfl⟩)
 .refine aA fun X J=> ?_
  obtain⟨Hm,pt,Y,ts,a1,a2,a3,a4,a5,a6,a7,a8⟩:=G.ex;refine J ?_
  have bt:=a8.same _ _ a4;have bx:=a8.same _ _ a5;have bz:=a8.same _ _ a6;have ar:=a7.len;have bW:=gu.mv G.same;refine⟨_,rfl,_,rfl,yT rfl ?_⟩
  walk_at"n"
  refine⟨fun Z' R=>aG ((∃(n2:Nat) (I:PSt),n2+1<n'+1/\I.tr.length+n2=st.tr.length+g/\PrH C y nb H0 R r dr ga o dx pl rl x.pg I/\BdP x I/\u_ d I/\aX x d n2 I=aX x d g st/\Z'=[some (.ref r),some (.int ((st.tr.length+g:Nat):Int)),some .non])\/
   (∃(v:V),v≠ .non/\PrH C y nb H0 R r dr ga o dx pl rl x.pg (aX x d g st).2/\sV R (some (aX x d g st).1) v/\Z'=[some (.ref r),some (.int ((st.tr.length+g:Nat):Int)),some v])),fun Z' R h=> ?_,?_⟩
  .rcases h.out with⟨n2,a,b1,b2,b3,b4,b5,b6,b7⟩|⟨v2,b1,b2,b3,b4⟩
   .exact⟨n2+1,b1,.inl ⟨n2,a,rfl,b2,b3,b4,b5,b6,b7⟩⟩
   .exact⟨0,by lia,.inr ⟨v2,rfl,b1,b2,b3,b4⟩⟩
  walk_at"g";have M:(ts.map V.ref).length=I.tr.length:=by rw[fI];exact ar
  cases n' with
  | zero=>
   have F:aX x d g st=((("spent":Str),([]:List Int)),I):=by
    rw[<- er]
    rfl
   rw[F] at q;refine yT (by rw[M];lia) ?_
   walk_at"g";intro qq hq;exact q _ _ (G.grow (af hq _)) ⟨qq,rfl,ad⟩
  | succ n2=>
   refine dG (by rw[M];lia) ?_
   refine aA fun X J=> ?_
   obtain⟨⟨k,N⟩,U⟩:=T.at_;refine J ?_
   have b0:=T.b0;have i0:=T.i0;have ab:=PrH.trail a1 a2 a3 a4 a5 a6 a7 a8;have a9:r≠Y:=by rintro rfl;rw[a4] at a6;cases a6
   have bD:pt≠Y:=by rintro rfl;rw[a5] at a6;cases a6
   have bM:upd H1 Y (.lst (ts.map V.ref++[.ref pt])) r=some (.ins y dr (pfs ga pt o Y)):=by rw[aj a9];exact bt
   have b8:upd H1 Y (.lst (ts.map V.ref++[.ref pt])) pt=some (.tup [.int I.b,.int I.i]):=by rw[aj bD];exact bx
   have bo:=gu.mv ab.same;have bX:(ts.map V.ref).length<sizeLine:=Nw (show _<=2000 by rw[M];lia) (by decide)
   refine aA fun X J=> ?_
   obtain⟨bh,g1,g2,g3⟩:=bo.ex;refine J ?_
   refine aA fun X J=> ?_
   obtain⟨aK,bV,bj,_⟩:=gu.ex;refine J ?_
   obtain⟨blk,O,hj⟩:∃blk,d[I.b.toNat]? =some blk/\blk[I.i.toNat]? =some (k,N):=by
    unfold rY at U
    cases e:d[I.b.toNat]? with
    | none=>rw[e] at U;cases U
    | some blk=>rw[e] at U;exact⟨blk,rfl,U⟩
   refine aA fun X J=> ?_
   obtain⟨ba,bE,f1,f2,f3,f4⟩:=g3 _ _ O;refine J ?_
   refine aA fun X J=> ?_
   obtain⟨ia,f5,f6⟩:=f4 _ _ hj;refine J ?_
   refine aA fun X J=> ?_
   obtain⟨bH,_,cb⟩:=go.val blk (MD O) _ (MD hj);refine J ?_
   have eb:I.b=((I.b.toNat:Nat):Int):=by lia
   have ei:I.i=((I.i.toNat:Nat):Int):=by lia
   have x1:atI (bh.map V.ref) I.b=some (.ref ba):=by
    rw[eb];exact aY (by rw[MW,f1];rfl)
   have x2:atI (bE.map V.ref) I.i=some (.ref ia):=by
    rw[ei];exact aY (by rw[MW,f5];rfl)
   have p0:atI [V.int I.b,V.int I.i] 0=some (.int I.b):=aY (j:=0) rfl;have p1:atI [V.int I.b,V.int I.i] 1=some (.int I.i):=aY (j:=1) rfl;have y1:=S.r;have y2:=S.m;have y3:=fx.few;have y4:I.tr.length<=1001:=by lia
   have cj:I.h.kvs.length<=9000:=by lia
   have cm:I.h.rows.length<=9000:=by lia
   have cp:tyV K "list" (.ref Y) H1:= .inl ⟨rfl,_,SqL.of bz⟩;have eg:(aK.map V.ref).length=d.length:=by rw[fI];exact bj
   walk_at"g";intro v3 H3 L u;dsimp only at L u;rw[eg] at L u;have F:aX x d g st=match bn x d.length k N {I with tr:=I.tr++[(I.b,I.i)]} with | (some e,a)=>(e,a) | (none,a)=>aX x d n2 a:=by
    rw[<- er]
    conv=>lhs;unfold aX
    rw[U]
    all_goals rfl
   have aH:=Hq (k:=k) (ns:=N) (gl:=d.length) (p:=(I.b,I.i)) fx S;have ao:=BZ (x:=x) (k:=k) (ns:=N) (st:={I with tr:=I.tr++[(I.b,I.i)]}) go ⟨b0,i0,_,U⟩ U ab.bxs
   have a':∀e a,bn x d.length k N {I with tr:=I.tr++[(I.b,I.i)]}=(e,a)->a.tr=I.tr++[(I.b,I.i)]:=Fu
   walk_at"g"
   cases hst:bn x d.length k N {I with tr:=I.tr++[(I.b,I.i)]} with
   | mk e1 a=>
    have br:=a' _ _ hst;rw[hst] at F L u aH ao
    cases e1 with
    | none=>
     have bw:v3= .non:=u;subst bw;exact aG.mk (Or.inl ⟨n2,a,by lia,by rw[br,MA];simp only[MU,Nl];lia,L,aH rfl,ao rfl,F.symm,rfl⟩)
    | some ee=>
     have aR:aX x d g st=(ee,a):=F;refine aG.mk (Or.inr ⟨v3,?_,by rw[aR];exact L,by rw[aR];exact u,rfl⟩)
     refine aA fun X J=> ?_
     obtain⟨q3,rfl,_⟩:=u;refine J ?_
     intro z
     cases z
 .walk_at"g";rw[MG bu];walk_at"g";exact q _ _ G ev
def Eu(K:Frag)(C U:Addr)(nb:Nat):Sp:=fun i H Q _=>∃(J I:Hp) (r d a o f pl c:Addr) (b g:Int) (st:HSt),i=[.ref r,.ref a,.int b,.ref o]/\I r=some (.ins U d [])/\J r=none/\ax J I/\HoH C nb I H o f pl c g st/\
 ∀e,PrH C U nb J e r d a o f pl c g ⟨b,0,st,[]⟩->Q .non e
theorem pe{C I:Addr}{nb:Nat}(B:Bi mg)(c:cA K mg "PlainRun" I)(n:eB K I)(D:fD K I):bC P w K mg base 1 I "__init__" BV (Eu K C I nb):=by
 refine D.has c.cl nX (fun vs H Q E h=> ?_) (fun f ar A F s H vs Q E hr h=> ?_)
 .obtain⟨x,m,r,U,J,o,v,pl,u,b,g,st,rfl,_⟩:=h
  rfl
 obtain⟨x,m,r,U,J,o,v,pl,u,b,g,st,rfl,hm,m0,sm,Z,q⟩:=h;have hc:=c.cl;have n2:=n.guest;have n3:=n.place;have n4:=n.holding;have n5:=n.trail;have ho:=Z.same _ _ hm
 refine⟨_,(ac (bT (pv 0) (pv 1) (by rfl))
   (ac (bT (pv 0) (aw (pa2 (pv 2) aa)) (by rfl))
   (ac (bT (pv 0) (pv 3) (by rfl))
   (ae (bT (pv 0) (bG dA) (by rfl)))))),?_⟩
 try dsimp only[aT]
 walk_at"g";intro pt p;have O:HoH C nb (upd m r (.ins I U (aU "guest" (.ref J) []))) (upd H r (.ins I U (aU "guest" (.ref J) []))) o v pl u g st:=Z.write _ hm (fun _ z=>by cases z)
 have s1:ax x (upd m r (.ins I U (aU "guest" (.ref J) []))):=cf m0 sm;have e1:upd m r (.ins I U (aU "guest" (.ref J) [])) r=some (.ins I U [("guest",.ref J)]):=ad;generalize upd m r (.ins I U (aU "guest" (.ref J) []))=L at*;generalize upd H r (.ins I U (aU "guest" (.ref J) []))=Hb at*;have G:L pt=none:=none_of O.same p;have S:=O.add (.tup [.int b,.int 0]) p;have s2:=bK (o:= .tup [.int b,.int 0]) G s1;have X:=ck (o:= .tup [.int b,.int 0]) G e1;have f2:upd L pt (.tup [.int b,.int 0]) pt=some (.tup [.int b,.int 0]):=ad;have d:pt≠r:=(ak e1 G).symm;generalize upd L pt (.tup [.int b,.int 0])=e at*;generalize upd Hb pt (.tup [.int b,.int 0])=N at*;have ab:=S.same _ _ X;walk_at"g";intro a j;have h3:HoH C nb (upd e r (.ins I U (aU "place" (.ref pt) [("guest",.ref J)]))) (upd N r (.ins I U (aU "place" (.ref pt) [("guest",.ref J)]))) o v pl u g st:=S.write _ X (fun _ z=>by cases z)
 have R:HoH C nb (upd (upd e r (.ins I U (aU "place" (.ref pt) [("guest",.ref J)]))) r (.ins I U (aU "holding" (.ref o) (aU "place" (.ref pt) [("guest",.ref J)])))) (upd (upd N r (.ins I U (aU "place" (.ref pt) [("guest",.ref J)]))) r (.ins I U (aU "holding" (.ref o) (aU "place" (.ref pt) [("guest",.ref J)])))) o v pl u g st:=h3.write _ ad (fun _ z=>by cases z)
 have T:ax x (upd (upd e r (.ins I U (aU "place" (.ref pt) [("guest",.ref J)]))) r (.ins I U (aU "holding" (.ref o) (aU "place" (.ref pt) [("guest",.ref J)])))):=cf m0 (cf m0 s2);have e4:upd (upd e r (.ins I U (aU "place" (.ref pt) [("guest",.ref J)]))) r (.ins I U (aU "holding" (.ref o) (aU "place" (.ref pt) [("guest",.ref J)]))) r=some (.ins I U [("guest",.ref J),("place",.ref pt),("holding",.ref o)]):=ad;have f4:upd (upd e r (.ins I U (aU "place" (.ref pt) [("guest",.ref J)]))) r (.ins I U (aU "holding" (.ref o) (aU "place" (.ref pt) [("guest",.ref J)]))) pt=some (.tup [.int b,.int 0]):=by rw[aj d,aj d];exact f2
 generalize upd (upd e r (.ins I U (aU "place" (.ref pt) [("guest",.ref J)]))) r (.ins I U (aU "holding" (.ref o) (aU "place" (.ref pt) [("guest",.ref J)])))=M at*;generalize upd (upd N r (.ins I U (aU "place" (.ref pt) [("guest",.ref J)]))) r (.ins I U (aU "holding" (.ref o) (aU "place" (.ref pt) [("guest",.ref J)])))=Hf at*;have i:M a=none:=none_of R.same j;have Y:=R.add (.lst []) j;have s5:=bK (o:= .lst []) i T;have e5:=ck (o:= .lst []) i e4;have f5:=ck (o:= .lst []) i f4;have g5:upd M a (.lst []) a=some (.lst []):=ad;have y:a≠r:=(ak e4 i).symm;have t0:x a=none:=none_of T i;have ao:=Y.same _ _ e5;generalize upd M a (.lst [])=Hg at*;generalize upd Hf a (.lst [])=Hh at*;walk_at"g";refine q _ ⟨⟨_,pt,a,[],cf m0 s5,m0,t0,ad,?_,?_,True.intro,Y.write _ e5 (fun _ z=>by cases z)⟩⟩
 .rw[aj d];exact f5
 .rw[aj y];exact g5
structure Iq (H0 H:Hp) (q:Addr) (R:(Str × List Int) × PSt):Prop where
 ex:∃(eq pt tb db rw tl:Addr) (es:List (Addr × Addr)) (ts:List Addr),H q=some (.tup [.ref eq,.ref pt,.ref tb,.ref db,.ref rw,.ref tl])/\H eq=some (.tup (.str R.1.1::R.1.2.map V.int))/\H pt=some (.tup [.int R.2.b,.int R.2.i])/\H tb=some (.tup (R.2.h.bx.map V.int))/\H db=some (.dK R.2.h.kvs)/\
  H rw=some (.lst ((es.map (·.1)).map V.ref))/\H tl=some (.lst (ts.map V.ref))/\H0 rw=none/\H0 db=none/\H0 tl=none/\(es.map (·.2)).Nodup/\dS H0 H db es R.2.h.rows/\TrA H ts R.2.tr
def LE(K:Frag)(nb:Nat):Sp:=fun e H Q _=>∃(U pl c d a:Addr) (b:Int) (I:List Int) (o:List (Key × V)) (x:Fx) (C:List (List (Nat × List Int))) (n:Nat),e=[.ref U,.ref pl,.int x.pg,.int b,.ref c,.ref d,.ref a,.int n]/\SqT K H c (I.map V.int)/\H d=some (.dK o)/\BxN nb I/\b_ o/\o.length<=2000/\
 EnH K H pl a x/\vw x/\n<=1001/\Dz K H U C/\yX nb C/\0<=b/\b<C.length/\∀q J,ax H J->Iq H J q (aX x C n ⟨b,0,⟨I,o,[]⟩,[]⟩)->b_ (aX x C n ⟨b,0,⟨I,o,[]⟩,[]⟩).2.h.kvs->BxN nb (aX x C n ⟨b,0,⟨I,o,[]⟩,[]⟩).2.h.bx->Q (.ref q) J
theorem u_.start{nb:Nat}{gs:List (List (Nat × List Int))}(go:yX nb gs){b:Int}(J:0<=b)(U:b<gs.length){h:HSt}{tr:List (Int × Int)}:u_ gs ⟨b,0,h,tr⟩:=by
 have o:b.toNat<gs.length:=by lia
 refine⟨J,N1 0,?_⟩
 have I:=go.ne _ (Nm o);have C:0<(gs[b.toNat]).length:=N3.mpr I;refine⟨(gs[b.toNat])[0],?_⟩
 show(gs[b.toNat]?).bind (fun blk=>blk[(0:Int).toNat]?)=_
 rw[be o];show(gs[b.toNat])[0]? =_
 exact be C
theorem JU{o:Addr}{n:Nat}:V.ref o::([V.int (n:Int)]++[])=[V.ref o,V.int ((([]:List (Int × Int)).length+n:Nat):Int)]:=by rw[Nl,Ny];rfl
theorem wm{C d:Addr}{nb:Nat}(aH:0<nb)(Y:nb<=8)(B:Bi mg)(bE:cA K mg "Holding" C)(nH:cZ K C)(cD:cA K mg "PlainRun" d)(n:eB K d)(D:qA K mg)(fX:bC P w K mg base 1 C "__init__" yi (yY K C))
  (qf:bC P w K mg base 1 d "__init__" BV (Eu K C d nb)) (tR:bC P w K mg base 7 d "go_on" ql (HK K C d nb)):Has P w K mg base 8 "run_plainly" Cz (LE K nb):=by
 refine D.has gF (fun vs H Q E h=> ?_) (fun f bH A N s H vs Q E O h=> ?_)
 .obtain⟨ga,pl,bt,md,rl,b,F,I,x,gs,nn,rfl,_⟩:=h
  rfl
 obtain⟨ga,pl,bt,md,rl,b,F,I,x,gs,nn,rfl,T,G,ba,bj,bM,en,fx,bD,gu,go,b0,b1,q⟩:=h;have hc:=cD.cl;have bz:=bE.cl;have n1:=n.place;have n2:=n.trail;have n3:=nH.boxes;have n4:=nH.memory;have n5:=nH.rows
 refine⟨_,(ac (psS 8 gF.nd (oP bE (fX.mono (by omega)) O (by rfl) (pa5 (pv 1) (pv 2) (pv 4) (pv 5) (pv 6))))
   (ac (psS 9 gF.nd (oP cD (qf.mono (by omega)) O (by rfl) (pa3 (pv 0) (pv 3) (pv 8))))
   (ac (psS 10 gF.nd (bB (tR.mono (by omega)) O (pv 9) (pa1 (pv 7))))
   (ae (ai (aw (az (pv 10) (az (aE (pv 9) (by rfl)) (az (cn cQ (by rfl) B.tuple fQ (pa1 (aE (pv 8) (by rfl)))) (az (aE (pv 8) (by rfl)) (az (aE (pv 8) (by rfl)) (az (aE (pv 9) (by rfl)) dA)))))))))))),?_⟩
 try dsimp only[aT]
 walk_at"g";intro o dx ho bb ab;have ar:upd H dx (.own o) o=none:=by rw[aj (Nb ab)];exact ho
 refine⟨nb,H,o,dx,pl,bt,md,rl,x.pg,F,I,rfl,ad,ho,bK ar (af bb _),T,G,ba,bj,fun H1 g=>⟨rfl,?_⟩⟩
 walk_at"g";intro m z u j r;have bo:upd H1 z (.own m) m=none:=by rw[aj (Nb r)];exact u
 have c:H m=none:=none_of g.same u;have y:H z=none:=none_of g.same j;refine⟨H,_,m,z,ga,o,dx,pl,rl,b,x.pg,_,rfl,ad,c,?_,(g.add (.own m) j).add (.ins d z []) bo,fun H2 p=>⟨rfl,?_⟩⟩
 .exact bK (by rw[aj (Nb r)];exact c) (af y _)
 obtain⟨Hm,pt,M,ts,a1,a2,a3,a4,a5,a6,Z,a⟩:=p.ex;have bw:=a.same _ _ a4;have a':=u_.start (h:=⟨F,I,[]⟩) (tr:=[]) go b0 b1;walk_at"g";refine⟨JU,p,en,fx,⟨Na _,by show I.length<=2000+0+100*0;lia⟩,gu,go,a',by show 0+nn<=1001;lia,aH,Y,fun v H3 J ev=> ?_⟩
 obtain⟨eq,rfl,bh⟩:=ev;generalize aX x gs nn ⟨b,0,⟨F,I,[]⟩,[]⟩=R at*;clear a1 a2 a3 a4 a5 a6 Z a;obtain⟨Hm,pt,M,ts,a1,a2,a3,a4,a5,a6,Z,a⟩:=J.ex;obtain⟨bl,ml,rw,es,X,hb,L,a9,o0,br,m1,w0,bV,nd,rows⟩:=a.ex;have ao:=a.same _ _ a4;have aK:=a.same _ _ a5;have aR:=a.same _ _ a6;walk_at"g";intro S i;have bu:=ck (o:= .tup (R.2.h.bx.map V.int)) i ao;have bW:=ck (o:= .tup (R.2.h.bx.map V.int)) i X;walk_at"g";intro qq hq;have U:ax H3 (upd (upd H3 S (.tup (R.2.h.bx.map V.int))) qq (.tup [.ref eq,.ref pt,.ref S,.ref ml,.ref rw,.ref M])):=bK hq (af i _);refine q qq _ (J.same.trans U) ⟨⟨eq,pt,S,ml,rw,M,es,ts,ad,U _ _ bh,U _ _ aK,ck hq ad,U _ _ L,U _ _ a9,U _ _ aR,none_of a1 w0,none_of a1 m1,a3,nd,rows.mono (fun _ _ e=>U _ _ e) (fun _ _ z1 z2 e=>⟨none_of a1 z1,U _ _ e,z2⟩),Z.mono (fun _ _ e=>U _ _ (a.same _ _ e))⟩⟩ J.mem J.bxs
theorem FZ:∀k,k<19->2<=k->k<=9->aQ k=(["a","b","c"]:List Str):=by decide +kernel
theorem GU:∀k,k<19->10<=k->k<=12->aQ k=(["a","b","move"]:List Str):=by decide +kernel
theorem JB:∀k,k<19->16<=k->k<=17->aQ k=(["a","b"]:List Str):=by decide +kernel
theorem GW{k:Nat}{a b c:Int}(C:2<=k)(o:k<=9):cK k [a,b,c]=k*134217728+a*16777216+b*2097152+c*262144:=by
 unfold cK;rw[FZ k (by lia) C o]
 rfl
theorem FM{k:Nat}{a b n:Int}(C:10<=k)(o:k<=12):cK k [a,b,n]=k*134217728+a*16777216+b*2097152+n %262144:=by
 unfold cK;rw[GU k (by lia) C o]
 rfl
theorem Js{k:Nat}{a b:Int}(C:16<=k)(o:k<=17):cK k [a,b]=k*134217728+a*16777216+b*2097152:=by
 unfold cK;rw[JB k (by lia) C o]
 rfl
theorem oX{o:Int}{k:Nat}{ns:List Int}(J:o / 134217728=k)(C:k<19)(I:(aQ k).map (fun x=>gw x o)=ns)(hw:cK k ns=o):owi o=some (k,ns):=by
 unfold owi;rw[J,mC (by lia),MN,I,ME hw]
theorem yL{k:Nat}{ns:List Int}(h:aI 8 262144 k ns):0<=cK k ns/\owi (cK k ns)=some (k,if k=1 then ns.take 1 else ns):=by
 rcases h with⟨rfl,rfl⟩|⟨rfl,a,v,rfl,a0,a1,v0,v1⟩|⟨o,C,a,b,c,rfl,a0,a1,J,U,c0,c1⟩|⟨o,C,a,b,n,rfl,a0,a1,J,U,n0,n1⟩|⟨I,n,rfl,n0,n1⟩|⟨rfl,a,n,rfl,a0,a1,n0,n1⟩|⟨rfl,b,rfl,J,U⟩|⟨I,a,b,rfl,a0,a1,J,U⟩
 .exact⟨by decide,oX (k:=0) (by decide) (by decide) rfl rfl⟩
 .have e:cK 1 [a,v]=134217728+a*16777216:=rfl;rw[e,ME rfl];clear e;refine⟨by lia,oX (k:=1) (by lia) (by decide) ?_ rfl⟩
  show[(134217728+a*16777216) / 16777216 %8]=[a]
  rw[show(134217728+a*16777216) / 16777216 %8=a by lia]
 .have e:=GW (a:=a) (b:=b) (c:=c) o C;rw[mC (by lia)]
  refine⟨by rw[e];clear e;lia,oX (by rw[e];clear e;lia) (by lia) ?_ rfl⟩
  rw[FZ k (by lia) o C,e]
  clear e;show[(k*134217728+a*16777216+b*2097152+c*262144) / 16777216 %8,(k*134217728+a*16777216+b*2097152+c*262144) / 2097152 %8,(k*134217728+a*16777216+b*2097152+c*262144) / 262144 %8]=[a,b,c]
  rw[show(k*134217728+a*16777216+b*2097152+c*262144) / 16777216 %8=a by lia,show(k*134217728+a*16777216+b*2097152+c*262144) / 2097152 %8=b by lia,show(k*134217728+a*16777216+b*2097152+c*262144) / 262144 %8=c by lia]
 .have e:=FM (a:=a) (b:=b) (n:=n) o C;rw[mC (by lia)]
  refine⟨by rw[e];clear e;lia,oX (by rw[e];clear e;lia) (by lia) ?_ rfl⟩
  rw[GU k (by lia) o C,e]
  clear e;generalize g:(k:Int)*134217728+a*16777216+b*2097152+n %262144=x;show[x / 16777216 %8,x / 2097152 %8,if x %262144<131072 then x %262144 else x %262144 - 262144]=[a,b,n]
  have d:(if x %262144<131072 then x %262144 else x %262144 - 262144)=n:=by split <;> lia
  rw[d,show x / 16777216 %8=a by lia,show x / 2097152 %8=b by lia]
 .have e:cK k [n]=k*134217728+n %262144:=by rcases I with rfl | rfl <;> rfl
  rw[mC (by lia)]
  refine⟨by rw[e];clear e;lia,oX (by rw[e];clear e;lia) (by lia) ?_ rfl⟩
  have f:aQ k=(["n"]:List Str):=by rcases I with rfl | rfl <;> rfl
  rw[f,e];clear e;show[(k*134217728+n %262144) %262144]=[n]
  rw[show(k*134217728+n %262144) %262144=n by lia]
 .have e:cK 14 [a,n]=14*134217728+a*16777216+n %262144:=rfl;rw[mC (by lia)]
  refine⟨by rw[e];clear e;lia,oX (by rw[e];clear e;lia) (by lia) ?_ rfl⟩
  rw[e];clear e;show[(14*134217728+a*16777216+n %262144) / 16777216 %8,(14*134217728+a*16777216+n %262144) %262144]=[a,n]
  rw[show(14*134217728+a*16777216+n %262144) / 16777216 %8=a by lia,show(14*134217728+a*16777216+n %262144) %262144=n by lia]
 .have e:cK 15 [b]=15*134217728+b*2097152:=rfl;rw[mC (by lia)]
  refine⟨by rw[e];clear e;lia,oX (by rw[e];clear e;lia) (by lia) ?_ rfl⟩
  rw[e];clear e;show[(15*134217728+b*2097152) / 2097152 %8]=[b]
  rw[show(15*134217728+b*2097152) / 2097152 %8=b by lia]
 .have e:=Js (k:=k) (a:=a) (b:=b) (by lia) (by lia)
  rw[mC (by lia)]
  refine⟨by rw[e];clear e;lia,oX (by rw[e];clear e;lia) (by lia) ?_ rfl⟩
  rw[JB k (by lia) (by lia) (by lia),e]
  clear e;show[(k*134217728+a*16777216+b*2097152) / 16777216 %8,(k*134217728+a*16777216+b*2097152) / 2097152 %8]=[a,b]
  rw[show(k*134217728+a*16777216+b*2097152) / 16777216 %8=a by lia,show(k*134217728+a*16777216+b*2097152) / 2097152 %8=b by lia]
theorem EY{A I:List Int}{k:Nat}{ns:List Int}(h:aI 8 262144 k ns):bQ (A++fU k ns++I) (A.length:Nat)=some (k,ns):=by
 obtain⟨i,ho⟩:=yL h;have hw:fU k ns=if k=1 then[cK k ns,ns.getD 1 0] else[cK k ns]:=rfl
 unfold bQ;rw[mC (by lia),MN]
 by_cases k1:k=1
 .subst k1;rw[hw,ME rfl];have b:(A++[cK 1 ns,ns.getD 1 0]++I)[A.length]? =some (cK 1 ns):=by
   rw[M4,MT (MC _),NO]
   rfl
  have f:(A++[cK 1 ns,ns.getD 1 0]++I)[A.length+1]? =some (ns.getD 1 0):=by
   rw[M4,MT (by lia)]
   have:A.length+1 - A.length=1:=by lia
   rw[this]
   rfl
  rw[b];dsimp only;rw[ho,ME rfl];obtain⟨a,v,rfl⟩:∃a v,ns=[a,v]:=by
   rcases h with⟨e,rfl⟩|⟨e,x,v,rfl,o,C,v0,v1⟩|⟨c,g,x,y,z,rfl,o,C,U,J,z0,z1⟩|⟨c,g,x,y,z,rfl,o,C,U,J,z0,z1⟩|⟨d,z,rfl,z0,z1⟩|⟨e,x,z,rfl,o,C,z0,z1⟩|⟨e,y,rfl,U,J⟩|⟨d,x,y,rfl,o,C,U,J⟩
   all_goals first | lia | exact⟨_,_,rfl⟩
  dsimp only;rw[ME rfl,f]
  rfl
 .rw[hw,mC k1];have b:(A++[cK k ns]++I)[A.length]? =some (cK k ns):=by
   rw[M4,MT (MC _),NO]
   rfl
  rw[b];dsimp only;rw[ho,mC k1];dsimp only;rw[mC k1]
noncomputable def d_(k:Nat):Nat:=if k=1 then 2 else 1
noncomputable def aV(is:List (Nat × List Int)):List Int:=is.flatMap (fun o=>fU o.1 o.2)
theorem C4(k:Nat)(ns:List Int):(fU k ns).length=d_ k:=by
 unfold fU d_
 split <;> rfl
theorem yt{k:Nat}{ns:List Int}(h:aI 8 262144 k ns):∀y∈fU k ns,0<=y/\y<4294967296:=by
 have one:cK k ns<4294967296/\(k=1->0<=ns.getD 1 0/\ns.getD 1 0<4294967296):=by
  rcases h with⟨rfl,rfl⟩|⟨rfl,x,v,rfl,C,I,v0,v1⟩|⟨J,a,x,y,z,rfl,C,I,b,U,z0,z1⟩|⟨J,a,x,y,z,rfl,C,I,b,U,z0,z1⟩|⟨d,z,rfl,z0,z1⟩|⟨rfl,x,z,rfl,C,I,z0,z1⟩|⟨rfl,y,rfl,b,U⟩|⟨d,x,y,rfl,C,I,b,U⟩
  .exact⟨by decide,fun z=>by lia⟩
  .refine⟨?_,fun _=>⟨v0,v1⟩⟩
   have e:cK 1 [x,v]=134217728+x*16777216:=rfl;rw[e]
   lia
  .rw[GW J a];exact⟨by lia,fun z=>by lia⟩
  .rw[FM J a];exact⟨by lia,fun z=>by lia⟩
  .rcases d with rfl | rfl
   .have e:cK 13 [z]=13*134217728+z %262144:=rfl;rw[e];exact⟨by lia,fun z=>by lia⟩
   .have e:cK 18 [z]=18*134217728+z %262144:=rfl;rw[e];exact⟨by lia,fun z=>by lia⟩
  .have e:cK 14 [x,z]=14*134217728+x*16777216+z %262144:=rfl;rw[e];exact⟨by lia,fun z=>by lia⟩
  .have e:cK 15 [y]=15*134217728+y*2097152:=rfl;rw[e];exact⟨by lia,fun z=>by lia⟩
  .rw[Js (by lia) (by lia)]
   exact⟨by lia,fun z=>by lia⟩
 have c:=(yL h).1;intro y o;unfold fU at o
 split at o
 .rename_i k1
  simp only[M3,Nr,Oo] at o
  rcases o with rfl | rfl
  .exact⟨c,one.1⟩
  .exact one.2 k1
 .simp only[M3,Nr,Oo] at o
  subst o;exact⟨c,one.1⟩
noncomputable def w8:List SpM.Span:=List.replicate 8 SpM.whole
theorem Lb:Sp8 w8:=⟨rfl,fun s hs=>by rw[Pj hs];exact SpM.Sv_whole⟩
abbrev Ins:=Nat × List Int
noncomputable def lnW(is:List Ins):Nat:=(is.map fun o=>d_ o.1).sum
theorem cW(a b:List Ins):lnW (a++b)=lnW a+lnW b:=by unfold lnW;rw[MH,List.sum_append]
theorem cS(a:Ins)(b:List Ins):lnW (a::b)=d_ a.1+lnW b:=by unfold lnW;rw[Nd,List.sum_cons]
theorem kx(a:Ins):lnW [a]=d_ a.1:=by rw[cS];rfl
theorem dW:∀is:List Ins,(aV is).length=lnW is
 | []=>rfl
 | kn::r=>by
  rw[cS, <-dW r, <-C4 kn.1 kn.2, <-MA]
  rfl
theorem jB(a b:List Ins):aV (a++b)=aV a++aV b:=by unfold aV;rw[OT]
theorem uX(a:Ins)(b:List Ins):aV (a::b)=fU a.1 a.2++aV b:=rfl
theorem lU(k:Nat):1<=d_ k/\d_ k<=2:=by unfold d_;split <;> lia
theorem Dx:∀is:List Ins,is.length<=lnW is
 | []=>MC _
 | kn::r=>by rw[cS,MU];have:=Dx r;have:=lU kn.1;lia
theorem HB:∀is:List Ins,lnW is<=2*is.length
 | []=>MC _
 | kn::r=>by rw[cS,MU];have:=HB r;have:=lU kn.1;lia
theorem wQ{is:List Ins}(h:∀kn∈is,kn.1≠1):lnW is=is.length:=by
 induction is with
 | nil=>rfl
 | cons kn r ih=>
  rw[cS,MU,ih (fun x o=>h x (M8 _ o))]
  have:d_ kn.1=1:=by unfold d_;rw[mC (h kn Nc)]
  lia
noncomputable def grp(kn:Ins):List Ins:=
 if kn.1=15 then[(17,[6,kn.2.getD 0 0]),(15,[6])]
 else if kn.1=11\/kn.1=12 then
  if kn.2.getD 2 0=0 then[(16,[6,kn.2.getD 1 0]),(kn.1,[kn.2.getD 0 0,6,0])]
  else[(10,[6,kn.2.getD 1 0,kn.2.getD 2 0]),(16,[6,6]),(kn.1,[kn.2.getD 0 0,6,0])]
 else[kn]
noncomputable def nop:Ins:=(10,[0,0,0])
noncomputable def wC(n:Nat):List Ins:=List.replicate ((8 - n %8) %8) nop
noncomputable def dk(is g:List Ins):List Ins:=if lnW is %8+lnW g<=8 then is else is++wC (lnW is)
abbrev Bk:=List Ins × List Nat
noncomputable def Lf(st:Bk)(g:List Ins):Bk:=(dk st.1 g++g,st.2++[lnW (dk st.1 g)])
noncomputable def cT(b:List Ins):Bk:=b.foldl (fun st o=>Lf st (grp o)) ([],[])
theorem xw(n:Nat):lnW (wC n)=(8 - n %8) %8:=by
 unfold wC;rw[wQ (fun C o=>by rw[(NU.mp o).2];decide),Nk]
theorem rG(m:Nat):lnW (List.replicate m nop)=m:=by
 rw[wQ (is:=List.replicate m nop) (fun C o=>by rw[(NU.mp o).2];decide),Nk]
theorem pP{b:List Ins}{j:Nat}{kn:Ins}(h:b[j]? =some kn):cT (b.take (j+1))=Lf (cT (b.take j)) (grp kn):=by
 unfold cT;rw[N8,h,OA]
 rfl
noncomputable def plc(n:Nat)(kn:Ins):Ins:=if kn.1=13 then(13,[kn.2.getD 0 0*n]) else if kn.1=14 then(14,[kn.2.getD 0 0,kn.2.getD 1 0*n]) else kn
theorem Gz(n:Nat)(kn:Ins):(plc n kn).1=kn.1:=by
 unfold plc
 split
 .rename_i h;exact h.symm
 .split
  .rename_i h;exact h.symm
  .rfl
noncomputable def gq(n:Nat)(is:List Ins):List Ins:=is.map (plc n)++List.replicate (n - lnW is) (0,[])
noncomputable def lj(n tot:Nat)(bs:List Bk):List Ins:=bs.flatMap (fun b=>gq n b.1)++List.replicate (tot - bs.length*n) (0,[])
theorem sL(n:Nat):∀is:List Ins,lnW (is.map (plc n))=lnW is
 | []=>rfl
 | kn::r=>by rw[Nd,cS,cS,sL n r,Gz]
theorem uo(n:Nat):lnW (List.replicate n ((0,[]):Ins))=n:=by
 rw[wQ (fun C o=>by rw[(NU.mp o).2];decide),Nk]
theorem yh{n:Nat}{is:List Ins}(h:lnW is<=n):lnW (gq n is)=n:=by
 unfold gq;rw[cW,sL,uo]
 lia
theorem sN{n:Nat}:∀{bs:List Bk},(∀b∈bs,lnW b.1<=n)->lnW (bs.flatMap fun b=>gq n b.1)=bs.length*n
 | [],_=>by simp [lnW]
 | b::r,h=>by
  rw[List.flatMap_cons,cW,yh (h b Nc),sN (fun x o=>h x (M8 _ o)),MU,QO]
  lia
theorem tT{kn:Ins}(h:aI 8 262144 kn.1 kn.2):∀g∈grp kn,aI 8 262144 g.1 g.2:=by
 obtain⟨k,m⟩:=kn;dsimp only at h;intro g o;unfold grp at o;dsimp only at o
 split at o
 .rename_i k15
  subst k15;obtain⟨b,rfl,d,f⟩:∃b,m=[b]/\0<=b/\b<8:=by
   rcases h with⟨e,rfl⟩|⟨e,x,v,rfl,C,I,v0,v1⟩|⟨i,j,x,y,z,rfl,C,I,U,J,z0,z1⟩|⟨i,j,x,y,z,rfl,C,I,U,J,z0,z1⟩|⟨c,z,rfl,z0,z1⟩|⟨e,x,z,rfl,C,I,z0,z1⟩|⟨e,y,rfl,U,J⟩|⟨c,x,y,rfl,C,I,U,J⟩
   all_goals first | lia | exact⟨_,rfl,by assumption,by assumption⟩
  simp only[M3,Nr,Oo] at o
  rcases o with rfl | rfl
  .exact .inr (.inr (.inr (.inr (.inr (.inr (.inr ⟨.inr rfl,6,b,rfl,by decide,by decide,d,f⟩))))))
  .exact .inr (.inr (.inr (.inr (.inr (.inr (.inl ⟨rfl,6,rfl,by decide,by decide⟩))))))
 .split at o
  .rename_i c
   obtain⟨a,b,n,rfl,a0,a1,d,f,n0,n1⟩:∃a b n,m=[a,b,n]/\0<=a/\a<8/\0<=b/\b<8/\ -131072<=n/\n<131072:=by
    rcases h with⟨e,rfl⟩|⟨e,x,v,rfl,C,I,v0,v1⟩|⟨i,j,x,y,z,rfl,C,I,U,J,z0,z1⟩|⟨i,j,x,y,z,rfl,C,I,U,J,z0,z1⟩|⟨c,z,rfl,z0,z1⟩|⟨e,x,z,rfl,C,I,z0,z1⟩|⟨e,y,rfl,U,J⟩|⟨c,x,y,rfl,C,I,U,J⟩
    all_goals first | lia | exact⟨_,_,_,rfl,by assumption,by assumption,by assumption,by assumption,by assumption,by assumption⟩
   split at o
   .simp only[M3,Nr,Oo] at o
    rcases o with rfl | rfl
    .exact .inr (.inr (.inr (.inr (.inr (.inr (.inr ⟨.inl rfl,6,b,rfl,by decide,by decide,d,f⟩))))))
    .exact .inr (.inr (.inr (.inl ⟨by show 10<=k;lia,by show k<=12;lia,a,6,0,rfl,a0,a1,by decide,by decide,by decide,by decide⟩)))
   .simp only[M3,Nr,Oo] at o
    rcases o with rfl | rfl | rfl
    .exact .inr (.inr (.inr (.inl ⟨by show 10<=10;decide,by show 10<=12;decide,6,b,n,rfl,by decide,by decide,d,f,n0,n1⟩)))
    .exact .inr (.inr (.inr (.inr (.inr (.inr (.inr ⟨.inl rfl,6,6,rfl,by decide,by decide,by decide,by decide⟩))))))
    .exact .inr (.inr (.inr (.inl ⟨by show 10<=k;lia,by show k<=12;lia,a,6,0,rfl,a0,a1,by decide,by decide,by decide,by decide⟩)))
  .rw[MY.mp o];exact h
theorem vZ(kn:Ins):1<=lnW (grp kn)/\lnW (grp kn)<=3:=by
 unfold grp
 split
 .simp only[cS]
  exact⟨by show 1<=1+(1+0);decide,by show 1+(1+0)<=3;decide⟩
 .split
  .rename_i h
   have e:d_ kn.1=1:=by unfold d_;rw[mC (by lia)]
   split
   .simp only[cS,e];exact⟨by show 1<=1+(1+0);decide,by show 1+(1+0)<=3;decide⟩
   .simp only[cS,e];exact⟨by show 1<=1+(1+(1+0));decide,by show 1+(1+(1+0))<=3;decide⟩
  .rw[kx];have:=lU kn.1
   lia
theorem DQ(kn:Ins):(grp kn).length<=3:=by
 unfold grp
 split
 .simp
 .split
  .split <;> simp
  .simp
theorem pG:aI 8 262144 nop.1 nop.2:= .inr (.inr (.inr (.inl ⟨by decide,by decide,0,0,0,rfl,by decide,by decide,by decide,by decide,by decide,by decide⟩)))
theorem AS(is g:List Ins):lnW is<=lnW (dk is g)/\(lnW (dk is g)=lnW is\/(8<lnW is %8+lnW g/\lnW (dk is g)=lnW is+(8 - lnW is %8) %8)):=by
 unfold dk
 split
 .exact⟨MC _,.inl rfl⟩
 .rw[cW,xw];exact⟨by lia,.inr ⟨by lia,rfl⟩⟩
theorem pM(b:List Ins):∀j,j<=b.length->lnW (cT (b.take j)).1<=if j %2=0 then 4*j else 4*(j - 1)+3
 | 0,_=>by simp [cT,lnW]
 | j+1,h=>by
  have ih:=pM b j (by lia)
  have e:b[j]? =some b[j]:=be (by lia)
  rw[pP e];show lnW (dk _ _++grp b[j])<=_
  rw[cW];have C:=(AS (cT (b.take j)).1 (grp b[j])).2;have o:=vZ b[j];generalize lnW (dk (cT (b.take j)).1 (grp b[j]))=x at*;generalize lnW (cT (b.take j)).1=y at*
  by_cases c:j %2=0
  .rw[ME c] at ih;rw[mC (by lia)]
   lia
  .rw[mC c] at ih;rw[ME (by lia)]
   lia
theorem IH(b:List Ins):lnW (cT b).1<=4*b.length+3:=by
 have:=pM b b.length (MC _);rw[ML] at this
 split at this <;> lia
theorem vS(b:List Ins):∀j,j<=b.length->(cT (b.take j)).2.length=j
 | 0,_=>by simp [cT]
 | j+1,h=>by
  have e:b[j]? =some b[j]:=be (by lia)
  rw[pP e];show((cT (b.take j)).2++[_]).length=_
  rw[MA,vS b j (by lia)]
  rfl
def dE(K:Frag)(H:Hp):List Addr->List Ins->Prop
 | [],[]=>True
 | t::ts,kn::is=>SqT K H t (aB kn.1 kn.2)/\dE K H ts is
 | _,_=>False
theorem dE.mono{K:Frag}{H o:Hp}(f:∀t xs,SqT K H t xs->SqT K o t xs):∀{C:List Addr}{is:List Ins},dE K H C is->dE K o C is
 | [],[],_=>True.intro
 | _::_,_::_,h=>⟨f _ _ h.1,dE.mono f h.2⟩
 | [],_::_,h=>h.elim
 | _::_,[],h=>h.elim
theorem dE.same{K:Frag}{H o:Hp}(s:ax H o){C:List Addr}{is:List Ins}(h:dE K H C is):dE K o C is:=h.mono fun _ _ z=>s.tup z
theorem dE.len{K:Frag}{H:Hp}:∀{o:List Addr}{is:List Ins},dE K H o is->o.length=is.length
 | [],[],_=>rfl
 | _::_,_::_,h=>Ng (· +1) (dE.len h.2)
 | [],_::_,h=>h.elim
 | _::_,[],h=>h.elim
theorem dE.app{K:Frag}{H:Hp}{us:List Addr}{C:List Ins}(I:dE K H us C):∀{o:List Addr}{is:List Ins},dE K H o is->dE K H (o++us) (is++C)
 | [],[],_=>I
 | _::_,_::_,h=>⟨h.1,dE.app I h.2⟩
 | [],_::_,h=>h.elim
 | _::_,[],h=>h.elim
theorem dE.get{K:Frag}{H:Hp}:∀{o:List Addr}{is:List Ins}{j:Nat}{t:Addr},dE K H o is->o[j]? =some t->∃kn,is[j]? =some kn/\SqT K H t (aB kn.1 kn.2)
 | _::_,kn::_,0,_,h,e=>by cases e;exact⟨kn,rfl,h.1⟩
 | _::_,_::_,j+1,_,h,e=>dE.get (j:=j) h.2 e
 | [],[],_,_,_,e=>by simp at e
 | [],_::_,_,_,h,_=>h.elim
 | _::_,[],_,_,h,_=>h.elim
theorem aI.lt19{bx c:Int}{k:Nat}{ns:List Int}(h:aI bx c k ns):k<19:=by
 rcases h with⟨e,rfl⟩|⟨e,x,v,rfl,o,C,v0,v1⟩|⟨U,b,x,y,z,rfl,o,C,J,I,z0,z1⟩|⟨U,b,x,y,z,rfl,o,C,J,I,z0,z1⟩|⟨a,z,rfl,z0,z1⟩|⟨e,x,z,rfl,o,C,z0,z1⟩|⟨e,y,rfl,J,I⟩|⟨a,x,y,rfl,o,C,J,I⟩
 all_goals lia
theorem aI.put2{bx c:Int}{k:Nat}{ns:List Int}(h:aI bx c k ns)(k1:k=1):2<=ns.length:=by
 rcases h with⟨e,rfl⟩|⟨e,x,v,rfl,o,C,v0,v1⟩|⟨U,b,x,y,z,rfl,o,C,J,I,z0,z1⟩|⟨U,b,x,y,z,rfl,o,C,J,I,z0,z1⟩|⟨a,z,rfl,z0,z1⟩|⟨e,x,z,rfl,o,C,z0,z1⟩|⟨e,y,rfl,J,I⟩|⟨a,x,y,rfl,o,C,J,I⟩
 all_goals first | lia | exact MC _
abbrev VI(kn:Ins):Prop:=aI 8 262144 kn.1 kn.2
noncomputable abbrev lfs(i b:Addr)(n:Int):List (Str × V):=[("instructions",.ref i),("begins",.ref b),("length",.int n)]
noncomputable abbrev vn(n:Nat):V:= .int (n:Int)
def B3(x i b:Addr)(H C:Hp):Prop:=∀a o,a≠x->a≠i->a≠b->H a=some o->C a=some o
theorem B3.refl{x i b:Addr}(H:Hp):B3 x i b H H:=fun _ _ _ _ _ h=>h
theorem B3.trans{x i b:Addr}{H I c:Hp}(p:B3 x i b H I)(q:B3 x i b I c):B3 x i b H c:=fun a o J C U h=>q a o J C U (p a o J C U h)
theorem B3.of{x i b:Addr}{H C:Hp}(s:ax H C):B3 x i b H C:=fun a o _ _ _ h=>s a o h
theorem B3.ux{x i b:Addr}{H C:Hp}{o:HO}(p:B3 x i b H C):B3 x i b H (upd C x o):=fun a u I J U h=>by rw[aj I];exact p a u I J U h
theorem B3.ui{x i b:Addr}{H I:Hp}{o:HO}(p:B3 x i b H I):B3 x i b H (upd I i o):=fun a u J C U h=>by rw[aj C];exact p a u J C U h
theorem B3.ub{x i b:Addr}{H C:Hp}{o:HO}(p:B3 x i b H C):B3 x i b H (upd C b o):=fun a u U J I h=>by rw[aj I];exact p a u U J I h
theorem B3.same{x i b:Addr}{H C I:Hp}(s:ax H C)(c:H x=none)(J:H i=none)(U:H b=none)(p:B3 x i b C I):ax H I:=fun a o h=>
 p a o (ak h c) (ak h J) (ak h U) (s a o h)
structure aZ (K:Frag) (C:Addr) (H:Hp) (x dx i b:Addr) (js:List Addr) (is:List Ins) (bs:List Nat):Prop where
 at_:H x=some (.ins C dx (lfs i b (lnW is:Nat)))
 li:H i=some (.lst (js.map V.ref))
 lb:H b=some (.lst (bs.map vn))
 ib:i≠b
 ow:dE K H js is
 va:∀kn∈is,VI kn
theorem aZ.xi{K:Frag}{C:Addr}{H:Hp}{x o i b:Addr}{I:List Addr}{is:List Ins}{bs:List Nat}(l:aZ K C H x o i b I is bs):x≠i:=eC l.at_ l.li (by intro z;cases z)
theorem aZ.xb{K:Frag}{C:Addr}{H:Hp}{x o i b:Addr}{I:List Addr}{is:List Ins}{bs:List Nat}(l:aZ K C H x o i b I is bs):x≠b:=eC l.at_ l.lb (by intro z;cases z)
theorem aZ.same{K:Frag}{C:Addr}{H o:Hp}{x I i b:Addr}{J:List Addr}{is:List Ins}{bs:List Nat}(s:ax H o)(l:aZ K C H x I i b J is bs):aZ K C o x I i b J is bs:=
 ⟨s _ _ l.at_,s _ _ l.li,s _ _ l.lb,l.ib,l.ow.same s,l.va⟩
theorem B3.tup{K:Frag}{C:Addr}{H I:Hp}{x J i b t:Addr}{U:List Addr}{is:List Ins}{bs:List Nat}{xs:List V}(l:aZ K C H x J i b U is bs)(p:B3 x i b H I)(h:SqT K H t xs):SqT K I t xs:=by
 rcases h with(h | ⟨o,h⟩) | h
 .exact .inl (.inl (p _ _ (eC h l.at_ (by intro z;cases z)) (eC h l.li (by intro z;cases z)) (eC h l.lb (by intro z;cases z)) h))
 .exact .inl (.inr ⟨o,p _ _ (eC h l.at_ (by intro z;cases z)) (eC h l.li (by intro z;cases z)) (eC h l.lb (by intro z;cases z)) h⟩)
 .exact .inr h
theorem dE.b3{K:Frag}{C:Addr}{H o:Hp}{x U i b:Addr}{a I:List Addr}{is J:List Ins}{bs:List Nat}(l:aZ K C H x U i b a is bs)(p:B3 x i b H o)(h:dE K H I J):dE K o I J:=h.mono fun _ _ z=>p.tup l z
def zg(K:Frag)(C:Addr):Sp:=fun U H Q _=>∃(o:Hp) (x J:Addr),U=[.ref x]/\H x=some (.ins C J [])/\o x=none/\ax o H/\
 ∀I i b,o i=none->o b=none->ax o I->aZ K C I x J i b [] [] []->Q .non I
def FR(K:Frag)(C:Addr):Sp:=fun I H Q _=>∃(x J i b:Addr) (U:List Addr) (o:List Ins) (bs:List Nat),I=[.ref x]/\aZ K C H x J i b U o bs/\Q (.bl (decide (lnW o %8=0))) H
def zh(K:Frag)(C:Addr):Sp:=fun c H Q _=>∃(x d i b g:Addr) (e U:List Addr) (I o:List Ins) (bs:List Nat),c=[.ref x,.ref g]/\aZ K C H x d i b e I bs/\SqT K H g (U.map V.ref)/\dE K H U o/\(∀a∈o,VI a)/\o.length<=100/\
 ∀J,ax H J->Q (.bl (decide (lnW I %8+lnW o<=8))) J
def Dk(K:Frag)(C:Addr):Sp:=fun c H Q _=>∃(x U i b t:Addr) (a:List Addr) (I:List Ins) (o:Ins) (bs:List Nat),c=[.ref x,.ref t]/\aZ K C H x U i b a I bs/\SqT K H t (aB o.1 o.2)/\VI o/\I.length<1000/\
 ∀J,B3 x i b H J->aZ K C J x U i b (a++[t]) (I++[o]) bs->Q .non J
def zk(K:Frag)(C:Addr):Sp:=fun e H Q _=>∃(x a i b g:Addr) (c U:List Addr) (o I:List Ins) (bs:List Nat),e=[.ref x,.ref g]/\aZ K C H x a i b c o bs/\SqT K H g (U.map V.ref)/\dE K H U I/\(∀d∈I,VI d)/\o.length+I.length<=1000/\bs.length<1000/\
 ∀J,B3 x i b H J->aZ K C J x a i b (c++U) (o++I) (bs++[lnW o])->Q .non J
def De(K:Frag)(C:Addr):Sp:=fun a H Q _=>∃(x U i b:Addr) (c:List Addr) (o:List Ins) (bs:List Nat),a=[.ref x]/\aZ K C H x U i b c o bs/\o.length<=900/\
 ∀(I:Hp) (J:List Addr),B3 x i b H I->aZ K C I x U i b J (o++wC (lnW o)) bs->Q .non I
theorem j_{C:Addr}(B:Bi mg)(c:cA K mg "LaidBlock" C)(n:cx K C)(D:dC K C):bC P w K mg base 1 C "is_at_bundle" dj (FR K C):=by
 refine D.has c.cl j9 (fun U H Q E h=> ?_) (fun f d A I s H U Q E m h=> ?_)
 .obtain⟨x,g,i,b,J,o,bs,rfl,_⟩:=h
  rfl
 obtain⟨x,g,i,b,J,o,bs,rfl,l,q⟩:=h;have j:=c.cl;have n3:=n.length;have a:=l.at_;refine⟨_,(ae (ai (pcE aJ (au fM (aE (pv 0) (by rfl)) aa) aa))),?_⟩
 try dsimp only[aT]
 walk_at"g";have e:decide (V.int ((lnW o:Int) %8)=V.int 0)=decide (lnW o %8=0):=N9.mpr ⟨fun h=>by injection h with h;lia,fun h=>by rw[show(lnW o:Int) %8=0 by lia]⟩
 rw[e];exact q
theorem sH{C:Addr}(B:Bi mg)(c:cA K mg "LaidBlock" C)(n:cx K C)(D:iI K C)(G:Has P w K mg base 1 "length_of" dF (IF K)):bC P w K mg base 2 C "take" bR (Dk K C):=by
 refine D.has c.cl rZ (fun L H Q E h=> ?_) (fun f N A g s H L Q E O h=> ?_)
 .obtain⟨x,j,i,b,t,J,o,kn,bs,rfl,_⟩:=h
  rfl
 obtain⟨x,j,i,b,t,J,o,⟨k,p⟩,bs,rfl,l,v,m,y,q⟩:=h;have M:k<19:=m.lt19;have S:=c.cl;have n1:=n.instructions;have n3:=n.length;have a:=l.at_;have d:=l.li;have R:(J.map V.ref).length<sizeLine:=by rw[fI,l.ow.len];exact MJ y (by decide)
 have z:tyV K "list" (.ref i) H:= .inl ⟨rfl,_,SqL.of d⟩;have U:B3 x i b H (upd H i (.lst (J.map V.ref++[V.ref t]))):=(B3.refl H).ui;have F:=U.tup l v;have r:upd H i (.lst (J.map V.ref++[V.ref t])) x=some (.ins C j (lfs i b (lnW o:Nat))):=by rw[aj l.xi];exact a
 refine⟨_,(ac (bL (gH MX M9 M_ cC (aE (pv 0) (by rfl)) (pa1 (pv 1))))
   (ae (bT (pv 0) (au aP (aE (pv 0) (by rfl)) (pcH G O (pa1 (pv 1)))) (by rfl)))),?_⟩
 try dsimp only[aT]
 walk_at"g";have e:((lnW o:Int)+(if k=1 then 2 else 1))=(lnW (o++[(k,p)]):Nat):=by rw[cW,kx];unfold d_;split <;> lia
 refine q _ U.ux ⟨?_,?_,?_,l.ib,?_,fun u I=> ?_⟩
 .rw[ad];show some (HO.ins C j (lfs i b ((lnW o:Int)+(if k=1 then 2 else 1))))=_
  rw[e]
 .rw[aj (Nb l.xi),ad,MH]
  rfl
 .rw[aj (Nb l.xb),aj (Nb l.ib)];exact l.lb
 .exact(show dE K _ [t] [(k,p)] from⟨U.ux.tup l v,True.intro⟩).app (l.ow.b3 l U.ux)
 .rcases MZ.mp I with I | I
  .exact l.va u I
  .rw[MY.mp I];exact m
theorem eR{H C:Hp}{p:Addr}{o:HO}(I:H p=none)(s:ax H C):ax H (upd C p o):=fun a u h=>by rw[aj (ak h I)];exact s a u h
theorem fO{o:Type}{l:List o}{j:Nat}{t:o}(h:l[j]? =some t):l.take (j+1)=l.take j++[t]:=by rw[N8,h];rfl
theorem nI{C:Addr}(B:Bi mg)(c:cA K mg "LaidBlock" C)(n:cx K C)(D:e_ K C):bC P w K mg base 1 C "__init__" dj (zg K C):=by
 refine D.has c.cl nB (fun u H Q E h=> ?_) (fun f y A g s H u Q E M h=> ?_)
 .obtain⟨G,x,U,rfl,_⟩:=h
  rfl
 obtain⟨G,x,U,rfl,m,r,e,q⟩:=h;have L:=c.cl;have n1:=n.instructions;have n2:=n.begins;have n3:=n.length
 refine⟨_,(ac (bT (pv 0) (bG dA) (by rfl))
   (ac (bT (pv 0) (bG dA) (by rfl))
   (ae (bT (pv 0) aa (by rfl))))),?_⟩
 try dsimp only[aT]
 walk_at"g";intro i d;have xi:x≠i:=ak m d;have p:upd H i (.lst []) x=some (.ins C U []):=by rw[aj xi];exact m
 walk_at"g";intro b I;have J:b≠x:=fun z=>by rw[z,ad] at I;cases I
 rw[aj J] at I;have j:b≠i:=fun z=>by rw[z,ad] at I;cases I
 rw[aj j] at I;have F:upd (upd (upd H i (.lst [])) x (.ins C U (aU "instructions" (.ref i) []))) b (.lst []) x=some (.ins C U [("instructions",.ref i)]):=by
  rw[aj (Nb J),ad]
  rfl
 walk_at"g";refine q _ i b (e.free d) (e.free I) (fun a o h=> ?_) ⟨?_,?_,?_,Nb j,True.intro,fun t v=>by cases v⟩
 .have h1:=e a o h;have a1:=ak h r;rw[aj a1,aj a1,aj (ak h1 I),aj a1,aj (ak h1 d)];exact h1
 .rw[ad]
  rfl
 .rw[aj (Nb xi),aj (Nb xi),aj (Nb j),aj (Nb xi),ad]
  rfl
 .rw[aj J,aj J,ad]
  rfl
theorem lA{C:Addr}(B:Bi mg)(c:cA K mg "LaidBlock" C)(n:cx K C)(D:d5 K C)(cM:bC P w K mg base 2 C "take" bR (Dk K C)):
  bC P w K mg base 3 C "take_group" nq (zk K C):=by
 refine D.has c.cl gr (fun vs H Q E h=> ?_) (fun f ar A v s H vs Q E hr h=> ?_)
 .obtain⟨x,M,i,b,g,d,G,o,U,bs,rfl,_⟩:=h
  rfl
 obtain⟨x,M,i,b,g,d,G,o,U,bs,rfl,l,S,I,L,hl,m,q⟩:=h;have hc:=c.cl;have n2:=n.begins;have n3:=n.length;have ao:=l.at_;have z:=l.lb;have hz:(bs.map vn).length<sizeLine:=by rw[fI];exact MJ m (by decide)
 have X:tyV K "list" (.ref b) H:= .inl ⟨rfl,_,SqL.of z⟩;have a:B3 x i b H (upd H b (.lst (bs.map vn++[V.int (lnW o:Nat)]))):=(B3.refl H).ub;have l1:aZ K C (upd H b (.lst (bs.map vn++[V.int (lnW o:Nat)]))) x M i b d o (bs++[lnW o]):=by
  refine⟨?_,?_,?_,l.ib,l.ow.b3 l a,l.va⟩
  .rw[aj l.xb];exact l.at_
  .rw[aj l.ib];exact l.li
  .rw[ad,MH];rfl
 have r:=a.tup l S;have F:=I.b3 l a
 refine⟨_,(ac (bL (gH MX M9 M_ cC (aE (pv 0) (by rfl)) (pa1 (aE (pv 0) (by rfl)))))
   (ae (fg M7 (by rfl) (dY (oR (pv 1))) (aD (i:=2) gr.nd (by rfl) (by left;rfl)) (ae (bL (bB (cM.mono (by omega)) hr (pv 0) (pa1 (pv 2)))))))),?_⟩
 try dsimp only[aT]
 walk_at"g";generalize upd H b (.lst (bs.map vn++[V.int (lnW o:Nat)]))=H1 at*;refine⟨vX (xs:=G.map V.ref) (fun j Z J=>∃y,Z=[some (.ref x),some (.ref g),y]/\aG (B3 x i b H1 J)/\aZ K C J x M i b (d++G.take j) (o++U.take j) (bs++[lnW o])) ⟨_,rfl,⟨B3.refl _⟩,by simpa using l1⟩ ?_ ?_ ?_⟩
 .rintro j Z J _ ⟨y,rfl,⟨p⟩,_⟩
  exact p.tup l1 r
 .rintro j u Z J hj ⟨y,rfl,⟨p⟩,l2⟩
  obtain⟨t,R,rfl⟩:=cV hj;obtain⟨Y,e,ht⟩:=F.get R;have aK:=p.tup l1 ht;have ab:=L Y (MD e);have aH:j<U.length:=(gV.mp e).1;have N:(o++U.take j).length<1000:=by rw[MA,M0];lia
  have O:=l2.at_;walk_at"g";intro H3 T l3;refine⟨_,rfl,⟨p.trans T⟩,?_⟩
  rw[M4,M4, <-fO R, <-fO e] at l3;exact l3
 .rintro Z J ⟨y,rfl,⟨p⟩,l2⟩
  rw[fI,ML,I.len,ML] at l2;exact q _ (a.trans p) l2
theorem Fq{is:List Ins}{m:Nat}(h:lnW (is++List.replicate m nop) %8≠0)(hm:m<=(8 - lnW is %8) %8):m+1<=(8 - lnW is %8) %8:=by
 rw[cW,rG] at h
 lia
theorem HH{is:List Ins}{m:Nat}(h:lnW (is++List.replicate m nop) %8=0)(hm:m<=(8 - lnW is %8) %8):m=(8 - lnW is %8) %8:=by
 rw[cW,rG] at h
 lia
theorem kH{C:Addr}(B:Bi mg)(c:cA K mg "LaidBlock" C)(n:cx K C)(D:dN K C)(R:bC P w K mg base 2 C "take" bR (Dk K C))
  (G:bC P w K mg base 1 C "is_at_bundle" dj (FR K C)):bC P w K mg base 3 C "fill_bundle" dj (De K C):=by
 refine D.has c.cl kG (fun M H Q E h=> ?_) (fun f O A d s H M Q E v h=> ?_)
 .obtain⟨x,y,i,b,g,I,bs,rfl,_⟩:=h
  rfl
 obtain⟨x,y,i,b,g,I,bs,rfl,l,X,q⟩:=h;refine⟨_,(ae (aW (lB M7 (ip (eL (iG (G.mono (by omega)) v (pv 0)))) (ae (bL (bB (R.mono (by omega)) v (pv 0) (pa1 (aw (cN (by rfl)))))))))),?_⟩
 try dsimp only[aT]
 refine⟨?_⟩
 refine⟨fun m Z U=>Z=[some (.ref x)]/\aG (B3 x i b H U)/\∃(o:List Addr) (e:Nat),e<=(8 - lnW I %8) %8/\aZ K C U x y i b o (I++List.replicate e nop) bs/\m=(8 - lnW I %8) %8 - e,⟨_,rfl,⟨B3.refl _⟩,g,0,Na _,by simpa using l,rfl⟩,?_⟩
 rintro m Z U ⟨rfl,⟨p⟩,o,e,j,J,rfl⟩
 have N:=J.at_;walk_at"g"
 by_cases c0:lnW (I++List.replicate e nop) %8=0
 .refine qk c0 ?_
  have a:=HH c0 j;rw[a] at J;exact q _ o p J
 .rw[MG c0];have a:=Fq c0 j;refine zK ⟨_,fun _ _ z=>z,?_⟩
  walk_at"g";intro t r;have S:SqT K (upd U t (.tup [.str "more",.int 0,.int 0,.int 0])) t (aB nop.1 nop.2):=SqT.of ad;have l2:=J.same (af r (.tup [.str "more",.int 0,.int 0,.int 0]));have F:=l2.at_;have T:=pG;have u:(I++List.replicate e nop).length<1000:=by rw[MA,Nk];lia
  walk_at"g";intro Y L l3;rw[M4, <-List.replicate_succ'] at l3;exact⟨_,by lia,rfl,⟨(p.trans (B3.of (af r _))).trans L⟩,o++[t],e+1,a,l3,rfl⟩
theorem BQ(gs:List Ins):(gs.map fun kn=>((d_ kn.1:Nat):Int)).sum=(lnW gs:Nat):=by
 induction gs with
 | nil=>rfl
 | cons kn r ih=>rw[Nd,List.sum_cons,ih,cS];lia
theorem mj{C:Addr}(B:Bi mg)(c:cA K mg "LaidBlock" C)(n:cx K C)(D:eI K C)(S:Has P w K mg base 1 "length_of" dF (IF K)):
  bC P w K mg base 2 C "has_space" nq (zh K C):=by
 refine D.has c.cl mh (fun T H Q E h=> ?_) (fun f ab A v s H T Q E hr h=> ?_)
 .obtain⟨x,dx,i,b,g,M,G,d,o,bs,rfl,_⟩:=h
  rfl
 obtain⟨x,dx,i,b,g,M,G,d,o,bs,rfl,l,O,a,y,hl,q⟩:=h;have hc:=c.cl;have n3:=n.length;have X:=l.at_;refine⟨_,(ae (ai (pcE F6 (au aP (au fM (aE (pv 0) (by rfl)) aa) (aL (Gb (by rfl)) (by rfl) B.sum Kf (pa1 (ko (by rfl) (by rfl) (by rfl) (bk (sc0:=ah cU) (N0:=["self","group"]) ["instruction"] 1 []) (oR (pv 1)) (fun _ _ _ _=>(aD (i:=0) (show List.Nodup (["instruction"]:List Str) by decide) (by rfl) (by left;rfl))) (fun _ _ _ _=>(pcH S hr (pa1 (pv 0)))))))) aa))),?_⟩
 try dsimp only[aT]
 walk_at"g";intro p z;refine sG (xs:=G.map V.ref) (fun j U J=>aG (ax H J)/\J p=some (.lst U)/\U=((o.take j).map fun I=>((d_ I.1:Nat):Int)).map V.int) ⟨⟨af z _⟩,ad,rfl⟩ ?_ ?_ ?_
 .rintro j U J ⟨⟨s1⟩,_⟩
  exact s1.tup O
 .rintro j u U J F hF m ⟨⟨s1⟩,hp1,rfl⟩
  obtain⟨t,et,rfl⟩:=cV m;obtain⟨⟨k,ns⟩,r,Z⟩:=a.get et;have R:=s1.tup Z;have Y:k<19:=(y _ (MD r)).lt19;have ao:=(gV.mp r).1;have hz:(((o.take j).map fun I=>((d_ I.1:Nat):Int)).map V.int).length<sizeLine:=by
   rw[fI,fI,M0];exact MJ (show min j o.length<100 by lia) (by decide)
  walk_at"g";refine hF _ _ ⟨⟨eR z s1⟩,ad,?_⟩
  rw[fO r,MH,MH];show _++[V.int (if k=1 then 2 else 1)]=_++[V.int ((d_ k:Nat):Int)]
  unfold d_
  split <;> rfl
 .rintro U J ⟨⟨s1⟩,hp1,rfl⟩
  rw[fI,a.len,ML] at hp1;have hq:SqL K J p ((o.map fun I=>((d_ I.1:Nat):Int)).map V.int):=SqL.of hp1
  refine⟨p,_,rfl,hq,fun j m=> ?_,?_⟩
  .rw[fI] at m;rw[<- Pk,BQ];have L:(o.map fun I=>((d_ I.1:Nat):Int)).getD j 0=((d_ o[j].1:Nat):Int):=by
    rw[MF,MW,be m]
    rfl
   rw[L];have h2:=lU o[j].1;have N:=HB (o.take (j+1));rw[M0] at N;unfold InLong
   lia
  rw[BQ];walk_at"g";have e:decide ((lnW d:Int) %8+(lnW o:Nat)<=8)=decide (lnW d %8+lnW o<=8):=N9.mpr (by lia)
  show Q (V.bl (decide ((lnW d:Int) %8+(lnW o:Nat)<=8))) J
  rw[e];exact q _ s1
theorem yf:∀k,k<19->(V.str (bf k)=V.str "load"↔k=11):=by decide +kernel
theorem wy:∀k,k<19->(V.str (bf k)=V.str "store"↔k=12):=by decide +kernel
theorem Ak:∀k,k<19->(V.str (bf k)=V.str "through"↔k=15):=by decide +kernel
theorem E3:∀k,k<19->(V.str (bf k)=V.str "jump"↔k=13):=by decide +kernel
theorem A_:∀k,k<19->(V.str (bf k)=V.str "jumpif"↔k=14):=by decide +kernel
theorem aI.acc{bx f:Int}{k:Nat}{ns:List Int}(h:aI bx f k ns)(U:k=11\/k=12):∃a b n,ns=[a,b,n]/\0<=a/\a<bx/\0<=b/\b<bx/\ -131072<=n/\n<131072:=by
 rcases h with⟨e,rfl⟩|⟨e,x,v,rfl,o,C,v0,v1⟩|⟨c,d,x,y,z,rfl,o,C,J,I,z0,z1⟩|⟨c,d,x,y,z,rfl,o,C,J,I,z0,z1⟩|⟨U,z,rfl,z0,z1⟩|⟨e,x,z,rfl,o,C,z0,z1⟩|⟨e,y,rfl,J,I⟩|⟨U,x,y,rfl,o,C,J,I⟩
 all_goals first | lia | exact⟨_,_,_,rfl,by assumption,by assumption,by assumption,by assumption,by assumption,by assumption⟩
theorem aI.thr{bx d:Int}{k:Nat}{ns:List Int}(h:aI bx d k ns)(U:k=15):∃b,ns=[b]/\0<=b/\b<bx:=by
 rcases h with⟨e,rfl⟩|⟨e,x,v,rfl,o,C,v0,v1⟩|⟨a,c,x,y,z,rfl,o,C,J,I,z0,z1⟩|⟨a,c,x,y,z,rfl,o,C,J,I,z0,z1⟩|⟨U,z,rfl,z0,z1⟩|⟨e,x,z,rfl,o,C,z0,z1⟩|⟨e,y,rfl,J,I⟩|⟨U,x,y,rfl,o,C,J,I⟩
 all_goals first | lia | exact⟨_,rfl,by assumption,by assumption⟩
theorem aI.jmp{bx a:Int}{k:Nat}{ns:List Int}(h:aI bx a k ns)(U:k=13):∃n,ns=[n]/\0<=n/\n<a:=by
 rcases h with⟨e,rfl⟩|⟨e,x,v,rfl,o,C,v0,v1⟩|⟨b,c,x,y,z,rfl,o,C,J,I,z0,z1⟩|⟨b,c,x,y,z,rfl,o,C,J,I,z0,z1⟩|⟨U,z,rfl,z0,z1⟩|⟨e,x,z,rfl,o,C,z0,z1⟩|⟨e,y,rfl,J,I⟩|⟨U,x,y,rfl,o,C,J,I⟩
 all_goals first | lia | exact⟨_,rfl,by assumption,by assumption⟩
theorem aI.jif{bx b:Int}{k:Nat}{ns:List Int}(h:aI bx b k ns)(U:k=14):∃a n,ns=[a,n]/\0<=a/\a<bx/\0<=n/\n<b:=by
 rcases h with⟨e,rfl⟩|⟨e,x,v,rfl,o,C,v0,v1⟩|⟨c,d,x,y,z,rfl,o,C,J,I,z0,z1⟩|⟨c,d,x,y,z,rfl,o,C,J,I,z0,z1⟩|⟨U,z,rfl,z0,z1⟩|⟨e,x,z,rfl,o,C,z0,z1⟩|⟨e,y,rfl,J,I⟩|⟨U,x,y,rfl,o,C,J,I⟩
 all_goals first | lia | exact⟨_,_,rfl,by assumption,by assumption,by assumption,by assumption⟩
def Gw(K:Frag):Sp:=fun C H Q _=>∃(t:Addr) (k:Nat) (o:List Int),C=[.ref t]/\k<19/\SqT K H t (aB k o)/\Q (.bl (decide (k=11\/k=12))) H
def Fw(K:Frag):Sp:=fun C H Q _=>∃(t:Addr) (k:Nat) (a:Int) (o:List Int),C=[.ref t]/\SqT K H t (aB k (a::o))/\∀p,H p=none->Q (.ref p) (upd H p (.tup (aB k [a,6,0])))
def JY(K:Frag):Sp:=fun J H Q _=>∃(t:Addr) (o:Ins),J=[.ref t]/\SqT K H t (aB o.1 o.2)/\VI o/\
 ∀(g:Addr) (I:List Addr) (C:Hp),ax H C->SqT K C g (I.map V.ref)->dE K C I (grp o)->Q (.ref g) C
theorem Au(B:Bi mg)(D:uM K mg):Has P w K mg base 1 "is_access" dF (Gw K):=by
 refine D.has zp (fun J H Q E h=> ?_) (fun f U A C s H J Q E b h=> ?_)
 .obtain⟨t,k,I,rfl,_⟩:=h
  rfl
 obtain⟨t,k,I,rfl,o,a,q⟩:=h;have d:atI (aB k I) 0=some (.str (bf k)):=lv;refine⟨_,(ae (ai (DO (pcE aJ (pX ag (pv 0) aa) av) (wt (pcE aJ (pX ag (pv 0) aa) av))))),?_⟩
 try dsimp only[aT]
 walk_at"g";refine bI (fun c=> ?_) (fun c=> ?_)
 .rw[MO (show k=11\/k=12 from .inl ((yf k o).mp c))] at q;exact q
 walk_at"g";have e:decide (V.str (bf k)=V.str "store")=decide (k=11\/k=12):=N9.mpr ⟨fun z=> .inr ((wy k o).mp z),fun z=>z.elim (fun z=>absurd ((yf k o).mpr z) c) (fun z=>(wy k o).mpr z)⟩
 rw[e];exact q
theorem sU(B:Bi mg)(D:lC K mg):Has P w K mg base 1 "access_by_mask" dF (Fw K):=by
 refine D.has rC (fun I H Q E h=> ?_) (fun f J A C s H I Q E c h=> ?_)
 .obtain⟨t,k,a,o,rfl,_⟩:=h
  rfl
 obtain⟨t,k,a,o,rfl,b,q⟩:=h;have d:atI (aB k (a::o)) 0=some (.str (bf k)):=lv;have U:atI (aB k (a::o)) 1=some (.int a):=ua;refine⟨_,(ae (ai (aw (pa4 (pX ag (pv 0) aa) (pX ag (pv 0) aa) aa aa)))),?_⟩
 try dsimp only[aT]
 walk_at"g";exact q
theorem vC(B:Bi mg)(D:oW K mg)(N:Has P w K mg base 1 "is_access" dF (Gw K))(u:Has P w K mg base 1 "access_by_mask" dF (Fw K)):
  Has P w K mg base 2 "masked_group" dF (JY K):=by
 refine D.has bP (fun vs H Q E h=> ?_) (fun f ab A S s H vs Q E e h=> ?_)
 .obtain⟨t,kn,rfl,_⟩:=h
  rfl
 obtain⟨t,⟨k,R⟩,rfl,x,M,q⟩:=h;dsimp only at x
 by_cases p:k=15
 .obtain⟨b,rfl,b0,b1⟩:=M.thr p;subst p;have T:atI (aB 15 [b]) 0=some (.str "through"):=rfl;have i1:atI (aB 15 [b]) 1=some (.int b):=rfl
  refine⟨_,(ac (ay (pcT aJ (pX ag (pv 0) aa) av) (ae (ai (aw (pa2 (aw (pa3 av aa (pX ag (pv 0) aa))) (aw (cN (by rfl))))))) am)
   (ac (ay (ip (eL (pcH N e (pa1 (pv 0))))) (ae (ai (aw (pa1 (pv 0))))) am)
   (ac (psS 1 bP.nd (pX ag (pv 0) aa))
   (ac (psS 2 bP.nd (pX ag (pv 0) aa))
   (ac (ay (pcT aJ (pv 2) aa) (ae (ai (aw (pa2 (aw (pa3 av aa (pv 1))) (pcH u e (pa1 (pv 0))))))) am)
   (ae (ai (aw (pa3 (aw (pa4 av aa (pv 1) (pv 2))) (aw (cN (by rfl))) (pcH u e (pa1 (pv 0)))))))))))),?_⟩
  try dsimp only[aT]
  walk_at"g";intro I U;walk_at"g";intro C j;walk_at"g";intro g d;have m:=af U (.tup [.str "aim",.int 6,.int b]);have J:=af j (.tup [.str "through",.int 6]);have o:=af d (.tup [.ref I,.ref C]);exact q g [I,C] _ ((m.trans J).trans o) (SqT.of ad) ⟨o.tup (J.tup (SqT.of ad)),o.tup (SqT.of ad),True.intro⟩
 by_cases F:k=11
 .obtain⟨a,b,n,rfl,a0,a1,b0,b1,n0,n1⟩:=M.acc (.inl F);subst F;have T:atI (aB 11 [a,b,n]) 0=some (.str "load"):=rfl;have Z:atI (aB 11 [a,b,n]) 2=some (.int b):=rfl;have Y:atI (aB 11 [a,b,n]) 3=some (.int n):=rfl;have v:11<19:=by decide
  refine⟨_,(ac (ay (pcT aJ (pX ag (pv 0) aa) av) (ae (ai (aw (pa2 (aw (pa3 av aa (pX ag (pv 0) aa))) (aw (cN (by rfl))))))) am)
   (ac (ay (ip (eL (pcH N e (pa1 (pv 0))))) (ae (ai (aw (pa1 (pv 0))))) am)
   (ac (psS 1 bP.nd (pX ag (pv 0) aa))
   (ac (psS 2 bP.nd (pX ag (pv 0) aa))
   (ac (ay (pcT aJ (pv 2) aa) (ae (ai (aw (pa2 (aw (pa3 av aa (pv 1))) (pcH u e (pa1 (pv 0))))))) am)
   (ae (ai (aw (pa3 (aw (pa4 av aa (pv 1) (pv 2))) (aw (cN (by rfl))) (pcH u e (pa1 (pv 0)))))))))))),?_⟩
  try dsimp only[aT]
  walk_at"g";refine bI (fun c=> ?_) (fun c=> ?_)
  .have n0:n=0:=by injection c
   subst n0;walk_at"g";intro I U;have i:=(af U (.tup [.str "fit",.int 6,.int b])).tup x;walk_at"g";intro C j;walk_at"g";intro g d;have m:=af U (.tup [.str "fit",.int 6,.int b]);have J:=af j (.tup (aB 11 [a,6,0]));have o:=af d (.tup [.ref I,.ref C]);exact q g [I,C] _ ((m.trans J).trans o) (SqT.of ad) ⟨o.tup (J.tup (SqT.of ad)),o.tup (SqT.of ad),True.intro⟩
  .have n0:¬n=0:=fun z=>c (by rw[z])
   have L:grp (11,[a,b,n])=[(10,[6,b,n]),(16,[6,6]),(11,[a,6,0])]:=by
    show(if n=0 then _ else _)=_
    rw[mC n0]
    rfl
   rw[L] at q;walk_at"g";intro I U;have i:=(af U (.tup [.str "more",.int 6,.int b,.int n])).tup x;walk_at"g";intro C j;have X:=(af j (.tup [.str "fit",.int 6,.int 6])).tup i;walk_at"g";intro y O;walk_at"g";intro g d;have m:=af U (.tup [.str "more",.int 6,.int b,.int n]);have J:=af j (.tup [.str "fit",.int 6,.int 6]);have o:=af O (.tup (aB 11 [a,6,0]));have r:=af d (.tup [.ref I,.ref C,.ref y]);exact q g [I,C,y] _ (((m.trans J).trans o).trans r) (SqT.of ad) ⟨r.tup (o.tup (J.tup (SqT.of ad))),r.tup (o.tup (SqT.of ad)),r.tup (SqT.of ad),True.intro⟩
 by_cases G:k=12
 .obtain⟨a,b,n,rfl,a0,a1,b0,b1,n0,n1⟩:=M.acc (.inr G);subst G;have T:atI (aB 12 [a,b,n]) 0=some (.str "store"):=rfl;have Z:atI (aB 12 [a,b,n]) 2=some (.int b):=rfl;have Y:atI (aB 12 [a,b,n]) 3=some (.int n):=rfl;have v:12<19:=by decide
  refine⟨_,(ac (ay (pcT aJ (pX ag (pv 0) aa) av) (ae (ai (aw (pa2 (aw (pa3 av aa (pX ag (pv 0) aa))) (aw (cN (by rfl))))))) am)
   (ac (ay (ip (eL (pcH N e (pa1 (pv 0))))) (ae (ai (aw (pa1 (pv 0))))) am)
   (ac (psS 1 bP.nd (pX ag (pv 0) aa))
   (ac (psS 2 bP.nd (pX ag (pv 0) aa))
   (ac (ay (pcT aJ (pv 2) aa) (ae (ai (aw (pa2 (aw (pa3 av aa (pv 1))) (pcH u e (pa1 (pv 0))))))) am)
   (ae (ai (aw (pa3 (aw (pa4 av aa (pv 1) (pv 2))) (aw (cN (by rfl))) (pcH u e (pa1 (pv 0)))))))))))),?_⟩
  try dsimp only[aT]
  walk_at"g";refine bI (fun c=> ?_) (fun c=> ?_)
  .have n0:n=0:=by injection c
   subst n0;walk_at"g";intro I U;have i:=(af U (.tup [.str "fit",.int 6,.int b])).tup x;walk_at"g";intro C j;walk_at"g";intro g d;have m:=af U (.tup [.str "fit",.int 6,.int b]);have J:=af j (.tup (aB 12 [a,6,0]));have o:=af d (.tup [.ref I,.ref C]);exact q g [I,C] _ ((m.trans J).trans o) (SqT.of ad) ⟨o.tup (J.tup (SqT.of ad)),o.tup (SqT.of ad),True.intro⟩
  .have n0:¬n=0:=fun z=>c (by rw[z])
   have L:grp (12,[a,b,n])=[(10,[6,b,n]),(16,[6,6]),(12,[a,6,0])]:=by
    show(if n=0 then _ else _)=_
    rw[mC n0]
    rfl
   rw[L] at q;walk_at"g";intro I U;have i:=(af U (.tup [.str "more",.int 6,.int b,.int n])).tup x;walk_at"g";intro C j;have X:=(af j (.tup [.str "fit",.int 6,.int 6])).tup i;walk_at"g";intro y O;walk_at"g";intro g d;have m:=af U (.tup [.str "more",.int 6,.int b,.int n]);have J:=af j (.tup [.str "fit",.int 6,.int 6]);have o:=af O (.tup (aB 12 [a,6,0]));have r:=af d (.tup [.ref I,.ref C,.ref y]);exact q g [I,C,y] _ (((m.trans J).trans o).trans r) (SqT.of ad) ⟨r.tup (o.tup (J.tup (SqT.of ad))),r.tup (o.tup (SqT.of ad)),r.tup (SqT.of ad),True.intro⟩
 have v:k<19:=M.lt19;have T:atI (aB k R) 0=some (.str (bf k)):=lv;have L:grp (k,R)=[(k,R)]:=by
  unfold grp;rw[mC p,mC (by show ¬(k=11\/k=12);lia)]
 rw[L] at q
 refine⟨_,(ac (ay (pcT aJ (pX ag (pv 0) aa) av) (ae (ai (aw (pa2 (aw (pa3 av aa (pX ag (pv 0) aa))) (aw (cN (by rfl))))))) am)
   (ac (ay (ip (eL (pcH N e (pa1 (pv 0))))) (ae (ai (aw (pa1 (pv 0))))) am)
   (ac (psS 1 bP.nd (pX ag (pv 0) aa))
   (ac (psS 2 bP.nd (pX ag (pv 0) aa))
   (ac (ay (pcT aJ (pv 2) aa) (ae (ai (aw (pa2 (aw (pa3 av aa (pv 1))) (pcH u e (pa1 (pv 0))))))) am)
   (ae (ai (aw (pa3 (aw (pa4 av aa (pv 1) (pv 2))) (aw (cN (by rfl))) (pcH u e (pa1 (pv 0)))))))))))),?_⟩
 try dsimp only[aT]
 walk_at"g";refine dG (fun z=>p ((Ak k v).mp z)) ?_
 walk_at"g";rw[MG (show ¬(k=11\/k=12) by lia)]
 refine zK ?_
 walk_at"g";intro g d;exact q g [t] _ (af d _) (SqT.of ad) ⟨(af d _).tup x,True.intro⟩
def GBk(K:Frag)(H:Hp)(blk:Addr)(b:List Ins):Prop:=∃o:List Addr,SqT K H blk (o.map V.ref)/\dE K H o b
theorem GBk.same{K:Frag}{H o:Hp}{blk:Addr}{b:List Ins}(s:ax H o)(h:GBk K H blk b):GBk K o blk b:=by
 obtain⟨I,J,C⟩:=h;exact⟨I,s.tup J,C.same s⟩
def Jj(K:Frag)(C:Addr):Sp:=fun J H Q _=>∃(blk:Addr) (bk:List Ins),J=[.ref blk]/\GBk K H blk bk/\(∀I∈bk,VI I)/\bk.length<=30/\
 ∀(x U i b:Addr) (a:List Addr) (o:Hp),ax H o->H x=none->H i=none->H b=none->aZ K C o x U i b a (cT bk).1 (cT bk).2->Q (.ref x) o
theorem vt{C:Addr}(B:Bi mg)(bj:cA K mg "LaidBlock" C)(D:oj K mg)(bX:bC P w K mg base 1 C "__init__" dj (zg K C))(cR:Has P w K mg base 2 "masked_group" dF (JY K))
  (bD:bC P w K mg base 2 C "has_space" nq (zh K C)) (br:bC P w K mg base 3 C "fill_bundle" dj (De K C)) (bz:bC P w K mg base 3 C "take_group" nq (zk K C)):
  Has P w K mg base 4 "masked_block" qo (Jj K C):=by
 refine D.has fS (fun vs H Q E h=> ?_) (fun f bo A T s H vs Q E p h=> ?_)
 .obtain⟨blk,bk,rfl,_⟩:=h
  rfl
 obtain⟨blk,bk,rfl,gb,ab,a9,q⟩:=h;obtain⟨ts,r,U⟩:=id gb
 refine⟨_,(ac (psS 1 fS.nd (yH bj (bX.mono (by omega)) p (by rfl)))
   (ac (fg M7 (by rfl) (dY (oR (pv 0))) (aD (i:=2) fS.nd (by rfl) (by left;rfl)) (ac (psS 3 fS.nd (pcH cR p (pa1 (pv 2))))
   (ac (aW (cy (ay (ip (eL (bB (bD.mono (by omega)) p (pv 1) (pa1 (pv 3))))) (ae (bL (iG (br.mono (by omega)) p (pv 1)))) am)))
   (ae (bL (bB (bz.mono (by omega)) p (pv 1) (pa1 (pv 3))))))))
   (ae (ai (pv 1))))),?_⟩
 try dsimp only[aT]
 walk_at"g";intro x M n ao a7;refine⟨H,x,M,rfl,ad,n,eR n (af ao _),?_⟩
 intro H1 i b N Y s1 l1;refine⟨rfl,?_⟩
 have aH:=s1.tup r;walk_at"g"
 refine⟨vX (xs:=ts.map V.ref) (fun j Z e=>∃y z,Z=[some (.ref blk),some (.ref x),y,z]/\aG (ax H e)/\∃F,aZ K C e x M i b F (cT (bk.take j)).1 (cT (bk.take j)).2)
  ⟨_,_,rfl,⟨s1⟩,[],by simpa [cT] using l1⟩ ?_ ?_ ?_⟩
 .rintro j Z e _ ⟨y,z,rfl,⟨s2⟩,_⟩
  exact s2.tup r
 .rintro j u Z e hj ⟨y,z,rfl,⟨s2⟩,F,l2⟩
  obtain⟨t,et,rfl⟩:=cV hj;obtain⟨L,ek,ht⟩:=U.get et;have bb:j<bk.length:=(gV.mp ek).1;have bh:=s2.tup ht;have O:=ab L (MD ek);have bu:=tT O;have bx:=vZ L;have ba:=DQ L;have X:=pM bk j (by lia)
  have a8:=vS bk j (by lia)
  have S:=pP ek;have a6:(cT (bk.take j)).1.length<=200:=by
   have:=Dx (cT (bk.take j)).1
   split at X <;> lia
  generalize cT (bk.take j)=st at*;walk_at"g";intro g R H3 s3 v J;generalize grp L=a at*;have l3:=l2.same s3;have aR:=l3.at_;have ar:a.length<=100:=by lia
  walk_at"g";refine⟨⟨fun Z' d=>Z'=[some (.ref blk),some (.ref x),some (.ref t),some (.ref g)]/\aG (ax H d)/\SqT K d g (R.map V.ref)/\dE K d R a/\∃o,aZ K C d x M i b o (dk st.1 a) st.2,?_,?_⟩⟩
  .walk_at"g";intro d I;have l4:=l3.same I;have G:=l4.at_;walk_at"g"
   by_cases c:lnW st.1 %8+lnW a<=8
   .refine qk c ?_
    refine⟨rfl,⟨(s2.trans s3).trans I⟩,I.tup v,J.same I,F,?_⟩
    unfold dk;rw[ME c];exact l4
   .rw[MG c];refine zK ?_
    have aK:st.1.length<=900:=by lia
    walk_at"g";intro H5 o m l5;refine⟨rfl,⟨B3.same ((s2.trans s3).trans I) n N Y m⟩,m.tup l4 (I.tup v),(J.same I).b3 l4 m,o,?_⟩
    unfold dk;rw[mC c];exact l5
  .rintro Z' d ⟨rfl,⟨I⟩,hg4,how4,o,l4⟩
   have G:=l4.at_;have bw:(dk st.1 a).length<=st.1.length+8:=by
    unfold dk
    split
    .lia
    .rw[MA];unfold wC;rw[Nk]
     lia
   have a':(dk st.1 a).length+a.length<=1000:=by lia
   have bt:st.2.length<1000:=by lia
   walk_at"g";intro H5 m l5;refine⟨_,_,rfl,⟨B3.same I n N Y m⟩,o++R,?_⟩
   rw[S];exact l5
 .rintro Z e ⟨y,z,rfl,⟨s2⟩,F,l2⟩
  rw[fI,U.len,ML] at l2;walk_at"g";exact q x M i b F e s2 n N Y l2
def nz(n b:Nat):Prop:=n<=2^b/\∀j,j<b->2^j<n
def DT:Sp:=fun o H Q _=>∃n:Nat,o=[.int n]/\n<=1048576/\∀b,nz n b->Q (.int b) H
def Ju(K:Frag)(C:Addr):Sp:=fun I H Q _=>∃(x J i b:Addr) (U:List Addr) (o:List Ins) (bs:List Nat),I=[.ref x]/\aZ K C H x J i b U o bs/\Q (.int ((lnW o+7) / 8:Nat)) H
def AG(K:Frag):Sp:=fun J H Q _=>∃(t:Addr) (o:Ins) (n:Nat),J=[.ref t,.int n]/\SqT K H t (aB o.1 o.2)/\VI o/\n<=2000/\∀I C,ax H C->SqT K C I (aB (plc n o).1 (plc n o).2)->Q (.ref I) C
noncomputable abbrev stp(n:Nat):List Ins:=List.replicate n (0,[])
def Aj:Sp:=fun C H Q _=>∃n:Nat,C=[.int n]/\n<=2000/\∀(p:Addr) (o:Hp),ax H o->H p=none->o p=some (.lst ((aV (stp n)).map V.int))->Q (.ref p) o
def Lw(K:Frag)(C:Addr):Sp:=fun J H Q _=>∃(x U i b:Addr) (a:List Addr) (o:List Ins) (bs:List Nat) (n:Nat),J=[.ref x,.int n]/\aZ K C H x U i b a o bs/\lnW o<=n/\n<=2000/\
 ∀(p:Addr) (I:Hp),ax H I->H p=none->I p=some (.lst ((aV (gq n o)).map V.int))->Q (.ref p) I
theorem xX(B : Bi mg)(D : sD K mg)(d : Has P w K mg base 1 "power_of_two" nG jA) : Has P w K mg base 2 "least_bits" pE DT := by
  refine D.has kR (fun g H Q E h => ?_) (fun f i A C s H g Q E p h => ?_)
  . obtain⟨n, rfl, _⟩ := h
    rfl
  obtain⟨n, rfl, u, q⟩ := h
  refine⟨_, (ac (psS 1 kR.nd aa)
      (ac (aW (lB M7 (pcT kh (pcH d p (pa1 (pv 1))) (pv 0)) (ae (psS 1 kR.nd (au aP (pv 1) aa)))))
      (ae (ai (pv 1))))), ?_⟩
  try dsimp only[aT]
  walk_at"g"
  refine⟨?_⟩
  refine⟨fun m Z I => I = H ∧ ∃b : Nat, Z = [some (.int n), some (.int b)] ∧ b ≤ 20 ∧ (∀j, j<b → 2 ^ j<n) ∧ m = 20 - b, ⟨_, rfl, 0, rfl, by lia, fun j z => absurd z (by lia), rfl⟩, ?_⟩
  rintro m Z I ⟨rfl, b, rfl, r, a, rfl⟩
  have J : b ≤ 64 := by lia
  walk_at"g"
  refine bI (fun c => ?_) (fun c => ?_)
  . have U : 2 ^ b<n := by exact_mod_cast c
    have o : b<20 := by
      by_cases z : b = 20
      . subst z
        exact absurd U (by lia)
      . lia
    walk_at"n"
    refine⟨fun v I => aG _, fun _ _ z => z.out, ?_⟩
    walk_at"g"
    refine⟨⟨20 - (b + 1), by lia, rfl, b + 1, rfl, o, fun j z => ?_, rfl⟩⟩
    by_cases e : j = b
    . rw[e]; exact U
    . exact a j (by lia)
  . walk_at"g"
    exact q b ⟨by have : ¬ ((2 ^ b : Nat) : Int)<n := by exact_mod_cast c
                  lia, a⟩
theorem yd{C:Addr}(B:Bi mg)(c:cA K mg "LaidBlock" C)(n:cx K C)(D:sr K mg):Has P w K mg base 1 "bundles_of" qo (Ju K C):=by
 refine D.has xR (fun U H Q E h=> ?_) (fun f d A I s H U Q E m h=> ?_)
 .obtain⟨x,g,i,b,J,o,bs,rfl,_⟩:=h
  rfl
 obtain⟨x,g,i,b,J,o,bs,rfl,l,q⟩:=h;have j:=c.cl;have n3:=n.length;have a:=l.at_;have cd:DV ((lnW o:Int)+7) 8:=⟨by decide,by decide⟩
 refine⟨_,(ae (ai (au fR (au aP (aE (pv 0) (by rfl)) aa) aa))),?_⟩
 try dsimp only[aT]
 walk_at"g";have e:((lnW o:Int)+7) / 8=((lnW o+7) / 8:Nat):=by lia
 show Q (V.int (((lnW o:Int)+7) / 8)) H
 rw[e];exact q
theorem E6(B:Bi mg)(D:Bc K mg):Has P w K mg base 1 "placed" AL (AG K):=by
 refine D.has Fk (fun G H Q E h=> ?_) (fun f M A r s H G Q E R h=> ?_)
 .obtain⟨t,kn,n,rfl,_⟩:=h
  rfl
 obtain⟨t,⟨k,i⟩,n,rfl,u,e,O,q⟩:=h;dsimp only at u;have a:k<19:=e.lt19
 refine⟨_,(ac (aW (cy (ay (PW.pt (gP (pcT aJ (pX ag (pv 0) aa) av) (hZ (pcT aJ (pX ag (pv 0) aa) av)))) (ae (ai (au Ao (di kZ (pv 0) eQ (eP (tu (v:= -1) (by rfl)))) (aw (pa1 (au cG (pX ag (pv 0) (tu (v:= -1) (by rfl))) (pv 1))))))) am)))
   (ae (ai (pv 0)))),?_⟩
 try dsimp only[aT]
 by_cases I:k=13
 .obtain⟨z,rfl,z0,z1⟩:=e.jmp I;subst I;have y:atI (aB 13 [z]) 0=some (.str "jump"):=rfl;have N:atI (aB 13 [z]) (-1)=some (.int z):=rfl;have p:ik (aB 13 [z]) none (some (-1))=[.str "jump"]:=rfl;have hw:¬(HT.sIx (aB 13 [z]).length 0 none=0/\HT.sIx (aB 13 [z]).length (aB 13 [z]).length (some (-1))=(aB 13 [z]).length):=by show ¬(HT.sIx 2 0 none=0/\HT.sIx 2 2 (some (-1))=2);decide
  have L:CO z (n:Int):= .inr ⟨by lia,by lia⟩
  walk_at"n";refine⟨⟨fun d b=>aG False,?_,fun _ _ z=>z.out.elim⟩⟩
  walk_at"g";intro c U;rw[p];walk_at"g";intro j o;have m:upd (upd H c (.tup [.str "jump"])) j (.tup [.int (z*n)]) c=some (.tup [.str "jump"]):=by rw[aj (ak ad o)];exact ad
  walk_at"g";refine⟨(fun z=>by cases z),fun _ g J=> ?_⟩
  exact q g _ (((af U _).trans (af o _)).trans (af J _)) (SqT.of ad)
 by_cases C:k=14
 .obtain⟨x,z,rfl,x0,x1,z0,z1⟩:=e.jif C;subst C;have y:atI (aB 14 [x,z]) 0=some (.str "jumpif"):=rfl;have N:atI (aB 14 [x,z]) (-1)=some (.int z):=rfl;have p:ik (aB 14 [x,z]) none (some (-1))=[.str "jumpif",.int x]:=rfl;have hw:¬(HT.sIx (aB 14 [x,z]).length 0 none=0/\HT.sIx (aB 14 [x,z]).length (aB 14 [x,z]).length (some (-1))=(aB 14 [x,z]).length):=by show ¬(HT.sIx 3 0 none=0/\HT.sIx 3 3 (some (-1))=3);decide
  have L:CO z (n:Int):= .inr ⟨by lia,by lia⟩
  walk_at"n";refine⟨⟨fun d b=>aG False,?_,fun _ _ z=>z.out.elim⟩⟩
  walk_at"g";intro c U;rw[p];walk_at"g";intro j o;have m:upd (upd H c (.tup [.str "jumpif",.int x])) j (.tup [.int (z*n)]) c=some (.tup [.str "jumpif",.int x]):=by rw[aj (ak ad o)];exact ad
  walk_at"g";refine⟨(fun z=>by cases z),OE rfl,(fun z=>by cases z),fun _ g J=> ?_⟩
  exact q g _ (((af U _).trans (af o _)).trans (af J _)) (SqT.of ad)
 have y:atI (aB k i) 0=some (.str (bf k)):=lv;have F:plc n (k,i)=(k,i):=by unfold plc;rw[mC I,mC C]
 rw[F] at q;walk_at"n";refine⟨⟨fun d b=>d=[some (.ref t),some (.int n)]/\b=H,?_,?_⟩⟩
 .walk_at"g";refine dG (fun z=>I ((E3 k a).mp z)) ?_
  walk_at"g";refine dG (fun z=>C ((A_ k a).mp z)) ?_
  exact⟨rfl,rfl⟩
 .rintro d b ⟨rfl,rfl⟩
  walk_at"g";exact q t b (fun _ _ z=>z) u
theorem yE:∀n:Nat,aV (stp n)=List.replicate n 0
 | 0=>rfl
 | n+1=>by
  show aV ((0,[])::stp n)=_
  rw[uX,yE n]
  rfl
theorem yr{o:Type}(x:o):∀n,(List.replicate n [x]).flatten=List.replicate n x
 | 0=>rfl
 | n+1=>by rw[Nu,Of,yr x n,Nu];rfl
theorem Gh(B:Bi mg)(D:ED K mg)(U:Has P w K mg base 5 "words_of" dF (KM K)):Has P w K mg base 6 "stops" pE Aj:=by
 refine D.has GF (fun a H Q E h=> ?_) (fun f b A o s H a Q E c h=> ?_)
 .obtain⟨n,rfl,_⟩:=h
  rfl
 obtain⟨n,rfl,e,q⟩:=h;refine⟨_,(ae (ai (au CY (pcH U c (pa1 (aw (pa1 av)))) (pv 0)))),?_⟩
 try dsimp only[aT]
 walk_at"g";intro t I;refine⟨t,0,[],rfl,by decide,(fun z=>by cases z),SqT.of ad,?_⟩
 intro m j d g C;have i:((fU 0 []).map V.int).length*(n:Int).toNat<=sizeLine:=by
  show 1*n<=sizeLine
  exact MV (by lia) (show 2000<=sizeLine by decide)
 walk_at"g";intro p J;refine q p _ (((af I _).trans C).trans (af J _)) ((af I _).free (C.free J)) ?_
 rw[ad,yE,List.map_replicate];show some (HO.lst (List.replicate n [V.int 0]).flatten)=_
 rw[yr]
theorem wf{C:Addr}(B:Bi mg)(c:cA K mg "LaidBlock" C)(n:cx K C)(D:qr K mg)(ig:Has P w K mg base 5 "words_of" dF (KM K))(wG:Has P w K mg base 1 "placed" AL (AG K))
  (pQ:Has P w K mg base 6 "stops" pE Aj):Has P w K mg base 7 "block_words" Ch (Lw K C):=by
 refine D.has jQ (fun vs H Q E h=> ?_) (fun f a9 A F s H vs Q E G h=> ?_)
 .obtain⟨x,dx,i,b,js,I,bs,o,rfl,_⟩:=h
  rfl
 obtain⟨x,dx,i,b,js,I,bs,o,rfl,l,ar,a7,q⟩:=h;have hc:=c.cl;have n1:=n.instructions
 refine⟨_,(ac (psS 2 jQ.nd (bG dA))
   (ac (fg M7 (by rfl) (dY (rT (aE (pv 0) (by rfl)))) (aD (i:=3) jQ.nd (by rfl) (by left;rfl)) (ae (bL (gH MX Os Ot tL (pv 2) (pa1 (pcH ig G (pa1 (pcH wG G (pa2 (pv 3) (pv 1))))))))))
   (ae (ai (au o5 (pv 2) (pcH pQ G (pa1 (au bS (pv 1) (aL aN (by rfl) B.len dD (pa1 (pv 2))))))))))),?_⟩
 try dsimp only[aT]
 walk_at"g";intro p X;have s0:=af X (.lst []);have L:upd H p (.lst []) p=some (.lst []):=ad;generalize upd H p (.lst [])=H0 at*;have l0:=l.same s0;have ao:=l0.at_;have Y:=l0.li;walk_at"g";refine⟨wl (xs:=js.map V.ref) (fun j Z g=>aG (∃y,Z=[some (.ref x),some (.int o),some (.ref p),y]/\ax H g/\g p=some (.lst ((aV ((I.take j).map (plc o))).map V.int)))) ⟨_,rfl,s0,L⟩ ?_ ?_ ?_⟩
 .rintro j Z g _ ⟨y,rfl,s1,_⟩
  exact SqL.of (s1 _ _ l.li)
 .rintro j u Z g hj ⟨y,rfl,s1,hp1⟩
  obtain⟨t,et,rfl⟩:=cV hj;obtain⟨U,N,ht⟩:=l.ow.get et;have aR:j<I.length:=(gV.mp N).1;have aH:=s1.tup ht;have r:=l.va U (MD N);have a':tyV K "list" (.ref p) g:= .inl ⟨rfl,_,SqL.of hp1⟩;have O:lnW (I.take (j+1))<=2000:=by
   have e:=Ng lnW (OF (j+1) I);rw[cW] at e
   lia
  have a8:(plc o U).1<19:=by rw[Gz];exact r.lt19
  have kk:(plc o U).1=1->2<=(plc o U).2.length:=fun z=>by
   rw[Gz] at z;have e:plc o U=U:=by unfold plc;rw[mC (by lia),mC (by lia)]
   rw[e];exact r.put2 z
  have T:aV ((I.take (j+1)).map (plc o))=aV ((I.take j).map (plc o))++fU (plc o U).1 (plc o U).2:=by
   rw[fO N,MH,jB];show _++(fU _ _++[])=_
   rw[MS]
   all_goals rfl
  have m:(aV ((I.take (j+1)).map (plc o))).length<=2000:=by rw[dW,sL];exact O
  rw[T] at m;walk_at"g";intro t2 S d a6;have J:=d _ _ hp1;have ab:tyV K "list" (.ref p) S:= .inl ⟨rfl,_,SqL.of J⟩;walk_at"g";intro p3 H3 a h3 s3;have M:=s3 _ _ J;have hz:((aV ((I.take j).map (plc o))).map V.int).length+((fU (plc o U).1 (plc o U).2).map V.int).length<=sizeLine:=by
   rw[fI,fI, <-MA];exact MV m (by decide)
  walk_at"g";refine⟨_,rfl,eR X ((s1.trans d).trans s3),?_⟩
  rw[ad,T,MH]
 .rintro Z g ⟨y,rfl,s1,hp1⟩
  rw[fI,l.ow.len,ML] at hp1;have m:((aV (I.map (plc o))).map V.int).length=lnW I:=by rw[fI,dW,sL]
  have v:((o:Int) - (((aV (I.map (plc o))).map V.int).length:Nat))=((o - lnW I:Nat):Int):=by rw[m];lia
  have R:o - lnW I<=2000:=by lia
  walk_at"g";refine⟨(Ng (fun z=>[V.int z]) v:[V.int ((o:Int) - (((aV (I.map (plc o))).map V.int).length:Nat))]=[V.int ((o - lnW I:Nat):Int)]),R,?_⟩
  intro p2 S d aK h2;have J:=d _ _ hp1;have hz:((aV (I.map (plc o))).map V.int).length+((aV (stp (o - lnW I))).map V.int).length<=sizeLine:=by
   rw[m,fI,dW,uo];exact MV (show lnW I+(o - lnW I)<=2000 by lia) (by decide)
  walk_at"g";intro p3 a;refine q p3 _ ((s1.trans d).trans (af a _)) (s1.free (d.free a)) ?_
  rw[ad, <-MH, <-jB]
  rfl
def Lds(K:Frag)(C:Addr)(H:Hp)(xs:List Addr)(ds:List Bk):Prop:=xs.length=ds.length/\∀(j:Nat) (x:Addr) (d:Bk),xs[j]? =some x->ds[j]? =some d->
 ∃o i b I,aZ K C H x o i b I d.1 d.2
theorem Lds.same{K:Frag}{C:Addr}{H o:Hp}{xs:List Addr}{ds:List Bk}(s:ax H o)(h:Lds K C H xs ds):Lds K C o xs ds:=by
 refine⟨h.1,fun j x d a I=> ?_⟩
 obtain⟨J,i,b,U,l⟩:=h.2 j x d a I;exact⟨J,i,b,U,l.same s⟩
noncomputable abbrev pk(n a:Nat):List Key:=[.inl (n:Int),.inl (a:Int)]
theorem zB{n a o C:Nat}(h:pk n a=pk o C):n=o/\a=C:=by
 injection h with h1 h2
 injection h2 with h2 _
 injection h1 with h1
 injection h2 with h2
 lia
theorem Iy{C:Type}[DecidableEq C]{kvs:List (C × V)}{k:C}{v:V}(h:∀o∈kvs,o.1≠k):dw kvs k v=kvs++[(k,v)]:=by
 unfold dw;rw[mC];intro z;obtain⟨o,J,I⟩:=Pt.mp z;exact h o J (of_decide_eq_true I)
noncomputable def j7(n u:Nat):Nat->List Nat->List (List Key × V)
 | _,[]=>[]
 | a,b::r=>(pk u a,.int ((u*n+b:Nat):Int))::j7 n u (a+1) r
noncomputable def jz(n:Nat):Nat->List (List Nat)->List (List Key × V)
 | _,[]=>[]
 | u,bs::r=>j7 n u 0 bs++jz n (u+1) r
theorem xt(n u:Nat):∀(a:Nat) (bs:List Nat),(j7 n u a bs).length=bs.length
 | _,[]=>rfl
 | a,b::r=>Ng (· +1) (xt n u (a+1) r)
theorem wH{n u:Nat}:∀{a:Nat}{bs:List Nat}{o:List Key × V},o∈j7 n u a bs->∃j,o.1=pk u j/\a<=j/\j<a+bs.length
 | a,b::r,o,h=>by
  rcases M3.mp h with rfl | h
  .exact⟨a,rfl,MC _,by rw[MU];lia⟩
  .obtain⟨j,h1,h2,h3⟩:=wH h;exact⟨j,h1,by lia,by rw[MU];lia⟩
theorem Br{n:Nat}:∀{u:Nat}{bss:List (List Nat)}{o:List Key × V},o∈jz n u bss->∃v j,o.1=pk v j/\u<=v/\v<u+bss.length
 | u,bs::r,o,h=>by
  rcases MZ.mp h with h | h
  .obtain⟨j,h1,h2,h3⟩:=wH h;exact⟨u,j,h1,MC _,by rw[MU];lia⟩
  .obtain⟨v,j,h1,h2,h3⟩:=Br h;exact⟨v,j,h1,by lia,by rw[MU];lia⟩
theorem yj(n u b:Nat):∀(a:Nat) (bs:List Nat),j7 n u a (bs++[b])=j7 n u a bs++[(pk u (a+bs.length),.int ((u*n+b:Nat):Int))]
 | a,[]=>rfl
 | a,c::r=>by
  show _::j7 n u (a+1) (r++[b])=_
  rw[yj n u b (a+1) r,MU,show a+1+r.length=a+(r.length+1) by lia]
  rfl
theorem yn(n:Nat)(bs:List Nat):∀(u:Nat) (l:List (List Nat)),jz n u (l++[bs])=jz n u l++j7 n (u+l.length) 0 bs
 | u,[]=>by show j7 n u 0 bs++[]=_;rw[MS];rfl
 | u,c::r=>by
  show j7 n u 0 c++jz n (u+1) (r++[bs])=_
  rw[yn n bs (u+1) r,MU,show u+1+r.length=u+(r.length+1) by lia, <-M4]
  rfl
theorem BE(n:Nat):∀(u:Nat) (l:List (List Nat)),(∀bs∈l,bs.length<=30)->(jz n u l).length<=30*l.length
 | _,[],_=>MC _
 | u,c::r,h=>by
  show(j7 n u 0 c++jz n (u+1) r).length<=_
  have I:=BE n (u+1) r (fun x o=>h x (M8 _ o))
  have C:=h c Nc;rw[MA,xt,MU]
  lia
def BP(K:Frag)(C:Addr):Sp:=fun U H Q _=>∃(bl:Addr) (J:List Addr) (o:List Bk) (n:Nat),U=[.ref bl,.int n]/\SqL K H bl (J.map V.ref)/\Lds K C H J o/\o.length<=16/\(∀d∈o,d.2.length<=30)/\n<=2000/\
 ∀(p:Addr) (I:Hp),ax H I->H p=none->I p=some (.dT (jz n 0 (o.map (·.2))))->Q (.ref p) I
theorem zf{C:Addr}(B:Bi mg)(c:cA K mg "LaidBlock" C)(n:cx K C)(D:uY K mg):Has P w K mg base 1 "places_of" CF (BP K C):=by
 refine D.has fr (fun vs H Q E h=> ?_) (fun f br A ab s H vs Q E hr h=> ?_)
 .obtain⟨bl,M,J,o,rfl,_⟩:=h
  rfl
 obtain⟨bl,M,J,o,rfl,T,G,bu,L,bo,q⟩:=h;have hc:=c.cl;have n2:=n.begins;have ar:∀j,(jz o 0 ((J.take j).map (·.2))).length<=500:=fun j=>by
  have y:=BE o 0 ((J.take j).map (·.2)) (fun bs hb=>by
   obtain⟨d,hd,rfl⟩:=Nn.mp hb
   exact L d (Oi hd))
  rw[fI,M0] at y
  lia
 refine⟨_,(ac (psS 2 fr.nd GT)
   (ac (fg M7 (by rfl) (dY (DP (by rfl) B.enumerate (pa1 (pv 0)))) (k_ (n:=2) (by rfl) (aS (aD (i:=3) fr.nd (by rfl) (by left;rfl)) (aS (aD (i:=4) fr.nd (by rfl) (by left;rfl)) iS))) (ae (fg M7 (by rfl) (dY (DP (by rfl) B.enumerate (pa1 (aE (pv 4) (by rfl))))) (k_ (n:=2) (by rfl) (aS (aD (i:=5) fr.nd (by rfl) (by left;rfl)) (aS (aD (i:=6) fr.nd (by rfl) (by left;rfl)) iS))) (ae (vW (uQ hr) (pv 2) (aw (pa2 (pv 3) (pv 5))) (au aP (au cG (pv 3) (pv 1)) (pv 6)) (by rfl))))))
   (ae (ai (pv 2))))),?_⟩
 try dsimp only[aT]
 walk_at"g";intro p hp;have s0:=af hp (.dT []);have aH:upd H p (.dT []) p=some (.dT []):=ad;generalize upd H p (.dT [])=H0 at*;have ba:=s0.seq T;walk_at"g"
 refine⟨BH (xs:=M.map V.ref) (fun k Z I=>aG (∃X Y g U,Z=[some (.ref bl),some (.int o),some (.ref p),X,Y,g,U]/\ax H I/\I p=some (.dT (jz o 0 ((J.take k).map (·.2))))))
  ⟨_,_,_,_,rfl,s0,aH⟩ ?_ ?_ ?_⟩
 .rintro k Z I ⟨X,Y,g,U,rfl,s1,_⟩
  exact s1.seq T
 .rintro k u r Z I F ⟨X,Y,g,U,rfl,s1,hp1⟩ hr1
  obtain⟨x,ex,rfl⟩:=cV F;have bh:k<M.length:=(gV.mp ex).1;have N:k<J.length:=by have:=G.1;lia
  obtain⟨d,ed⟩:∃d,J[k]? =some d:=⟨_,be N⟩;obtain⟨dx,i,b,js,l⟩:=G.2 k x d ex ed;have bb:=L d (MD ed);have a':k<16:=by lia
  have s2:=s1.trans (af hr1 (.tup [.int k,.ref x]));have aK:=af hr1 (.tup [.int k,.ref x]) _ _ hp1;have bj:upd I r (.tup [.int k,.ref x]) r=some (.tup [.int k,.ref x]):=ad;generalize upd I r (.tup [.int k,.ref x])=H2 at*;have a9:=s2 _ _ l.at_;have a7:=s2 _ _ l.lb;have a8:=ar k;walk_at"g"
  refine⟨BH (xs:=d.2.map vn) (fun a Z I=>aG (∃g U,Z=[some (.ref bl),some (.int o),some (.ref p),some (.int k),some (.ref x),g,U]/\ax H I/\I p=some (.dT (jz o 0 ((J.take k).map (·.2))++j7 o k 0 (d.2.take a)))))
   ⟨_,_,rfl,s2,by rw[aK];show _=some (HO.dT (_++[]));rw[MS]⟩ ?_ ?_ ?_⟩
  .rintro a Z I ⟨g,U,rfl,s3,_⟩
   exact SqL.of (s3 _ _ l.lb)
  .rintro a v r3 Z H3 ha ⟨g,U,rfl,s3,hp3⟩ hr3
   obtain⟨m,eb,rfl⟩:=cV ha;have S:a<d.2.length:=(gV.mp eb).1;have s4:=s3.trans (af hr3 (.tup [.int a,.int m]));have ao:=af hr3 (.tup [.int a,.int m]) _ _ hp3;have bt:upd H3 r3 (.tup [.int a,.int m]) r3=some (.tup [.int a,.int m]):=ad;generalize upd H3 r3 (.tup [.int a,.int m])=H4 at*;have cm:CO (k:Int) (o:Int):= .inl ⟨by lia,by lia⟩
   walk_at"g";intro r5 R;have aR:=af R (.tup [.int k,.int a]) _ _ ao;have a6:(jz o 0 ((J.take k).map (·.2))++j7 o k 0 (d.2.take a)).length<sizeLine:=by
    rw[MA,xt,M0];exact MJ (show _<1000 by lia) (by decide)
   have dp:tI (upd H4 r5 (.tup [.int k,.int a])) p (.ref r5) (.int ((k:Int)*o+m)) _:=tI.t (k:=pk k a) aR ad a6;have O:∀kv∈jz o 0 ((J.take k).map (·.2))++j7 o k 0 (d.2.take a),kv.1≠pk k a:=fun kv F z=>by
    rcases MZ.mp F with F | F
    .obtain⟨v,j,y,h2,h3⟩:=Br F;rw[z] at y;have:=(zB y).1;rw[fI,M0] at h3
     lia
    .obtain⟨j,y,h2,h3⟩:=wH F;rw[z] at y;have:=(zB y).2;rw[M0] at h3
     lia
   walk_at"g";refine⟨_,_,rfl,eR hp (s4.trans (af R _)),?_⟩
   rw[ad,Iy O,fO eb,yj,M0,OQ (Oj S),M4,Ny];have e:(k:Int)*o+m=((k*o+m:Nat):Int):=by push_cast;rfl
   rw[e]
  .rintro Z I ⟨g,U,rfl,s3,hp3⟩
   rw[fI,ML] at hp3;refine⟨_,_,_,_,rfl,s3,?_⟩
   rw[hp3,fO ed,MH];show _=some (HO.dT (jz o 0 ((J.take k).map (·.2)++[d.2])))
   rw[yn,fI,M0,OQ (Oj N),Ny]
 .rintro Z I ⟨X,Y,g,U,rfl,s1,hp1⟩
  rw[fI,G.1,ML] at hp1;walk_at"g";exact q p I s1 hp hp1
noncomputable def bun(d:Bk):Nat:=(lnW d.1+7) / 8
structure qu (M:Nat) (ds:List Bk):Prop where
 mem:∃d∈ds,bun d=M
 le:∀d∈ds,bun d<=M
def xj(H o:Hp)(r:Addr)(ds:List Bk)(rk rb C:Int)(m s:Nat):Prop:=∃a1 a2 a3,o r=some (.tup [.ref a1,.ref a2,.ref a3])/\o a1=some (.tup [.int rk,.int rb,.int m,.int s,.int C])/\
 o a2=some (.lst ((aV (lj (8*2^s) (2^m*(8*2^s)) ds)).map V.int))/\o a3=some (.dT (jz (8*2^s) 0 (ds.map (·.2))))/\H r=none/\H a1=none/\H a2=none/\H a3=none
def Ds(K:Frag)(C e:Addr):Sp:=fun c H Q E=>∃(bl rm:Addr) (J:List Addr) (o:List Bk) (U b a:Int) (M:Nat),c=[.ref bl,.ref rm,.int a]/\SqL K H bl (J.map V.ref)/\Lds K C H J o/\SqT K H rm [.int U,.int b]/\
 0<o.length/\o.length<=16/\(∀d∈o,lnW d.1<=300/\d.2.length<=30)/\qu M o/\
 ∀m s,nz o.length m->nz M s->(7<m+s->∀I,ax H I->E (.ref e) none I)/\(m+s<=7->∀r I,ax H I->xj H I r o U b a m s->Q (.ref r) I)
theorem rH{C CT:Addr}(B:Bi mg)(J:EK K CT)(tZ:mg "TooLong"=some (.ref CT))(D:lK K mg)(al:Has P w K mg base 1 "power_of_two" nG jA)(jo:Has P w K mg base 2 "least_bits" pE DT)
  (lP:Has P w K mg base 1 "bundles_of" qo (Ju K C)) (kX:Has P w K mg base 7 "block_words" Ch (Lw K C)) (pQ:Has P w K mg base 6 "stops" pE Aj) (oJ:Has P w K mg base 1 "places_of" CF (BP K C)):
  vM P w K mg base 8 "code_of_blocks" yA (Ds K C CT):=by
 refine D.hasX cB (fun vs H Q E h=> ?_) (fun f b1 A a6 s H vs Q E G h=> ?_)
 .obtain⟨bl,rm,n,o,rk,rb,X,M,rfl,_⟩:=h
  rfl
 obtain⟨bl,rm,n,o,rk,rb,X,M,rfl,v,a,a9,h0,b8,hd,hM,q⟩:=h;have Y:(n.map V.ref).length=o.length:=by rw[fI];exact a.1
 have bM:(n.map V.ref).length<=1048576:=by lia
 refine⟨_,(ac (q_ (psS 3 cB.nd (pcH jo G (pa1 (aL aN (by rfl) B.len dD (pa1 (pv 0)))))))
   (ac (q_ (psS 4 cB.nd (pcH jo G (pa1 (aL (ER (by rfl)) (by rfl) B.max Ax (pa1 (PE.nox (ko (by rfl) (by rfl) (by rfl) (bk (sc0:=ah fw) (N0:=["blocks","room","gates","m","s","size","code","block"]) ["block"] 1 []) (rT (pv 0)) (fun _ _ _ _=>(aD (i:=0) (show List.Nodup (["block"]:List Str) by decide) (by rfl) (by left;rfl))) (fun _ _ _ _=>(pcH lP G (pa1 (pv 0))))))))))))
   (ac (ay (pcT EB (au aP (pv 3) (pv 4)) aa) (ae (E7 J (by rfl) tZ)) am)
   (ac (q_ (psS 5 cB.nd (au cG aa (pcH al G (pa1 (pv 4))))))
   (ac (q_ (psS 6 cB.nd (bG dA)))
   (ac (q_ (fg M7 (by rfl) (dY (rT (pv 0))) (aD (i:=7) cB.nd (by rfl) (by left;rfl)) (ae (bL (gH MX Os Ot tL (pv 6) (pa1 (pcH kX G (pa2 (pv 7) (pv 5)))))))))
   (ac (q_ (bL (gH MX Os Ot tL (pv 6) (pa1 (pcH pQ G (pa1 (au bS (au cG (pcH al G (pa1 (pv 3))) (pv 5)) (aL aN (by rfl) B.len dD (pa1 (pv 6))))))))))
   (ae (q_ (ai (aw (pa3 (aw (pa5 (pX ag (pv 1) aa) (pX ag (pv 1) aa) (pv 3) (pv 4) (pv 2))) (pv 6) (pcH oJ G (pa2 (pv 0) (pv 5))))))))))))))),?_⟩
 try dsimp only[Kc]
 walk_at"g";intro m hm;rw[Y] at hm;walk_at"g";intro p hp;refine yS (xs:=n.map V.ref) (fun j ys g=>aG (ax H g)/\g p=some (.lst ys)/\ys=((o.take j).map fun d=>V.int (bun d:Nat))) ⟨⟨af hp _⟩,ad,rfl⟩ ?_ ?_ ?_
 .rintro j ys g ⟨⟨L⟩,_⟩
  exact L.seq v
 .rintro j u ys g F hF hj ⟨⟨L⟩,ab,rfl⟩
  obtain⟨x,ex,rfl⟩:=cV hj;have ba:j<n.length:=(gV.mp ex).1;obtain⟨d,ed⟩:∃d,o[j]? =some d:=⟨_,be (by have:=a.1;lia)⟩
  obtain⟨dx,i,b,js,l⟩:=a.2 j x d ex ed;have l1:=l.same L;have hz:((o.take j).map fun d=>V.int (bun d:Nat)).length<sizeLine:=by
   rw[fI,M0];exact MJ (show min j o.length<100 by lia) (by decide)
  walk_at"g";refine hF _ _ ⟨⟨eR hp L⟩,ad,?_⟩
  rw[fO ed,MH]
  rfl
 rintro ys H1 ⟨⟨L⟩,ab,rfl⟩
 rw[Y,ML] at ab;have hq:SqL K H1 p ((o.map fun d=>((bun d:Nat):Int)).map V.int):=by
  rw[QZ];exact SqL.of ab
 refine⟨p,o.map fun d=>((bun d:Nat):Int),rfl,hq,(fun z=>by rw[Om] at z;rw[z] at h0;exact absurd h0 (by decide)),?_⟩
 intro mx h1 h2;have bo:mx=(M:Nat):=by
  obtain⟨d,T,rfl⟩:=Nn.mp h1;obtain⟨d',N,b2⟩:=hM.mem;have a1:=hM.le d T;have a2:=h2 _ (Nn.mpr ⟨d',N,rfl⟩)
  lia
 subst bo;have b6:M<=1048576:=by
  obtain⟨d,T,N⟩:=hM.mem;have:=(hd d T).1;unfold bun at N
  lia
 walk_at"g";intro I hs;obtain⟨qE,qQ⟩:=q m I hm hs;walk_at"g";refine bI (fun c=> ?_) (fun c=> ?_)
 .exact qE (by lia) H1 L
 have ms:m+I<=7:=by lia
 have b5:I<=64:=by lia
 have b4:m<=64:=by lia
 have hS:8*2^I<=1024:=by
  have:2^I<=2^7:=NZ (by decide) (by lia)
  lia
 have eS:(8:Int)*2^I=((8*2^I:Nat):Int):=by push_cast;rfl
 walk_at"g";dsimp only;rw[eS];have O:∀d∈o,lnW d.1<=8*2^I:=fun d hd=>by
  have a1:=hM.le d hd;have a2:=hs.1;unfold bun at a1
  lia
 have b7:2^m*(8*2^I)=8*2^(m+I):=by rw[Nat.pow_add];ac_rfl
 have bV:2^(m+I)<=2^7:=NZ (by decide) ms
 have bz:o.length*(8*2^I)<=2^m*(8*2^I):=NK _ hm.1;generalize ao:8*2^I=S at*;intro U ar;have s2:=L.trans (af ar (.lst []));have bw:upd H1 U (.lst []) U=some (.lst []):=ad;have e:H U=none:=L.free ar;generalize upd H1 U (.lst [])=H2 at*;have bD:=s2.seq v;have bj:∀j,(aV ((o.take j).flatMap fun d=>gq S d.1)).length<=16*1024:=fun j=>by
  rw[dW,sN (fun d hd=>O d (Oi hd)),M0]
  exact Nat.mul_le_mul (by lia) hS
 walk_at"g";refine⟨wl (xs:=n.map V.ref) (fun j Z g=>aG (∃y,Z=[some (.ref bl),some (.ref rm),some (.int X),some (.int m),some (.int I),some (.int (S:Nat)),some (.ref U),y]/\ax H g/\g U=some (.lst ((aV ((o.take j).flatMap fun d=>gq S d.1)).map V.int)))) ⟨_,rfl,s2,bw⟩ ?_ ?_ ?_⟩
 .rintro j Z g _ ⟨y,rfl,s3,_⟩
  exact s3.seq v
 .rintro j u Z g hj ⟨y,rfl,s3,hw⟩
  obtain⟨x,ex,rfl⟩:=cV hj;have ba:j<n.length:=(gV.mp ex).1;obtain⟨d,ed⟩:∃d,o[j]? =some d:=⟨_,be (by have:=a.1;lia)⟩
  obtain⟨dx,i,b,js,l⟩:=a.2 j x d ex ed;have l3:=l.same s3;have bb:lnW d.1<=S:=O d (MD ed);have bh:S<=2000:=by lia
  have bt:tyV K "list" (.ref U) g:= .inl ⟨rfl,_,SqL.of hw⟩;have b0:=bj j;walk_at"g";intro p4 H4 s4 a7 h4;have bx:=s4 _ _ hw;have hz:((aV ((o.take j).flatMap fun d=>gq S d.1)).map V.int).length+((aV (gq S d.1)).map V.int).length<=sizeLine:=by
   rw[fI,fI,dW (gq S d.1),yh bb];exact MV (show _<=20000 by lia) (by decide)
  walk_at"g";refine⟨_,rfl,eR e (s3.trans s4),?_⟩
  rw[ad,fO ed,OT,jB,MH]
  simp
 .rintro Z H3 ⟨y,rfl,s3,hw⟩
  rw[Y,ML] at hw;have ew:((aV (o.flatMap fun d=>gq S d.1)).map V.int).length=o.length*S:=by rw[fI,dW,sN O]
  have cm:CO ((2:Int)^m) (S:Int):= .inr ⟨by lia,by lia⟩
  have eN:(2:Int)^m*(S:Int) - (((aV (o.flatMap fun d=>gq S d.1)).map V.int).length:Nat)=((2^m*S - o.length*S:Nat):Int):=by
   rw[ew,Int.ofNat_sub bz]
   push_cast
   rfl
  have hN:2^m*S - o.length*S<=2000:=by lia
  have bt:tyV K "list" (.ref U) H3:= .inl ⟨rfl,_,SqL.of hw⟩;walk_at"g";refine⟨(Ng (fun z=>[V.int z]) eN:[V.int ((2:Int)^m*(S:Int) - (((aV (o.flatMap fun d=>gq S d.1)).map V.int).length:Nat))]=[V.int ((2^m*S - o.length*S:Nat):Int)]),hN,?_⟩
  intro p4 H4 s4 a7 h4;have bx:=s4 _ _ hw;have hz:((aV (o.flatMap fun d=>gq S d.1)).map V.int).length+((aV (stp (2^m*S - o.length*S))).map V.int).length<=sizeLine:=by
   rw[ew,fI,dW,uo];exact MV (show o.length*S+(2^m*S - o.length*S)<=2000 by lia) (by decide)
  walk_at"g";have aK:(aV (o.flatMap fun d=>gq S d.1)).map V.int++(aV (stp (2^m*S - o.length*S))).map V.int=(aV (lj S (2^m*S) o)).map V.int:=by
   rw[<- MH, <-jB]
   rfl
  rw[aK];generalize a8:(aV (lj S (2^m*S) o)).map V.int=ws at*;have s5:ax H (upd H4 U (.lst ws)):=eR e (s3.trans s4);have bu:upd H4 U (.lst ws) U=some (.lst ws):=ad;generalize upd H4 U (.lst ws)=H5 at*;have bE:=s5.tup a9;walk_at"g";intro a1 R;have s6:=s5.trans (af R (.tup [.int rk,.int rb,.int m,.int I,.int X]));have a':=af R (.tup [.int rk,.int rb,.int m,.int I,.int X]) _ _ bu;have aR:upd H5 a1 (.tup [.int rk,.int rb,.int m,.int I,.int X]) a1=some (.tup [.int rk,.int rb,.int m,.int I,.int X]):=ad;generalize upd H5 a1 (.tup [.int rk,.int rb,.int m,.int I,.int X])=H6 at*;have bW:=s6.seq v;have bH:=a.same s6;have bX:∀d∈o,d.2.length<=30:=fun d z=>(hd d z).2
  have bh:S<=2000:=by lia
  walk_at"g";intro p7 H7 s7 br h7;walk_at"g";intro r aH;have s8:=af aH (.tup [.ref a1,.ref U,.ref p7]);exact qQ ms r _ ((s6.trans s7).trans s8) ⟨a1,U,p7,ad,s8 _ _ (s7 _ _ aR),(by rw[ao,a8];exact s8 _ _ (s7 _ _ a')),(by rw[ao];exact s8 _ _ h7),(s6.trans s7).free aH,s5.free R,e,s6.free br⟩
noncomputable def del(p:Addr)(H:Hp):Hp:=fun a=>if a=p then none else H a
theorem Ek{p:Addr}{H:Hp}{o:HO}:del p (upd H p o)=del p H:=by
 funext a
 unfold del upd
 split <;> rfl
theorem B_{p:Addr}{H:Hp}:ax (del p H) H:=fun a o h=>by
 unfold del at h
 split at h
 .cases h
 .exact h
theorem SqT.del{K:Frag}{H:Hp}{p t:Addr}{xs ys:List V}(C:H p=some (.lst ys))(h:SqT K H t xs):SqT K (del p H) t xs:=by
 rcases h with(h | ⟨o,h⟩) | h
 .refine .inl (.inl ?_)
  show My.del p H t=_
  unfold My.del;rw[mC (eC h C (by intro z;cases z))]
  exact h
 .refine .inl (.inr ⟨o,?_⟩)
  show My.del p H t=_
  unfold My.del;rw[mC (eC h C (by intro z;cases z))]
  exact h
 .exact .inr h
theorem aZ.del{K:Frag}{C:Addr}{H:Hp}{p x I i b:Addr}{J:List Addr}{is:List Ins}{bs:List Nat}{ys:List V}(l:aZ K C H x I i b J is bs)(o:H p=some (.lst ys))(U:i≠p)(a:b≠p):aZ K C (del p H) x I i b J is bs:=by
 refine⟨?_,?_,?_,l.ib,l.ow.mono fun _ _ z=>SqT.del o z,l.va⟩
 .unfold My.del;rw[mC (eC l.at_ o (by intro z;cases z))]
  exact l.at_
 .unfold My.del;rw[mC U];exact l.li
 .unfold My.del;rw[mC a];exact l.lb
theorem Lds.snoc{K:Frag}{C:Addr}{H:Hp}{xs:List Addr}{ds:List Bk}{x U i b:Addr}{J:List Addr}{d:Bk}(h:Lds K C H xs ds)(l:aZ K C H x U i b J d.1 d.2):Lds K C H (xs++[x]) (ds++[d]):=by
 refine⟨by rw[MA,MA,h.1];rfl,fun a y e o I=> ?_⟩
 by_cases z:a<xs.length
 .rw[Nh z] at o;rw[Nh (by have:=h.1;lia)] at I
  exact h.2 a y e o I
 .have za:a=xs.length:=by
   have:=(gV.mp o).1;rw[MA,Nv] at this
   lia
  subst za;rw[MT (by lia),NO] at o
  rw[h.1,MT (by lia),NO] at I
  cases o
  cases I
  exact⟨U,i,b,J,l⟩
def GSt(K:Frag)(H:Hp)(o:List Addr)(gs:List (List Ins)):Prop:=o.length=gs.length/\∀(j:Nat) (b:Addr) (bk:List Ins),o[j]? =some b->gs[j]? =some bk->GBk K H b bk
theorem GSt.same{K:Frag}{H C:Hp}{o:List Addr}{gs:List (List Ins)}(s:ax H C)(h:GSt K H o gs):GSt K C o gs:=⟨h.1,fun j b bk J I=>(h.2 j b bk J I).same s⟩
structure GuB (gs:List (List Ins)):Prop where
 n0:0<gs.length
 n16:gs.length<=16
 va:∀bk∈gs,(∀kn∈bk,VI kn)/\bk.length<=30
def GX(K:Frag)(c:Addr):Sp:=fun d H Q E=>∃(C rm:Addr) (J:List Addr) (I:List (List Ins)) (a U b:Int) (M:Nat),d=[.ref C,.ref rm,.int b]/\SqT K H C (J.map V.ref)/\GSt K H J I/\SqT K H rm [.int a,.int U]/\
 GuB I/\qu M (I.map cT)/\
 ∀m s,nz I.length m->nz M s->(7<m+s->∀o,ax H o->E (.ref c) none o)/\(m+s<=7->∀r o,ax H o->xj H o r (I.map cT) a U b m s->Q (.ref r) o)
theorem HR{C CT:Addr}(B:Bi mg)(D:Ht K mg)(jq:Has P w K mg base 4 "masked_block" qo (Jj K C))(cL:vM P w K mg base 8 "code_of_blocks" yA (Ds K C CT)):
  vM P w K mg base 9 "make" uw (GX K CT):=by
 refine D.hasX Ie (fun vs H Q E h=> ?_) (fun f a7 A N s H vs Q E Y h=> ?_)
 .obtain⟨L,rm,n,c,rk,rb,gt,M,rfl,_⟩:=h
  rfl
 obtain⟨L,rm,n,c,rk,rb,gt,M,rfl,hg,J,O,G,hM,q⟩:=h;have aK:=G.n16;refine⟨_,(ae (ai (CC (cL.mono (by omega)) Y (by rfl) we (pa3 (PE.nox (ko (by rfl) (by rfl) (by rfl) (bk (sc0:=ah zx) (N0:=["guest","room","gates"]) ["block"] 1 []) (oR (pv 0)) (fun _ _ _ _=>(aD (i:=0) (show List.Nodup (["block"]:List Str) by decide) (by rfl) (by left;rfl))) (fun _ _ _ _=>(pcH jq Y (pa1 (pv 0)))))) (pv 1) (pv 2))))),?_⟩
 try dsimp only[Kc]
 walk_at"g";intro p hp;refine sG (xs:=n.map V.ref) (fun j v U=>aG (ax H U)/\∃I,U p=some (.lst v)/\v=I.map V.ref/\Lds K C (del p U) I ((c.take j).map cT)) ⟨⟨af hp _⟩,[],ad,rfl,rfl,fun j x d e=>by simp at e⟩ ?_ ?_ ?_
 .rintro j v U ⟨⟨s1⟩,_⟩
  exact s1.tup hg
 .rintro j u v U F hF hj ⟨⟨s1⟩,I,hp1,rfl,lds⟩
  obtain⟨b,eb,rfl⟩:=cV hj;have aR:j<n.length:=(gV.mp eb).1;obtain⟨bk,R⟩:∃bk,c[j]? =some bk:=⟨_,be (by have:=J.1;lia)⟩
  have ar:=(J.2 j b bk eb R).same s1;obtain⟨hv,aH⟩:=G.va bk (MD R);have T:I.length=j:=by
   rw[lds.1,fI,M0];have:=J.1
   lia
  have hz:(I.map V.ref).length<sizeLine:=by
   rw[fI,T];exact MJ (show j<100 by have:=J.1;lia) (by decide)
  walk_at"g";intro x dx i b' js Z g hx hi hb l;have S:=g _ _ hp1;walk_at"g";refine hF _ _ ⟨⟨eR hp (s1.trans g)⟩,I++[x],ad,by rw[MH];rfl,?_⟩
  have sd:ax (del p U) (del p (upd Z p (.lst (I.map V.ref++[V.ref x])))):=fun a o h=>by
   unfold del at*
   by_cases z:a=p
   .rw[ME z] at h;cases h
   .rw[mC z] at h ⊢;rw[aj z];exact g _ _ h
  have l2:aZ K C (del p (upd Z p (.lst (I.map V.ref++[V.ref x])))) x dx i b' js (cT bk).1 (cT bk).2:=by
   rw[Ek];exact l.del S (Nb (ak hp1 hi)) (Nb (ak hp1 hb))
  rw[fO R,MH];exact(lds.same sd).snoc l2
 .rintro v H1 ⟨⟨s1⟩,I,hp1,rfl,lds⟩
  rw[fI,J.1,ML] at lds;have X:=lds.same (B_ (H:=H1) (p:=p));have hq:SqL K H1 p (I.map V.ref):=SqL.of hp1;have ao:=s1.tup O;have y:(c.map cT).length=c.length:=by rw[fI]
  have a8:0<(c.map cT).length:=by rw[y];exact G.n0
  have ab:(c.map cT).length<=16:=by lia
  have a6:∀d∈c.map cT,lnW d.1<=300/\d.2.length<=30:=fun d hd=>by
   obtain⟨bk,h1,rfl⟩:=Nn.mp hd;have h2:=(G.va bk h1).2;have h3:=IH bk;have h4:=vS bk bk.length (MC _);rw[ML] at h4
   lia
  walk_at"g";intro m sx hm hs;rw[y] at hm;obtain⟨q1,q2⟩:=q m sx hm hs;refine⟨fun z U g=>q1 z U (s1.trans g),fun z r U g ca=>q2 z r U (s1.trans g) ?_⟩
  obtain⟨a1,a2,a3,c1,c2,c3,c4,f1,f2,f3,f4⟩:=ca;exact⟨a1,a2,a3,c1,c2,c3,c4,s1.free f1,s1.free f2,s1.free f3,s1.free f4⟩
structure Kn where
 sp:List SpM.Span
 ft:Option (Int × Int)
noncomputable def kn0:Kn:=⟨w8,none⟩
noncomputable abbrev bnO(kn:Ins):Int × Int:=(kn.2.getD 1 0,kn.2.getD 2 0)
noncomputable def thG(rk:Nat)(rb:Int)(s:Kn)(kn:Ins):List Ins:=
 if ¬(kn.1=11\/kn.1=12) then grp kn
 else if ¬HC rk rb kn.2 s.sp then[kn]
 else if s.ft=some (bnO kn) then[(kn.1,[kn.2.getD 0 0,6,0])]
 else grp kn
noncomputable def lu(m:Ins)(o:Option (Int × Int)):Bool:=decide (m.1=18) || (decide (mk8 m.1) && (decide (m.2.getD 0 0=6) || (match o with | none=>false | some f=>decide (m.2.getD 0 0=f.1))))
noncomputable def rR(rk:Nat)(rb:Int)(kn:Ins)(s:Kn)(m:Ins):Kn:=⟨wb rk rb 0 0 m.1 m.2 s.sp,if m.1=16 then some (bnO kn) else if lu m s.ft=true then none else s.ft⟩
noncomputable def vG(rk:Nat)(rb:Int)(kn:Ins)(s:Kn)(g:List Ins):Kn:=g.foldl (rR rk rb kn) s
noncomputable def knB(is:List Ins)(s:Kn):Kn:=if lnW is %8=0 then kn0 else s
noncomputable def thS(rk : Nat)(rb : Int)(st : Bk × Kn)(kn : Ins) : Bk × Kn :=
  ((dk st.1.1 (thG rk rb st.2 kn) ++ thG rk rb (knB (dk st.1.1 (thG rk rb st.2 kn)) st.2) kn, st.1.2 ++ [lnW (dk st.1.1 (thG rk rb st.2 kn))]),
   vG rk rb kn (knB (dk st.1.1 (thG rk rb st.2 kn)) st.2) (thG rk rb (knB (dk st.1.1 (thG rk rb st.2 kn)) st.2) kn))
noncomputable def thB(rk:Nat)(rb:Int)(b:List Ins):Bk × Kn:=b.foldl (thS rk rb) (([],[]),kn0)
theorem pB{rk:Nat}{rb:Int}{b:List Ins}{j:Nat}{kn:Ins}(h:b[j]? =some kn):thB rk rb (b.take (j+1))=thS rk rb (thB rk rb (b.take j)) kn:=by
 unfold thB;rw[N8,h,OA]
 rfl
theorem ir(rk:Nat)(rb:Int)(s:Kn)(kn:Ins):thG rk rb s kn=grp kn\/((kn.1=11\/kn.1=12)/\¬HC rk rb kn.2 s.sp/\thG rk rb s kn=[kn])\/((kn.1=11\/kn.1=12)/\s.ft=some (bnO kn)/\thG rk rb s kn=[(kn.1,[kn.2.getD 0 0,6,0])]):=by
 unfold thG
 split
 .exact .inl rfl
 .rename_i h
  have h:kn.1=11\/kn.1=12:=Decidable.not_not.mp h
  split
  .rename_i h2;exact .inr (.inl ⟨h,h2,rfl⟩)
  .split
   .rename_i h3;exact .inr (.inr ⟨h,h3,rfl⟩)
   .exact .inl rfl
theorem uk{kn:Ins}(h:VI kn)(o:kn.1=11\/kn.1=12):VI (kn.1,[kn.2.getD 0 0,6,0]):=by
 obtain⟨k,J⟩:=kn;obtain⟨a,b,n,e,a0,a1,C,I,n0,n1⟩:=aI.acc h o;dsimp only at e o;subst e;exact .inr (.inr (.inr (.inl ⟨by show 10<=k;lia,by show k<=12;lia,a,6,0,rfl,a0,a1,by decide,by decide,by decide,by decide⟩)))
theorem yN{rk:Nat}{rb:Int}{s:Kn}{kn:Ins}(h:VI kn):∀g∈thG rk rb s kn,VI g:=by
 intro g o;rcases ir rk rb s kn with e | ⟨hk,_,e⟩|⟨hk,_,e⟩
 .rw[e] at o;exact tT h g o
 .rw[e,MY] at o;rw[o];exact h
 .rw[e,MY] at o;rw[o];exact uk h hk
theorem vP(rk:Nat)(rb:Int)(s:Kn)(kn:Ins):1<=lnW (thG rk rb s kn)/\lnW (thG rk rb s kn)<=3:=by
 rcases ir rk rb s kn with e | ⟨hk,_,e⟩|⟨hk,_,e⟩
 .rw[e];exact vZ kn
 .rw[e,kx];have:=lU kn.1;lia
 .rw[e,kx];have:=lU kn.1;exact⟨this.1,by show d_ kn.1<=3;lia⟩
theorem Eb(rk:Nat)(rb:Int)(s:Kn)(kn:Ins):(thG rk rb s kn).length<=3:=by
 rcases ir rk rb s kn with e | ⟨hk,_,e⟩|⟨hk,_,e⟩
 .rw[e];exact DQ kn
 .rw[e];simp
 .rw[e];simp
theorem HU{kn:Ins}(h:kn.1≠16):∀g∈grp kn,g.1=16->kn.1=11\/kn.1=12:=by
 intro g o e;unfold grp at o
 split at o
 .simp only[M3,Nr,Oo] at o
  rcases o with rfl | rfl
  .exact absurd (show(17:Nat)=16 from e) (by decide)
  .exact absurd (show(15:Nat)=16 from e) (by decide)
 .split at o
  .assumption
  .rw[MY] at o;rw[o] at e;exact absurd e h
theorem IW{rk:Nat}{rb:Int}{s:Kn}{kn:Ins}(h:kn.1≠16):∀g∈thG rk rb s kn,g.1=16->kn.1=11\/kn.1=12:=by
 intro g o e;rcases ir rk rb s kn with z | ⟨hk,_,z⟩|⟨hk,_,z⟩
 .rw[z] at o;exact HU h g o e
 .exact hk
 .exact hk
theorem Iu(is g:List Ins):(dk is g).length<=is.length+8:=by
 unfold dk
 split
 .lia
 .rw[MA];unfold wC;rw[Nk]
  lia
theorem rD(rk:Nat)(rb:Int)(b:List Ins):∀j,j<=b.length->lnW (thB rk rb (b.take j)).1.1<=if j %2=0 then 4*j else 4*(j - 1)+3
 | 0,_=>by simp [thB,lnW]
 | j+1,h=>by
  have ih:=rD rk rb b j (by lia)
  have e:b[j]? =some b[j]:=be (by lia)
  rw[pB e];show lnW (dk _ _++thG rk rb _ b[j])<=_
  rw[cW];have C:=(AS (thB rk rb (b.take j)).1.1 (thG rk rb (thB rk rb (b.take j)).2 b[j])).2;have o:=vP rk rb (thB rk rb (b.take j)).2 b[j];have I:=vP rk rb (knB (dk (thB rk rb (b.take j)).1.1 (thG rk rb (thB rk rb (b.take j)).2 b[j])) (thB rk rb (b.take j)).2) b[j];generalize lnW (dk (thB rk rb (b.take j)).1.1 (thG rk rb (thB rk rb (b.take j)).2 b[j]))=x at*;generalize lnW (thB rk rb (b.take j)).1.1=y at*
  by_cases c:j %2=0
  .rw[ME c] at ih;rw[mC (by lia)]
   lia
  .rw[mC c] at ih;rw[ME (by lia)]
   lia
theorem KI(rk:Nat)(rb:Int)(b:List Ins):lnW (thB rk rb b).1.1<=4*b.length+3:=by
 have:=rD rk rb b b.length (MC _);rw[ML] at this
 split at this <;> lia
theorem zv(rk:Nat)(rb:Int)(b:List Ins):∀j,j<=b.length->(thB rk rb (b.take j)).1.2.length=j
 | 0,_=>by simp [thB]
 | j+1,h=>by
  have e:b[j]? =some b[j]:=be (by lia)
  rw[pB e];show((thB rk rb (b.take j)).1.2++[_]).length=_
  rw[MA,zv rk rb b j (by lia)]
  rfl
noncomputable abbrev kfs(pl sa:Addr)(o:V):List (Str × V):=[("plan",.ref pl),("spans",.ref sa),("fitted",o)]
def FtA(K:Frag)(H:Hp)(v:V):Option (Int × Int)->Prop
 | none=>v= .non
 | some f=>∃t,v= .ref t/\SqT K H t (([f.1,f.2]:List Int).map V.int)
theorem FtA.mono{K:Frag}{H C:Hp}{v:V}{o:Option (Int × Int)}(f:∀t xs,SqT K H t xs->SqT K C t xs)(h:FtA K H v o):FtA K C v o:=by
 cases o with
 | none=>exact h
 | some z=>obtain⟨t,e,h⟩:=h;exact⟨t,e,f _ _ h⟩
structure lI (K:Frag) (C:Addr) (H:Hp) (x dx:Addr) (rk:Nat) (rb:Int) (s:Kn):Prop where
 ex:∃pl sa fv,H x=some (.ins C dx (kfs pl sa fv))/\Pl H pl rk rb 0 0 0/\SpT K H sa s.sp/\FtA K H fv s.ft
 s8:Sp8 s.sp
theorem SpT.keep{H o:Hp}{a:Addr}{sp:List SpM.Span}(f:∀t xs,SqT K H t xs->SqT K o t xs)(g:∀t xs,H t=some (.tup xs)->o t=some (.tup xs))(h:SpT K H a sp):SpT K o a sp:=let ⟨as,h1,h2⟩:=h;⟨as,f _ _ h1,h2.mono g⟩
theorem lI.same{K:Frag}{C:Addr}{H o:Hp}{x I:Addr}{rk:Nat}{rb:Int}{s:Kn}(e:ax H o)(h:lI K C H x I rk rb s):lI K C o x I rk rb s:=by
 obtain⟨⟨pl,sa,d,J,c,U,b⟩,a⟩:=h;exact⟨⟨pl,sa,d,e _ _ J,c.mv e,U.same e,b.mono (fun _ _ z=>e.tup z)⟩,a⟩
theorem gJ{K:Frag}{H I:Hp}{x t:Addr}{C U:Addr}{fs:List (Str × V)}{xs:List V}(b:But x H I)(J:H x=some (.ins C U fs))(h:SqT K H t xs):SqT K I t xs:=by
 rcases h with(h | ⟨o,h⟩) | h
 .exact .inl (.inl (b _ _ (eC h J (by intro z;cases z)) h))
 .exact .inl (.inr ⟨o,b _ _ (eC h J (by intro z;cases z)) h⟩)
 .exact .inr h
theorem rK{H o:Hp}{x a:Addr}{C J:Addr}{fs:List (Str × V)}{k:Nat}{I:Int}{m s:Nat}{g:Int}(b:But x H o)(U:H x=some (.ins C J fs))(h:Pl H a k I m s g):Pl o a k I m s g:=
 ⟨b _ _ (eC h.at_ U (by intro z;cases z)) h.at_,h.room,h.ms⟩
theorem sk{H o:Hp}{x a:Addr}{C J:Addr}{fs:List (Str × V)}{sp:List SpM.Span}(b:But x H o)(I:H x=some (.ins C J fs))(h:SpT K H a sp):SpT K o a sp:=
 h.keep (fun _ _ z=>gJ b I z) (fun _ _ z=>b _ _ (eC z I (by intro z;cases z)) z)
theorem tV:∀k,k<19->(V.str (bf k)=V.str "gate"↔k=18):=by decide +kernel
theorem Be:∀k,k<19->(V.str (bf k)=V.str "fit"↔k=16):=by decide +kernel
def DW(K:Frag)(C:Addr):Sp:=fun b H Q _=>∃(J:Hp) (x a rm:Addr) (U:Nat) (o:Int),b=[.ref x,.ref rm]/\H x=some (.ins C a [])/\J x=none/\ax J H/\SqT K H rm [.int U,.int o]/\SpM.Room U o/\
 ∀I,ax J I->lI K C I x a U o kn0->Q .non I
def AX(K:Frag)(C:Addr):Sp:=fun a H Q _=>∃(x J:Addr) (U:Nat) (I:Int) (s:Kn),a=[.ref x]/\lI K C H x J U I s/\∀o,But x H o->lI K C o x J U I kn0->Q .non o
def Jq(K:Frag)(C:Addr):Sp:=fun b H Q _=>∃(x c t:Addr) (a:Nat) (J:Int) (s:Kn) (o:Ins),b=[.ref x,.ref t]/\lI K C H x c a J s/\SqT K H t (aB o.1 o.2)/\VI o/\
 ∀(g:Addr) (U:List Addr) (I:Hp),ax H I->SqT K I g (U.map V.ref)->dE K I U (thG a J s o)->Q (.ref g) I
def FC(K:Frag)(C:Addr):Sp:=fun I H Q _=>∃(x J t:Addr) (U:Nat) (o:Int) (s:Kn) (m:Ins),I=[.ref x,.ref t]/\lI K C H x J U o s/\SqT K H t (aB m.1 m.2)/\VI m/\Q (.bl (lu m s.ft)) H
def Jr(K:Frag)(C:Addr):Sp:=fun d H Q _=>∃(x c t g:Addr) (b:List Addr) (a:Nat) (J:Int) (s:Kn) (o:Ins) (I:List Ins),d=[.ref x,.ref t,.ref g]/\lI K C H x c a J s/\SqT K H t (aB o.1 o.2)/\VI o/\SqT K H g (b.map V.ref)/\dE K H b I/\(∀m∈I,VI m)/\
 (∀m∈I,m.1=16->o.1=11\/o.1=12)/\I.length<=10/\∀U,But x H U->lI K C U x c a J (vG a J o s I)->Q .non U
theorem rS{C:Addr}(B:Bi mg)(c:cA K mg "Known" C)(n:lT K C)(D:iB K C)(L:Has P w K mg base 2 "first_spans" [] (JS K)):bC P w K mg base 3 C "__init__" CK (DW K C):=by
 refine D.has c.cl r_ (fun O H Q E h=> ?_) (fun f X A m s H O Q E Y h=> ?_)
 .obtain⟨z,x,d,rm,I,J,rfl,_⟩:=h
  rfl
 obtain⟨z,x,d,rm,I,J,rfl,i,u,T,N,R,q⟩:=h;have Z:=c.cl;have n1:=n.plan;have n2:=n.spans;have n3:=n.fitted;have i0:atI [V.int I,V.int J] 0=some (.int I):=aY (j:=0) rfl;have i1:atI [V.int I,V.int J] 1=some (.int J):=aY (j:=1) rfl
 refine⟨_,(ac (bT (pv 0) (aw (pa5 (pX ag (pv 1) aa) (pX ag (pv 1) aa) aa aa aa)) (by rfl))
   (ac (bT (pv 0) (jp (L.mono (by omega)) Y (by rfl)) (by rfl))
   (ae (bT (pv 0) fH (by rfl))))),?_⟩
 try dsimp only[aT]
 walk_at"g";intro pl b;have F:x≠pl:=ak i b;have g:upd H pl (.tup [.int I,.int J,.int 0,.int 0,.int 0]) x=some (.ins C d []):=by rw[aj F];exact i
 have r:=af b (.tup [.int I,.int J,.int 0,.int 0,.int 0]);have G:upd H pl (.tup [.int I,.int J,.int 0,.int 0,.int 0]) pl=some (.tup [.int I,.int J,.int 0,.int 0,.int 0]):=ad;generalize upd H pl (.tup [.int I,.int J,.int 0,.int 0,.int 0])=H1 at*;walk_at"g";intro sa U e p;have y:U x=some (.ins C d [("plan",.ref pl)]):=e _ _ ad;have M:U pl=some (.tup [.int I,.int J,.int 0,.int 0,.int 0]):=e _ _ (by rw[aj (Nb F)];exact G)
 have S:ax z U:=fun a o h=>e _ _ (by rw[aj (ak h u)];exact r _ _ (T _ _ h))
 clear e r g G i;walk_at"g";have b3:But x U (upd (upd U x (.ins C d (aU "spans" (.ref sa) [("plan",.ref pl)]))) x (.ins C d (aU "fitted" .non (aU "spans" (.ref sa) [("plan",.ref pl)])))):=fun a o v h=>by rw[aj v,aj v];exact h
 refine q _ (fun a o h=>b3 _ _ (ak h u) (S _ _ h)) ⟨⟨pl,sa,.non,?_,rK b3 y ⟨M,R,by decide⟩,sk b3 y p,rfl⟩,Lb⟩
 rw[ad]
 rfl
theorem vy{C:Addr}(B:Bi mg)(c:cA K mg "Known" C)(n:lT K C)(D:jE K C)(p:Has P w K mg base 2 "first_spans" [] (JS K)):bC P w K mg base 3 C "forget" dj (AX K C):=by
 refine D.has c.cl vH (fun z H Q E h=> ?_) (fun f F A d s H z Q E G h=> ?_)
 .obtain⟨x,g,u,L,st,rfl,_⟩:=h
  rfl
 obtain⟨x,g,u,L,st,rfl,⟨⟨pl,sa,j,v,b,M,y⟩,N⟩,q⟩:=h;have O:=c.cl;have n2:=n.spans;have n3:=n.fitted
 refine⟨_,(ac (bT (pv 0) (jp (p.mono (by omega)) G (by rfl)) (by rfl))
   (ae (bT (pv 0) fH (by rfl)))),?_⟩
 try dsimp only[aT]
 walk_at"g";intro I i e J;have m:=e _ _ v;have r:=b.mv e;walk_at"g";have b3:But x i (upd (upd i x (.ins C g (aU "spans" (.ref I) (kfs pl sa j)))) x (.ins C g (aU "fitted" .non (aU "spans" (.ref I) (kfs pl sa j))))):=fun a o U h=>by rw[aj U,aj U];exact h
 refine q _ (fun a o U h=>b3 _ _ U (e _ _ h)) ⟨⟨pl,I,.non,?_,rK b3 m r,sk b3 m J,rfl⟩,Lb⟩
 rw[ad]
 rfl
theorem pY{C:Addr}(B:Bi mg)(c:cA K mg "Known" C)(n:lT K C)(D:fW K C)(dg:Has P w K mg base 1 "is_access" dF (Gw K))(aR:Has P w K mg base 1 "access_by_mask" dF (Fw K))(X:Has P w K mg base 2 "masked_group" dF (JY K))
  (jh:Has P w K mg base 2 "may_reach_out" jV (JF K)):bC P w K mg base 3 C "thin_group" bR (Jq K C):=by
 refine D.has c.cl qe (fun vs H Q E h=> ?_) (fun f a6 A L s H vs Q E m h=> ?_)
 .obtain⟨x,dx,t,rk,rb,st,U,rfl,_⟩:=h
  rfl
 obtain⟨x,dx,t,rk,rb,st,U,rfl,⟨⟨pl,sa,fv,hx,ab,a7,T⟩,h8⟩,Y,hv,q⟩:=h;have aH:U.1<19:=hv.lt19;have hc:=c.cl;have n1:=n.plan;have n2:=n.spans;have n3:=n.fitted
 refine⟨_,(ac (ay (ip (eL (pcH dg m (pa1 (pv 1))))) (ae (ai (pcH X m (pa1 (pv 1))))) am)
   (ac (ay (ip (eL (pcH jh m (pa3 (aE (pv 0) (by rfl)) (pv 1) (aE (pv 0) (by rfl)))))) (ae (ai (aw (pa1 (pv 1))))) am)
   (ac (ay (pcT (Gn (r6 m)) (aE (pv 0) (by rfl)) (di kZ (pv 1) (eP aa) eQ)) (ae (ai (aw (pa1 (pcH aR m (pa1 (pv 1))))))) am)
   (ae (ai (pcH X m (pa1 (pv 1)))))))),?_⟩
 try dsimp only[aT]
 walk_at"g"
 by_cases I:U.1=11\/U.1=12
 rotate_left
 .rw[MG I];walk_at"g";intro g r u v e G;refine q g r u v e ?_
  unfold thG;rw[ME I];exact G
 rw[MO I];walk_at"g"
 by_cases ho:HC rk rb U.2 st.sp
 rotate_left
 .rw[MG ho];walk_at"g";intro g e;refine q g [t] _ (af e _) (SqT.of ad) ?_
  unfold thG;rw[mC (OK I),ME ho];exact⟨(af e _).tup Y,True.intro⟩
 rw[MO ho];walk_at"g";obtain⟨a,b,o,d,a0,a1,b0,b1,aK,ao⟩:=hv.acc I;refine⟨(fun z=>by rw[d] at z;exact absurd (show(2:Nat)=0 from z.1) (by decide)),fun p hp=> ?_⟩
 have y:ik (aB U.1 U.2) (some 2) none=([b,o]:List Int).map V.int:=by rw[d];rfl
 rw[y];have v:=af hp (.tup (([b,o]:List Int).map V.int));have Z:SqT K (upd H p (.tup (([b,o]:List Int).map V.int))) p (([b,o]:List Int).map V.int):=SqT.of ad;generalize upd H p (.tup (([b,o]:List Int).map V.int))=u at*;have N:=v.tup Y;have eb:bnO U=(b,o):=by unfold bnO;rw[d];rfl
 have fin:st.ft≠some (b,o)->∀g r j,ax u j->SqT K j g (r.map V.ref)->dE K j r (grp U)->Q (.ref g) j:=fun i g r j O e G=>by
  refine q g r j (v.trans O) e ?_
  unfold thG;rw[mC (OK I),mC (OK ho),mC (by rw[eb];exact i)]
  exact G
 have J:=T.mono (fun _ _ z=>v.tup z)
 cases hf:st.ft with
 | none=>
  rw[hf] at J;obtain rfl:fv= .non:=J;refine .inl ⟨rfl,p,_,rfl,Z,?_⟩
  walk_at"g";exact fin (by rw[hf];intro z;cases z)
 | some fb=>
  rw[hf] at J;obtain⟨tf,rfl,M⟩:=J;refine .inr ⟨tf,p,_,_,rfl,rfl,M,Z,?_⟩
  by_cases S:fb=(b,o)
  .subst S;rw[show(if false=true then !decide (([b,o]:List Int)=[b,o]) else decide (([b,o]:List Int)=[b,o]))=true from by rw[mC (by decide),MO rfl]]
   have ar:SqT K u t (aB U.1 (a::[b,o])):=by rw[<- d];exact N
   walk_at"g";intro F R;have O:=af R (.tup (aB U.1 [a,6,0]));have q2:SqT K (upd u F (.tup (aB U.1 [a,6,0]))) F (aB U.1 [a,6,0]):=SqT.of ad;generalize upd u F (.tup (aB U.1 [a,6,0]))=j at*;walk_at"g";intro g e;refine q g [F] _ ((v.trans O).trans (af e _)) (SqT.of ad) ?_
   unfold thG;rw[mC (OK I),mC (OK ho),ME (by rw[eb];exact hf),d]
   exact⟨(af e _).tup q2,True.intro⟩
  .have i:([fb.1,fb.2]:List Int)≠[b,o]:=fun z=>S (by
    injection z with z1 z2
    injection z2 with z2 _
    exact QI z1 z2)
   rw[show(if false=true then !decide (([fb.1,fb.2]:List Int)=[b,o]) else decide (([fb.1,fb.2]:List Int)=[b,o]))=false from by rw[mC (by decide),MG i]]
   walk_at"g";exact fin (by rw[hf];intro z;exact S (MR z))
theorem qb{C:Addr}(B:Bi mg)(c:cA K mg "Known" C)(n:lT K C)(D:gf K C)(p:Has P w K mg base 1 "made_box" dF (KC K)):bC P w K mg base 2 C "is_lost_by" AO (FC K C):=by
 refine D.has c.cl ji (fun u H Q E h=> ?_) (fun f F A g s H u Q E G h=> ?_)
 .obtain⟨x,M,t,r,L,st,o,rfl,_⟩:=h
  rfl
 obtain⟨x,M,t,r,L,st,o,rfl,⟨⟨pl,sa,i,S,v,N,I⟩,R⟩,X,m,q⟩:=h;have b:o.1<19:=m.lt19;have T:=c.cl;have n3:=n.fitted;have Y:atI (aB o.1 o.2) 0=some (.str (bf o.1)):=lv
 refine⟨_,(ac (psS 2 ji.nd (pcH p G (pa1 (pv 1))))
   (ae (ai (DO (pcE aJ (pX ag (pv 1) aa) av) (DO (pcE aJ (pv 2) aa) (wt (HF (JV (Ig (aE (pv 0) (by rfl)))) (wt (pcE aJ (pv 2) (pX ag (aE (pv 0) (by rfl)) aa)))))))))),?_⟩
 try dsimp only[aT]
 walk_at"g";have d:¬(o.1=18/\mk8 o.1):=by unfold mk8;lia
 have U:lu o st.ft=(decide (o.1=18) || (decide (mk8 o.1) && (decide (o.2.getD 0 0=6) || (match st.ft with | none=>false | some f=>decide (o.2.getD 0 0=f.1))))):=rfl
 refine⟨fun hm=> ?_,fun hm=> ?_⟩
 .have J:o.1≠18:=fun z=>d ⟨z,hm⟩
  rw[MG J,MO hm,Qn,Ph] at U;walk_at"g";refine dG (fun z=>J ((tV o.1 b).mp z)) ?_
  walk_at"g";refine bI (fun a=> ?_) (fun a=> ?_)
  .have a:o.2.getD 0 0=6:=by injection a
   rw[MO a,Bool.true_or] at U;rw[U] at q;walk_at"g";exact q
  have a:¬o.2.getD 0 0=6:=fun z=>a (by rw[z])
  rw[MG a,Qn] at U;walk_at"g"
  cases hf:st.ft with
  | none=>
   rw[hf] at I U q;obtain rfl:i= .non:=I;rw[U] at q;walk_at"g";exact q
  | some fb=>
   rw[hf] at I U q;obtain⟨O,rfl,e⟩:=I;have y:atI (([fb.1,fb.2]:List Int).map V.int) 0=some (.int fb.1):=aY (j:=0) rfl;rw[U] at q;walk_at"g";rw[show decide (V.int (o.2.getD 0 0)=V.int fb.1)=decide (o.2.getD 0 0=fb.1) from N9.mpr ⟨fun z=>(by injection z),fun z=>by rw[z]⟩]
   exact q
 .rw[MG hm,P5,Bool.or_false] at U;walk_at"g";refine bI (fun c=> ?_) (fun c=> ?_)
  .have J:o.1=18:=(tV o.1 b).mp c;rw[MO J] at U;rw[U] at q;walk_at"g";exact q
  have J:¬o.1=18:=fun z=>c ((tV o.1 b).mpr z)
  rw[MG J] at U;rw[U] at q;walk_at"g"
  cases hf:st.ft with
  | none=>
   rw[hf] at I;obtain rfl:i= .non:=I;refine qk rfl ?_
   exact q
  | some fb=>
   rw[hf] at I;obtain⟨O,rfl,e⟩:=I;have y:atI (([fb.1,fb.2]:List Int).map V.int) 0=some (.int fb.1):=aY (j:=0) rfl;refine Ec rfl ?_
   walk_at"g";exact q
theorem oA{C:Addr}(B:Bi mg)(c:cA K mg "Known" C)(n:lT K C)(D:fG K C)(jY:Has P w K mg base 8 "spans_behind" jV (LR K))(f_:bC P w K mg base 2 C "is_lost_by" AO (FC K C)):
  bC P w K mg base 9 C "learn_group" Bv (Jr K C):=by
 refine D.has c.cl i4 (fun vs H Q E h=> ?_) (fun f bu A a6 s H vs Q E hr h=> ?_)
 .obtain⟨x,e,t,g,ts,I,J,st,r,gs,rfl,_⟩:=h
  rfl
 obtain⟨x,e,t,g,ts,I,J,st,r,gs,rfl,hk,ht,hv,hg,hi,ba,a7,bD,q⟩:=h;have hc:=c.cl;have n1:=n.plan;have n2:=n.spans;have n3:=n.fitted;have hR:SpM.Room I J:=by obtain⟨_,_,_,_,z,_⟩:=hk.ex;exact z.room
 obtain⟨br,bt,bj,S,_⟩:=hk.ex
 refine⟨_,(ae (fg M7 (by rfl) (dY (oR (pv 2))) (aD (i:=3) i4.nd (by rfl) (by left;rfl)) (ac (bT (pv 0) (pcH jY hr (pa3 (aE (pv 0) (by rfl)) (pv 3) (aE (pv 0) (by rfl)))) (by rfl))
   (ae (aW (cy (ay (pcT aJ (pX ag (pv 3) aa) av) (ae (bT (pv 0) (di kZ (pv 1) (eP aa) eQ) (by rfl))) (ae (aW (cy (ay (eL (bB (f_.mono (by omega)) hr (pv 0) (pa1 (pv 3)))) (ae (bT (pv 0) fH (by rfl))) am))))))))))),?_⟩
 try dsimp only[aT]
 walk_at"g"
 refine⟨vX (xs:=ts.map V.ref) (fun j Z d=>∃y,Z=[some (.ref x),some (.ref t),some (.ref g),y]/\aG (But x H d)/\lI K C d x e I J (vG I J r st (gs.take j)))
  ⟨_,rfl,⟨But.refl _ _⟩,hk⟩ ?_ ?_ ?_⟩
 .rintro j Z d _ ⟨y,rfl,⟨L⟩,_⟩
  exact gJ L S hg
 .rintro j u Z d hj ⟨y,rfl,⟨b2⟩,hk2⟩
  obtain⟨tm,et,rfl⟩:=cV hj;obtain⟨m,em,hm⟩:=hi.get et;have ar:=ba m (MD em);have bh:=a7 m (MD em);have ao:m.1<19:=ar.lt19;have a8:=gJ b2 S hm;have a9:=gJ b2 S ht;have a':vG I J r st (gs.take (j+1))=rR I J r (vG I J r st (gs.take j)) m:=by
   unfold vG;rw[N8,em,OA]
   rfl
  generalize vG I J r st (gs.take j)=L at*;obtain⟨⟨pl,sa,G,hx,aR,bx,bb⟩,h8⟩:=id hk2;have i0:atI (aB m.1 m.2) 0=some (.str (bf m.1)):=lv;walk_at"g";intro v H2 X aH;have x2:=X _ _ hx;have b3:But x H2 (upd H2 x (.ins C e (aU "spans" (.ref v) (kfs pl sa G)))):=fun a o U h=>by rw[aj U];exact h
  have B3:But x H (upd H2 x (.ins C e (aU "spans" (.ref v) (kfs pl sa G)))):=fun a o U h=>b3 _ _ U (X _ _ (b2 _ _ U h))
  have x3:upd H2 x (.ins C e (aU "spans" (.ref v) (kfs pl sa G))) x=some (.ins C e (kfs pl v G)):=ad;have M:=rK b3 x2 (aR.mv X);have F:=sk b3 x2 aH;have aK:=(bb.mono (fun _ _ z=>X.tup z)).mono (fun _ _ z=>gJ b3 x2 z)
  have bw:=gJ b3 x2 (X.tup a8);have bo:=gJ b3 x2 (X.tup a9);have e8:Sp8 (wb I J 0 0 m.1 m.2 L.sp):=Kh hR (by decide) ar h8
  walk_at"g";generalize upd H2 x (.ins C e (aU "spans" (.ref v) (kfs pl sa G)))=H3 at*;have bz:lI K C H3 x e I J ⟨wb I J 0 0 m.1 m.2 L.sp,L.ft⟩:=⟨⟨pl,v,G,x3,M,F,aK⟩,e8⟩;walk_at"n";refine⟨fun Z' d=>aG (∃y,Z'=[some (.ref x),some (.ref t),some (.ref g),y]/\aG (But x H d)/\lI K C d x e I J (vG I J r st (gs.take (j+1)))),?_,fun Z' d h=>h.out⟩
  walk_at"g";rw[a'];refine bI (fun R=> ?_) (fun R=> ?_)
  .have m16:m.1=16:=(Be m.1 ao).mp R;obtain⟨a,b,Y,T,_⟩:=hv.acc (bh m16);walk_at"g";refine⟨(fun z=>by rw[T] at z;exact absurd (show(2:Nat)=0 from z.1) (by decide)),fun p hp=> ?_⟩
   have ab:ik (aB r.1 r.2) (some 2) none=([b,Y]:List Int).map V.int:=by rw[T];rfl
   rw[ab];have s4:=af hp (.tup (([b,Y]:List Int).map V.int));have p4:SqT K (upd H3 p (.tup (([b,Y]:List Int).map V.int))) p (([b,Y]:List Int).map V.int):=SqT.of ad;generalize upd H3 p (.tup (([b,Y]:List Int).map V.int))=H4 at*;have x4:=s4 _ _ x3;walk_at"g";have N:But x H4 (upd H4 x (.ins C e (aU "fitted" (.ref p) (kfs pl v G)))):=fun a o U h=>by rw[aj U];exact h
   refine aG.mk ⟨_,rfl,⟨fun a o U h=>N _ _ U (s4 _ _ (B3 _ _ U h))⟩,⟨⟨pl,v,.ref p,?_,rK N x4 (M.mv s4),sk N x4 (F.same s4),?_⟩,e8⟩⟩
   .rw[ad]
    rfl
   .unfold rR;rw[ME m16];have eb:bnO r=(b,Y):=by unfold bnO;rw[T];rfl
    rw[eb];exact⟨p,rfl,gJ N x4 p4⟩
  .have m16:¬m.1=16:=fun z=>R ((Be m.1 ao).mpr z)
   walk_at"n";refine⟨fun Z' d=>aG (∃y,Z'=[some (.ref x),some (.ref t),some (.ref g),y]/\aG (But x H d)/\lI K C d x e I J (rR I J r L m)),?_,fun Z' d h=>h⟩
   walk_at"g";refine Kp (fun O=> ?_) (fun O=> ?_)
   .have O:lu m L.ft=true:=O;walk_at"g";have N:But x H3 (upd H3 x (.ins C e (aU "fitted" .non (kfs pl v G)))):=fun a o U h=>by rw[aj U];exact h
    refine aG.mk ⟨_,rfl,⟨fun a o U h=>N _ _ U (B3 _ _ U h)⟩,⟨⟨pl,v,.non,?_,rK N x3 M,sk N x3 F,?_⟩,e8⟩⟩
    .rw[ad]
     rfl
    .unfold rR;rw[mC m16,ME O]
     rfl
   .have O:¬lu m L.ft=true:=by rw[show lu m L.ft=false from O];decide
    refine aG.mk ⟨_,rfl,⟨B3⟩,⟨⟨pl,v,G,x3,M,F,?_⟩,e8⟩⟩
    unfold rR;rw[mC m16,mC O];exact aK
 .rintro Z d ⟨y,rfl,⟨b2⟩,hk2⟩
  rw[fI,hi.len,ML] at hk2;walk_at"g";exact q _ b2 hk2
theorem lI.b3{K:Frag}{C a:Addr}{H U:Hp}{x n i b y d:Addr}{e:List Addr}{is:List Ins}{bs:List Nat}{rk:Nat}{rb:Int}{s:Kn}(l:aZ K C H x n i b e is bs)(p:B3 x i b H U)(ne:y≠x)(h:lI K a H y d rk rb s):lI K a U y d rk rb s:=by
 obtain⟨⟨pl,sa,m,o,J,f,j⟩,g⟩:=h;have c:∀t I,H t=some (.tup I)->U t=some (.tup I):=fun t I h=>p _ _ (eC h l.at_ (by intro z;cases z)) (eC h l.li (by intro z;cases z)) (eC h l.lb (by intro z;cases z)) h
 exact⟨⟨pl,sa,m,p _ _ ne (eC o l.li (by intro z;cases z)) (eC o l.lb (by intro z;cases z)) o,⟨c _ _ J.at_,J.room,J.ms⟩,f.keep (fun _ _ z=>p.tup l z) c,j.mono (fun _ _ z=>p.tup l z)⟩,g⟩
theorem aZ.buty{K:Frag}{C a:Addr}{H J:Hp}{x U i b y c:Addr}{I:List Addr}{is:List Ins}{bs:List Nat}{fs:List (Str × V)}(p:But y H J)(o:H y=some (.ins a c fs))(ne:x≠y)(l:aZ K C H x U i b I is bs):aZ K C J x U i b I is bs:=
 ⟨p _ _ ne l.at_,p _ _ (eC l.li o (by intro z;cases z)) l.li,p _ _ (eC l.lb o (by intro z;cases z)) l.lb,l.ib,l.ow.mono fun _ _ z=>gJ p o z,l.va⟩
def JJ(K:Frag)(C:Addr):Sp:=fun a H Q _=>∃(blk rm:Addr) (bk:List Ins) (I:Nat) (o:Int),a=[.ref blk,.ref rm]/\GBk K H blk bk/\(∀U∈bk,VI U/\U.1≠16)/\bk.length<=30/\SqT K H rm [.int I,.int o]/\SpM.Room I o/\
 ∀(x c i b:Addr) (d:List Addr) (J:Hp),ax H J->H x=none->H i=none->H b=none->aZ K C J x c i b d (thB I o bk).1.1 (thB I o bk).1.2->Q (.ref x) J
theorem tW{C U:Addr}(B:Bi mg)(bj:cA K mg "LaidBlock" C)(iR:cA K mg "Known" U)(D:nw K mg)(bX:bC P w K mg base 1 C "__init__" dj (zg K C))(gT:bC P w K mg base 3 U "__init__" CK (DW K U))
  (d3:bC P w K mg base 3 U "thin_group" bR (Jq K U)) (jM:bC P w K mg base 3 U "forget" dj (AX K U)) (fE:bC P w K mg base 9 U "learn_group" Bv (Jr K U)) (bo:bC P w K mg base 1 C "is_at_bundle" dj (FR K C))
  (bD:bC P w K mg base 2 C "has_space" nq (zh K C)) (br:bC P w K mg base 3 C "fill_bundle" dj (De K C)) (bz:bC P w K mg base 3 C "take_group" nq (zk K C)):
  Has P w K mg base 10 "thinned_block" Cu (JJ K C):=by
 refine D.has dM (fun vs H Q E h=> ?_) (fun f cF A bt s H vs Q E n h=> ?_)
 .obtain⟨blk,rm,bk,I,J,rfl,_⟩:=h
  rfl
 obtain⟨blk,rm,bk,I,J,rfl,gb,bE,cm,bw,hR,q⟩:=h;obtain⟨ts,ba,N⟩:=id gb
 refine⟨_,(ac (psS 2 dM.nd (yH bj (bX.mono (by omega)) n (by rfl)))
   (ac (psS 3 dM.nd (oP iR (gT.mono (by omega)) n (by rfl) (pa1 (pv 1))))
   (ac (fg M7 (by rfl) (dY (oR (pv 0))) (aD (i:=4) dM.nd (by rfl) (by left;rfl)) (ac (aW (cy (ay (ip (eL (bB (bD.mono (by omega)) n (pv 2) (pa1 (bB (d3.mono (by omega)) n (pv 3) (pa1 (pv 4))))))) (ae (bL (iG (br.mono (by omega)) n (pv 2)))) am)))
   (ac (aW (cy (ay (eL (iG (bo.mono (by omega)) n (pv 2))) (ae (bL (iG (jM.mono (by omega)) n (pv 3)))) am)))
   (ac (psS 5 dM.nd (bB (d3.mono (by omega)) n (pv 3) (pa1 (pv 4))))
   (ac (bL (bB (bz.mono (by omega)) n (pv 2) (pa1 (pv 5))))
   (ae (bL (bB (fE.mono (by omega)) n (pv 3) (pa2 (pv 4) (pv 5))))))))))
   (ae (ai (pv 2)))))),?_⟩
 try dsimp only[aT]
 walk_at"g";intro x dx hx b0 cc;refine⟨H,x,dx,rfl,ad,hx,eR hx (af b0 _),?_⟩
 intro H1 i b hi hb s1 l1;refine⟨rfl,?_⟩
 have S:=s1.tup bw;walk_at"g";intro y R hy a7 b9;refine⟨H1,y,R,rm,I,J,rfl,ad,hy,eR hy (af a7 _),(eR hy (af a7 _)).tup S,hR,?_⟩
 intro H2 s2 k2;refine⟨rfl,?_⟩
 have l2:=l1.same s2;have L:x≠y:=ak l1.at_ hy;have bb:H y=none:=s1.free hy;have O:=s1.trans s2;have a8:=O.tup ba;clear l1 s2 s1 S;walk_at"g"
 refine⟨vX (xs:=ts.map V.ref) (fun j Z H'=>aG (∃u v js,Z=[some (.ref blk),some (.ref rm),some (.ref x),some (.ref y),u,v]/\ax H H'/\aZ K C H' x dx i b js (thB I J (bk.take j)).1.1 (thB I J (bk.take j)).1.2/\lI K U H' y R I J (thB I J (bk.take j)).2))
  (aG.mk ⟨none,none,[],rfl,O,by simpa [thB] using l2,by simpa [thB] using k2⟩) ?_ ?_ ?_⟩
 .rintro j Z H' _ ⟨u,v,js,rfl,s2,_⟩
  exact s2.tup ba
 .clear l2 k2 O a8;clear H2;rintro j u0 Z H2 hj ⟨u,v,js,rfl,O,l2,k2⟩
  obtain⟨t,et,rfl⟩:=cV hj;obtain⟨m,ek,ht⟩:=N.get et;have cq:j<bk.length:=(gV.mp ek).1;obtain⟨aH,b1⟩:=bE m (MD ek);have a6:=rD I J bk j (by lia)
  have cj:=zv I J bk j (by lia)
  have aK:=pB (rk:=I) (rb:=J) ek;have cb:(thB I J (bk.take j)).1.1.length<=200:=by
   have:=Dx (thB I J (bk.take j)).1.1
   split at a6 <;> lia
  clear a6;generalize thB I J (bk.take j)=st at*;have bH:=O.tup ht;have a':=l2.at_;obtain⟨ao,ab,Y,bM⟩:∃pl sa X,H2 y=some (.ins U R (kfs pl sa X)):=let ⟨p,s,f,z,_⟩:=k2.ex;⟨p,s,f,z⟩
  walk_at"g";refine⟨fun Z' G=>aG (Z'=[some (.ref blk),some (.ref rm),some (.ref x),some (.ref y),some (.ref t),v]/\ax H G/\(∃ar,aZ K C G x dx i b ar (dk st.1.1 (thG I J st.2 m)) st.1.2)/\lI K U G y R I J st.2),?_,?_⟩
  .walk_at"g";intro g us H3 s3 cH b4;have bW:=yN (rk:=I) (rb:=J) (s:=st.2) aH;have bx:=Eb I J st.2 m;generalize thG I J st.2 m=gs at*;have l3:=l2.same s3;have b':=l3.at_;have b6:gs.length<=100:=by lia
   walk_at"g";intro G s4;have l4:=l3.same s4;have T:=l4.at_;have k4:=k2.same (s3.trans s4);walk_at"g"
   by_cases c:lnW st.1.1 %8+lnW gs<=8
   .rw[MO c];walk_at"g";refine aG.mk ⟨rfl,(O.trans s3).trans s4,⟨js,?_⟩,k4⟩
    unfold dk;rw[ME c];exact l4
   .rw[MG c];have b8:st.1.1.length<=900:=by lia
    walk_at"g";intro H5 ar p5 l5;refine aG.mk ⟨rfl,B3.same ((O.trans s3).trans s4) hx hi hb p5,⟨ar,?_⟩,k4.b3 l4 p5 (Nb L)⟩
    unfold dk;rw[mC c];exact l5
  clear l2 k2 O bH bM a';clear H2;rintro Z4 G ⟨rfl,S4,⟨bh,l4⟩,k4⟩
  have cR:=Iu st.1.1 (thG I J st.2 m);have r:∀d,d=dk st.1.1 (thG I J st.2 m)->thB I J (bk.take (j+1))=((d++thG I J (knB d st.2) m,st.1.2++[lnW d]),vG I J m (knB d st.2) (thG I J (knB d st.2) m)):=fun d e=>by rw[aK,e];rfl
  generalize cM:dk st.1.1 (thG I J st.2 m)=d at*;have r:=r d rfl;clear aK;have T:=l4.at_;obtain⟨ao,ab,Y,F⟩:∃pl sa X,G y=some (.ins U R (kfs pl sa X)):=let ⟨p,s,f,z,_⟩:=k4.ex;⟨p,s,f,z⟩
  walk_at"g";refine⟨fun Z' H5=>aG (Z'=[some (.ref blk),some (.ref rm),some (.ref x),some (.ref y),some (.ref t),v]/\ax H H5/\aZ K C H5 x dx i b bh d st.1.2/\lI K U H5 y R I J (knB d st.2)),?_,?_⟩
  .walk_at"g"
   by_cases c:lnW d %8=0
   .rw[MO c];walk_at"g";intro H5 b5 k5;refine aG.mk ⟨rfl,fun a o h=>b5 _ _ (ak h bb) (S4 _ _ h),l4.buty b5 F L,?_⟩
    unfold knB;rw[ME c];exact k5
   .rw[MG c];walk_at"g";refine aG.mk ⟨rfl,S4,l4,?_⟩
    unfold knB;rw[mC c];exact k4
  clear l4 k4 S4 T F;clear G;rintro Z4 G ⟨rfl,S4,l4,k4⟩
  have bV:=S4.tup ht;obtain⟨ao,ab,Y,F⟩:∃pl sa X,G y=some (.ins U R (kfs pl sa X)):=let ⟨p,s,f,z,_⟩:=k4.ex;⟨p,s,f,z⟩
  generalize knB d st.2=ks at*;walk_at"g";intro g us H5 s5 a9 M;have bW:=yN (rk:=I) (rb:=J) (s:=ks) aH;have bx:=Eb I J ks m;have cD:=IW (rk:=I) (rb:=J) (s:=ks) b1;generalize thG I J ks m=gs at*;have l5:=l4.same s5;have aR:=l5.at_;have k5:=k4.same s5;have S5:=S4.trans s5;have cp:d.length+gs.length<=1000:=by lia
  have cL:st.1.2.length<1000:=by lia
  clear l4 k4 bV F S4 s5;walk_at"g";intro H6 p6 l6;have S6:=B3.same S5 hx hi hb p6;have k6:=k5.b3 l5 p6 (Nb L);have ct:=S6.tup ht;have cv:=p6.tup l5 a9;have b2:=M.b3 l5 p6;obtain⟨ao,ab,Y,bu⟩:∃pl sa X,H6 y=some (.ins U R (kfs pl sa X)):=let ⟨p,s,f,z,_⟩:=k6.ex;⟨p,s,f,z⟩
  have cz:gs.length<=10:=by lia
  clear l5 k5 a9 M S5 aR;walk_at"g";intro H7 b7 k7;refine aG.mk ⟨_,_,bh++us,rfl,fun a o h=>b7 _ _ (ak h bb) (S6 _ _ h),?_,?_⟩
  .rw[r];exact l6.buty b7 bu L
  .rw[r];exact k7
 .rintro Z H' ⟨u,v,js,rfl,s2,l2,_⟩
  rw[fI,N.len,ML] at l2;walk_at"g";exact q x dx i b js H' s2 hx hi hb l2
noncomputable def thD(rk:Nat)(rb:Int)(bk:List Ins):Bk:=(thB rk rb bk).1
def F4(K:Frag)(e:Addr):Sp:=fun d H Q E=>∃(U rm:Addr) (I:List Addr) (o:List (List Ins)) (J:Nat) (a b:Int) (M:Nat),d=[.ref U,.ref rm,.int b]/\SqT K H U (I.map V.ref)/\GSt K H I o/\SqT K H rm [.int J,.int a]/\
 GuB o/\(∀bk∈o, ∀c∈bk,c.1≠16)/\SpM.Room J a/\qu M (o.map (thD J a))/\
 ∀m s,nz o.length m->nz M s->(7<m+s->∀C,ax H C->E (.ref e) none C)/\(m+s<=7->∀r C,ax H C->xj H C r (o.map (thD J a)) J a b m s->Q (.ref r) C)
theorem ID{C CT:Addr}(B:Bi mg)(D:GG K mg)(i7:Has P w K mg base 10 "thinned_block" Cu (JJ K C))(cL:vM P w K mg base 8 "code_of_blocks" yA (Ds K C CT)):
  vM P w K mg base 11 "thin" uw (F4 K CT):=by
 refine D.hasX Ik (fun vs H Q E h=> ?_) (fun f a' A X s H vs Q E hr h=> ?_)
 .obtain⟨T,rm,y,n,I,J,gt,M,rfl,_⟩:=h
  rfl
 obtain⟨T,rm,y,n,I,J,gt,M,rfl,hg,c,N,S,ab,hR,hM,q⟩:=h;have a7:=S.n16;refine⟨_,(ae (ai (CC (cL.mono (by omega)) hr (by rfl) we (pa3 (PE.nox (ko (by rfl) (by rfl) (by rfl) (bk (sc0:=ah zb) (N0:=["guest","room","gates"]) ["block","room"] 1 [1]) (oR (pv 0)) (fun _ _ _ _=>(aD (i:=0) (show List.Nodup (["block","room"]:List Str) by decide) (by rfl) (by left;rfl))) (fun _ _ _ _=>(pcH i7 hr (pa2 (pv 0) (pv 1)))))) (pv 1) (pv 2))))),?_⟩
 try dsimp only[Kc]
 walk_at"g";intro p hp;refine sG (xs:=y.map V.ref) (fun j G g=>aG (ax H g)/\∃U,g p=some (.lst G)/\G=U.map V.ref/\Lds K C (del p g) U ((n.take j).map (thD I J))) ⟨⟨af hp _⟩,[],ad,rfl,rfl,fun j x d e=>by simp at e⟩ ?_ ?_ ?_
 .rintro j G g ⟨⟨s1⟩,_⟩
  exact s1.tup hg
 .rintro j u G g F hF hj ⟨⟨s1⟩,U,hp1,rfl,lds⟩
  obtain⟨b,eb,rfl⟩:=cV hj;have a8:j<y.length:=(gV.mp eb).1;obtain⟨bk,R⟩:∃bk,n[j]? =some bk:=⟨_,be (by have:=c.1;lia)⟩
  have aR:=(c.2 j b bk eb R).same s1;obtain⟨hv,a6⟩:=S.va bk (MD R);have ba:∀L∈bk,VI L/\L.1≠16:=fun L hk=>⟨hv L hk,ab bk (MD R) L hk⟩
  have ar:=s1.tup N;have Z:U.length=j:=by
   rw[lds.1,fI,M0];have:=c.1
   lia
  have hz:(U.map V.ref).length<sizeLine:=by
   rw[fI,Z];exact MJ (show j<100 by have:=c.1;lia) (by decide)
  walk_at"g";intro x dx i b' js H2 v hx hi hb l;have Y:=v _ _ hp1;walk_at"g";refine hF _ _ ⟨⟨eR hp (s1.trans v)⟩,U++[x],ad,by rw[MH];rfl,?_⟩
  have sd:ax (del p g) (del p (upd H2 p (.lst (U.map V.ref++[V.ref x])))):=fun a o h=>by
   unfold del at*
   by_cases z:a=p
   .rw[ME z] at h;cases h
   .rw[mC z] at h ⊢;rw[aj z];exact v _ _ h
  have l2:aZ K C (del p (upd H2 p (.lst (U.map V.ref++[V.ref x])))) x dx i b' js (thD I J bk).1 (thD I J bk).2:=by
   rw[Ek];exact l.del Y (Nb (ak hp1 hi)) (Nb (ak hp1 hb))
  rw[fO R,MH];exact(lds.same sd).snoc l2
 .rintro G H1 ⟨⟨s1⟩,U,hp1,rfl,lds⟩
  rw[fI,c.1,ML] at lds;have ao:=lds.same (B_ (H:=H1) (p:=p));have hq:SqL K H1 p (U.map V.ref):=SqL.of hp1;have aK:=s1.tup N;have O:(n.map (thD I J)).length=n.length:=by rw[fI]
  have bb:0<(n.map (thD I J)).length:=by rw[O];exact S.n0
  have aH:(n.map (thD I J)).length<=16:=by lia
  have a9:∀d∈n.map (thD I J),lnW d.1<=300/\d.2.length<=30:=fun d hd=>by
   obtain⟨bk,h1,rfl⟩:=Nn.mp hd;have h2:=(S.va bk h1).2;have h3:=KI I J bk;have h4:=zv I J bk bk.length (MC _);rw[ML] at h4;show lnW (thB I J bk).1.1<=300/\(thB I J bk).1.2.length<=30
   lia
  walk_at"g";intro m sx hm hs;rw[O] at hm;obtain⟨q1,q2⟩:=q m sx hm hs;refine⟨fun z g v=>q1 z g (s1.trans v),fun z r g v ca=>q2 z r g (s1.trans v) ?_⟩
  obtain⟨a1,a2,a3,c1,c2,c3,c4,f1,f2,f3,f4⟩:=ca;exact⟨a1,a2,a3,c1,c2,c3,c4,s1.free f1,s1.free f2,s1.free f3,s1.free f4⟩
theorem vQ{gl:Nat}{p:Int × Int}{st:PSt}:(du gl p st).2.h=st.h:=by
 unfold du
 split <;> rfl
theorem zc{x:Fx}{gs:List (List (Nat × List Int))}:∀(n:Nat) (st:PSt),(aX x gs n st).2.tr.length<=st.tr.length+n
 | 0,st=>MC _
 | n+1,st=>by
  unfold aX
  split
  .show st.tr.length<=_;lia
  .rename_i k ns _
   have o:=lG (x:=x) (gl:=gs.length) (k:=k) (ns:=ns) (st:={st with tr:=st.tr++[(st.b,st.i)]})
   split
   .rename_i e st' es
    rw[es] at o;have C:st'.tr=st.tr++[(st.b,st.i)]:=o;show st'.tr.length<=_
    rw[C,MA]
    simp only[MU,Nl]
    lia
   .rename_i st' es
    rw[es] at o;have C:st'.tr=st.tr++[(st.b,st.i)]:=o;have:=zc n st' (x:=x) (gs:=gs);rw[C,MA] at this
    simp only[MU,Nl] at this
    lia
structure XOk (x:Fx):Prop where
 room:SpM.Room x.pk x.pb
 rep:∀y∈x.reps,y.1.length=7/\(∀v∈y.1,0<=v/\v<4294967296)/\b_ y.2
theorem Fr{x:Fx}{nb k:Nat}{ns:List Int}{st:HSt}(j:XOk x)(p:nb<=8)(o:BxN nb st.bx)(hm:b_ st.kvs)(d:aI nb 262144 k ns)(k0:k≠0)(u:¬(k=13\/k=14\/k=15))(f:k≠17):BxN nb (bA x k ns st).2.bx/\b_ (bA x k ns st).2.kvs:=by
 have i:=d.lt;unfold bA
 split
 .split
  .exact⟨o,hm⟩
  .split
   .exact⟨o,hm⟩
   .rename_i bs ws e
    obtain⟨C,q,s⟩:=j.rep _ (MD e);refine⟨?_,yU hm s⟩
    show BxN nb (bs.take st.bx.length++st.bx.drop 7)
    rw[o.len];exact wB o p C q
 split
 .rename_i k18 k11
  obtain⟨a,b,c,rfl,a0,a1,_⟩:∃a b n,ns=[a,b,n]/\0<=a/\a<(nb:Int)/\0<=b/\b<(nb:Int)/\ -131072<=n/\n<131072:=by
   rcases d with⟨rfl,rfl⟩|⟨rfl,x,v,rfl,I,J,v0,v1⟩|⟨m,r,x,y,z,rfl,I,J,U,C,z0,z1⟩|⟨m,r,x,y,z,rfl,I,J,U,C,z0,z1⟩|⟨i,z,rfl,z0,z1⟩|⟨rfl,x,z,rfl,I,J,z0,z1⟩|⟨rfl,y,rfl,U,C⟩|⟨i,x,y,rfl,I,J,U,C⟩
   all_goals first | lia | exact⟨x,y,z,rfl,I,J,U,C,z0,z1⟩
  split
  .split
   .obtain⟨_,g2,g3⟩:=hm.get (bq [a,b,c] st.bx);exact⟨o.set g2 g3,hm⟩
   .obtain⟨_,g2,g3⟩:=o.at a0 a1;exact⟨o,hm.put g2 g3⟩
  .exact⟨o,hm⟩
 .rename_i k18 k11
  have g:makes k:=by unfold makes;lia
  obtain⟨v0,v1⟩:=wT d g o j.room (fun e=>absurd e f) (pm:=x.pm) (ps:=x.ps)
  exact⟨o.set v0 v1,hm⟩
structure PIn (nb:Nat) (gs:List (List (Nat × List Int))) (st:PSt):Prop where
 pl:u_ gs st
 bx:BxN nb st.h.bx
 mem:b_ st.h.kvs
theorem H_{gs:List (List (Nat × List Int))}{b i:Int}{k:Nat}{ns:List Int}(h:rY gs b i=some (k,ns)):∃blk∈gs,(k,ns)∈blk:=by
 unfold rY at h
 cases e:gs[b.toNat]? with
 | none=>rw[e] at h;cases h
 | some blk=>
  rw[e] at h;exact⟨blk,MD e,MD (show blk[i.toNat]? =some (k,ns) from h)⟩
theorem tJ{x:Fx}{nb k:Nat}{gs:List (List (Nat × List Int))}{ns:List Int}{st:PSt}(g:XOk x)(f:nb<=8)(a:yX nb gs)(h:PIn nb gs st)(J:rY gs st.b st.i=some (k,ns))(d:(bn x gs.length k ns st).1=none):PIn nb gs (bn x gs.length k ns st).2:=by
 refine⟨BZ a h.pl J h.bx d,?_,?_⟩
 all_goals
  obtain⟨blk,c,I⟩:=H_ J;obtain⟨U,_,C⟩:=a.val blk c _ I;dsimp only at U C;unfold bn
  split
  .first | exact h.bx | exact h.mem
  rename_i k0
  split
  .rw[vQ]
   first | exact h.bx | exact h.mem
  rename_i j
  have o:=Fr (k:=k) (ns:=ns) g f h.bx h.mem U k0 j C
  split
  .rename_i h' e
   rw[vQ];rw[e] at o
   first | exact o.1 | exact o.2
  .rename_i e' h' e
   rw[e] at o
   first | exact o.1 | exact o.2
theorem GQ{x:Fx}{k:Nat}{ns:List Int}{st:HSt}{e:Str × List Int}(h:(bA x k ns st).1=some e):e.1≠"spent"/\PyData.strOk e.1=true:=by
 unfold bA at h
 split at h
 .split at h
  .cases h;exact⟨by decide,by decide +kernel⟩
  .split at h
   .cases h;exact⟨(by decide:("asks":Str)≠"spent"),(by decide +kernel:PyData.strOk ("asks":Str)=true)⟩
   .cases h
 split at h
 .split at h
  .split at h <;> cases h
  .cases h;exact⟨(by decide:("beyond":Str)≠"spent"),(by decide +kernel:PyData.strOk ("beyond":Str)=true)⟩
 .cases h
theorem wu{x:Fx}{gl k:Nat}{ns:List Int}{st:PSt}{e:Str × List Int}(h:(bn x gl k ns st).1=some e):e.1≠"spent"/\PyData.strOk e.1=true:=by
 unfold bn at h
 split at h
 .cases h;exact⟨by decide,by decide +kernel⟩
 split at h
 .unfold du at h
  split at h
  .cases h;exact⟨by decide,by decide +kernel⟩
  .cases h
 .split at h
  .unfold du at h
   split at h
   .cases h;exact⟨by decide,by decide +kernel⟩
   .cases h
  .rename_i e' h' es
   have:=GQ (x:=x) (k:=k) (ns:=ns) (st:=st.h) (e:=e') (by rw[es])
   have o:=MR h;rw[<- o]
   split
   .exact⟨by decide,by decide +kernel⟩
   .exact this
theorem wS{x:Fx}{gs:List (List (Nat × List Int))}:∀(n:Nat) (st:PSt),PyData.strOk (aX x gs n st).1.1=true
 | 0,st=>(by decide +kernel:PyData.strOk ("spent":Str)=true)
 | n+1,st=>by
  unfold aX
  split
  .exact(by decide +kernel:PyData.strOk ("spent":Str)=true)
  .rename_i k ns _
   split
   .rename_i e st' es
    exact(wu (x:=x) (gl:=gs.length) (k:=k) (ns:=ns) (by rw[es])).2
   .exact wS n _
theorem pI{x:Fx}{gs:List (List (Nat × List Int))}{n:Nat}{st:PSt}{k:Nat}{ns:List Int}(o:rY gs st.b st.i=some (k,ns)):aX x gs (n+1) st=match bn x gs.length k ns {st with tr:=st.tr++[(st.b,st.i)]} with | (some e,st')=>(e,st') | (none,st')=>aX x gs n st':=by
 conv=>lhs;unfold aX
 rw[o]
 all_goals rfl
theorem iW{x:Fx}{nb:Nat}{gs:List (List (Nat × List Int))}(d:XOk x)(c:nb<=8)(a:yX nb gs):∀(n:Nat) (st:PSt),PIn nb gs st->∀m,n<=m->
  ((aX x gs n st).1.1≠"spent"/\aX x gs m st=aX x gs n st/\(aX x gs n st).2.tr.length<=st.tr.length+n)\/
  ((aX x gs n st).1=(("spent":Str),([]:List Int))/\(aX x gs n st).2.tr.length=st.tr.length+n/\PIn nb gs (aX x gs n st).2/\aX x gs m st=aX x gs (m - n) (aX x gs n st).2)
 | 0,st,h,m,_=> .inr ⟨rfl,rfl,h,rfl⟩
 | n+1,st,h,m,hm=>by
  obtain⟨⟨k,o⟩,U⟩:=h.pl.at_;obtain⟨I,rfl⟩:∃I,m=I+1:=⟨m - 1,by lia⟩
  have f:PIn nb gs {st with tr:=st.tr++[(st.b,st.i)]}:=⟨⟨h.pl.b0,h.pl.i0,h.pl.at_⟩,h.bx,h.mem⟩
  have J:=tJ (k:=k) (ns:=o) d c a f U;have C:=lG (x:=x) (gl:=gs.length) (k:=k) (ns:=o) (st:={st with tr:=st.tr++[(st.b,st.i)]})
  have ne:=fun e=>wu (x:=x) (gl:=gs.length) (k:=k) (ns:=o) (st:={st with tr:=st.tr++[(st.b,st.i)]}) (e:=e)
  rw[pI U,pI U]
  cases hs:bn x gs.length k o {st with tr:=st.tr++[(st.b,st.i)]} with
  | mk e1 st'=>
   rw[hs] at J C ne;have g:st'.tr.length=st.tr.length+1:=by
    have e:st'.tr=st.tr++[(st.b,st.i)]:=C;rw[e,MA]
    rfl
   cases e1 with
   | some e=>
    refine .inl ⟨(ne e rfl).1,rfl,?_⟩
    show st'.tr.length<=_
    lia
   | none=>
    have j:I+1 - (n+1)=I - n:=by lia
    rw[j];rcases iW d c a n st' (J rfl) I (by lia) with⟨a1,a2,a3⟩|⟨a1,a2,a3,a4⟩
    .exact .inl ⟨a1,a2,MV a3 (by lia)⟩
    .exact .inr ⟨a1,a2.trans (by lia),a3,a4⟩
theorem Dl{x:Fx}{k:Nat}{ns:List Int}{st:HSt}:∃t,(bA x k ns st).2.rows=st.rows++t:=by
 unfold bA
 split
 .split
  .exact⟨[],(MS _).symm⟩
  .split
   .exact⟨_,rfl⟩
   .exact⟨_,rfl⟩
 split
 .split
  .split
   .exact⟨[],(MS _).symm⟩
   .exact⟨[],(MS _).symm⟩
  .exact⟨[],(MS _).symm⟩
 .exact⟨[],(MS _).symm⟩
theorem Df{x:Fx}{gl k:Nat}{ns:List Int}{st:PSt}:∃t,(bn x gl k ns st).2.h.rows=st.h.rows++t:=by
 have o:=Dl (x:=x) (k:=k) (ns:=ns) (st:=st.h);unfold bn
 split
 .exact⟨[],(MS _).symm⟩
 split
 .rw[vQ];exact⟨[],(MS _).symm⟩
 .split
  .rename_i h' e
   rw[vQ];rw[e] at o;exact o
  .rename_i e' h' e
   rw[e] at o;exact o
theorem sK{x:Fx}{gs:List (List (Nat × List Int))}:∀(n:Nat) (st:PSt),(∃t,(aX x gs n st).2.tr=st.tr++t)/\∃t,(aX x gs n st).2.h.rows=st.h.rows++t
 | 0,st=>⟨⟨[],(MS _).symm⟩,[],(MS _).symm⟩
 | n+1,st=>by
  unfold aX
  split
  .exact⟨⟨[],(MS _).symm⟩,[],(MS _).symm⟩
  .rename_i k ns _
   have C:=lG (x:=x) (gl:=gs.length) (k:=k) (ns:=ns) (st:={st with tr:=st.tr++[(st.b,st.i)]})
   have o:=Df (x:=x) (gl:=gs.length) (k:=k) (ns:=ns) (st:={st with tr:=st.tr++[(st.b,st.i)]})
   split
   .rename_i e st' es
    rw[es] at C o;exact⟨⟨_,C⟩,o⟩
   .rename_i st' es
    rw[es] at C o;obtain⟨⟨a,c⟩,U,J⟩:=sK n st' (x:=x) (gs:=gs);obtain⟨I,d⟩:=o;refine⟨⟨[(st.b,st.i)]++a,?_⟩,I++U,?_⟩
    .rw[c, <-M4]
     congr 1
    .rw[J, <-M4]
     congr 1
theorem zu{x:Fx}{nb:Nat}{gs:List (List (Nat × List Int))}{n:Nat}{st:PSt}(h:PIn nb gs st):(aX x gs (n+1) st).2.tr[st.tr.length]? =some (st.b,st.i):=by
 obtain⟨⟨k,C⟩,I⟩:=h.pl.at_;have o:=lG (x:=x) (gl:=gs.length) (k:=k) (ns:=C) (st:={st with tr:=st.tr++[(st.b,st.i)]})
 rw[pI I]
 cases hs:bn x gs.length k C {st with tr:=st.tr++[(st.b,st.i)]} with
 | mk e1 st'=>
  rw[hs] at o;have e:st'.tr=st.tr++[(st.b,st.i)]:=o
  cases e1 with
  | some ee=>
   show st'.tr[st.tr.length]? =_
   rw[e,MT (MC _),NO]
   rfl
  | none=>
   obtain⟨⟨t,J⟩,_⟩:=sK n st' (x:=x) (gs:=gs);show(aX x gs n st').2.tr[st.tr.length]? =_
   rw[J,e,M4,MT (MC _),NO]
   rfl
structure Mj (R C:(Str × List Int) × PSt) (most cut:Nat):Prop where
 len:R.2.tr.length<=most
 spent:R.1.1="spent"->R.1=(("spent":Str),([]:List Int))/\R.2.tr.length=most
 tr:C.2.tr=R.2.tr.take cut
 rows:C.2.h.rows=R.2.h.rows.take C.2.h.rows.length
 whole:R.2.tr.length<=cut->C=R
 part:cut<R.2.tr.length->C.1=(("spent":Str),([]:List Int))/\R.2.tr[cut]? =some (C.2.b,C.2.i)
theorem Mn{x:Fx}{nb:Nat}{gs:List (List (Nat × List Int))}(c:XOk x)(b:nb<=8)(a:yX nb gs){st:PSt}(h:PIn nb gs st)(f:st.tr=[]){o C:Nat}(d:C<=o):Mj (aX x gs o st) (aX x gs C st) o C:=by
 have U:st.tr.length=0:=by rw[f];rfl
 have len:=zc (x:=x) (gs:=gs) o st;rw[U,Ny] at len;have J:=zc (x:=x) (gs:=gs) C st;rw[U,Ny] at J;refine⟨len,fun e=> ?_,?_,?_,fun e=> ?_,fun e=> ?_⟩
 .rcases iW c b a o st h o (MC _) with⟨a1,_,_⟩|⟨a1,a2,_,_⟩
  .exact absurd e a1
  .exact⟨a1,by rw[a2,U,Ny]⟩
 .rcases iW c b a C st h o d with⟨_,a2,a3⟩|⟨_,a2,_,a4⟩
  .rw[a2,OB J]
  .obtain⟨⟨t,et⟩,_⟩:=sK (x:=x) (gs:=gs) (o - C) (aX x gs C st).2;rw[a4,et];rw[U,Ny] at a2;exact(PX a2).symm
 .rcases iW c b a C st h o d with⟨_,a2,a3⟩|⟨_,a2,_,a4⟩
  .rw[a2,ML]
  .obtain⟨_,t,et⟩:=sK (x:=x) (gs:=gs) (o - C) (aX x gs C st).2;rw[a4,et];exact(PX rfl).symm
 .rcases iW c b a C st h o d with⟨_,a2,a3⟩|⟨_,a2,a3,a4⟩
  .exact a2.symm
  .rw[U,Ny] at a2;rcases NV (o - C) with z | z
   .rw[a4,z];have:(aX x gs C st).1=(("spent":Str),([]:List Int)):=by assumption
    show aX x gs C st=((("spent":Str),([]:List Int)),(aX x gs C st).2)
    rw[<- this]
   .obtain⟨n,en⟩:∃n,o - C=n+1:=⟨o - C - 1,by lia⟩
    have I:=zu (x:=x) (n:=n) a3;rw[<- en, <-a4,a2] at I;have:=(gV.mp I).1
    lia
 .rcases iW c b a C st h o d with⟨_,a2,a3⟩|⟨a1,a2,a3,a4⟩
  .rw[a2] at e
   lia
  .rw[U,Ny] at a2;refine⟨a1,?_⟩
   rcases NV (o - C) with z | z
   .rw[a4,z] at e;have g:C<(aX x gs C st).2.tr.length:=e
    lia
   .obtain⟨n,en⟩:∃n,o - C=n+1:=⟨o - C - 1,by lia⟩
    have I:=zu (x:=x) (n:=n) a3;rw[<- en, <-a4,a2] at I;exact I
structure GI (nb:Nat) (g:Int) (kn:Ins):Prop where
 v6:aI 6 262144 kn.1 kn.2
 nm:kn.1≠16/\kn.1≠17
 j1:kn.1=13->kn.2.getD 0 0<nb
 j2:kn.1=14->kn.2.getD 1 0<nb
 gt:kn.1=18->kn.2.getD 0 0<g
theorem aI.w8{k:Nat}{ns:List Int}(h:aI 6 262144 k ns):aI 8 262144 k ns:=by
 rcases h with⟨e,rfl⟩|⟨e,x,v,rfl,o,I,v0,v1⟩|⟨J,b,x,y,z,rfl,o,I,C,a,z0,z1⟩|⟨J,b,x,y,z,rfl,o,I,C,a,z0,z1⟩|⟨U,z,rfl,z0,z1⟩|⟨e,x,z,rfl,o,I,z0,z1⟩|⟨e,y,rfl,C,a⟩|⟨U,x,y,rfl,o,I,C,a⟩
 .exact .inl ⟨e,rfl⟩
 .exact .inr (.inl ⟨e,x,v,rfl,o,by lia,v0,v1⟩)
 .exact .inr (.inr (.inl ⟨J,b,x,y,z,rfl,o,by lia,C,by lia,z0,by lia⟩))
 .exact .inr (.inr (.inr (.inl ⟨J,b,x,y,z,rfl,o,by lia,C,by lia,z0,z1⟩)))
 .exact .inr (.inr (.inr (.inr (.inl ⟨U,z,rfl,z0,z1⟩))))
 .exact .inr (.inr (.inr (.inr (.inr (.inl ⟨e,x,z,rfl,o,by lia,z0,z1⟩)))))
 .exact .inr (.inr (.inr (.inr (.inr (.inr (.inl ⟨e,y,rfl,C,by lia⟩))))))
 .exact .inr (.inr (.inr (.inr (.inr (.inr (.inr ⟨U,x,y,rfl,o,by lia,C,by lia⟩))))))
def nP(k:Nat):Prop:=k=0\/k=13\/k=15
structure GuG (g:Int) (gs:List (List Ins)):Prop where
 n0:0<gs.length
 n16:gs.length<=16
 blk:∀bk∈gs,(∀kn∈bk,GI gs.length g kn)/\bk.length<=30/\∃pre kn,bk=pre++[kn]/\nP kn.1
theorem GuG.gub{g:Int}{gs:List (List Ins)}(h:GuG g gs):GuB gs:=⟨h.n0,h.n16,fun bk o=>⟨fun C I=>((h.blk bk o).1 C I).v6.w8,(h.blk bk o).2.1⟩⟩
theorem GuG.ok{g:Int}{gs:List (List Ins)}(h:GuG g gs):yX 6 gs:=by
 refine⟨fun bk o z=> ?_,fun bk o C I=> ?_,fun bk o j C J e=> ?_⟩
 .obtain⟨_,_,pre,C,e,_⟩:=h.blk bk o;rw[e] at z
  simp at z
 .have:=(h.blk bk o).1 C I;exact⟨this.v6,this.nm⟩
 .obtain⟨_,_,pre,kn',e',I⟩:=h.blk bk o;rw[e',MA,Nv] at e;rw[e',MT (by lia),show j - pre.length=0 by lia] at J
  cases J
  exact I
theorem pR{bx:List Int}{a i v:Int}(a0:0<=a)(a1:a.toNat<bx.length)(o:0<=i):bxG (bx.set a.toNat v) i=if i=a then v else bxG bx i:=by
 unfold bxG;rw[MF,List.getElem?_set]
 by_cases e:i=a
 .rw[ME (by lia),ME (by lia),ME e]
  rfl
 .rw[mC (by lia),mC e,MF]
theorem jC{bx:List Int}{i:Int}(h:i<6):bxG (bx.take 6) i=bxG bx i:=by
 unfold bxG;rw[MF,MF,List.getElem?_take,ME (by lia)]
theorem ug{bx:List Int}{v:Int}(h:bx.length=8):(bx.set 6 v).take 6=bx.take 6:=by
 rw[Qr,List.set_eq_of_length_le (by rw[M0];lia)]
theorem IB{bx:List Int}{i:Nat}(h:i<bx.length):bx.set i (bxG bx i)=bx:=by
 unfold bxG;rw[MN,MF,be h];exact List.set_getElem_self h
noncomputable def dH(x:Fx)(ws:List Int)(left:List (List Int × List (Key × V)))(m:MSt):(Str × List Int) × MSt × Int:=cu {x with reps:=left} ws 1 {m with rows:=[]} 0
noncomputable abbrev bF:Str × List Int:=(("spent":Str),([]:List Int))
theorem iO{x:Fx}{ws:List Int}{left:List (List Int × List (Key × V))}{m m':MSt}{k:Nat}{ns:List Int}{y:Nat × List Int}(h:bQ ws m.p=some (k,ns))(hs:cg {x with reps:=left} k ns {m with rows:=[]}=(none,m'))(h':bQ ws m'.p=some y):dH x ws left m=(bF,m',1):=by
 have e:dH x ws left m=match cg {x with reps:=left} k ns {m with rows:=[]} with
   | (some e,st')=>(e,st',0+1)
   | (none,st')=>cu {x with reps:=left} ws 0 st' (0+1):=by
  unfold dH
  conv=>lhs;unfold cu
  show(match bQ ws m.p with | none=>_ | some (k,ns)=>_)=_
  rw[h] <;> rfl
 rw[e,hs];show cu _ ws 0 m' (0+1)=_
 unfold cu;rw[h']
 rfl
theorem BY{x:Fx}{ws:List Int}{left:List (List Int × List (Key × V))}{m m':MSt}{k:Nat}{ns:List Int}{e:Str × List Int}(h:bQ ws m.p=some (k,ns))(hs:cg {x with reps:=left} k ns {m with rows:=[]}=(some e,m')):dH x ws left m=(e,m',1):=by
 have e:dH x ws left m=match cg {x with reps:=left} k ns {m with rows:=[]} with
   | (some e,st')=>(e,st',0+1)
   | (none,st')=>cu {x with reps:=left} ws 0 st' (0+1):=by
  unfold dH
  conv=>lhs;unfold cu
  show(match bQ ws m.p with | none=>_ | some (k,ns)=>_)=_
  rw[h] <;> rfl
 rw[e,hs]
 rfl
inductive Way (x:Fx) (ws:List Int) (NP:Int->Prop):Nat->MSt->MSt->Prop
 | done (m:MSt):Way x ws NP 0 m m
 | step {n:Nat}{m m1 m2:MSt}:NP m.p->(∀left,dH x ws left m=(bF,m1,1))->m1.rows=[]->Way x ws NP n m1 m2->Way x ws NP (n+1) m m2
def GK(o:Option (Int × Int))(kn:Ins)(g:List Ins):Prop:=g=grp kn\/((kn.1=11\/kn.1=12)/\(g=[kn]\/(o=some (kn.2.getD 1 0,kn.2.getD 2 0)/\g=[(kn.1,[kn.2.getD 0 0,6,0])])))
theorem GK.ne{o:Option (Int × Int)}{kn:Ins}{g:List Ins}(h:GK o kn g):∃m r,g=m::r:=by
 rcases h with e | ⟨_,e | ⟨_,e⟩⟩
 .rw[e];unfold grp
  split
  .exact⟨_,_,rfl⟩
  .split
   .split <;> exact⟨_,_,rfl⟩
   .exact⟨_,_,rfl⟩
 .exact⟨_,_,e⟩
 .exact⟨_,_,e⟩
theorem GK.other{I:Option (Int × Int)}{kn:Ins}{g:List Ins}(h:GK I kn g)(o:¬(kn.1=11\/kn.1=12))(C:kn.1≠15):g=[kn]:=by
 rcases h with e | ⟨z,_⟩
 .rw[e];unfold grp;rw[mC C,mC o]
 .exact absurd z o
structure CD (x:Fx) (ws:List Int) (S:Nat) (gs:List (List Ins)) (pos:Nat->Nat->Nat) (ft:Nat->Nat->Option (Int × Int)) (G:Nat->Nat->List Ins):Prop where
 zero:∀b bk,gs[b]? =some bk->pos b 0=b*S/\ft b 0=none
 gk:∀b bk j kn,gs[b]? =some bk->bk[j]? =some kn->GK (ft b j) kn (G b j)/\b*S<=pos b j/\pos b j+lnW (G b j)<=(b+1)*S
 ins:∀b bk j kn,gs[b]? =some bk->bk[j]? =some kn->∀i m,(G b j)[i]? =some m->bQ ws ((pos b j+lnW ((G b j).take i):Nat):Int)=some (plc S m)
 nx:∀b bk j kn,gs[b]? =some bk->bk[j]? =some kn->j+1<bk.length->pos b j+lnW (G b j)<=pos b (j+1)/\pos b (j+1)<=pos b j+lnW (G b j)+7/\∀q,pos b j+lnW (G b j)<=q->q<pos b (j+1)->bQ ws ((q:Nat):Int)=some nop
 fn:∀b bk j kn,gs[b]? =some bk->bk[j]? =some kn->j+1<bk.length->∀f,ft b (j+1)=some f->(0<=f.1/\f.1<6)/\(((kn.1=11\/kn.1=12)/\G b j=grp kn/\f=(kn.2.getD 1 0,kn.2.getD 2 0)/\¬(kn.1=11/\kn.2.getD 0 0=f.1))\/(ft b j=some f/\kn.1≠18/\(1<=kn.1/\kn.1<=11->kn.2.getD 0 0≠f.1)/\∃m,G b j=[m]))
def Own(gs:List (List Ins))(o:Nat->Nat->Nat)(q:Int):Prop:=∃b bk j C,gs[b]? =some bk/\bk[j]? =some C/\q=(o b j:Nat)
theorem Ae{g:List Ins}(h:∃m r,g=m::r):1<=lnW g:=by
 obtain⟨m,r,rfl⟩:=h;rw[cS];have:=lU m.1
 lia
theorem CD.mono{x:Fx}{ws:List Int}{S:Nat}{gs:List (List Ins)}{o:Nat->Nat->Nat}{I:Nat->Nat->Option (Int × Int)}{G:Nat->Nat->List Ins}(c:CD x ws S gs o I G){b:Nat}{bk:List Ins}(C:gs[b]? =some bk){j:Nat}:∀{d:Nat},j+d<bk.length->o b j+d<=o b (j+d)
 | 0,_=>MC _
 | d+1,h=>by
  have ih:=c.mono C (d:=d) (j:=j) (by lia)
  have e:bk[j+d]? =some bk[j+d]:=be (by lia)
  have U:=(c.nx b bk (j+d) _ C e (by lia)).1
  have J:=Ae (c.gk b bk (j+d) _ C e).1.ne;show o b j+(d+1)<=o b (j+d+1)
  lia
theorem CD.np{x:Fx}{ws:List Int}{S:Nat}{gs:List (List Ins)}{o:Nat->Nat->Nat}{v:Nat->Nat->Option (Int × Int)}{G:Nat->Nat->List Ins}(c:CD x ws S gs o v G){b:Nat}{bk:List Ins}{j:Nat}{kn:Ins}(U:gs[b]? =some bk)(m:bk[j]? =some kn){q:Nat}(D:o b j<q)(J:q<o b j+lnW (G b j)\/(j+1<bk.length/\q<o b (j+1))):¬Own gs o (q:Nat):=by
 rintro⟨a,n,C,i,I,f,e⟩
 have e:q=o a C:=by exact_mod_cast e
 obtain⟨F,l1,l2⟩:=c.gk b bk j kn U m;obtain⟨g,B,y⟩:=c.gk a n C i I f;have s:=Ae g.ne;have r:j<bk.length:=(gV.mp m).1;have u:q<(b+1)*S:=by
  rcases J with J | ⟨J,h3⟩
  .lia
  .have:=(c.gk b bk (j+1) bk[j+1] U (be J)).2.2
   lia
 have A:b=a:=by
  rcases Nat.lt_trichotomy b a with z | z | z
  .have:=NK S (show b+1<=a from z)
   lia
  .exact z
  .have:=NK S (show a+1<=b from z)
   lia
 subst A;rw[U] at I
 cases I
 have p:C<bk.length:=(gV.mp f).1
 by_cases z:C<=j
 .have:=c.mono U (j:=C) (d:=j - C) (by lia)
  rw[N4 z] at this
  lia
 .have h3:=c.mono U (j:=j+1) (d:=C - (j+1)) (by lia)
  rw[N4 (show j+1<=C by lia)] at h3
  have E:=(c.nx b bk j kn U m (by lia)).1
  rcases J with J | ⟨_,J⟩ <;> lia
theorem CD.here{x:Fx}{ws:List Int}{S:Nat}{gs:List (List Ins)}{o:Nat->Nat->Nat}{J:Nat->Nat->Option (Int × Int)}{G:Nat->Nat->List Ins}(c:CD x ws S gs o J G){b:Nat}{bk:List Ins}{j:Nat}{kn:Ins}(C:gs[b]? =some bk)(I:bk[j]? =some kn):∃y,bQ ws ((o b j:Nat):Int)=some y:=by
 obtain⟨m,r,e⟩:=(c.gk b bk j kn C I).1.ne;have:=c.ins b bk j kn C I 0 m (by rw[e];rfl)
 exact⟨_,this⟩
theorem GD{x:Fx}{m:MSt}(o:Bxs m.bx):cg x 10 [0,0,0] m=(none,{m with p:=m.p+1}):=by
 have e:m.bx.set 0 ((bxG m.bx 0+0) %4294967296)=m.bx:=by
  have h:=(o.at (i:=0) (by decide) (by decide)).2
  rw[PK,N2 h.1 h.2];exact IB (i:=0) (by rw[o.len];decide)
 show(none,{m with p:=m.p+1,bx:=m.bx.set 0 ((bxG m.bx 0+0) %4294967296)})=_
 rw[e]
theorem CD.fill{x:Fx}{ws:List Int}{S:Nat}{gs:List (List Ins)}{o:Nat->Nat->Nat}{g:Nat->Nat->Option (Int × Int)}{G:Nat->Nat->List Ins}(c:CD x ws S gs o g G){b:Nat}{bk:List Ins}{j:Nat}{kn:Ins}(C:gs[b]? =some bk)(J:bk[j]? =some kn)(I:j+1<bk.length):
  ∀(d:Nat) (m:MSt),m.p=((o b (j+1) - d:Nat):Int)->o b j+lnW (G b j)<=o b (j+1) - d->d<=o b (j+1)->Bxs m.bx->m.rows=[]->Way x ws (fun q=>¬Own gs o q) d m {m with p:=((o b (j+1):Nat):Int)}
 | 0,m,hp,_,_,_,_=>by
  have e:({m with p:=((o b (j+1):Nat):Int)}:MSt)=m:=by
   rw[PF] at hp;rw[<- hp]
  rw[e];exact .done m
 | d+1,m,hp,h1,h2,hbx,hr=>by
  have f:=Ae (c.gk b bk j kn C J).1.ne;have a:=(c.nx b bk j kn C J I).2.2 (o b (j+1) - (d+1)) h1 (by lia)
  have en:m.p+1=((o b (j+1) - d:Nat):Int):=by rw[hp];lia
  have U:∃y,bQ ws (m.p+1)=some y:=by
   rw[en];rcases NV d with z | z
   .subst z;exact c.here C (be I)
   .exact⟨nop,(c.nx b bk j kn C J I).2.2 _ (by lia) (by lia)⟩
  obtain⟨y,U⟩:=U;rw[<- hp] at a;refine .step (m1:={m with p:=m.p+1}) ?_ (fun left=> ?_) hr (c.fill C J I d _ en (by lia) (by lia) hbx hr)
  .rw[hp];exact c.np C J (by lia) (.inr ⟨I,by lia⟩)
  .have er:({m with rows:=[]}:MSt)=m:=by rw[<- hr]
   refine iO (m':={m with p:=m.p+1}) a ?_ U
   rw[er];exact GD hbx
structure AZ (x:Fx) (pos:Nat->Nat->Nat) (ft:Nat->Nat->Option (Int × Int)) (p:PSt) (m:MSt):Prop where
 pl:m.p=(pos p.b.toNat p.i.toNat:Nat)
 bx:m.bx.take 6=p.h.bx
 b8:Bxs m.bx
 kv:m.kvs=p.h.kvs
 fi:∀f,ft p.b.toNat p.i.toNat=some f->bxG m.bx 6=x.pb+(bxG m.bx f.1+f.2) %2^x.pk
def vK(x:Fx)(ws:List Int)(U:Int->Prop)(I:Nat->Nat->Nat)(J:Nat->Nat->Option (Int × Int))(left:List (List Int × List (Key × V)))(rw:List (Int × List Int × List (Key × V)))(m:MSt)(R:Option (Str × List Int) × PSt):Prop:=
 match R.1 with
 | some e=>∃o,dH x ws left m=(e,o,1)/\o.bx.take 6=R.2.h.bx/\Bxs o.bx/\o.kvs=R.2.h.kvs/\R.2.h.rows=rw++o.rows.map (fun r=>(r.1,r.2.1.take 6,r.2.2))/\(∀r∈o.rows,r.2.1.length=8)/\o.rows.length<=1
 | none=>∃o n C,dH x ws left m=(bF,o,1)/\Way x ws U n {o with rows:=[]} C/\n<=12/\C.rows=[]/\AZ x I J R.2 C/\R.2.h.rows=rw++o.rows.map (fun r=>(r.1,r.2.1.take 6,r.2.2))/\(∀r∈o.rows,r.2.1.length=8)/\o.rows.length<=1/\(n=0\/o.p≠C.p)
theorem EL{k:Nat}{b v r:Int}(o:SpM.Room k b)(e:r=v %4294967296)(I:InR k b r):b+v %2^k=r:=by
 have hd:(2:Int)^k∣4294967296:=by
  have:(4294967296:Int)=2^k*2^(32 - k):=by rw[<- Ow,N4 (by have:=o.k20;lia)];exact SpM.p32.symm
  exact⟨_,this⟩
 have C:=SpM.fit_own o I.1 I.2;rw[e,Int.emod_emod_of_dvd _ hd] at C;rw[C,e]
theorem InR.W{k:Nat}{b r:Int}(o:SpM.Room k b)(C:InR k b r):0<=r/\r<4294967296:=by
 have:=o.b0;have:=o.bW;have:=C.1;have:=C.2
 lia
section
variable {x : Fx} {ws : List Int} {S : Nat} {gs : List (List Ins)} {pos : Nat → Nat → Nat} {ft : Nat → Nat → Option (Int × Int)} {G : Nat → Nat → List Ins} {p : PSt} {m : MSt} {k : Nat} {ns : List Int} {bk : List Ins}
abbrev o9(gs:List (List Ins))(pos:Nat->Nat->Nat):Int->Prop:=fun q=>¬Own gs pos q
theorem CD.at0(c:CD x ws S gs pos ft G){b j:Nat}{kn m0:Ins}{r:List Ins}(o:gs[b]? =some bk)(C:bk[j]? =some kn)(e:G b j=m0::r):bQ ws ((pos b j:Nat):Int)=some (plc S m0):=by
 have:=c.ins b bk j kn o C 0 m0 (by rw[e];rfl)
 exact this
theorem CD.fall(c:CD x ws S gs pos ft G){b j:Nat}{kn:Ins}{h:HSt}{tr:List (Int × Int)}(C:gs[b]? =some bk)(a:bk[j]? =some kn)(I:j+1<bk.length)(U:m.p=((pos b j+lnW (G b j):Nat):Int))(d:m.rows=[])(J:Bxs m.bx)(r:m.bx.take 6=h.bx)(q:m.kvs=h.kvs)
  (g:∀f,ft b (j+1)=some f->bxG m.bx 6=x.pb+(bxG m.bx f.1+f.2) %2^x.pk):∃n o,Way x ws (o9 gs pos) n m o/\n<=7/\o.rows=[]/\AZ x pos ft ⟨(b:Nat),(j+1:Nat),h,tr⟩ o/\(n=0\/m.p≠o.p):=by
 obtain⟨n1,n2,_⟩:=c.nx b bk j kn C a I;refine⟨pos b (j+1) - (pos b j+lnW (G b j)),{m with p:=((pos b (j+1):Nat):Int)},c.fill C a I _ m ?_ (by lia) (by lia) J d,by lia,d,⟨?_,r,J,q,?_⟩,?_⟩
 .rw[U]
  congr 1
  lia
 .show((pos b (j+1):Nat):Int)=(pos ((b:Nat):Int).toNat ((j+1:Nat):Int).toNat:Nat)
  rw[MN,MN]
 .intro f e;rw[show((⟨(b:Nat),(j+1:Nat),h,tr⟩:PSt).b).toNat=b from MN b,show((⟨(b:Nat),(j+1:Nat),h,tr⟩:PSt).i).toNat=j+1 from MN (j+1)] at e;exact g f e
 .by_cases z:pos b (j+1) - (pos b j+lnW (G b j))=0
  .exact .inl z
  .refine .inr ?_
   show m.p≠((pos b (j+1):Nat):Int)
   rw[U]
   lia
theorem CD.behind(c:CD x ws S gs pos ft G){b j:Nat}{kn:Ins}(o:gs[b]? =some bk)(I:bk[j]? =some kn)(C:j+1<bk.length):∃y,bQ ws ((pos b j+lnW (G b j):Nat):Int)=some y:=by
 obtain⟨n1,n2,n3⟩:=c.nx b bk j kn o I C
 by_cases z:pos b j+lnW (G b j)=pos b (j+1)
 .rw[z];exact c.here o (be C)
 .exact⟨_,n3 _ (MC _) (by lia)⟩
theorem CD.begins(c:CD x ws S gs pos ft G)(U:GuG x.pg gs){v:Int}(v0:0<=v)(v1:v<gs.length):(∃y,bQ ws ((v.toNat*S:Nat):Int)=some y)/\pos v.toNat 0=v.toNat*S/\ft v.toNat 0=none:=by
 have C:v.toNat<gs.length:=by lia
 have o:gs[v.toNat]? =some gs[v.toNat]:=be C;obtain⟨z1,z2⟩:=c.zero _ _ o;obtain⟨_,_,I,a,e,_⟩:=U.blk _ (Nm C);have J:0<(gs[v.toNat]).length:=by rw[e,MA,Nv];lia
 have:=c.here o (be J);rw[z1] at this;exact⟨this,z1,z2⟩
theorem GuG.on{g:Int}(I:GuG g gs){b j:Nat}{kn:Ins}(C:gs[b]? =some bk)(o:bk[j]? =some kn)(J:¬nP kn.1):j+1<bk.length:=by
 have U:=(gV.mp o).1
 by_cases z:j+1=bk.length
 .exact absurd (I.ok.last bk (MD C) j kn o z) J
 .lia
theorem rO{gl:Nat}{q:Int × Int}{st:PSt}(h:q.1<gl):du gl q st=(none,{st with b:=q.1,i:=q.2}):=by
 unfold du;rw[mC (by lia)]
theorem FD{gl:Nat}{q:Int × Int}{st:PSt}(h:¬q.1<gl):du gl q st=(some (("leaves":Str),([]:List Int)),st):=by
 unfold du;rw[ME (by lia)]
theorem yI(c:CD x ws S gs pos ft G)(a:GuG x.pg gs)(s:AZ x pos ft p m)(o:m.rows=[]){left:List (List Int × List (Key × V))}{v:Int}(v0:0<=v)(v1:v<gs.length){kn:Ins}(C:bQ ws m.p=some kn)(hs:∀left,cg {x with reps:=left} kn.1 kn.2 m=(none,{m with p:=((v.toNat*S:Nat):Int)})):
  vK x ws (o9 gs pos) pos ft left p.h.rows m (none,{p with b:=v,i:=0}):=by
 obtain⟨⟨y,I⟩,J,U⟩:=c.begins a v0 v1;have d:({m with rows:=[]}:MSt)=m:=by rw[<- o]
 refine⟨{m with p:=((v.toNat*S:Nat):Int)},0,{m with p:=((v.toNat*S:Nat):Int)},iO (k:=kn.1) (ns:=kn.2) C (by rw[d];exact hs left) I,?_,by decide,o,⟨?_,s.bx,s.b8,s.kv,?_⟩,?_,?_,?_,.inl rfl⟩
 .have:({({m with p:=((v.toNat*S:Nat):Int)}:MSt) with rows:=[]}:MSt)={m with p:=((v.toNat*S:Nat):Int)}:=by rw[<- o]
  rw[this];exact .done _
 .show((v.toNat*S:Nat):Int)=(pos v.toNat 0:Nat)
  rw[J]
 .intro f e;have e:ft v.toNat 0=some f:=e;rw[U] at e
  cases e
 .show p.h.rows=p.h.rows++m.rows.map _
  rw[o,OU,MS]
 .intro r h;have h:r∈m.rows:=h;rw[o] at h
  cases h
 .show m.rows.length<=1
  rw[o]
  decide
theorem yO(c:CD x ws S gs pos ft G){b j:Nat}{kn:Ins}{h:HSt}{left:List (List Int × List (Key × V))}{m1:MSt}(J:gs[b]? =some bk)(B:bk[j]? =some kn)(U:j+1<bk.length){rows:List (Int × List Int × List (Key × V))}(v:dH x ws left m=(bF,m1,1))(y:m1.p=((pos b j+lnW (G b j):Nat):Int))(e:Bxs m1.bx)(H:m1.bx.take 6=h.bx)(s:m1.kvs=h.kvs)
  (g:∀f,ft b (j+1)=some f->bxG m1.bx 6=x.pb+(bxG m1.bx f.1+f.2) %2^x.pk) (hw:h.rows=rows++m1.rows.map (fun r=>(r.1,r.2.1.take 6,r.2.2))) (C:∀r∈m1.rows,r.2.1.length=8) (o:m1.rows.length<=1) {q:PSt}(D:q.b=(b:Nat)) (z:q.i=(j+1:Nat)) (I:q.h=h):
  vK x ws (o9 gs pos) pos ft left rows m (none,q):=by
 obtain⟨n,u,E,L,d,a,F⟩:=c.fall (m:={m1 with rows:=[]}) (tr:=q.tr) J B U y rfl e H s g
 have A:q=⟨(b:Nat),(j+1:Nat),h,q.tr⟩:=by rw[<- D, <-z, <-I]
 refine⟨m1,n,u,v,E,by lia,d,by rw[A];exact a,by show q.h.rows=_;rw[I];exact hw,C,o,F⟩
end
section
variable {x : Fx} {ws : List Int} {S : Nat} {gs : List (List Ins)} {pos : Nat → Nat → Nat} {ft : Nat → Nat → Option (Int × Int)} {G : Nat → Nat → List Ins} {p : PSt} {m : MSt} {bk : List Ins} {b j : Nat} {left : List (List Int × List (Key × V))}
structure Ev (x:Fx) (ws:List Int) (S:Nat) (gs:List (List Ins)) (pos:Nat->Nat->Nat) (ft:Nat->Nat->Option (Int × Int)) (G:Nat->Nat->List Ins) (p:PSt) (m:MSt) (b j:Nat) (bk:List Ins) (kn:Ins):Prop where
 c:CD x ws S gs pos ft G
 hx:XOk x
 hg:GuG x.pg gs
 s:AZ x pos ft p m
 r:m.rows=[]
 hb:gs[b]? =some bk
 hj:bk[j]? =some kn
 eb:p.b=(b:Nat)
 ei:p.i=(j:Nat)
theorem Ev.pl{kn:Ins}(h:Ev x ws S gs pos ft G p m b j bk kn):m.p=((pos b j:Nat):Int):=by
 have:=h.s.pl;rw[h.eb,h.ei,MN,MN] at this;exact this
theorem Ev.fi{kn:Ins}(h:Ev x ws S gs pos ft G p m b j bk kn):∀f,ft b j=some f->bxG m.bx 6=x.pb+(bxG m.bx f.1+f.2) %2^x.pk:=by
 have:=h.s.fi;rw[h.eb,h.ei,MN,MN] at this;exact this
theorem Ev.gi{kn:Ins}(h:Ev x ws S gs pos ft G p m b j bk kn):GI gs.length x.pg kn:=(h.hg.blk bk (MD h.hb)).1 kn (MD h.hj)
theorem Ev.bl{kn:Ins}(h:Ev x ws S gs pos ft G p m b j bk kn):p.b<gs.length:=by
 have:=(gV.mp h.hb).1;rw[h.eb]
 lia
theorem Ev.bxe{kn:Ins}(h:Ev x ws S gs pos ft G p m b j bk kn){i:Int}(o:i<6):bxG m.bx i=bxG p.h.bx i:=by rw[<- h.s.bx,jC o]
theorem Ev.m0{kn:Ins}(h:Ev x ws S gs pos ft G p m b j bk kn):({m with rows:=[]}:MSt)=m:=by rw[<- h.r]
theorem tD{kn m0:Ins}(h:Ev x ws S gs pos ft G p m b j bk kn)(I:G b j=[m0])(n:¬nP kn.1){q:HSt}{bx':List Int}{kvs':List (Key × V)}(hs:cg {x with reps:=left} (plc S m0).1 (plc S m0).2 m=(none,⟨m.p+(d_ m0.1:Nat),bx',kvs',[]⟩))(s:Bxs bx')(F:bx'.take 6=q.bx)(z:kvs'=q.kvs)(v:q.rows=p.h.rows)
  (u:∀f,ft b j=some f->(0<=f.1/\f.1<6)->kn.1≠18->(1<=kn.1/\kn.1<=11->kn.2.getD 0 0≠f.1)->bxG bx' 6=bxG m.bx 6/\bxG bx' f.1=bxG m.bx f.1) (H:(kn.1=11\/kn.1=12)->m0=kn\/m0=(kn.1,[kn.2.getD 0 0,6,0])):
  vK x ws (o9 gs pos) pos ft left p.h.rows m (none,{p with b:=p.b,i:=p.i+1,h:=q}):=by
 have o:=h.hg.on h.hb h.hj n;have E:lnW (G b j)=d_ m0.1:=by rw[I,kx]
 obtain⟨y,a⟩:=h.c.behind h.hb h.hj o;have J:m.p+(d_ m0.1:Nat)=((pos b j+lnW (G b j):Nat):Int):=by rw[h.pl,E];push_cast;rfl
 refine yO h.c h.hb h.hj o (m1:=⟨m.p+(d_ m0.1:Nat),bx',kvs',[]⟩) (h:=q) (iO (k:=(plc S m0).1) (ns:=(plc S m0).2) (by rw[h.pl];exact h.c.at0 h.hb h.hj I) (by rw[h.m0];exact hs) (by show bQ ws (m.p+(d_ m0.1:Nat))=some y;rw[J];exact a)) J s F z (fun f e=> ?_) (by rw[v];simp) (fun r D=>by cases D) (Na 1) (by show p.b=_;exact h.eb) (by show p.i+1=_;rw[h.ei];push_cast;rfl) rfl
 obtain⟨d,⟨A,C,_⟩|⟨U,B,g,_⟩⟩:=h.c.fn b bk j kn h.hb h.hj o f e
 .exfalso
  rw[I] at C;unfold grp at C;rw[mC (by lia),ME A] at C
  split at C <;> cases C
 .obtain⟨z1,z2⟩:=u f U d B g;show bxG bx' 6=x.pb+(bxG bx' f.1+f.2) %2^x.pk
  rw[z1,z2];exact h.fi f U
theorem gz{n:Nat}{kn:Ins}(C:kn.1≠13)(o:kn.1≠14):plc n kn=kn:=by unfold plc;rw[mC C,mC o]
theorem E8{kn:Ins}(h:Ev x ws S gs pos ft G p m b j bk kn)(I:kn.1=0):vK x ws (o9 gs pos) pos ft left p.h.rows m (some (("stopped":Str),([]:List Int)),p):=by
 have C:=(h.c.gk b bk j kn h.hb h.hj).1.other (by lia) (by lia)
 have o:=h.c.at0 h.hb h.hj C;rw[gz (by lia) (by lia), <-h.pl] at o
 refine⟨m,BY (k:=kn.1) (ns:=kn.2) o (by rw[h.m0];unfold cg;rw[ME I]),h.s.bx,h.s.b8,h.s.kv,?_,?_,?_⟩
 .rw[h.r,OU,MS]
 .rw[h.r];intro r z;cases z
 .rw[h.r];decide
theorem GM{n:Int}(h:Ev x ws S gs pos ft G p m b j bk (13,[n]))(n0:0<=n)(n1:n<gs.length):vK x ws (o9 gs pos) pos ft left p.h.rows m (none,{p with b:=n,i:=0}):=by
 have C:=(h.c.gk b bk j _ h.hb h.hj).1.other (show ¬((13:Nat)=11\/(13:Nat)=12) by decide) (show(13:Nat)≠15 by decide)
 have o:=h.c.at0 h.hb h.hj C;rw[<- h.pl] at o;refine yI h.c h.hg h.s h.r n0 n1 (kn:=(13,[n*S])) o (fun left=> ?_)
 show(none,{m with p:=n*S})=_
 have:n*(S:Int)=((n.toNat*S:Nat):Int):=by push_cast;rw[Nz n0]
 rw[this]
theorem F9{a n:Int}(h:Ev x ws S gs pos ft G p m b j bk (14,[a,n]))(a1:a<6)(n0:0<=n)(n1:n<gs.length):vK x ws (o9 gs pos) pos ft left p.h.rows m (none,{p with b:=(if bxG p.h.bx a≠0 then(n,0) else(p.b,p.i+1)).1,i:=(if bxG p.h.bx a≠0 then(n,0) else(p.b,p.i+1)).2}):=by
 have C:=(h.c.gk b bk j _ h.hb h.hj).1.other (show ¬((14:Nat)=11\/(14:Nat)=12) by decide) (show(14:Nat)≠15 by decide)
 by_cases z:bxG p.h.bx a≠0
 .rw[ME z];have o:=h.c.at0 h.hb h.hj C;rw[<- h.pl] at o;refine yI h.c h.hg h.s h.r n0 n1 (kn:=(14,[a,n*S])) o (fun left=> ?_)
  show(none,{m with p:=if bxG m.bx a≠0 then n*S else m.p+1})=_
  rw[h.bxe a1,ME z];have:n*(S:Int)=((n.toNat*S:Nat):Int):=by push_cast;rw[Nz n0]
  rw[this]
 .rw[mC z];refine tD (q:=p.h) (bx':=m.bx) (kvs':=m.kvs) h C (by unfold nP;show ¬(_\/_\/_);lia) ?_ h.s.b8 h.s.bx h.s.kv rfl (fun f _ _ _ _=>⟨rfl,rfl⟩) (fun z=>by rcases z with z | z <;> exact absurd z (show ¬(14:Nat)=_ by decide))
  show(none,{m with p:=if bxG m.bx a≠0 then n*S else m.p+1})=_
  rw[h.bxe a1,mC z, <-h.r]
  rfl
end
section
variable {x : Fx} {ws : List Int} {S : Nat} {gs : List (List Ins)} {pos : Nat → Nat → Nat} {ft : Nat → Nat → Option (Int × Int)} {G : Nat → Nat → List Ins} {p : PSt} {m : MSt} {bk : List Ins} {b j : Nat} {left : List (List Int × List (Key × V))}
theorem E1{k:Nat}{a:Int}{r:List Int}(h:Ev x ws S gs pos ft G p m b j bk (k,a::r))(I:1<=k)(d:k<=10)(hm:0<=fe x.pk x.pb x.pm x.ps k (a::r) p.h.bx/\fe x.pk x.pb x.pm x.ps k (a::r) p.h.bx<4294967296)(a0:0<=a)(a1:a<6)(J:fe x.pk x.pb x.pm x.ps k (a::r) m.bx=fe x.pk x.pb x.pm x.ps k (a::r) p.h.bx):
  vK x ws (o9 gs pos) pos ft left p.h.rows m (none,{p with b:=p.b,i:=p.i+1,h:={p.h with bx:=p.h.bx.set a.toNat (fe x.pk x.pb x.pm x.ps k (a::r) p.h.bx)}}):=by
 have U:=(h.c.gk b bk j _ h.hb h.hj).1.other (show ¬(k=11\/k=12) by lia) (show k≠15 by lia)
 have l8:m.bx.length=8:=h.s.b8.len;refine tD (q:={p.h with bx:=p.h.bx.set a.toNat (fe x.pk x.pb x.pm x.ps k (a::r) p.h.bx)}) (bx':=m.bx.set a.toNat (fe x.pk x.pb x.pm x.ps k (a::r) p.h.bx)) (kvs':=m.kvs) h U (by unfold nP;show ¬(k=0\/k=13\/k=15);lia) ?_ (h.s.b8.set hm.1 hm.2) ?_ h.s.kv rfl (fun f _ o _ C=> ?_) (fun z=>by have z:k=11\/k=12:=z;lia)
 .rw[gz (show k≠13 by lia) (show k≠14 by lia)]
  show cg {x with reps:=left} k (a::r) m=_
  unfold cg;rw[mC (by lia),mC (by lia),mC (by lia),mC (by lia)]
  show(none,(⟨m.p+(if k=1 then 2 else 1),m.bx.set a.toNat (fe x.pk x.pb x.pm x.ps k (a::r) m.bx),m.kvs,m.rows⟩:MSt))=_
  rw[J,h.r]
  congr 2
  show m.p+_=m.p+((d_ k:Nat):Int)
  unfold d_
  split <;> rfl
 .show(m.bx.set a.toNat _).take 6=p.h.bx.set a.toNat _
  rw[Qr,h.s.bx]
 .have na:a≠f.1:=C ⟨I,by show k<=11;lia⟩
  rw[pR a0 (by lia) (by decide),pR a0 (by lia) o.1,mC (by lia),mC (Nb na)]
  exact⟨rfl,rfl⟩
theorem EU{n:Int}(h:Ev x ws S gs pos ft G p m b j bk (18,[n]))(J:BxN 6 p.h.bx)(D:left=x.reps.drop p.h.rows.length):vK x ws (o9 gs pos) pos ft left p.h.rows m (bn x gs.length 18 [n] p):=by
 have u:=(h.c.gk b bk j _ h.hb h.hj).1.other (show ¬((18:Nat)=11\/(18:Nat)=12) by decide) (show(18:Nat)≠15 by decide)
 have H:n<x.pg:=h.gi.gt rfl;have l8:m.bx.length=8:=h.s.b8.len;have C:=h.c.at0 h.hb h.hj u;rw[<- h.pl] at C;have C:bQ ws m.p=some (18,[n]):=C;have A:left[0]? =x.reps[p.h.rows.length]? :=by rw[D,O4,PM]
 have U:¬x.pg<=[n].getD 0 0:=by show ¬x.pg<=n;lia
 have O:∀z,bn x gs.length 18 [n] z=match bA x 18 [n] z.h with
  | (none,h)=>du gs.length (z.b,z.i+1) {z with h:=h}
  | (some e,h)=>(some (if e.1="beyond" then("leaves",[]) else e),{z with h:=h}):=fun z=>by
  unfold bn;rw[mC (by decide),mC (by decide)] <;> rfl
 rw[O]
 cases hr:x.reps[p.h.rows.length]? with
 | none=>
  have d:bA x 18 [n] p.h=(some (("asks":Str),([n]:List Int)),{p.h with rows:=p.h.rows++[(n,p.h.bx,p.h.kvs)]}):=by
   unfold bA;rw[ME rfl,mC U,hr]
   rfl
  rw[d];refine⟨{m with rows:=[(n,m.bx,m.kvs)]},BY (k:=18) (ns:=[n]) C ?_,h.s.bx,h.s.b8,h.s.kv,?_,?_,MC 1⟩
  .rw[h.m0];unfold cg;rw[mC (by decide),ME rfl,mC U]
   show(match left[m.rows.length]? with | none=>_ | some (bs,ws)=>_)=_
   rw[h.r,Nl,A,hr]
   rfl
  .show p.h.rows++[(n,p.h.bx,p.h.kvs)]=p.h.rows++[(n,m.bx.take 6,m.kvs)]
   rw[h.s.bx,h.s.kv]
  .intro r z;rw[MY.mp z];exact l8
 | some y=>
  obtain⟨bs,wr⟩:=y;obtain⟨a,F,Q⟩:=h.hx.rep _ (MD hr);have a:bs.length=7:=a;have hd:p.h.bx.drop 7=[]:=Oc (by rw[J.len];decide)
  have d:bA x 18 [n] p.h=(none,⟨bs.take 6,cP p.h.kvs wr,p.h.rows++[(n,p.h.bx,p.h.kvs)]⟩):=by
   unfold bA;rw[ME rfl,mC U,hr];show(none,(⟨bs.take p.h.bx.length++p.h.bx.drop 7,cP p.h.kvs wr,p.h.rows++[(n,p.h.bx,p.h.kvs)]⟩:HSt))=_
   rw[hd,MS,J.len]
  rw[d];have E:=rO (gl:=gs.length) (q:=(p.b,p.i+1)) (st:={p with h:=⟨bs.take 6,cP p.h.kvs wr,p.h.rows++[(n,p.h.bx,p.h.kvs)]⟩}) h.bl
  show vK x ws _ pos ft left p.h.rows m (du gs.length (p.b,p.i+1) {p with h:=⟨bs.take 6,cP p.h.kvs wr,p.h.rows++[(n,p.h.bx,p.h.kvs)]⟩})
  rw[E];have o:=h.hg.on h.hb h.hj (by unfold nP;show ¬((18:Nat)=0\/(18:Nat)=13\/(18:Nat)=15);decide)
  have L:lnW (G b j)=1:=by rw[u,kx];rfl
  obtain⟨M,B⟩:=h.c.behind h.hb h.hj o;have g:m.p+1=((pos b j+lnW (G b j):Nat):Int):=by rw[h.pl,L];push_cast;rfl
  have N:=(h.s.b8.at (i:=7) (by decide) (by decide)).2
  refine yO h.c h.hb h.hj o (m1:=⟨m.p+1,bs++[bxG m.bx 7],cP m.kvs wr,[(n,m.bx,m.kvs)]⟩) (h:=⟨bs.take 6,cP p.h.kvs wr,p.h.rows++[(n,p.h.bx,p.h.kvs)]⟩) (iO (k:=18) (ns:=[n]) C ?_ (by show bQ ws (m.p+1)=some M;rw[g];exact B)) g ⟨by rw[MA,a];rfl,fun v I=> ?_⟩ ?_ ?_ (fun f e=> ?_) ?_ ?_ (MC 1) (by show p.b=_;exact h.eb) (by show p.i+1=_;rw[h.ei];push_cast;rfl) rfl
  .rw[h.m0];unfold cg;rw[mC (by decide),ME rfl,mC U]
   show(match left[m.rows.length]? with | none=>_ | some (bs,ws)=>_)=_
   rw[h.r,Nl,A,hr]
   rfl
  .rcases MZ.mp I with I | I
   .exact F v I
   .rw[MY.mp I];exact N
  .show(bs++[bxG m.bx 7]).take 6=bs.take 6
   rw[List.take_append_of_le_length (by lia)]
  .show cP m.kvs wr=cP p.h.kvs wr
   rw[h.s.kv]
  .obtain⟨_,⟨ha,_⟩|⟨_,h2,_⟩⟩:=h.c.fn b bk j _ h.hb h.hj o f e
   .rcases ha with z | z <;> exact absurd z (show ¬(18:Nat)=_ by decide)
   .exact absurd rfl h2
  .show p.h.rows++[(n,p.h.bx,p.h.kvs)]=p.h.rows++[(n,m.bx.take 6,m.kvs)]
   rw[h.s.bx,h.s.kv]
  .intro r z;rw[MY.mp z];exact l8
end
section
variable {x : Fx} {ws : List Int} {S : Nat} {gs : List (List Ins)} {pos : Nat → Nat → Nat} {ft : Nat → Nat → Option (Int × Int)} {G : Nat → Nat → List Ins} {p : PSt} {m : MSt} {bk : List Ins} {b j : Nat} {left : List (List Int × List (Key × V))}
noncomputable def iT(k:Nat)(a r:Int)(m:MSt):MSt:=if k=11 then {m with p:=m.p+1,bx:=m.bx.set a.toNat (vp m.kvs r)} else {m with p:=m.p+1,kvs:=dw m.kvs (.inl r) (.int (bxG m.bx a))}
noncomputable def qD(k:Nat)(a r:Int)(h:HSt):HSt:=if k=11 then {h with bx:=h.bx.set a.toNat (vp h.kvs r)} else {h with kvs:=dw h.kvs (.inl r) (.int (bxG h.bx a))}
theorem xa{k:Nat}{a b n r:Int}(o:k=11\/k=12)(e:bq [a,b,n] m.bx=r)(C:InR x.pk x.pb r):cg {x with reps:=left} k [a,b,n] m=(none,iT k a r m):=by
 unfold cg iT;rw[mC (by lia),mC (by lia),ME o,e]
 rw[ME (show InR x.pk x.pb r from C)]
 split <;> rfl
theorem C0{k:Nat}{a r:Int}:(iT k a r m).p=m.p+1:=by unfold iT;split <;> rfl
theorem pH{k:Nat}{a r:Int}:(iT k a r m).rows=m.rows:=by unfold iT;split <;> rfl
theorem xl{k:Nat}{a r:Int}{h:HSt}(a1:a<6)(C:m.bx.take 6=h.bx)(o:m.kvs=h.kvs):(iT k a r m).bx.take 6=(qD k a r h).bx/\(iT k a r m).kvs=(qD k a r h).kvs/\(qD k a r h).rows=h.rows:=by
 unfold iT qD
 split
 .refine⟨?_,o,rfl⟩
  show(m.bx.set a.toNat _).take 6=h.bx.set a.toNat _
  rw[Qr,C,o]
 .refine⟨C,?_,rfl⟩
  show dw m.kvs _ _=dw h.kvs _ _
  rw[o, <-C,jC a1]
theorem DA{k:Nat}{a r:Int}(o:Bxs m.bx)(hm:b_ m.kvs):Bxs (iT k a r m).bx:=by
 unfold iT
 split
 .have:=(hm.get r).2;exact o.set this.1 this.2
 .exact o
theorem pN{k:Nat}{a r i:Int}(o:Bxs m.bx)(a0:0<=a)(a1:a<6)(C:0<=i)(I:¬(k=11/\a=i)):bxG (iT k a r m).bx i=bxG m.bx i:=by
 unfold iT
 split
 .have l8:m.bx.length=8:=o.len;rw[pR a0 (by lia) C,mC (fun z=>I ⟨by assumption,z.symm⟩)]
 .rfl
theorem HL{k:Nat}{a U n r:Int}(h:Ev x ws S gs pos ft G p m b j bk (k,[a,U,n]))(Y:k=11\/k=12)(a0:0<=a)(a1:a<6)(b0:0<=U)(b1:U<6)(A:b_ m.kvs)(er:r=(bxG m.bx U+n) %4294967296)(E:InR x.pk x.pb r):
  vK x ws (o9 gs pos) pos ft left p.h.rows m (none,{p with b:=p.b,i:=p.i+1,h:=qD k a r p.h}):=by
 have hR:=h.hx.room;have L:=E.W hR;have l8:m.bx.length=8:=h.s.b8.len;have nl:¬nP k:=by unfold nP;lia
 have g:=EL hR er E;rcases(h.c.gk b bk j _ h.hb h.hj).1 with H | ⟨_,H | ⟨hft,H⟩⟩
 .have hl1:=h.hg.on h.hb h.hj nl;obtain⟨y,hy⟩:=h.c.behind h.hb h.hj hl1;have F:=h.c.ins b bk j _ h.hb h.hj;have ab:=fun q (h1:pos b j<q) (h2:q<pos b j+lnW (G b j))=>h.c.np h.hb h.hj h1 (.inl h2)
  have M:∀(J:MSt) (d:Nat),J.p=((pos b j+d:Nat):Int)->0<d->d+1=lnW (G b j)->bQ ws ((pos b j+d:Nat):Int)=some (k,[a,6,0])->J.rows=[]->Bxs J.bx->bxG J.bx 6=r->J.bx.take 6=m.bx.take 6->J.kvs=m.kvs->
    ∃n u,Way x ws (o9 gs pos) n J u/\n<=8/\u.rows=[]/\AZ x pos ft {p with b:=p.b,i:=p.i+1,h:=qD k a r p.h} u/\J.p≠u.p:=by
   intro J d N d0 e2 e3 e4 e5 X e7 e8;obtain⟨c1,c2,c3⟩:=xl (k:=k) (r:=r) (h:=p.h) (m:=J) a1 (by rw[e7];exact h.s.bx) (by rw[e8];exact h.s.kv)
   have ep:(iT k a r J).p=((pos b j+lnW (G b j):Nat):Int):=by rw[C0,N];lia
   have ar:Bxs (iT k a r J).bx:=DA e5 (by rw[e8];exact A)
   have hf:∀f,ft b (j+1)=some f->bxG (iT k a r J).bx 6=x.pb+(bxG (iT k a r J).bx f.1+f.2) %2^x.pk:=by
    intro f e;obtain⟨f6,⟨ha,_,ef,O⟩|⟨_,_,_,m0,hs⟩⟩:=h.c.fn b bk j _ h.hb h.hj hl1 f e
    .have ef:f=(U,n):=ef;subst ef;have O:¬(k=11/\a=U):=O;rw[pN e5 a0 a1 (by decide) (by lia),pN e5 a0 a1 b0 O,X]
     show r=x.pb+(bxG J.bx U+n) %2^x.pk
     rw[<- jC b1,e7,jC b1,g]
    .exfalso
     rw[H] at hs;unfold grp at hs;rw[mC (by show ¬k=15;lia),ME Y] at hs
     split at hs <;> cases hs
   obtain⟨Z,u,w1,w2,w3,Q,w5⟩:=h.c.fall (m:=iT k a r J) (h:=qD k a r p.h) (tr:=p.tr) h.hb h.hj hl1 ep (by rw[pH];exact e4) ar c1 c2 hf
   refine⟨Z+1,u,.step ?_ (fun left=> ?_) (by rw[pH];exact e4) w1,by lia,w3,?_,?_⟩
   .rw[N];exact ab _ (by lia) (by lia)
   .have em:({J with rows:=[]}:MSt)=J:=by rw[<- e4]
    refine iO (k:=k) (ns:=[a,6,0]) (by rw[N];exact e3) (by rw[em];exact xa Y (by show(bxG J.bx 6+0) %4294967296=r;rw[X,PK,N2 L.1 L.2]) E) (by rw[ep];exact hy)
   .have:({p with b:=p.b,i:=p.i+1,h:=qD k a r p.h}:PSt)=⟨(b:Nat),(j+1:Nat),qD k a r p.h,p.tr⟩:=by
     rw[h.eb,h.ei]
     push_cast
     rfl
    rw[this];exact Q
   .have R:=Q.pl;have e9:(pos ((b:Nat):Int).toNat ((j+1:Nat):Int).toNat)=pos b (j+1):=by rw[MN,MN]
    have R:u.p=(pos ((b:Nat):Int).toNat ((j+1:Nat):Int).toNat:Nat):=R;rw[e9] at R;have:=(h.c.nx b bk j _ h.hb h.hj hl1).1;rw[R,N]
    lia
  have C:G b j=if n=0 then[(16,[6,U]),(k,[a,6,0])] else[(10,[6,U,n]),(16,[6,6]),(k,[a,6,0])]:=by
   rw[H];unfold grp;rw[mC (by show ¬k=15;lia),ME Y]
   rfl
  have T:d_ k=1:=by unfold d_;rw[mC (by lia)]
  have ao:plc S (k,[a,6,0])=(k,[a,6,0]):=gz (show k≠13 by lia) (show k≠14 by lia)
  by_cases n0:n=0
  .rw[ME n0] at C;have D:lnW (G b j)=2:=by rw[C,cS,kx];show 1+d_ k=2;rw[T]
   have I:=F 0 (16,[6,U]) (by rw[C];rfl)
   have o:=F 1 (k,[a,6,0]) (by rw[C];rfl)
   rw[C] at I o;have I:bQ ws ((pos b j:Nat):Int)=some (16,[6,U]):=I;have o:bQ ws ((pos b j+1:Nat):Int)=some (k,[a,6,0]):=by rw[<- ao];exact o
   have X:x.pb+bxG m.bx U %2^x.pk=r:=by rw[n0,PK] at g;exact g
   obtain⟨Z,u,w1,w2,w3,Q,w5⟩:=M ⟨m.p+1,m.bx.set 6 r,m.kvs,[]⟩ 1 (by show m.p+1=_;rw[h.pl];push_cast;rfl) (by decide) (by rw[D]) o rfl (h.s.b8.set L.1 L.2) (by have:=pR (bx:=m.bx) (a:=6) (i:=6) (v:=r) (by decide) (by rw[l8];decide) (by decide);rw[ME rfl] at this;exact this) (ug l8) rfl
   refine⟨⟨m.p+1,m.bx.set 6 r,m.kvs,[]⟩,Z,u,iO (k:=16) (ns:=[6,U]) (by rw[h.pl];exact I) ?_ (y:=(k,[a,6,0])) (by show bQ ws (m.p+1)=_;rw[h.pl];exact o),w1,by lia,w3,Q,?_,(fun r E=>by cases E),Na 1,.inr w5⟩
   .rw[h.m0];show(none,(⟨m.p+1,m.bx.set 6 (x.pb+bxG m.bx U %2^x.pk),m.kvs,m.rows⟩:MSt))=_
    rw[X,h.r]
   .show(qD k a r p.h).rows=p.h.rows++[]
    rw[MS];exact(xl (k:=k) (r:=r) (h:=p.h) (m:=m) a1 h.s.bx h.s.kv).2.2
  .rw[mC n0] at C;have D:lnW (G b j)=3:=by rw[C,cS,cS,kx];show 1+(1+d_ k)=3;rw[T]
   have I:=F 0 (10,[6,U,n]) (by rw[C];rfl)
   have o:=F 1 (16,[6,6]) (by rw[C];rfl)
   have B:=F 2 (k,[a,6,0]) (by rw[C];rfl)
   rw[C] at I o B;have I:bQ ws ((pos b j:Nat):Int)=some (10,[6,U,n]):=I;have o:bQ ws ((pos b j+1:Nat):Int)=some (16,[6,6]):=o;have B:bQ ws ((pos b j+2:Nat):Int)=some (k,[a,6,0]):=by rw[<- ao];exact B
   have g6:bxG (m.bx.set 6 r) 6=r:=by have:=pR (bx:=m.bx) (a:=6) (i:=6) (v:=r) (by decide) (by rw[l8];decide) (by decide);rw[ME rfl] at this;exact this
   have X:x.pb+r %2^x.pk=r:=SpM.fit_own hR E.1 E.2;have s6:(m.bx.set 6 r).set 6 r=m.bx.set 6 r:=List.set_set _;obtain⟨Z,u,w1,w2,w3,Q,w5⟩:=M ⟨m.p+2,m.bx.set 6 r,m.kvs,[]⟩ 2 (by show m.p+2=_;rw[h.pl];push_cast;rfl) (by decide) (by rw[D]) B rfl (h.s.b8.set L.1 L.2) g6 (ug l8) rfl
   refine⟨⟨m.p+1,m.bx.set 6 r,m.kvs,[]⟩,Z+1,u,iO (k:=10) (ns:=[6,U,n]) (by rw[h.pl];exact I) ?_ (y:=(16,[6,6])) (by show bQ ws (m.p+1)=_;rw[h.pl];exact o),.step (m1:=⟨m.p+2,m.bx.set 6 r,m.kvs,[]⟩) ?_ (fun left=> ?_) rfl w1,by lia,w3,Q,?_,(fun r E=>by cases E),Na 1,.inr ?_⟩
   .rw[h.m0];show(none,(⟨m.p+1,m.bx.set 6 ((bxG m.bx U+n) %4294967296),m.kvs,m.rows⟩:MSt))=_
    rw[<- er,h.r]
   .show o9 gs pos (m.p+1)
    rw[h.pl];exact ab (pos b j+1) (by lia) (by lia)
   .refine iO (k:=16) (ns:=[6,6]) (y:=(k,[a,6,0])) (by show bQ ws (m.p+1)=_;rw[h.pl];exact o) ?_ (by show bQ ws (m.p+2)=_;rw[h.pl];exact B)
    show(none,(⟨m.p+1+1,(m.bx.set 6 r).set 6 (x.pb+bxG (m.bx.set 6 r) 6 %2^x.pk),m.kvs,[]⟩:MSt))=_
    rw[g6,X,s6,Int.add_assoc]
    rfl
   .show(qD k a r p.h).rows=p.h.rows++[]
    rw[MS];exact(xl (k:=k) (r:=r) (h:=p.h) (m:=m) a1 h.s.bx h.s.kv).2.2
   .show m.p+1≠u.p
    have R:u.p=(pos p.b.toNat (p.i+1).toNat:Nat):=Q.pl;have e9:(p.i+1).toNat=j+1:=by rw[h.ei];lia
    rw[h.eb,MN,e9] at R;have:=(h.c.nx b bk j _ h.hb h.hj hl1).1;rw[R,h.pl]
    lia
 .obtain⟨c1,c2,c3⟩:=xl (k:=k) (r:=r) (h:=p.h) (m:=m) a1 h.s.bx h.s.kv;refine tD (q:=qD k a r p.h) (bx':=(iT k a r m).bx) (kvs':=(iT k a r m).kvs) h H nl ?_ (DA h.s.b8 A) c1 c2 c3 (fun f _ f6 _ O=>⟨pN h.s.b8 a0 a1 (by decide) (by lia),pN h.s.b8 a0 a1 f6.1 (fun z=>O ⟨by show 1<=k;lia,by show k<=11;lia⟩ z.2)⟩) (fun _=> .inl rfl)
  rw[gz (show k≠13 by lia) (show k≠14 by lia)]
  refine(xa Y er.symm E).trans ?_
  have N:=C0 (k:=k) (a:=a) (r:=r) (m:=m);have e2:=(pH (k:=k) (a:=a) (r:=r) (m:=m)).trans h.r;have T:d_ k=1:=by unfold d_;rw[mC (by lia)]
  show(none,iT k a r m)=(none,(⟨m.p+((d_ k:Nat):Int),_,_,[]⟩:MSt))
  rw[T, <-e2];rw[show m.p+((1:Nat):Int)=(iT k a r m).p from N.symm]
 .obtain⟨c1,c2,c3⟩:=xl (k:=k) (r:=r) (h:=p.h) (m:=m) a1 h.s.bx h.s.kv;have h6:=h.fi _ hft;have h6:bxG m.bx 6=x.pb+(bxG m.bx U+n) %2^x.pk:=h6;rw[g] at h6;have H:G b j=[(k,[a,6,0])]:=H;refine tD (q:=qD k a r p.h) (bx':=(iT k a r m).bx) (kvs':=(iT k a r m).kvs) h H nl ?_ (DA h.s.b8 A) c1 c2 c3 (fun f _ f6 _ O=>⟨pN h.s.b8 a0 a1 (by decide) (by lia),pN h.s.b8 a0 a1 f6.1 (fun z=>O ⟨by show 1<=k;lia,by show k<=11;lia⟩ z.2)⟩) (fun _=> .inr rfl)
  rw[gz (show k≠13 by lia) (show k≠14 by lia)]
  refine(xa Y (by show(bxG m.bx 6+0) %4294967296=r;rw[h6,PK,N2 L.1 L.2]) E).trans ?_
  have N:=C0 (k:=k) (a:=a) (r:=r) (m:=m);have e2:=(pH (k:=k) (a:=a) (r:=r) (m:=m)).trans h.r;have T:d_ k=1:=by unfold d_;rw[mC (by lia)]
  show(none,iT k a r m)=(none,(⟨m.p+((d_ k:Nat):Int),_,_,[]⟩:MSt))
  rw[T, <-e2];rw[show m.p+((1:Nat):Int)=(iT k a r m).p from N.symm]
theorem Gu{o:Int}(h:Ev x ws S gs pos ft G p m b j bk (15,[o]))(u:S=8*2^x.ps)(hm:gs.length<=2^x.pm)(n:x.pm+x.ps<=7)(X:0<=o)(b1:o<6)(v1:bxG p.h.bx o<gs.length):
  vK x ws (o9 gs pos) pos ft left p.h.rows m (none,{p with b:=bxG p.h.bx o,i:=0}):=by
 have l8:m.bx.length=8:=h.s.b8.len;have R:=h.bxe b1;rw[<- R] at v1 ⊢;have v0:=(h.s.b8.at (i:=o) X (by lia)).2.1
 have g:G b j=[(17,[6,o]),(15,[6])]:=by
  rcases(h.c.gk b bk j _ h.hb h.hj).1 with z | ⟨z,_⟩
  .exact z
  .rcases z with z | z <;> exact absurd z (show ¬(15:Nat)=_ by decide)
 obtain⟨⟨y,E⟩,D,Q⟩:=h.c.begins h.hg v0 v1;have J:=h.c.ins b bk j _ h.hb h.hj;have I:=J 0 (17,[6,o]) (by rw[g];rfl)
 have C:=J 1 (15,[6]) (by rw[g];rfl)
 rw[g] at I C;have I:bQ ws ((pos b j:Nat):Int)=some (17,[6,o]):=I;have C:bQ ws ((pos b j+1:Nat):Int)=some (15,[6]):=C;have B:lnW (G b j)=2:=by rw[g];rfl
 generalize N:bxG m.bx o=v at*;have d:v<2^x.pm:=Int.lt_of_lt_of_le v1 (by exact_mod_cast hm)
 have T:SpM.aimV x.pm x.ps v=((v.toNat*S:Nat):Int):=by
  unfold SpM.aimV;rw[N2 v0 d,u]
  push_cast
  rw[Nz v0,Oq]
 have Z:v.toNat*S<4294967296:=by
  have L:v.toNat<2^x.pm:=by
   have:((v.toNat:Nat):Int)<((2^x.pm:Nat):Int):=by rw[Nz v0];push_cast;exact d
   exact_mod_cast this
  have h2:v.toNat*S<=2^x.pm*(8*2^x.ps):=by rw[u];exact NK _ (Oj L)
  have h3:2^x.pm*(8*2^x.ps)=8*2^(x.pm+x.ps):=by rw[Nat.pow_add];ac_rfl
  have h4:2^(x.pm+x.ps)<=2^7:=NZ (by decide) n
  lia
 have M:bxG (m.bx.set 6 ((v.toNat*S:Nat):Int)) 6=((v.toNat*S:Nat):Int):=by have:=pR (bx:=m.bx) (a:=6) (i:=6) (v:=((v.toNat*S:Nat):Int)) (by decide) (by rw[l8];decide) (by decide);rw[ME rfl] at this;exact this
 have U:=h.c.np h.hb h.hj (q:=pos b j+1) (by lia) (.inl (by lia))
 refine⟨⟨m.p+1,m.bx.set 6 ((v.toNat*S:Nat):Int),m.kvs,[]⟩,1,⟨((v.toNat*S:Nat):Int),m.bx.set 6 ((v.toNat*S:Nat):Int),m.kvs,[]⟩,iO (k:=17) (ns:=[6,o]) (by rw[h.pl];exact I) ?_ (y:=(15,[6])) (by show bQ ws (m.p+1)=_;rw[h.pl];exact C),.step ?_ (fun left=> ?_) rfl (.done _),by decide,rfl,⟨?_,?_,h.s.b8.set (by lia) (by lia),h.s.kv,?_⟩,?_,(fun r Y=>by cases Y),Na 1,.inr ?_⟩
 .rw[h.m0];show(none,(⟨m.p+1,m.bx.set 6 (SpM.aimV x.pm x.ps (bxG m.bx o)),m.kvs,m.rows⟩:MSt))=_
  rw[N,T,h.r]
 .show o9 gs pos (m.p+1)
  rw[h.pl];exact U
 .refine iO (k:=15) (ns:=[6]) (y:=y) (by show bQ ws (m.p+1)=_;rw[h.pl];exact C) ?_ E
  show(none,(⟨bxG (m.bx.set 6 ((v.toNat*S:Nat):Int)) 6,_,_,_⟩:MSt))=_
  rw[M]
 .show((v.toNat*S:Nat):Int)=(pos v.toNat 0:Nat)
  rw[D]
 .show(m.bx.set 6 _).take 6=p.h.bx
  rw[ug l8];exact h.s.bx
 .intro f e;have e:ft v.toNat 0=some f:=e;rw[Q] at e
  cases e
 .show p.h.rows=p.h.rows++[]
  rw[MS]
 .show m.p+1≠((v.toNat*S:Nat):Int)
  intro z;rw[h.pl] at z;refine U ?_
  have A:v.toNat<gs.length:=by lia
  obtain⟨_,_,F,kn,O,_⟩:=h.hg.blk _ (Nm A);have H:0<(gs[v.toNat]).length:=by rw[O,MA,Nv];lia
  refine⟨v.toNat,gs[v.toNat],0,_,be A,be H,?_⟩
  rw[D];exact z
end
theorem tw{gs:List (List (Nat × List Int))}{b i:Int}{kn:Nat × List Int}(h:rY gs b i=some kn):∃blk,gs[b.toNat]? =some blk/\blk[i.toNat]? =some kn:=by
 unfold rY at h
 cases e:gs[b.toNat]? with
 | none=>rw[e] at h;cases h
 | some blk=>rw[e] at h;exact⟨blk,rfl,h⟩
theorem Dd{pk:Nat}{pb:Int}{pm ps k:Nat}{ns bx:List Int}(o:aI 6 262144 k ns)(J:1<=k)(U:k<=10):fe pk pb pm ps k ns (bx.take 6)=fe pk pb pm ps k ns bx:=by
 rcases o with⟨h,_⟩|⟨rfl,a,v,rfl,_⟩|⟨k1,k2,a,b,c,rfl,a0,a1,C,I,c0,c1⟩|⟨k1,k2,a,b,n,rfl,a0,a1,C,I,n0,n1⟩|⟨h,_⟩|⟨h,_⟩|⟨h,_⟩|⟨h,_⟩
 .lia
 .rfl
 .unfold fe;rw[mC (by lia),mC (by lia),mC (by lia),mC (by lia),mC (by lia),mC (by lia),mC (by lia),mC (by lia)]
  show SpM.jv (Cg k) (bxG (bx.take 6) b) (bxG (bx.take 6) c)=SpM.jv (Cg k) (bxG bx b) (bxG bx c)
  rw[jC (by lia),jC (by lia)]
 .have k10:k=10:=by lia
  subst k10;show(bxG (bx.take 6) b+n) %4294967296=(bxG bx b+n) %4294967296
  rw[jC (by lia)]
 all_goals lia
theorem Hj{x:Fx}{ws:List Int}{S:Nat}{gs:List (List Ins)}{I:Nat->Nat->Nat}{L:Nat->Nat->Option (Int × Int)}{G:Nat->Nat->List Ins}{p:PSt}{m:MSt}{k:Nat}{ns:List Int}{left:List (List Int × List (Key × V))}(c:CD x ws S gs I L G)(hx:XOk x)(Z:GuG x.pg gs)(hS:S=8*2^x.ps)(hm:gs.length<=2^x.pm)(R:x.pm+x.ps<=7)(s:AZ x I L p m)(hr:m.rows=[])(u:PIn 6 gs p)
  (Y:rY gs p.b p.i=some (k,ns)) (hl:left=x.reps.drop p.h.rows.length) (g:(bn x gs.length k ns p).1≠some (("leaves":Str),([]:List Int))):vK x ws (o9 gs I) I L left p.h.rows m (bn x gs.length k ns p):=by
 obtain⟨bk,hb,hj⟩:=tw Y;have b0:=u.pl.b0;have i0:=u.pl.i0;have U:Ev x ws S gs I L G p m p.b.toNat p.i.toNat bk (k,ns):=⟨c,hx,Z,s,hr,hb,hj,(Nz b0).symm,(Nz i0).symm⟩;have gi:=U.gi;have f:aI 6 262144 k ns:=gi.v6;have ab:=f.lt;have E:=U.bl
 by_cases d:k=0
 .have F:bn x gs.length k ns p=(some (("stopped":Str),([]:List Int)),p):=by unfold bn;rw[ME d]
  rw[F];exact E8 U d
 by_cases B:k=13
 .subst B;obtain⟨n,rfl,n0,_⟩:=f.jmp rfl;have y:n<gs.length:=gi.j1 rfl;have F:bn x gs.length 13 [n] p=(none,{p with b:=n,i:=0}):=by
   unfold bn;rw[mC (by decide),ME (.inl rfl)]
   exact rO (q:=(n,0)) y
  rw[F];exact GM U n0 y
 by_cases D:k=14
 .subst D;obtain⟨a,n,rfl,a0,a1,n0,_⟩:=f.jif rfl;have y:n<gs.length:=gi.j2 rfl;have F:bn x gs.length 14 [a,n] p=(none,{p with b:=(if bxG p.h.bx a≠0 then(n,0) else(p.b,p.i+1)).1,i:=(if bxG p.h.bx a≠0 then(n,0) else(p.b,p.i+1)).2}):=by
   unfold bn;rw[mC (by decide),ME (.inr (.inl rfl))]
   refine rO (q:=if bxG p.h.bx a≠0 then(n,0) else(p.b,p.i+1)) ?_
   split
   .exact y
   .exact E
  rw[F];exact F9 U a1 n0 y
 by_cases H:k=15
 .subst H;obtain⟨C,rfl,j,M⟩:=f.thr rfl;have e0:bn x gs.length 15 [C] p=du gs.length (bxG p.h.bx C,0) p:=by
   unfold bn;rw[mC (by decide),ME (.inr (.inr rfl))]
   rfl
  by_cases z:bxG p.h.bx C<gs.length
  .rw[e0,rO (q:=(bxG p.h.bx C,0)) z];exact Gu U hS hm R j M z
  .rw[e0,FD (q:=(bxG p.h.bx C,0)) z] at g;exact absurd rfl g
 by_cases o:k=18
 .subst o;obtain⟨n,rfl⟩:=f.gate;exact EU U u.bx hl
 have kj:¬(k=13\/k=14\/k=15):=by lia
 have X:∀O,bA x k ns p.h=(none,O)->bn x gs.length k ns p=(none,{p with b:=p.b,i:=p.i+1,h:=O}):=fun O e=>by
  unfold bn;rw[mC d,mC kj,e];exact rO (q:=(p.b,p.i+1)) E
 by_cases J:k=11\/k=12
 .obtain⟨a,C,n,rfl,a0,a1,j,M,_⟩:=f.acc J
  by_cases N:InR x.pk x.pb (bq [a,C,n] p.h.bx)
  .have v:bA x k [a,C,n] p.h=(none,qD k a (bq [a,C,n] p.h.bx) p.h):=by
    unfold bA qD;rw[mC o,ME J,ME N]
    split <;> rfl
   rw[X _ v];exact HL U J a0 a1 j M (by rw[s.kv];exact u.mem) (by show(bxG p.h.bx C+n) %4294967296=_;rw[U.bxe M]) N
  .exfalso
   refine g ?_
   have v:bA x k [a,C,n] p.h=(some (("beyond":Str),[bq [a,C,n] p.h.bx]),p.h):=by
    unfold bA;rw[mC o,ME J,mC N]
   unfold bn;rw[mC d,mC kj,v]
   rfl
 .have km:1<=k/\k<=10:=by have:=gi.nm;have ar:k≠16:=this.1;have ao:k≠17:=this.2;lia
  obtain⟨a,r,rfl,a0,a1⟩:=f.box (.inl km);have v:bA x k (a::r) p.h=(none,{p.h with bx:=p.h.bx.set a.toNat (fe x.pk x.pb x.pm x.ps k (a::r) p.h.bx)}):=by
   unfold bA;rw[mC o,mC J]
   rfl
  have T:a<6:=by lia
  have A:=tJ (x:=x) hx (by decide) Z.ok u Y (by rw[X _ v])
  rw[X _ v] at A ⊢;have Q:fe x.pk x.pb x.pm x.ps k (a::r) p.h.bx∈p.h.bx.set a.toNat (fe x.pk x.pb x.pm x.ps k (a::r) p.h.bx):=List.mem_set (by have:=u.bx.len;lia) _
  exact E1 U km.1 km.2 (A.bx.rng _ Q) a0 T (by rw[<- s.bx,Dd f km.1 km.2])
structure AR (x:Fx) (gs:List (List Ins)) (pos:Nat->Nat->Nat) (ft:Nat->Nat->Option (Int × Int)) (R:(Str × List Int) × PSt) (e:Str × List Int) (m:MSt) (rows:List (Int × List Int × List (Key × V))):Prop where
 en:e=R.1
 bx:m.bx.take 6=R.2.h.bx
 b8:Bxs m.bx
 kv:m.kvs=R.2.h.kvs
 rw:R.2.h.rows=rows.map (fun r=>(r.1,r.2.1.take 6,r.2.2))
 r8:∀r∈rows,r.2.1.length=8
 on:R.1=bF->AZ x pos ft R.2 m/\PIn 6 gs R.2
theorem F1{x:Fx}{gs:List (List Ins)}(U:XOk x)(I:yX 6 gs){o:PSt}(C:PIn 6 gs o){t:Nat}(hs:(aX x gs t o).1=bF):∃k ns,rY gs (aX x gs t o).2.b (aX x gs t o).2.i=some (k,ns)/\PIn 6 gs (aX x gs t o).2/\∀q,q={(aX x gs t o).2 with tr:=(aX x gs t o).2.tr++[((aX x gs t o).2.b,(aX x gs t o).2.i)]}->
  aX x gs (t+1) o=match bn x gs.length k ns q with | (some e,st')=>(e,st') | (none,st')=>(bF,st'):=by
 rcases iW U (by decide) I t o C (t+1) (Oh t) with⟨a1,_,_⟩|⟨_,_,a3,a4⟩
 .rw[hs] at a1;exact absurd rfl a1
 .obtain⟨⟨k,ns⟩,hi⟩:=a3.pl.at_;refine⟨k,ns,hi,a3,fun q a=> ?_⟩
  rw[a4,Pw,pI hi, <-a];generalize bn x gs.length k ns q=Y;obtain⟨J,c⟩:=Y
  cases J <;> rfl
theorem Bn{x : Fx}{ws : List Int}{S : Nat}{gs : List (List Ins)}{C : Nat → Nat → Nat}{y : Nat → Nat → Option (Int × Int)}{G : Nat → Nat → List Ins}{o : PSt}{m : MSt}{t : Nat}{rows : List (Int × List Int × List (Key × V))}(c : CD x ws S gs C y G)(T : XOk x)(M : GuG x.pg gs)(hS : S = 8 * 2 ^ x.ps)(hm : gs.length ≤ 2 ^ x.pm)(O : x.pm + x.ps ≤ 7)(h0 : PIn 6 gs o)
    (s : AR x gs C y (aX x gs t o) bF m rows) (I : m.rows = []) (A : (aX x gs (t + 1) o).1 ≠ (("leaves" : Str), ([] : List Int))) : ∃m1, (∀r ∈ m1.rows, r.2.1.length = 8) ∧ m1.rows.length ≤ 1 ∧
    (((aX x gs (t + 1) o).1 ≠ bF ∧ dH x ws (x.reps.drop rows.length) m = ((aX x gs (t + 1) o).1, m1, 1) ∧ AR x gs C y (aX x gs (t + 1) o) (aX x gs (t + 1) o).1 m1 (rows ++ m1.rows)) ∨
     ∃n j, (aX x gs (t + 1) o).1 = bF ∧ dH x ws (x.reps.drop rows.length) m = (bF, m1, 1) ∧ Way x ws (o9 gs C) n { m1 with rows := [] } j ∧ n ≤ 12 ∧ j.rows = [] ∧ AR x gs C y (aX x gs (t + 1) o) bF j (rows ++ m1.rows) ∧ (n = 0 ∨ m1.p ≠ j.p)) := by
  obtain⟨U, a⟩ := s.on s.en.symm
  obtain⟨k, u, hi, _, hq⟩ := F1 T M.ok h0 s.en.symm
  obtain⟨q, B⟩ : ∃q, q = ({ (aX x gs t o).2 with tr := (aX x gs t o).2.tr ++ [((aX x gs t o).2.b, (aX x gs t o).2.i)] } : PSt) := ⟨_, rfl⟩
  have hR := hq q B
  have d : q.b = (aX x gs t o).2.b := by rw[B]
  have f : q.i = (aX x gs t o).2.i := by rw[B]
  have J : q.h = (aX x gs t o).2.h := by rw[B]
  have sq : AZ x C y q m := ⟨by rw[d, f]; exact U.pl, by rw[J]; exact U.bx, U.b8, by rw[J]; exact U.kv, by rw[d, f]; exact U.fi⟩
  have D : PIn 6 gs q := ⟨⟨by rw[d]; exact a.pl.b0, by rw[f]; exact a.pl.i0, by rw[d, f]; exact a.pl.at_⟩, by rw[J]; exact a.bx, by rw[J]; exact a.mem⟩
  have v : rY gs q.b q.i = some (k, u) := by rw[d, f]; exact hi
  have el : q.h.rows.length = rows.length := by rw[J, s.rw, fI]
  have ao : q.h.rows = rows.map (fun r => (r.1, r.2.1.take 6, r.2.2)) := by rw[J, s.rw]
  have r8 := s.r8
  clear hq B d f J U a hi s
  have ab : (bn x gs.length k u q).1 ≠ some (("leaves" : Str), ([] : List Int)) := fun z => by
    rw[hR] at A
    generalize bn x gs.length k u q = Y at *
    obtain⟨Q, y2⟩ := Y
    have z : Q = some (("leaves" : Str), ([] : List Int)) := z
    subst z
    exact A rfl
  have g := Hj c T M hS hm O sq I D v (left := x.reps.drop rows.length) (by rw[el]) ab
  have N := fun hn => tJ (x := x) T (by decide) M.ok D v hn
  have L := fun e (h : (bn x gs.length k u q).1 = some e) => (wu h).1
  rw[hR]
  rw[ao] at g
  generalize bn x gs.length k u q = Y at *
  obtain⟨Q, y2⟩ := Y
  cases Q with
  | some e =>
    obtain⟨m1, X, R, H, Z, t5, E, F⟩ := g
    have he : e ≠ bF := fun z => L e rfl (by rw[z])
    refine⟨m1, E, F, .inl ⟨he, X, ⟨rfl, R, H, Z, by rw[MH]; exact t5, fun r I => ?_, fun z => absurd z he⟩⟩⟩
    rcases MZ.mp I with I | I
    . exact r8 r I
    . exact E r I
  | none =>
    obtain⟨m1, n, j, X, R, H, Z, t5, E, F, t8, t9⟩ := g
    refine⟨m1, F, t8, .inr ⟨n, j, rfl, X, R, H, Z, ⟨rfl, t5.bx, t5.b8, t5.kv, by rw[MH]; exact E, fun r I => ?_, fun _ => ⟨t5, N rfl⟩⟩, t9⟩⟩
    rcases MZ.mp I with I | I
    . exact r8 r I
    . exact F r I
structure Lyd (bk:List Ins) (st:Nat->Bk) (g:Nat->List Ins):Prop where
 z:st 0=([],[])
 s:∀j,j<bk.length->∃n,n<=7/\(st (j+1)).1=(st j).1++List.replicate n nop++g j/\(st (j+1)).2=(st j).2++[lnW (st j).1+n]/\(j=0->n=0)
theorem Lyd.len{bk:List Ins}{st:Nat->Bk}{g:Nat->List Ins}(h:Lyd bk st g):∀j,j<=bk.length->(st j).2.length=j
 | 0,_=>by rw[h.z];rfl
 | j+1,hj=>by
  obtain⟨n,_,_,e,_⟩:=h.s j hj;rw[e,MA,h.len j (by lia)]
  rfl
theorem Lyd.ext{bk:List Ins}{st:Nat->Bk}{g:Nat->List Ins}(h:Lyd bk st g){i:Nat}:∀d,i+d<=bk.length->∃r t,(st (i+d)).1=(st i).1++r/\(st (i+d)).2=(st i).2++t
 | 0,_=>⟨[],[],(MS _).symm,(MS _).symm⟩
 | d+1,hd=>by
  obtain⟨r,t,C,o⟩:=h.ext (i:=i) d (by lia)
  obtain⟨n,_,a1,a2,_⟩:=h.s (i+d) (by lia)
  exact⟨r++List.replicate n nop++g (i+d),t++[lnW (st (i+d)).1+n],by rw[show i+(d+1)=i+d+1 from rfl,a1,C];simp only[M4],by rw[show i+(d+1)=i+d+1 from rfl,a2];conv=>{lhs;arg 1;rw[o]};simp only[M4]⟩
theorem Lyd.at_{bk:List Ins}{st:Nat->Bk}{g:Nat->List Ins}(h:Lyd bk st g){j:Nat}(J:j<bk.length):∃o r q,(st bk.length).1=o++g j++r/\(st bk.length).2[j]? =some q/\lnW o=q/\(j=0->q=0)/\(st (j+1)).1=o++g j:=by
 obtain⟨n,U,a1,a2,a3⟩:=h.s j J;obtain⟨r,t,I,C⟩:=h.ext (i:=j+1) (bk.length - (j+1)) (by lia)
 rw[N4 (by lia)] at I C
 refine⟨(st j).1++List.replicate n nop,r,lnW (st j).1+n,by rw[I,a1],?_,by rw[cW,rG],fun z=> ?_,a1⟩
 .rw[C,a2,M4,MT (by rw[h.len j (by lia)];exact MC _),h.len j (by lia),NO]
  rfl
 .subst z;rw[h.z,a3 rfl]
  rfl
theorem Lyd.nx{bk:List Ins}{st:Nat->Bk}{g:Nat->List Ins}(h:Lyd bk st g){j:Nat}(d:j+1<bk.length){q I:Nat}(e:(st bk.length).2[j]? =some q)(C:(st bk.length).2[j+1]? =some I):∃n o r,n<=7/\I=q+lnW (g j)+n/\(st bk.length).1=o++List.replicate n nop++r/\lnW o=q+lnW (g j):=by
 obtain⟨o,r,p,a1,a2,a3,_,a4⟩:=h.at_ (j:=j) (by lia)
 rw[e] at a2
 cases a2
 obtain⟨n,b,m,c,_⟩:=h.s (j+1) d;obtain⟨f,t,U,J⟩:=h.ext (i:=j+1+1) (bk.length - (j+1+1)) (by lia)
 rw[N4 (by lia)] at U J
 have a:lnW (st (j+1)).1=q+lnW (g j):=by rw[a4,cW,a3]
 refine⟨n,(st (j+1)).1,g (j+1)++f,b,?_,by rw[U,m];simp only[M4],a⟩
 rw[J,c,M4,MT (by rw[h.len (j+1) (by lia)];exact MC _),h.len (j+1) (by lia),NO] at C
 have C:lnW (st (j+1)).1+n=I:=MR C;rw[<- C,a]
theorem HG{kn:Ins}{o r:List Ins}(h:aI 8 262144 kn.1 kn.2):bQ (aV (o++kn::r)) (lnW o:Nat)=some kn:=by
 rw[jB,uX, <-M4, <-dW o];exact EY h
theorem Eg{S tot:Nat}{ds:List Bk}{b:Nat}{d:Bk}{kn:Ins}{o r:List Ins}(hd:∀d∈ds,lnW d.1<=S)(C:ds[b]? =some d)(e:d.1=o++kn::r)(a:aI 8 262144 (plc S kn).1 (plc S kn).2):bQ (aV (lj S tot ds)) ((b*S+lnW o:Nat):Int)=some (plc S kn):=by
 have I:b<ds.length:=(gV.mp C).1;have c:ds=ds.take b++d::ds.drop (b+1):=by
  have:=(gV.mp C).2;rw[<- this, <-NG I,OF]
 have J:lj S tot ds=((ds.take b).flatMap (fun b=>gq S b.1)++o.map (plc S))++plc S kn::(r.map (plc S)++List.replicate (S - lnW d.1) (0,[])++(ds.drop (b+1)).flatMap (fun b=>gq S b.1)++List.replicate (tot - ds.length*S) (0,[])):=by
  unfold lj
  conv=>{lhs;arg 1;rw[c]}
  rw[OT,List.flatMap_cons]
  conv=>{lhs;arg 1;arg 2;arg 1;unfold gq;rw[e]}
  rw[MH,Nd, <-e]
  simp only[M4,OH]
 have U:lnW ((ds.take b).flatMap (fun b=>gq S b.1)++o.map (plc S))=b*S+lnW o:=by
  rw[cW,sL,sN (fun d h=>hd d (Oi h)),M0,OQ (Oj I)]
 rw[J, <-U];exact HG a
theorem Dy{S nb:Nat}{g:Int}{m:Ins}(h:GI nb g m)(c:(nb:Int)*S<=262144):aI 8 262144 (plc S m).1 (plc S m).2:=by
 by_cases C:m.1=13
 .obtain⟨n,e,n0,_⟩:=h.v6.jmp C;have o:=h.j1 C;rw[e] at o;have o:n<nb:=o;have J:plc S m=(13,[n*S]):=by unfold plc;rw[ME C,e];rfl
  rw[J];have b:0<=n*(S:Int):=O5 n0 (by lia)
  have U:n*S<262144:=by
   rcases NV S with z | z
   .rw[z];show n*0<_;lia
   .have:=OX o (show(0:Int)<S by lia)
    lia
  exact .inr (.inr (.inr (.inr (.inl ⟨.inl rfl,_,rfl,b,U⟩))))
 by_cases I:m.1=14
 .obtain⟨a,n,e,a0,a1,n0,_⟩:=h.v6.jif I;have o:=h.j2 I;rw[e] at o;have o:n<nb:=o;have J:plc S m=(14,[a,n*S]):=by unfold plc;rw[mC C,ME I,e];rfl
  rw[J];have b:0<=n*(S:Int):=O5 n0 (by lia)
  have U:n*S<262144:=by
   rcases NV S with z | z
   .rw[z];show n*0<_;lia
   .have:=OX o (show(0:Int)<S by lia)
    lia
  exact .inr (.inr (.inr (.inr (.inr (.inl ⟨rfl,a,_,rfl,a0,by lia,b,U⟩)))))
 .rw[gz C I];exact h.v6.w8
theorem Fj(kn:Ins):grp kn=[kn]\/((kn.1=11\/kn.1=12\/kn.1=15)/\∀m∈grp kn,m.1≠13/\m.1≠14):=by
 unfold grp
 split
 .rename_i h
  refine .inr ⟨.inr (.inr h),fun m hm=> ?_⟩
  simp only[M3,Nr,Oo] at hm
  rcases hm with rfl | rfl
  .exact⟨(by decide:(17:Nat)≠13),(by decide:(17:Nat)≠14)⟩
  .exact⟨(by decide:(15:Nat)≠13),(by decide:(15:Nat)≠14)⟩
 .split
  .rename_i h
   refine .inr ⟨by lia,fun m hm=> ?_⟩
   have o:∀y:Ins,y.1=kn.1->y.1≠13/\y.1≠14:=fun y e=>by rw[e];lia
   split at hm
   .simp only[M3,Nr,Oo] at hm
    rcases hm with rfl | rfl
    .exact⟨(by decide:(16:Nat)≠13),(by decide:(16:Nat)≠14)⟩
    .exact o _ rfl
   .simp only[M3,Nr,Oo] at hm
    rcases hm with rfl | rfl | rfl
    .exact⟨(by decide:(10:Nat)≠13),(by decide:(10:Nat)≠14)⟩
    .exact⟨(by decide:(16:Nat)≠13),(by decide:(16:Nat)≠14)⟩
    .exact o _ rfl
  .exact .inl rfl
theorem vO{S nb:Nat}{g:Int}{kn:Ins}(h:GI nb g kn)(o:(nb:Int)*S<=262144):∀m∈grp kn,aI 8 262144 (plc S m).1 (plc S m).2:=by
 intro m hm;rcases Fj kn with e | ⟨_,hn⟩
 .rw[e] at hm;rw[MY.mp hm];exact Dy h o
 .obtain⟨n1,n2⟩:=hn m hm;rw[gz n1 n2];exact tT h.v6.w8 m hm
noncomputable def AY(S:Nat)(ds:List Bk)(b j:Nat):Nat:=b*S+(ds.getD b ([],[])).2.getD j 0
theorem kg{S:Nat}{ds:List Bk}{b j q:Nat}{d:Bk}(h:ds[b]? =some d)(e:d.2[j]? =some q):AY S ds b j=b*S+q:=by
 have o:ds.getD b ([],[])=d:=by rw[MF,h];rfl
 unfold AY;rw[o,MF,e]
 rfl
theorem JI{x:Fx}{S tot:Nat}{gs:List (List Ins)}{ds:List Bk}{st:Nat->Nat->Bk}{g:Nat->Nat->List Ins}{a:Nat->Nat->Option (Int × Int)}(e:∀bk∈gs,bk≠[])(I:∀b bk,gs[b]? =some bk->Lyd bk (st b) (g b)/\ds[b]? =some (st b bk.length))(o:∀d∈ds,lnW d.1<=S)
  (c:∀b bk j kn,gs[b]? =some bk->bk[j]? =some kn->GK (a b j) kn (g b j)/\∀m∈g b j,aI 8 262144 (plc S m).1 (plc S m).2) (p:∀b,a b 0=none)
  (u:∀b bk j kn,gs[b]? =some bk->bk[j]? =some kn->j+1<bk.length->∀f,a b (j+1)=some f->(0<=f.1/\f.1<6)/\(((kn.1=11\/kn.1=12)/\g b j=grp kn/\f=(kn.2.getD 1 0,kn.2.getD 2 0)/\¬(kn.1=11/\kn.2.getD 0 0=f.1))\/(a b j=some f/\kn.1≠18/\(1<=kn.1/\kn.1<=11->kn.2.getD 0 0≠f.1)/\∃m,g b j=[m]))):
  CD x (aV (lj S tot ds)) S gs (AY S ds) a g:=by
 refine⟨fun b bk C=>⟨?_,p b⟩,fun b bk j kn C U=> ?_,fun b bk j kn C U i m hm=> ?_,fun b bk j kn C U v=> ?_,u⟩
 .obtain⟨ly,hd⟩:=I b bk C;have B:0<bk.length:=N3.mpr (e bk (MD C));obtain⟨_,_,q,_,a2,_,a4,_⟩:=ly.at_ B;rw[kg hd a2,a4 rfl,PM]
 .obtain⟨ly,hd⟩:=I b bk C;obtain⟨J,r,q,a1,a2,a3,_,_⟩:=ly.at_ (gV.mp U).1;refine⟨(c b bk j kn C U).1,?_,?_⟩
  .rw[kg hd a2];exact Nat.le_add_right _ _
  .have h1:=o _ (MD hd);rw[a1,cW,cW] at h1;rw[kg hd a2,QO]
   lia
 .obtain⟨ly,hd⟩:=I b bk C;obtain⟨J,r,q,a1,a2,a3,_,_⟩:=ly.at_ (gV.mp U).1;obtain⟨s,L⟩:=gV.mp hm;have D:g b j=(g b j).take i++m::(g b j).drop (i+1):=by
   conv=>lhs;rw[<- OF i (g b j)]
   rw[NG s,L]
  have F:(st b bk.length).1=(J++(g b j).take i)++m::((g b j).drop (i+1)++r):=by
   rw[a1]
   conv=>{lhs;arg 1;arg 2;rw[D]}
   simp only[M4,OH]
  have:=Eg (tot:=tot) o hd F ((c b bk j kn C U).2 m (MD hm));rw[kg hd a2,Nat.add_assoc, <-a3, <-cW];exact this
 .obtain⟨ly,hd⟩:=I b bk C;obtain⟨J,r,q,a1,a2,a3,_,_⟩:=ly.at_ (gV.mp U).1;obtain⟨y,Y,T,Z,A,b3,_,_⟩:=ly.at_ v;obtain⟨n,G,M,X,N,E,H⟩:=ly.nx v a2 A;rw[kg hd a2,kg hd A,N];refine⟨by lia,by lia,fun z z1 z2=> ?_⟩
  obtain⟨d,O⟩:∃d,z=b*S+(q+lnW (g b j)+d):=⟨z - (b*S+q+lnW (g b j)),by lia⟩
  have R:d<n:=by lia
  have Q:(st b bk.length).1=(G++List.replicate d nop)++nop::(List.replicate (n - d - 1) nop++M):=by
   rw[E];have:List.replicate n nop=List.replicate d nop++nop::List.replicate (n - d - 1) nop:=by
    rw[show nop::List.replicate (n - d - 1) nop=List.replicate (n - d - 1+1) nop from rfl,List.replicate_append_replicate]
    congr 1
    lia
   rw[this]
   simp only[M4,OH]
  have:=Eg (tot:=tot) o hd Q pG;rw[cW,rG,H] at this;rw[O];exact this
theorem DL(bk:List Ins):Lyd bk (fun j=>cT (bk.take j)) (fun j=>grp (bk.getD j (0,[]))):=by
 refine⟨rfl,fun j C=> ?_⟩
 have e:bk[j]? =some bk[j]:=be C;have o:bk.getD j (0,[])=bk[j]:=by rw[MF,e];rfl
 have I:=(vZ bk[j]).2;rw[pP e,o];show ∃n,n<=7/\dk (cT (bk.take j)).1 (grp bk[j])++grp bk[j]=_/\(cT (bk.take j)).2++[lnW (dk (cT (bk.take j)).1 (grp bk[j]))]=_/\_
 unfold dk
 split
 .exact⟨0,by decide,by rw[List.replicate_zero,MS],rfl,fun _=>rfl⟩
 .rename_i hn
  refine⟨(8 - lnW (cT (bk.take j)).1 %8) %8,by lia,rfl,by rw[cW,xw],fun z=> ?_⟩
  subst z;exact absurd (show lnW (cT (bk.take 0)).1 %8+lnW (grp bk[0])<=8 by show 0 %8+_<=8;lia) hn
theorem HS{x:Fx}{S tot:Nat}{gs:List (List Ins)}(J:GuG x.pg gs)(a:(gs.length:Int)*S<=262144)(C:∀bk∈gs,lnW (cT bk).1<=S):CD x (aV (lj S tot (gs.map cT))) S gs (AY S (gs.map cT)) (fun _ _=>none) (fun b j=>grp ((gs.getD b []).getD j (0,[]))):=by
 refine JI (st:=fun b j=>cT ((gs.getD b []).take j)) J.ok.ne (fun b bk o=> ?_) (fun d hd=> ?_) (fun b bk j I o U=> ?_) (fun _=>rfl) (fun b bk j I _ _ _ f e=>by cases e)
 .have eb:gs.getD b []=bk:=by rw[MF,o];rfl
  rw[eb];refine⟨DL bk,?_⟩
  rw[MW,o,ML]
  rfl
 .obtain⟨bk,h1,rfl⟩:=Nn.mp hd;exact C bk h1
 .have eb:gs.getD b []=bk:=by rw[MF,o];rfl
  have c:bk.getD j (0,[])=I:=by rw[MF,U];rfl
  rw[eb,c];exact⟨.inl rfl,vO ((J.blk bk (MD o)).1 I (MD U)) a⟩
def a_(H:Hp)(d:Addr):Prop:=∃n o:Int,H d=some (.lst [.int n,.int o])
def HJ(K:Frag):Sp:=fun I H Q _=>∃(a:Addr) (C:List Int) (k:Int),I=[.ref a,.int k]/\SqL K H a (C.map V.int)/\0<=k/\k<=1000000/\∀(d:Addr) (o:Hp),H d=none->a_ o d->ax H o->Q (.ref d) o
def oH:Sp:=fun C H Q _=>∃(d:Addr) (m:Int),C=[.ref d,.int m]/\a_ H d/\0<m/\m<=2^100/\∀(r:Int) (o:Hp),0<=r->r<m->a_ o d->But d H o->Q (.int r) o
theorem bp{H C:Hp}{d:Addr}(s:ax H C)(h:a_ H d):a_ C d:=by
 obtain⟨f,o,h⟩:=h;exact⟨f,o,s _ _ h⟩
theorem zn(B:Bi mg)(D:uR K mg):Has P w K mg base 1 "_law_deal" Cb (HJ K):=by
 refine D.has gL (fun m H Q E h=> ?_) (fun f n A U s H m Q E O h=> ?_)
 .obtain⟨a,o,k,rfl,_⟩:=h
  rfl
 obtain⟨a,o,k,rfl,u,e,F,q⟩:=h;have I:(o.map V.int).length=o.length:=fI _;have C:∀i:Int,0<=i->i<o.length->∃v:Int,atI (o.map V.int) i=some (.int v):=fun i R L=>by
  have g:i.toNat<o.length:=by lia
  have j:i=((i.toNat:Nat):Int):=by lia
  have q:atI (o.map V.int) ((i.toNat:Nat):Int)=some (.int o[i.toNat]):=aY (by rw[MW,be g] <;> rfl)
  rw[<- j] at q;exact⟨_,q⟩
 refine⟨_,(ac (psS 2 gL.nd (au aP (au cG aa (pv 1)) aa))
   (ac (psS 3 gL.nd aa)
   (ac (aW (cy (ay (pcT EB (aL aN (by rfl) B.len dD (pa1 (pv 0))) aa) (ae (psS 2 gL.nd (au aP (au aP (au cG (pX bc (pv 0) (au fM (pv 1) (aL aN (by rfl) B.len dD (pa1 (pv 0))))) aa) (au cG (au cG aa (pv 1)) (pv 1))) (aL aN (by rfl) B.len dD (pa1 (pv 0)))))) am)))
   (ac (aW (cy (ay (PW.pt (wc (pcT kh (pv 1) (aL aN (by rfl) B.len dD (pa1 (pv 0)))) (sE (pcT aJ (au fM (pX bc (pv 0) aa) aa) aa)))) (ae (psS 3 gL.nd (pX bc (pv 0) (pv 1)))) am)))
   (ae (ai (bG (pa2 (pv 3) (au fM (pv 2) aa))))))))),?_⟩
 try dsimp only[aT]
 walk_at"g";refine⟨fun d b=>aG (H=b/\∃x y:Int,d=[some (.ref a),some (.int k),some (.int x),some (.int y)]),?_,?_⟩
 .walk_at"g";refine bI (fun c=> ?_) (fun c=> ?_)
  .have c':(0:Int)<((o.map V.int).length:Nat):=c;have J:0<o.length:=by rw[I] at c';lia
   obtain⟨v1,r⟩:=C (k %(((o.map V.int).length:Nat):Int)) (NY _ (by rw[I];lia)) (by rw[I];exact Ob _ (by lia))
   walk_at"g";exact⟨rfl,_,_,rfl⟩
  .exact⟨rfl,_,_,rfl⟩
 rintro N M ⟨rfl,x,y,rfl⟩
 walk_at"n";refine⟨fun d b=>aG (H=b/\∃x y:Int,d=[some (.ref a),some (.int k),some (.int x),some (.int y)]),?_,?_⟩
 .walk_at"g";refine bI (fun c=> ?_) (fun c=> ?_)
  .have c':k<(((o.map V.int).length:Nat):Int):=c;obtain⟨v1,r⟩:=C k e (by rw[I] at c';exact c')
   obtain⟨v0,S⟩:=C 0 (N1 0) (by rw[I] at c';lia)
   walk_at"g";refine bI (fun c=> ?_) (fun c=> ?_)
   .walk_at"g";exact⟨rfl,_,_,rfl⟩
   .exact⟨rfl,_,_,rfl⟩
  .exact Do ⟨rfl,_,_,rfl⟩
 rintro T G ⟨rfl,z,z2,rfl⟩
 walk_at"g";intro p J;exact q p _ J ⟨_,_,ad⟩ (af J _)
theorem ze(B:Bi mg)(D:uG K mg):Has P w K mg base 1 "_law_draw" qm oH:=by
 refine D.has gE (fun g H Q E h=> ?_) (fun f i A U s H g Q E u h=> ?_)
 .obtain⟨d,m,rfl,_⟩:=h
  rfl
 obtain⟨d,m,rfl,⟨n,o,hd⟩,C,J,q⟩:=h
 refine⟨_,(ac (ay (zC Ab (pX bc (pv 0) aa) (bG (pa2 aa (tu (v:= -1) (by rfl)))) (by rfl)) (ac (psS 2 gE.nd (pX bc (pv 0) aa))
   (ac (kN (au fR (pv 2) (pv 1)) (zQ (pv 0) aa rL))
   (ae (ai (au fM (pv 2) (pv 1)))))) am)
   (ac (psS 2 gE.nd (au fM (au aP (au cG (pX bc (pv 0) aa) aa) aa) aa))
   (ac (kN (au fM (au aP (au cG (pv 2) aa) aa) aa) (zQ (pv 0) aa rL))
   (ac (psS 3 gE.nd (au fM (au cG (pv 2) (pv 2)) aa))
   (ac (psS 4 gE.nd (au fM (au cG (pX bc (pv 0) aa) (pX bc (pv 0) aa)) aa))
   (ae (ai (au fM (au aP (au cG (pv 3) aa) (pv 4)) (pv 1))))))))),?_⟩
 try dsimp only[aT]
 walk_at"g";intro p a;walk_at"g";have I:d≠p:=ak hd a;have e:DV n m:=⟨C,J⟩;have j:upd H p (.lst [.int 0,.int (-1)]) d=some (.lst [.int n,.int o]):=by rw[aj I];exact hd
 have b:ax H (upd H p (.lst [.int 0,.int (-1)])):=af a _;generalize upd H p (.lst [.int 0,.int (-1)])=r at*;refine Kp (fun c=> ?_) (fun c=> ?_)
 .walk_at"g";exact q _ _ (NY _ (by lia)) (Ob _ C) ⟨_,_,ad⟩ (b.but.trans But.upd)
 .walk_at"g";exact q _ _ (NY _ (by lia)) (Ob _ C) ⟨_,_,ad⟩ (b.but.trans But.upd)
theorem a_.up{H:Hp}{d p:Addr}{o:HO}(h:a_ H d)(C:H p=none):a_ (upd H p o) d:=bp (af C _) h
theorem a_.ne{H:Hp}{d p:Addr}(h:a_ H d)(C:H p=none):p≠d:=by
 obtain⟨n,o,h⟩:=h;exact(ak h C).symm
theorem a_.tup{H C:Hp}{d a:Addr}{xs:List V}(h:a_ H d)(b:But d H C)(e:H a=some (.tup xs)):C a=some (.tup xs):=by
 obtain⟨n,o,I⟩:=h;exact b _ _ (by rintro rfl;rw[I] at e;cases e) e
theorem a_.sq{H C:Hp}{d a:Addr}{xs:List V}(h:a_ H d)(b:But d H C)(e:SqT K H a xs):SqT K C a xs:=by
 obtain⟨n,o,I⟩:=h;exact b.tup I e
theorem GS{k:Nat}{b:Int}(I:k<=20)(o:0<=b)(J:b<2^(32 - k)):SpM.Room k (b*2^k):=by
 have e:(2:Int)^(32 - k)*2^k=4294967296:=by rw[<- Ow,Nat.sub_add_cancel (by lia)];exact SpM.p32
 have C:(b+1)*2^k<=2^(32 - k)*2^k:=NJ (by lia) (OW (SpM.pp k))
 rw[Int.add_mul] at C;exact⟨I,O5 o (OW (SpM.pp k)),⟨b,PJ _ _⟩,by lia⟩
theorem Jz{x y r:Int}(o:0<=r)(C:r<2):∃v,(v=x\/v=y)/\atI [V.int x,V.int y] r=some (.int v):=by
 obtain rfl | rfl:r=0\/r=1:=by lia
 .exact⟨x,.inl rfl,rfl⟩
 .exact⟨y,.inr rfl,rfl⟩
theorem JN{x y z r:Int}(o:0<=r)(C:r<3):∃v,(v=x\/v=y\/v=z)/\atI [V.int x,V.int y,V.int z] r=some (.int v):=by
 obtain rfl | rfl | rfl:r=0\/r=1\/r=2:=by lia
 .exact⟨x,.inl rfl,rfl⟩
 .exact⟨y,.inr (.inl rfl),rfl⟩
 .exact⟨z,.inr (.inr rfl),rfl⟩
def GN:Sp:=fun J H Q _=>∃d:Addr,J=[.ref d]/\a_ H d/\∀(p:Addr) (I:Nat) (C:Int) o,o p=some (.tup [.int I,.int C])->SpM.Room I C->a_ o d->But d H o->Q (.ref p) o
theorem Aa(B:Bi mg)(D:uJ K mg)(g:Has P w K mg base 1 "_law_draw" qm oH):Has P w K mg base 2 "_law_room" D5 GN:=by
 refine D.has sQ (fun vs H Q E h=> ?_) (fun f aR A G s H vs Q E J h=> ?_)
 .obtain⟨d,rfl,_⟩:=h
  rfl
 obtain⟨d,rfl,hD,q⟩:=h
 refine⟨_,(ac (psS 1 sQ.nd (pX bc (bG (pa2 (pcH g J (pa2 (pv 0) aa)) (au aP aa (pcH g J (pa2 (pv 0) aa))))) (pcH g J (pa2 (pv 0) aa))))
   (ae (ai (aw (pa2 (pv 1) (au jd (pX bc (bG (pa3 (pcH g J (pa2 (pv 0) (au jd aa (au bS aa (pv 1))))) aa (au bS (au jd aa (au bS aa (pv 1))) aa))) (au fM (pcH g J (pa2 (pv 0) aa)) aa)) (pv 1))))))),?_⟩
 try dsimp only[aT]
 walk_at"g";intro k1 H1 ar Y X g1;walk_at"g";intro k2 H2 N O U g2;walk_at"g";intro Z a;have ab:=U.up (o:= .lst [.int k1,.int (2+k2)]) a;have l3:upd H2 Z (.lst [.int k1,.int (2+k2)]) Z=some (.lst [.int k1,.int (2+k2)]):=ad;have G3:=cY (o:= .lst [.int k1,.int (2+k2)]) a (g1.trans g2);have n3:=U.ne a;generalize upd H2 Z (.lst [.int k1,.int (2+k2)])=H3 at*;walk_at"g";intro c H4 c0 c1 m R;have l4:=R _ _ n3 l3;have G4:=G3.trans R;obtain⟨k,hk,ek⟩:=Jz (x:=k1) (y:=2+k2) c0 c1;have k0:0<=k:=by lia
 have aH:k<=20:=by lia
 clear hk l3 X U ab g1 g2 R G3 ar Y N O c0 c1;obtain⟨k,rfl⟩:∃n:Nat,k=n:=NC k0;have em:(1:Int)*2^(32 - (k:Int)).toNat=2^(32 - k):=by
  rw[Pb]
  congr 1
  lia
 have e:=SpM.pp (32 - k);have C:(2:Int)^(32 - k)<=2^32:=SpM.ple (by lia)
 rw[SpM.p32] at C;have hR:=fun b F L=> @GS k b (by lia) F L
 rw[<- em] at e C hR;have u:∀b:Int,b*2^((k:Int)).toNat=b*2^k:=fun b=>by rw[MN]
 have a7:Ah 1 (32 - (k:Int)):=⟨by lia,by lia,by decide⟩
 have S:=aG.mk m;have i:=aG.mk (And.intro e C);clear m e C;walk_at"g";refine⟨S.out,i.out.1,by have:=i.out.2;lia,?_⟩
 intro b H5 F L j g5;have G5:=G4.trans g5;walk_at"g";intro T I;have a6:=j.up (o:= .lst [.int b,.int 0,.int (1*2^(32 - (k:Int)).toNat - 1)]) I;have l6:upd H5 T (.lst [.int b,.int 0,.int (1*2^(32 - (k:Int)).toNat - 1)]) T=some (.lst [.int b,.int 0,.int (1*2^(32 - (k:Int)).toNat - 1)]):=ad;have G6:=cY (o:= .lst [.int b,.int 0,.int (1*2^(32 - (k:Int)).toNat - 1)]) I G5;have n6:=j.ne I;generalize upd H5 T (.lst [.int b,.int 0,.int (1*2^(32 - (k:Int)).toNat - 1)])=H6 at*;walk_at"g";intro c H7 c0 c1 M g7;have l7:=g7 _ _ n6 l6;have G7:=G6.trans g7;obtain⟨v,hv,ev⟩:=JN (x:=b) (y:=0) (z:=1*2^(32 - (k:Int)).toNat - 1) (r:=c %3) (by lia) (by lia)
 have v0:0<=v:=by have:=i.out.1;lia
 have v1:v<1*2^(32 - (k:Int)).toNat:=by have:=i.out.1;lia
 have J:=hR v v0 v1;have aK:Ah v (k:Int):=⟨by lia,by lia,by have:=i.out.2;lia⟩
 clear hv F L;walk_at"g";dsimp only;rw[u];intro p hp;exact q p k (v*2^k) _ ad J (M.up hp) (cY hp G7)
def zm:Sp:=fun J H Q _=>∃(d rm:Addr) (I:Nat) (C:Int),J=[.ref d,.ref rm]/\a_ H d/\H rm=some (.tup [.int I,.int C])/\SpM.Room I C/\∀(v:Int) o,0<=v->v<4294967296->a_ o d->But d H o->Q (.int v) o
theorem xG(B:Bi mg)(D:sW K mg)(g:Has P w K mg base 1 "_law_draw" qm oH):Has P w K mg base 2 "_law_value" ky zm:=by
 refine D.has qp (fun O H Q E h=> ?_) (fun f T A z s H O Q E i h=> ?_)
 .obtain⟨d,rm,b,X,rfl,_⟩:=h
  rfl
 obtain⟨d,rm,b,X,rfl,M,r,x,q⟩:=h;have L:=x.k20;have j:=x.b0;have J:=x.bW;have p:(1:Int)*2^((b:Int)).toNat=2^b:=by rw[Pb,MN]
 have a:(2:Int)^b<=2^20:=SpM.ple L;have U:=SpM.pp b;rw[<- p] at a U J;have R:Ah 1 (b:Int):=⟨by lia,by lia,by decide⟩
 have y:=aG.mk (And.intro a (And.intro U J));have S:=aG.mk j;clear a U J j
 refine⟨_,(ac (psS 2 qp.nd (pcH g i (pa2 (pv 0) aa)))
   (ac (ay (pcT aJ (pv 2) aa) (ae (ai (pcH g i (pa2 (pv 0) (cI (v:=4294967296) (by rfl)))))) am)
   (ac (ay (pcT aJ (pv 2) aa) (ae (ai (pcH g i (pa2 (pv 0) aa)))) am)
   (ac (ay (pcT aJ (pv 2) aa) (ae (ai (au fM (au bS (au aP (au aP (pX ag (pv 1) aa) (au jd aa (pX ag (pv 1) aa))) (pcH g i (pa2 (pv 0) aa))) aa) (cI (v:=4294967296) (by rfl))))) am)
   (ae (ai (au aP (pX ag (pv 1) aa) (pcH g i (pa2 (pv 0) (au jd aa (pX ag (pv 1) aa))))))))))),?_⟩
 try dsimp only[aT]
 walk_at"g";intro f1 Y G N m e;have F:=M.tup e r;walk_at"g";refine bI (fun c0=> ?_) (fun c0=> ?_)
 .walk_at"g";intro w C c n o I;exact q _ C c n o (e.trans I)
 walk_at"g";refine bI (fun c1=> ?_) (fun c1=> ?_)
 .walk_at"g";intro w C c n o I;exact q _ C c (by lia) o (e.trans I)
 walk_at"g";refine bI (fun c2=> ?_) (fun c2=> ?_)
 .walk_at"g";intro w C c n o I;walk_at"g";exact q _ C (by lia) (by lia) o (e.trans I)
 have u:=aG.mk m;clear m;walk_at"g";refine⟨u.out,y.out.2.1,by have:=y.out.1;lia,?_⟩
 intro w C c n o I;walk_at"g";have:=y.out.2.2;have:=S.out;exact q _ C (by lia) (by lia) o (e.trans I)
section
variable {pk : Nat} {pb : Int}
noncomputable def ksT(pk:Nat)(pb:Int)(bk:List Ins)(j:Nat):Kn:=knB (dk (thB pk pb (bk.take j)).1.1 (thG pk pb (thB pk pb (bk.take j)).2 (bk.getD j (0,[])))) (thB pk pb (bk.take j)).2
theorem HE{nb:Nat}{g:Int}{kn:Ins}(gi:GI nb g kn){o:Kn}{f:Int × Int}(h:(vG pk pb kn o (thG pk pb o kn)).ft=some f):
  ((kn.1=11\/kn.1=12)/\thG pk pb o kn=grp kn/\f=(kn.2.getD 1 0,kn.2.getD 2 0)/\¬(kn.1=11/\kn.2.getD 0 0=f.1))\/(o.ft=some f/\kn.1≠18/\(1<=kn.1/\kn.1<=11->kn.2.getD 0 0≠f.1)/\∃m,thG pk pb o kn=[m]):=by
 have one:∀m:Ins,m.1=kn.1->m.2.getD 0 0=kn.2.getD 0 0->thG pk pb o kn=[m]->(o.ft=some f/\kn.1≠18/\(1<=kn.1/\kn.1<=11->kn.2.getD 0 0≠f.1)/\∃m,thG pk pb o kn=[m]):=by
  intro m b i e;rw[e] at h;have h:(if m.1=16 then some (bnO kn) else if lu m o.ft=true then none else o.ft)=some f:=h
  rw[mC (by rw[b];exact gi.nm.1)] at h
  split at h
  .cases h
  .rename_i J
   rw[h] at J;unfold lu at J;refine⟨h,fun z=>J ?_,fun z z2=>J ?_,m,e⟩
   .rw[MO (b.trans z)]
    rfl
   .have C:mk8 m.1:=by rw[b];unfold mk8;lia
    rw[MO C,i,z2]
    simp
 rcases ir pk pb o kn with e | ⟨hk,_,e⟩|⟨hk,_,e⟩
 .by_cases ha:kn.1=11\/kn.1=12
  .refine .inl ⟨ha,e,?_⟩
   rw[e] at h;have U:grp kn=if kn.2.getD 2 0=0 then[(16,[6,kn.2.getD 1 0]),(kn.1,[kn.2.getD 0 0,6,0])] else[(10,[6,kn.2.getD 1 0,kn.2.getD 2 0]),(16,[6,6]),(kn.1,[kn.2.getD 0 0,6,0])]:=by
    unfold grp;rw[mC (by lia),ME ha]
   have J:∀s:Kn,s.ft=some (bnO kn)->(rR pk pb kn s (kn.1,[kn.2.getD 0 0,6,0])).ft=some f->f=(kn.2.getD 1 0,kn.2.getD 2 0)/\¬(kn.1=11/\kn.2.getD 0 0=f.1):=by
    intro s a I;have I:(if kn.1=16 then some (bnO kn) else if lu (kn.1,[kn.2.getD 0 0,6,0]) s.ft=true then none else s.ft)=some f:=I
    rw[mC (by lia),a] at I
    split at I
    .cases I
    .rename_i hn
     have I:bnO kn=f:=MR I;refine⟨I.symm,fun z=>hn ?_⟩
     unfold lu;have C:mk8 kn.1:=by unfold mk8;lia
     show(decide (kn.1=18) || (decide (mk8 kn.1) && (decide (kn.2.getD 0 0=6) || decide (kn.2.getD 0 0=(bnO kn).1))))=true
     rw[MO C,I,MO z.2]
     simp
   rw[U] at h
   split at h
   .exact J (rR pk pb kn o (16,[6,kn.2.getD 1 0])) rfl h
   .exact J (rR pk pb kn (rR pk pb kn o (10,[6,kn.2.getD 1 0,kn.2.getD 2 0])) (16,[6,6])) rfl h
  .by_cases h15:kn.1=15
   .exfalso
    have U:grp kn=[(17,[6,kn.2.getD 0 0]),(15,[6])]:=by unfold grp;rw[ME h15]
    rw[e,U] at h;have d:∀s:Kn,s.ft=none->(rR pk pb kn s (15,[6])).ft=none:=by
     intro s a;show(if (15:Nat)=16 then some (bnO kn) else if lu (15,[6]) s.ft=true then none else s.ft)=none
     rw[mC (by decide),a]
     split <;> rfl
    have j:(rR pk pb kn o (17,[6,kn.2.getD 0 0])).ft=none:=by
     show(if (17:Nat)=16 then some (bnO kn) else if lu (17,[6,kn.2.getD 0 0]) o.ft=true then none else o.ft)=none
     rw[mC (by decide),ME]
     unfold lu;have C:mk8 17:=by unfold mk8;lia
     rw[MO C]
     simp
    have c:(rR pk pb kn (rR pk pb kn o (17,[6,kn.2.getD 0 0])) (15,[6])).ft=some f:=h;rw[d _ j] at c
    cases c
   .exact .inr (one kn rfl rfl (by rw[e];unfold grp;rw[mC h15,mC ha]))
 .exact .inr (one kn rfl rfl e)
 .exact .inr (one (kn.1,[kn.2.getD 0 0,6,0]) rfl rfl e)
theorem Ez{bk:List Ins}{j:Nat}{kn:Ins}(o:bk[j]? =some kn){f:Int × Int}(h:(ksT pk pb bk (j+1)).ft=some f):(vG pk pb kn (ksT pk pb bk j) (thG pk pb (ksT pk pb bk j) kn)).ft=some f:=by
 have C:bk.getD j (0,[])=kn:=by rw[MF,o];rfl
 have I:(thB pk pb (bk.take (j+1))).2=vG pk pb kn (ksT pk pb bk j) (thG pk pb (ksT pk pb bk j) kn):=by
  rw[pB o];unfold ksT;rw[C]
  rfl
 rw[<- I];unfold ksT knB at h
 split at h
 .cases h
 .exact h
theorem D7(bk:List Ins):(ksT pk pb bk 0).ft=none:=by
 have o:=(vP pk pb kn0 (bk.getD 0 (0,[]))).2;have e:dk ([]:List Ins) (thG pk pb kn0 (bk.getD 0 (0,[])))=[]:=by
  unfold dk;rw[ME (show lnW [] %8+lnW (thG pk pb kn0 (bk.getD 0 (0,[])))<=8 by show 0 %8+_<=8;lia)]
 have:ksT pk pb bk 0=kn0:=by
  show knB (dk ([]:List Ins) (thG pk pb kn0 (bk.getD 0 (0,[])))) kn0=kn0
  rw[e]
  rfl
 rw[this]
 rfl
theorem Gv{nb:Nat}{g:Int}{bk:List Ins}(o:∀kn∈bk,GI nb g kn):∀j,j<bk.length->∀f,(ksT pk pb bk j).ft=some f->0<=f.1/\f.1<6
 | 0,_,f,h=>by rw[D7] at h;cases h
 | j+1,hj,f,h=>by
  have e:bk[j]? =some bk[j]:=be (by lia)
  have gi:=o _ (Nm (show j<bk.length by lia))
  rcases HE gi (Ez e h) with⟨J,_,C,_⟩|⟨I,_⟩
  .obtain⟨a,b,n,ens,a0,a1,b0,b1,_⟩:=gi.v6.acc J;rw[C,ens];exact⟨b0,b1⟩
  .exact Gv o j (by lia) f I
theorem FP(bk:List Ins):Lyd bk (fun j=>(thB pk pb (bk.take j)).1) (fun j=>thG pk pb (ksT pk pb bk j) (bk.getD j (0,[]))):=by
 refine⟨rfl,fun j C=> ?_⟩
 have e:bk[j]? =some bk[j]:=be C;have o:bk.getD j (0,[])=bk[j]:=by rw[MF,e];rfl
 have U:=(vP pk pb (thB pk pb (bk.take j)).2 bk[j]).2;have I:ksT pk pb bk j=knB (dk (thB pk pb (bk.take j)).1.1 (thG pk pb (thB pk pb (bk.take j)).2 bk[j])) (thB pk pb (bk.take j)).2:=by unfold ksT;rw[o]
 rw[pB e,o,I];show ∃n,n<=7/\dk (thB pk pb (bk.take j)).1.1 (thG pk pb (thB pk pb (bk.take j)).2 bk[j])++_=_/\(thB pk pb (bk.take j)).1.2++[lnW (dk (thB pk pb (bk.take j)).1.1 (thG pk pb (thB pk pb (bk.take j)).2 bk[j]))]=_/\_
 generalize thG pk pb (knB (dk (thB pk pb (bk.take j)).1.1 (thG pk pb (thB pk pb (bk.take j)).2 bk[j])) (thB pk pb (bk.take j)).2) bk[j]=J
 by_cases c:lnW (thB pk pb (bk.take j)).1.1 %8+lnW (thG pk pb (thB pk pb (bk.take j)).2 bk[j])<=8
 .have eb:dk (thB pk pb (bk.take j)).1.1 (thG pk pb (thB pk pb (bk.take j)).2 bk[j])=(thB pk pb (bk.take j)).1.1:=by unfold dk;rw[ME c]
  rw[eb];exact⟨0,by decide,by rw[List.replicate_zero,MS],rfl,fun _=>rfl⟩
 .have eb:dk (thB pk pb (bk.take j)).1.1 (thG pk pb (thB pk pb (bk.take j)).2 bk[j])=(thB pk pb (bk.take j)).1.1++wC (lnW (thB pk pb (bk.take j)).1.1):=by unfold dk;rw[mC c]
  rw[eb];refine⟨(8 - lnW (thB pk pb (bk.take j)).1.1 %8) %8,by lia,rfl,by rw[cW,xw],fun z=> ?_⟩
  subst z;exact absurd (show lnW (thB pk pb (bk.take 0)).1.1 %8+lnW (thG pk pb (thB pk pb (bk.take 0)).2 bk[0])<=8 by show 0 %8+_<=8;lia) c
end
theorem IK{x:Fx}{S tot:Nat}{gs:List (List Ins)}(a:GuG x.pg gs)(g:(gs.length:Int)*S<=262144)(J:∀bk∈gs,lnW (thD x.pk x.pb bk).1<=S):CD x (aV (lj S tot (gs.map (thD x.pk x.pb)))) S gs (AY S (gs.map (thD x.pk x.pb))) (fun b j=>(ksT x.pk x.pb (gs.getD b []) j).ft) (fun b j=>thG x.pk x.pb (ksT x.pk x.pb (gs.getD b []) j) ((gs.getD b []).getD j (0,[]))):=by
 refine JI (st:=fun b j=>(thB x.pk x.pb ((gs.getD b []).take j)).1) a.ok.ne (fun b bk C=> ?_) (fun d hd=> ?_) (fun b bk j o C I=> ?_) (fun b=>D7 _) (fun b bk j o C I i f e=> ?_)
 .have eb:gs.getD b []=bk:=by rw[MF,C];rfl
  rw[eb];refine⟨FP bk,?_⟩
  rw[MW,C,ML]
  rfl
 .obtain⟨bk,h1,rfl⟩:=Nn.mp hd;exact J bk h1
 .have eb:gs.getD b []=bk:=by rw[MF,C];rfl
  have c:bk.getD j (0,[])=o:=by rw[MF,I];rfl
  rw[eb,c];have gi:=(a.blk bk (MD C)).1 o (MD I);rcases ir x.pk x.pb (ksT x.pk x.pb bk j) o with z | ⟨hk,_,z⟩|⟨hk,hft,z⟩
  .rw[z];exact⟨.inl rfl,vO gi g⟩
  .rw[z];refine⟨.inr ⟨hk,.inl rfl⟩,fun m hm=> ?_⟩
   rw[MY.mp hm];exact Dy gi g
  .rw[z];refine⟨.inr ⟨hk,.inr ⟨hft,rfl⟩⟩,fun m hm=> ?_⟩
   rw[MY.mp hm,gz (kn:=(o.1,[o.2.getD 0 0,6,0])) (show o.1≠13 by lia) (show o.1≠14 by lia)]
   exact uk gi.v6.w8 hk
 .have eb:gs.getD b []=bk:=by rw[MF,C];rfl
  have c:bk.getD j (0,[])=o:=by rw[MF,I];rfl
  have U:=(a.blk bk (MD C)).1;rw[eb] at e ⊢;rw[c];exact⟨Gv U (j+1) i f e,HE (U o (MD I)) (Ez I e)⟩
theorem yx{nb k:Nat}{g:Int}{ns:List Int}(v:aI 6 262144 k ns)(o:k≠16)(C:k≠17)(J:k=13->ns.getD 0 0<nb)(I:k=14->ns.getD 1 0<nb)(U:k=18->ns.getD 0 0<g):GI nb g (k,ns):=⟨v,⟨o,C⟩,J,I,U⟩
theorem dE.dl{H o:Hp}{d:Addr}{C:List Addr}{is:List Ins}(hd:a_ H d)(b:But d H o)(h:dE K H C is):dE K o C is:=h.mono fun _ _ z=>hd.sq b z
theorem vc{nb k:Nat}{g:Int}{ns:List Int}(v:aI 6 262144 k ns)(h:1<=k/\k<=12):GI nb g (k,ns):=yx v (by lia) (by lia) (fun e=>by lia) (fun e=>by lia) (fun e=>by lia)
theorem GV{k:Nat}{a b c:Int}(h:2<=k/\k<=9)(a0:0<=a)(a1:a<6)(o:0<=b)(C:b<6)(c0:0<=c)(c1:c<6):aI 6 262144 k [a,b,c]:= .inr (.inr (.inl ⟨h.1,h.2,a,b,c,rfl,a0,a1,o,C,c0,c1⟩))
theorem Et{k:Nat}{a b n:Int}(h:10<=k/\k<=12)(a0:0<=a)(a1:a<6)(o:0<=b)(C:b<6)(n0: -131072<=n)(n1:n<131072):aI 6 262144 k [a,b,n]:= .inr (.inr (.inr (.inl ⟨h.1,h.2,a,b,n,rfl,a0,a1,o,C,n0,n1⟩)))
theorem BR{a v:Int}(a0:0<=a)(a1:a<6)(v0:0<=v)(v1:v<4294967296):aI 6 262144 1 [a,v]:= .inr (.inl ⟨rfl,a,v,rfl,a0,a1,v0,v1⟩)
theorem Hn{H:Hp}{J I C:Addr}{a r:Int}(g:0<=r)(j:r<3)(f:H J=some (.tup [.str "and",.int a,.int a,.int 5]))(d:H I=some (.tup [.str "less",.int a,.int a,.int 5]))(c:H C=some (.tup [.str "right",.int a,.int a,.int 5])):
  ∃(o i:Nat) (b:Addr),(2<=o/\o<=9)/\i<3/\atI [V.ref J,V.ref I,V.ref C] r=some (.ref b)/\H b=some (.tup (aB o [a,a,5]))/\mG (.str (bf o)) [V.str "and",.str "less",.str "right"] i:=by
 have U:∀(k i:Nat),(k=4/\i=0\/k=7/\i=1\/k=9/\i=2)->mG (.str (bf k)) [V.str "and",.str "less",.str "right"] i:=by
  rintro k i (⟨rfl,rfl⟩|⟨rfl,rfl⟩|⟨rfl,rfl⟩)
  .exact⟨⟨_,rfl,by decide +kernel⟩,fun m y hm=>absurd hm (Nat.not_lt_zero m)⟩
  .refine⟨⟨_,rfl,by decide +kernel⟩,fun m y hm e=> ?_⟩
   obtain rfl:m=0:=by lia
   cases e
   decide +kernel
  .refine⟨⟨_,rfl,by decide +kernel⟩,fun m y hm e=> ?_⟩
   obtain rfl | rfl:m=0\/m=1:=by lia
   all_goals
    cases e
    decide +kernel
 obtain rfl | rfl | rfl:r=0\/r=1\/r=2:=by lia
 .exact⟨4,0,J,by decide,by decide,rfl,f,U 4 0 (.inl ⟨rfl,rfl⟩)⟩
 .exact⟨7,1,I,by decide,by decide,rfl,d,U 7 1 (.inr (.inl ⟨rfl,rfl⟩))⟩
 .exact⟨9,2,C,by decide,by decide,rfl,c,U 9 2 (.inr (.inr ⟨rfl,rfl⟩))⟩
theorem JM{xs:List Int}{r:Int}(I:0<=r)(J:r<xs.length):∃v,v∈xs/\atI (xs.map V.int) r=some (.int v):=by
 have o:r.toNat<xs.length:=by lia
 have C:r=((r.toNat:Nat):Int):=by lia
 refine⟨xs[r.toNat],Nm o,?_⟩
 have q:atI (xs.map V.int) ((r.toNat:Nat):Int)=some (.int xs[r.toNat]):=aY (by rw[MW,be o] <;> rfl)
 rw[<- C] at q;exact q
theorem s_{H o:Hp}{d p:Addr}(hd:a_ o d)(b:But d H o)(C:o p=none):H p=none:=by
 cases e:H p with
 | none=>rfl
 | some u=>
  have h:=b _ _ (hd.ne C) e;rw[C] at h
  cases h
def D9(K:Frag):Sp:=fun b H Q _=>∃(d rm:Addr) (U:Nat) (I:Int),b=[.ref d,.ref rm]/\a_ H d/\H rm=some (.tup [.int U,.int I])/\SpM.Room U I/\∀(p:Addr) (J:List Addr) (C:List Ins) o,H p=none->o p=some (.lst (J.map V.ref))->dE K o J C->C.length=5->(∀c g, ∀a∈C,GI c g a)->a_ o d->But d H o->Q (.ref p) o
theorem xY(B:Bi mg)(D:si K mg)(ao:Has P w K mg base 1 "_law_draw" qm oH):Has P w K mg base 2 "_law_table" ky (D9 K):=by
 refine D.has bZ (fun vs H Q E h=> ?_) (fun f fA A ez s H vs Q E hr h=> ?_)
 .obtain⟨d,rm,rk,rb,rfl,_⟩:=h
  rfl
 obtain⟨d,rm,rk,rb,rfl,hD,ct,hR,q⟩:=h;have hk:=hR.k20;have fh:Ah 1 (rk:Int):=⟨by lia,by lia,by decide⟩
 refine⟨_,(ac (psS 2 bZ.nd (pcH ao hr (pa2 (pv 0) aa)))
   (ac (psS 3 bZ.nd (pcH ao hr (pa2 (pv 0) (au aP (pX ag (pv 1) aa) aa))))
   (ac (psS 4 bZ.nd (pcH ao hr (pa2 (pv 0) aa)))
   (ac (psS 5 bZ.nd (pX bc (bG (pa3 (aw (pa4 av (pv 2) (pv 2) aa)) (aw (pa4 av (pv 2) (pv 2) aa)) (aw (pa4 av (pv 2) (pv 2) aa)))) (au fM (pcH ao hr (pa2 (pv 0) aa)) aa)))
   (ac (psS 6 bZ.nd (pX bc (bG (pa3 (au bS (au jd aa (pv 3)) aa) (pcH ao hr (pa2 (pv 0) (cI (v:=4294967296) (by rfl)))) (au bS aa (pcH ao hr (pa2 (pv 0) aa))))) (gH MX PySem.F.slot_list_index PySem.F.type_list_index Gm (bG (cN (by rfl))) (pa1 (pX Ke (pv 5) aa)))))
   (ac (psS 7 bZ.nd (pX bc (bG (az aa (az aa (az aa (az (tu (v:= -1) (by rfl)) (az (Jp Go (pv 4)) (az (au bS (au bS (au jd aa (pX ag (pv 1) aa)) (au jd aa (pv 3))) (pv 4)) (az (au aP (au bS (au bS (au jd aa (pX ag (pv 1) aa)) (au jd aa (pv 3))) (pv 4)) aa) dA)))))))) (pcH ao hr (pa2 (pv 0) aa))))
   (ac (aW (cy (ay (pcT EB (aL AM (by rfl) B.abs F2 (pa1 (pv 7))) (au bS (cI (v:=131072) (by rfl)) aa)) (ae (psS 7 bZ.nd aa)) am)))
   (ac (psS 8 bZ.nd (aw (pa4 (pX bc (bG (cN (by rfl))) (pcH ao hr (pa2 (pv 0) aa))) (pv 2) (pv 2) aa)))
   (ac (psS 9 bZ.nd (aw (pa4 (pX bc (bG (cN (by rfl))) (pcH ao hr (pa2 (pv 0) aa))) (pcH ao hr (pa2 (pv 0) aa)) (pv 2) (pv 7))))
   (ae (ai (bG (pa5 (aw (pa3 av aa (pv 6))) (pv 5) (aw (pa3 av aa (aL (gv (by rfl)) (by rfl) B.min pA (pa2 (au bS (cI (v:=4294967296) (by rfl)) aa) (au aP (pX ag (pv 1) aa) (pv 4)))))) (pv 8) (pv 9)))))))))))))),?_⟩
 try dsimp only[aT]
 walk_at"g";intro a H1 a0 a1 bu g1;have fk:=hD.tup g1 ct;have cM:=aG.mk bu;clear bu;walk_at"g";refine⟨cM.out,by lia,by lia,?_⟩
 intro j H2 j0 j1 eK g2;have bu:=cM.out;have fm:j<22:=by lia
 have G2:=g1.trans g2;clear j1 cM;walk_at"g";intro dd H3 fl fB ep g3;have G3:=G2.trans g3;walk_at"g";intro t1 dJ;have e4:=af dJ (.tup [.str "and",.int a,.int a,.int 5]);have u1:upd H3 t1 (.tup [.str "and",.int a,.int a,.int 5]) t1=some (.tup [.str "and",.int a,.int a,.int 5]):=ad;have eg:=bp e4 ep;have G4:=cY (o:= .tup [.str "and",.int a,.int a,.int 5]) dJ G3;generalize upd H3 t1 (.tup [.str "and",.int a,.int a,.int 5])=H4 at*;walk_at"g";intro t2 d1;have e5:=af d1 (.tup [.str "less",.int a,.int a,.int 5]);have u2:upd H4 t2 (.tup [.str "less",.int a,.int a,.int 5]) t2=some (.tup [.str "less",.int a,.int a,.int 5]):=ad;have dZ:=e5 _ _ u1;have dQ:=bp e5 eg;have G5:=cY (o:= .tup [.str "less",.int a,.int a,.int 5]) d1 G4;generalize upd H4 t2 (.tup [.str "less",.int a,.int a,.int 5])=H5 at*;walk_at"g";intro t3 d9;have e6:=af d9 (.tup [.str "right",.int a,.int a,.int 5]);have u3:upd H5 t3 (.tup [.str "right",.int a,.int a,.int 5]) t3=some (.tup [.str "right",.int a,.int a,.int 5]):=ad;have d':=e6 _ _ dZ;have ei:=e6 _ _ u2;have c':=bp e6 dQ;have G6:=cY (o:= .tup [.str "right",.int a,.int a,.int 5]) d9 G5;generalize upd H5 t3 (.tup [.str "right",.int a,.int a,.int 5])=H6 at*;walk_at"g";intro p7 c6;have e7:=af c6 (.lst [.ref t1,.ref t2,.ref t3]);have l7:upd H6 p7 (.lst [.ref t1,.ref t2,.ref t3]) p7=some (.lst [.ref t1,.ref t2,.ref t3]):=ad;have d0:=e7 _ _ d';have dB:=e7 _ _ ei;have ec:=e7 _ _ u3;have bb:=bp e7 c';have n7:=c'.ne c6;have G7:=cY (o:= .lst [.ref t1,.ref t2,.ref t3]) c6 G6;generalize upd H6 p7 (.lst [.ref t1,.ref t2,.ref t3])=H7 at*;clear e4 e5 e6 e7 u1 u2 u3 dZ d' ei bu eK ep eg dQ c' g1 g2 g3 G2 G3 G4 G5 G6;walk_at"g";intro c H8 c0 c1 dR g8;have l8:=g8 _ _ n7 l7;have G8:=G7.trans g8;obtain⟨kc,ic,tc,eu,fE,fc,dO,eb⟩:=Hn (r:=c %3) (by lia) (by lia) (bb.tup g8 d0) (bb.tup g8 dB) (bb.tup g8 ec)
 clear d0 dB ec l7 bb G7 g8 c0 c1;obtain⟨I,rfl⟩:∃n:Nat,j=n:=NC j0;have fj:Ah 1 (I:Int):=⟨by lia,by lia,by decide⟩
 have et:(1:Int)*2^((I:Int)).toNat=2^I:=by rw[Pb,MN]
 have dn:(2:Int)^I<=2^22:=SpM.ple (by lia)
 have dm:=SpM.pp I;rw[<- et] at dn dm;have jH:=aG.mk (And.intro dn dm);clear dn dm;walk_at"g";intro v2 H9 eT ey dX g9;have b':=dR.tup g9 dO;walk_at"g";intro v3 d3 e' eJ b8 cq;have Z:=dX.tup cq b';have ef:=(G8.trans g9).trans cq;clear dO b' dR dX g9 cq G8 l8;walk_at"g";intro cz b1;have e11:=af b1 (.lst [.int (1*2^((I:Int)).toNat - 1),.int v2,.int (31 - v3)]);have l11:upd d3 cz (.lst [.int (1*2^((I:Int)).toNat - 1),.int v2,.int (31 - v3)]) cz=some (.lst [.int (1*2^((I:Int)).toNat - 1),.int v2,.int (31 - v3)]):=ad;have R:=e11 _ _ Z;have bH:=bp e11 b8;have dp:=cY (o:= .lst [.int (1*2^((I:Int)).toNat - 1),.int v2,.int (31 - v3)]) b1 ef;generalize upd d3 cz (.lst [.int (1*2^((I:Int)).toNat - 1),.int v2,.int (31 - v3)])=eh at*;walk_at"g";intro N b9;have br:=af b9 (.lst [.str "and",.str "less",.str "right"]);have l12:upd eh N (.lst [.str "and",.str "less",.str "right"]) N=some (.lst [.str "and",.str "less",.str "right"]):=ad;have J:=br _ _ R;have ea:=br _ _ l11;have a':=bp br bH;have dg:=cY (o:= .lst [.str "and",.str "less",.str "right"]) b9 dp;generalize upd eh N (.lst [.str "and",.str "less",.str "right"])=bw at*;have x0:atI (aB kc [a,a,5]) 0=some (.str (bf kc)):=lv;have bx:SqT K bw tc (aB kc [a,a,5]):=SqT.of J;obtain⟨v,hv,ev⟩:=JN (x:=1*2^((I:Int)).toNat - 1) (y:=v2) (z:=31 - v3) (r:=(ic:Int)) (by lia) (by lia)
 have v0:0<=v:=by have:=jH.out;lia
 have v1:v<4294967296:=by have:=jH.out;lia
 clear hv eT ey e' eJ e11 br Z R b8 bH ef dp l11;have e3:tyV K "list" (.ref N) bw:= .inl ⟨rfl,_,SqL.of l12⟩;walk_at"g";refine .inr (.inl (Lz bx x0 ?_))
 refine⟨N,_,_,ic,rfl,rfl,SqL.of l12,rfl,rfl,eb,?_⟩
 have dh:=hD.tup dg ct;walk_at"g";intro cv a7;obtain⟨C,cH⟩:∃X:List Int,X=[0,0,1, -1, -dd,1*2^((rk:Int)).toNat - 1*2^((I:Int)).toNat - dd,1*2^((rk:Int)).toNat - 1*2^((I:Int)).toNat - dd+1]:=⟨_,rfl⟩;have l7:C.length=7:=by rw[cH];rfl
 have de:=af a7 (.lst (C.map V.int));have l13:upd bw cv (.lst (C.map V.int)) cv=some (.lst (C.map V.int)):=ad;have e:=de _ _ J;have bV:=bp de a';have fa:=a'.ne a7;have d8:=cY (o:= .lst (C.map V.int)) a7 dg;have eo:HO.lst [V.int 0,.int 0,.int 1,.int (-1),.int (-dd),.int (1*2^((rk:Int)).toNat - 1*2^((I:Int)).toNat - dd),.int (1*2^((rk:Int)).toNat - 1*2^((I:Int)).toNat - dd+1)]= .lst (C.map V.int):=by rw[cH];rfl
 rw[eo];clear cH eo;generalize upd bw cv (.lst (C.map V.int))=fp at*;clear J ea l12 a' dg dh e3 bx de ev eb;walk_at"g";intro c7 dc dt dr Y ba;have l14:=ba _ _ fa l13;have a9:=bV.tup ba e;have dq:=d8.trans ba;obtain⟨nn,_,en⟩:=JM (xs:=C) (r:=c7) dt (by rw[l7];exact dr)
 clear e l13 bV ba d8 dt dr;walk_at"g";refine⟨fun Z' H'=>aG (dc=H'/\∃n:Int, -131072<=n/\n<131072/\Z'=[some (.ref d),some (.ref rm),some (.int a),some (.int I),some (.int dd),some (.ref tc),some (.int v),some (.int n),none,none]),?_,?_⟩
 .walk_at"g";refine bI (fun c0=> ?_) (fun c0=> ?_)
  .walk_at"g";exact⟨rfl,0,by decide,by decide,rfl⟩
  .refine⟨rfl,nn,?_,?_,rfl⟩
   all_goals
    split at c0
    all_goals lia
 rintro Z' H' ⟨rfl,n,fb,eX,rfl⟩
 clear en l14;walk_at"g";intro cL aR;have cc:=af aR (.lst [.str "add",.str "or"]);have l15:upd dc cL (.lst [.str "add",.str "or"]) cL=some (.lst [.str "add",.str "or"]):=ad;have S:=cc _ _ a9;have b6:=bp cc Y;have eE:=Y.ne aR;have dK:=cY (o:= .lst [.str "add",.str "or"]) aR dq;generalize upd dc cL (.lst [.str "add",.str "or"])=fx at*;clear a9 Y cc dq;walk_at"g";intro c8 da eH e1 bE bt;have l16:=bt _ _ eE l15;have ab:=b6.tup bt S;have es:=dK.trans bt;obtain⟨km,e9,em⟩:∃k,(2<=k/\k<=9)/\atI [V.str "add",.str "or"] c8=some (.str (bf k)):=by
  obtain rfl | rfl:c8=0\/c8=1:=by lia
  .exact⟨2,by decide,rfl⟩
  .exact⟨5,by decide,rfl⟩
 clear S l15 b6 bt dK eH e1;walk_at"g";intro tm dx;have cD:=af dx (.tup (aB km [a,a,5]));have um:upd da tm (.tup (aB km [a,a,5])) tm=some (.tup (aB km [a,a,5])):=ad;have T:=cD _ _ ab;have u:=bp cD bE;have ek:=cY (o:= .tup (aB km [a,a,5])) dx es
 change Nx _ _ (upd da tm (.tup (aB km [a,a,5])))
 generalize upd da tm (.tup (aB km [a,a,5]))=d2 at*;clear ab bE cD es l16 em;walk_at"g";intro cR O;have bo:=af O (.lst [.str "load",.str "store"]);have l18:upd d2 cR (.lst [.str "load",.str "store"]) cR=some (.lst [.str "load",.str "store"]):=ad;have i:=bo _ _ T;have bX:=bo _ _ um;have L:=bp bo u;have eW:=u.ne O;have dT:=cY (o:= .lst [.str "load",.str "store"]) O ek;generalize upd d2 cR (.lst [.str "load",.str "store"])=fy at*;clear T um u bo ek;walk_at"g";intro c9 ft eN e0 aK ar;have eG:=ar _ _ eW l18;have m:=L.tup ar i;have b7:=L.tup ar bX;have d6:=dT.trans ar;obtain⟨kl,e2,el⟩:∃k,(10<=k/\k<=12)/\atI [V.str "load",.str "store"] c9=some (.str (bf k)):=by
  obtain rfl | rfl:c9=0\/c9=1:=by lia
  .exact⟨11,by decide,rfl⟩
  .exact⟨12,by decide,rfl⟩
 clear i bX l18 L ar dT eN e0;walk_at"g";intro a2 cp eS e8 bD bj;have b:=aK.tup bj m;have b2:=aK.tup bj b7;have dV:=d6.trans bj;clear m b7 eG el aK bj d6;walk_at"g";intro tl dv;have bh:=af dv (.tup (aB kl [a2,a,n]));have ul:upd cp tl (.tup (aB kl [a2,a,n])) tl=some (.tup (aB kl [a2,a,n])):=ad;have M:=bh _ _ b;have bW:=bh _ _ b2;have bM:=bp bh bD;have d7:=cY (o:= .tup (aB kl [a2,a,n])) dv dV
 change Nx _ _ (upd cp tl (.tup (aB kl [a2,a,n])))
 generalize upd cp tl (.tup (aB kl [a2,a,n]))=d4 at*;clear b b2 bD bh dV;walk_at"g";intro u1 ee;have aH:=af ee (.tup [.str "put",.int 5,.int v]);have w1:upd d4 u1 (.tup [.str "put",.int 5,.int v]) u1=some (.tup [.str "put",.int 5,.int v]):=ad;have G:=aH _ _ M;have b4:=aH _ _ bW;have b5:=aH _ _ ul;have cb:=bp aH bM;have cF:=cY (o:= .tup [.str "put",.int 5,.int v]) ee d7;have cm:=hD.tup cF ct;generalize upd d4 u1 (.tup [.str "put",.int 5,.int v])=df at*;clear M bW ul bM aH d7;walk_at"g";have z0:0<=(if rb+dd<4294967296 - 1 then rb+dd else 4294967296 - 1):=by
  have:=hR.b0
  split <;> lia
 have z1:(if rb+dd<4294967296 - 1 then rb+dd else 4294967296 - 1)<4294967296:=by split <;> lia
 generalize (if rb+dd<4294967296 - 1 then rb+dd else 4294967296 - 1)=z at*
 intro u2 dy;have U:=af dy (.tup [.str "put",.int 5,.int z]);have w2:upd df u2 (.tup [.str "put",.int 5,.int z]) u2=some (.tup [.str "put",.int 5,.int z]):=ad;have cj:=U _ _ G;have er:=U _ _ b4;have ej:=U _ _ b5;have ew:=U _ _ w1;have bz:=bp U cb;have ed:=cY (o:= .tup [.str "put",.int 5,.int z]) dy cF
 change gB _ _ _ (upd df u2 (.tup [.str "put",.int 5,.int z])) _
 generalize upd df u2 (.tup [.str "put",.int 5,.int z])=fv at*;clear G b4 b5 w1 cb U cF cm;walk_at"g";intro p hp;have a8:=af hp (.lst [.ref u1,.ref tc,.ref u2,.ref tm,.ref tl]);refine q p [u1,tc,u2,tm,tl] [(1,[5,v]),(kc,[a,a,5]),(1,[5,z]),(km,[a,a,5]),(kl,[a2,a,n])] _ (s_ bz ed hp) ad ⟨(SqT.of (a8 _ _ ew)),SqT.of (a8 _ _ cj),SqT.of (a8 _ _ w2),SqT.of (a8 _ _ er),SqT.of (a8 _ _ ej),True.intro⟩ rfl (fun nb g kn hk=> ?_) (bz.up hp) (cY hp ed)
 have h5:(0:Int)<=5/\(5:Int)<6:=by decide
 have a6:a<6:=by lia
 have hm:kn=(1,[5,v])\/kn=(kc,[a,a,5])\/kn=(1,[5,z])\/kn=(km,[a,a,5])\/kn=(kl,[a2,a,n]):=by simpa using hk
 rcases hm with rfl | rfl | rfl | rfl | rfl
 .exact vc (BR h5.1 h5.2 v0 v1) (by decide)
 .exact vc (GV eu a0 a6 a0 a6 h5.1 h5.2) (by show 1<=kc/\kc<=12;lia)
 .exact vc (BR h5.1 h5.2 z0 z1) (by decide)
 .exact vc (GV e9 a0 a6 a0 a6 h5.1 h5.2) (by show 1<=km/\km<=12;lia)
 .exact vc (Et e2 eS e8 a0 a6 fb eX) (by show 1<=kl/\kl<=12;lia)
theorem Lr{r:Int}(I:0<=r)(J:r<8):∃k,(2<=k/\k<=9)/\atI [V.str "add",.str "sub",.str "and",.str "or",.str "xor",.str "less",.str "left",.str "right"] r=some (.str (bf k)):=by
 have o:r.toNat<8:=by lia
 have C:r=((r.toNat:Nat):Int):=by lia
 have h:∀j,j<8->[V.str "add",.str "sub",.str "and",.str "or",.str "xor",.str "less",.str "left",.str "right"][j]? =some (.str (bf (j+2))):=by decide +kernel
 refine⟨r.toNat+2,by lia,?_⟩
 have q:=aY (h _ o);rw[<- C] at q;exact q
theorem G9{H C:Hp}{d l:Addr}{o:HO}(I:H l=none)(b:But d H C):But d H (upd C l o):=fun a u J e=>by
 rw[aj (ak e I)];exact b a u J e
theorem Ei{H:Hp}{p t:Addr}{xs ys:List V}{o:HO}(C:H p=some (.lst ys))(h:SqT K H t xs):SqT K (upd H p o) t xs:=But.tup (d:=p) But.upd C h
structure Rws (K:Frag) (d l:Addr) (H0 H:Hp) (nb:Nat) (gt:Int) (n:Nat) (ts:List Addr) (is:List Ins):Prop where
 at_:H l=some (.lst (ts.map V.ref))
 ins:dE K H ts is
 len:is.length<=n
 gi:∀kn∈is,GI nb gt kn
 deal:a_ H d
 but:But d H0 H
 free:H0 l=none
 ne:l≠d
theorem Rws.dl{d l:Addr}{I H o:Hp}{nb:Nat}{J:Int}{n:Nat}{C:List Addr}{is:List Ins}(h:Rws K d l I H nb J n C is)(U:a_ o d)(b:But d H o):Rws K d l I o nb J n C is:=⟨b _ _ h.ne h.at_,h.ins.dl h.deal b,h.len,h.gi,U,h.but.trans b,h.free,h.ne⟩
theorem Rws.new{d l p:Addr}{o:HO}{J H:Hp}{nb:Nat}{U:Int}{n:Nat}{C:List Addr}{is:List Ins}(h:Rws K d l J H nb U n C is)(I:H p=none):Rws K d l J (upd H p o) nb U n C is:=h.dl (h.deal.up I) (af I _).but
theorem Rws.app{d l p:Addr}{a H:Hp}{nb:Nat}{J:Int}{n:Nat}{U:List Addr}{is:List Ins}(h:Rws K d l a H nb J n U is)(b:H p=none)(kn:Ins)(g:GI nb J kn):Rws K d l a (upd (upd H p (.tup (aB kn.1 kn.2))) l (.lst (U.map V.ref++[.ref p]))) nb J (n+1) (U++[p]) (is++[kn]):=by
 have I:=h.new (o:= .tup (aB kn.1 kn.2)) b;refine⟨by rw[ad,MH];rfl,?_,by rw[MA];exact Nat.add_le_add_right h.len 1,fun k C=> ?_,?_,G9 h.free I.but,h.free,h.ne⟩
 .exact((show dE K _ [p] [kn] from⟨SqT.of ad,True.intro⟩).app I.ins).mono fun _ _ z=>Ei I.at_ z
 .rcases MZ.mp C with C | C
  .exact h.gi k C
  .rw[MY.mp C];exact g
 .obtain⟨u,v,e⟩:=I.deal;exact⟨u,v,by rw[aj h.ne.symm];exact e⟩
theorem Rws.sz{d l:Addr}{C H:Hp}{nb:Nat}{I:Int}{n:Nat}{o:List Addr}{is:List Ins}(h:Rws K d l C H nb I n o is)(J:n<=90):(o.map V.ref).length<sizeLine:=by
 rw[fI,h.ins.len];exact MJ (show is.length<100 by have:=h.len;lia) (by decide)
theorem Rws.ty{d l:Addr}{C H:Hp}{nb:Nat}{I:Int}{n:Nat}{o:List Addr}{is:List Ins}(h:Rws K d l C H nb I n o is):tyV K "list" (.ref l) H:= .inl ⟨rfl,_,SqL.of h.at_⟩
def CH(K:Frag):Sp:=fun f H Q _=>∃(d rm:Addr) (e:Nat) (b:Int) (J:Nat) (U:Int),f=[.ref d,.ref rm,.int U,.int J]/\a_ H d/\H rm=some (.tup [.int e,.int b])/\SpM.Room e b/\0<J/\J<=6/\0<=U/\U<=16/\
 ∀(p:Addr) (c:List Addr) (C:List Ins) o,SqT K o p (c.map V.ref)->dE K o c C->C.length<=30->(∀I∈C,GI J U I)->(∃a I,C=a++[I]/\nP I.1)->a_ o d->But d H o->Q (.ref p) o
theorem zd(B:Bi mg)(D:uy K mg)(Y:Has P w K mg base 1 "_law_draw" qm oH)(cq:Has P w K mg base 2 "_law_value" ky zm)(lQ:Has P w K mg base 2 "_law_table" ky (D9 K)):
  Has P w K mg base 3 "_law_rows" ["_law_deal_here","_law_room_here","_law_gates","_law_blocks"] (CH K):=by
 refine D.has bO (fun vs H Q E h=> ?_) (fun f d7 A dJ s H vs Q E X h=> ?_)
 .obtain⟨d,rm,rk,rb,nb,gt,rfl,_⟩:=h
  rfl
 obtain⟨d,rm,rk,rb,nb,gt,rfl,hD,cH,hR,n0,n1,t0,t1,q⟩:=h;have nH:=aG.mk (And.intro n0 n1);have tH:=aG.mk (And.intro t0 t1);clear n0 n1 t0 t1
 refine⟨_,(ac (psS 4 bO.nd (bG dA))
   (ac (psS 5 bO.nd (pcH Y X (pa2 (pv 0) aa)))
   (ac (psS 6 bO.nd (au bS (pcH Y X (pa2 (pv 0) aa)) aa))
   (ac (aW (cy (ay (pcT aJ (pcH Y X (pa2 (pv 0) aa)) aa) (ae (psS 4 bO.nd (pcH lQ X (pa2 (pv 0) (pv 1))))) am)))
   (ac (fg M7 (by rfl) (dY (eD (by rfl) B.range (pa1 (pcH Y X (pa2 (pv 0) aa))))) (aD (i:=7) bO.nd (by rfl) (by left;rfl)) (ac (psS 8 bO.nd (pcH Y X (pa2 (pv 0) aa)))
   (ac (psS 9 bO.nd (pcH Y X (pa2 (pv 0) aa)))
   (ac (aW (cy (ay (pcT aJ (pcH Y X (pa2 (pv 0) aa)) aa) (ac (psS 5 bO.nd (pcH Y X (pa2 (pv 0) aa)))
   (ae (psS 6 bO.nd (pX bc (bG (az aa (az aa (az aa (az (tu (v:= -1) (by rfl)) (az aa (az (au bS (cI (v:=131072) (by rfl)) aa) (az (au bS aa (cI (v:=131072) (by rfl))) dA)))))))) (pcH Y X (pa2 (pv 0) aa)))))) am)))
   (ae (ay (pcT kh (pv 8) aa) (ae (bL (gH MX M9 M_ cC (pv 4) (pa1 (aw (pa4 av (pv 9) (pv 5) (pv 6))))))) (ae (ay (pcT kh (pv 8) aa) (ae (bL (gH MX M9 M_ cC (pv 4) (pa1 (aw (pa4 av (pv 9) (pv 5) (pv 6))))))) (ae (ay (pcT aJ (pv 8) aa) (ae (bL (gH MX M9 M_ cC (pv 4) (pa1 (aw (pa3 av (pX bc (bG (pa2 (pv 9) (pv 5))) (pcH Y X (pa2 (pv 0) aa))) (pcH cq X (pa2 (pv 0) (pv 1))))))))) (ae (ay (pcT aJ (pv 8) aa) (ac (psS 10 bO.nd (pX bc (bG (cN (by rfl))) (pcH Y X (pa2 (pv 0) aa))))
   (ae (bL (gH MX M9 M_ cC (pv 4) (pa1 (aw (pa4 (pv 10) (pv 9) (pv 5) (pcH Y X (pa2 (pv 0) aa))))))))) (ae (ay (pcT aJ (pv 8) aa) (ae (bL (gH MX M9 M_ cC (pv 4) (pa1 (aw (pa4 av (pv 9) (pv 5) (pv 6))))))) (ae (ay (PW.pt (wc (pcT aJ (pv 8) aa) (sE (pcT EB (pv 2) aa)))) (ae (bL (gH MX M9 M_ cC (pv 4) (pa1 (aw (pa2 av (pcH Y X (pa2 (pv 0) (pv 2))))))))) (ae (ay (pcT aJ (pv 8) aa) (ae (bL (gH MX M9 M_ cC (pv 4) (pa1 (aw (pa3 av (pv 9) (pcH Y X (pa2 (pv 0) (pv 3))))))))) (ae (bL (gH MX M9 M_ cC (pv 4) (pa1 (aw (pa3 av (pv 9) (pcH Y X (pa2 (pv 0) (pv 3)))))))))))))))))))))))))))
   (ac (psS 11 bO.nd (bG (pa3 (aw (pa1 av)) (aw (pa2 av (pcH Y X (pa2 (pv 0) (pv 3))))) (aw (pa2 av (pcH Y X (pa2 (pv 0) aa)))))))
   (ae (ai (cn cQ (by rfl) B.tuple fQ (pa1 (au o5 (pv 4) (bG (pa1 (pX bc (pv 11) (pcH Y X (pa2 (pv 0) aa)))))))))))))))),?_⟩
 try dsimp only[aT]
 walk_at"g";intro p1 T;have R1:Rws K d p1 H (upd H p1 (.lst [])) nb gt 5 [] []:=⟨ad,True.intro,Na _,fun kn hk=>(by cases hk),hD.up T,(af T _).but,T,hD.ne T⟩
 have dX:=R1.deal;generalize upd H p1 (.lst [])=H1 at*;walk_at"g";intro b H2 b0 b1 cL g2;have R2:=R1.dl cL g2;walk_at"g";intro n' H3 dR dy dn g3;have R3:=R2.dl dn g3;clear dX cL g2 g3 R1 R2;have bH:=aG.mk (And.intro b0 b1);have a':aG (-131072<=n' - 2/\n' - 2<131072):=⟨by lia,by lia⟩
 clear b0 b1 dR dy;walk_at"g";refine⟨fun Z' H'=>aG (∃(l:Addr) (ts:List Addr) (is:List Ins),Z'=[some (.ref d),some (.ref rm),some (.int gt),some (.int nb),some (.ref l),some (.int b),some (.int (n' - 2)),none,none,none,none,none]/\Rws K d l H H' nb gt 5 ts is),?_,?_⟩
 .walk_at"g";intro c H4 c0 c1 d0 g4;have R4:=R3.dl d0 g4;have d3:=hD.tup R4.but cH;walk_at"g";refine bI (fun c0=> ?_) (fun c0=> ?_)
  .walk_at"g";intro l ts is H5 ct l5 c9 b' dm b9 g5;walk_at"g";exact⟨l,ts,is,rfl,l5,c9,by rw[b'];exact MC 5,dm nb gt,b9,R4.but.trans g5,s_ R4.deal R4.but ct,R4.deal.ne ct⟩
  .exact⟨_,_,_,rfl,R4⟩
 intro Z' H' ar;refine aA fun G_ L=> ?_
 obtain⟨l,d6,d4,rfl,R5⟩:=ar;refine L ?_
 have b9:=R5.deal;clear R3 dn;walk_at"g";intro c H6 c0 c1 cc g6;have R6:=R5.dl cc g6;have d': -(2^62)<=c/\c<2^62:=by lia
 clear R5 b9 g6;walk_at"g"
 refine⟨gU (n:=c.toNat) (fun i Z H'=>aG (∃(b n:Int) (y1 y2 y3 y4:Option V) (ts:List Addr) (is:List Ins),Z=[some (.ref d),some (.ref rm),some (.int gt),some (.int nb),some (.ref l),some (.int b),some (.int n),y1,y2,y3,y4,none]/\(0<=b/\b<6)/\(-131072<=n/\n<131072)/\Rws K d l H H' nb gt (5+i) ts is))
  ⟨_,_,_,_,_,_,_,_,rfl,bH.out,a'.out,R6⟩ ?_ ?_⟩
 .clear R6 cc bH a';intro i Z H7 hi ar;refine aA fun G_ L=> ?_
  obtain⟨b,n,y1,y2,y3,y4,ts,is,rfl,hb,hn,R7⟩:=ar;refine L ?_
  have d8:i<14:=by lia
  have b5:=R7.deal;have bH:=aG.mk hb;have a':=aG.mk hn;clear hb hn hi;walk_at"g";intro fm H8 f0 f1 a7 g8;have R8:=R7.dl a7 g8;walk_at"g";intro a H9 a0 a1 ba g9;have R9:=R8.dl ba g9;clear R7 R8 b5 a7 g8 g9;walk_at"g";refine⟨fun Z' H'=>aG (∃(b n:Int) (y1:Option V),Z'=[some (.ref d),some (.ref rm),some (.int gt),some (.int nb),some (.ref l),some (.int b),some (.int n),y1,some (.int fm),some (.int a),y4,none]/\(0<=b/\b<6)/\(-131072<=n/\n<131072)/\Rws K d l H H' nb gt (5+i) ts is),?_,?_⟩
  .walk_at"g";intro u a8 u0 u1 U cD;have J:=R9.dl U cD;walk_at"g";refine bI (fun c0=> ?_) (fun c0=> ?_)
   .walk_at"g";intro b2 S dK dV I F;have C:=J.dl I F;walk_at"g";intro bh bW
    change AH oH [] E0 _ _ (upd S bh (.lst [V.int 0,.int 0,.int 1,.int (-1),.int 3,.int (131072 - 1),.int (0 - 131072)])) _
    have O:=C.new (o:= .lst [V.int 0,.int 0,.int 1,.int (-1),.int 3,.int (131072 - 1),.int (0 - 131072)]) bW;have l12:upd S bh (.lst [V.int 0,.int 0,.int 1,.int (-1),.int 3,.int (131072 - 1),.int (0 - 131072)]) bh=some (.lst [V.int 0,.int 0,.int 1,.int (-1),.int 3,.int (131072 - 1),.int (0 - 131072)]):=ad;have N:=O.deal;have dT:=I.ne bW;generalize upd S bh (.lst [V.int 0,.int 0,.int 1,.int (-1),.int 3,.int (131072 - 1),.int (0 - 131072)])=bb at*;clear U I J C cD F;walk_at"g";intro c7 b8 dx dt j aK;have G:=O.dl j aK;have l13:=aK _ _ dT l12;refine aA fun G_ L=> ?_
    obtain⟨nn,dc,en⟩:=JM (xs:=[0,0,1, -1,3,131072 - 1,0 - 131072]) (r:=c7) dx dt;refine L ?_
    have cz: -131072<=nn/\nn<131072:=(show ∀v∈[(0:Int),0,1, -1,3,131072 - 1,0 - 131072], -131072<=v/\v<131072 by decide) nn dc
    have en:atI [V.int 0,.int 0,.int 1,.int (-1),.int 3,.int (131072 - 1),.int (0 - 131072)] c7=some (.int nn):=en;have dr:=aG.mk cz;clear dc cz l12 N aK;walk_at"g";exact⟨b2,nn,_,rfl,⟨dK,dV⟩,dr.out,G⟩
   .exact⟨b,n,_,rfl,bH.out,a'.out,J⟩
  clear R9 ba bH a';intro Z' a8 ar;refine aA fun G_ L=> ?_
  obtain⟨b,n,y5,rfl,⟨b0,b1⟩,⟨dq,df⟩,J⟩:=ar;refine L ?_
  have U:=J.deal;have hz:=J.sz (by lia)
  have l10:=J.at_;have i6: -131072<=n/\n<131072:=⟨dq,df⟩;have m:=aG.mk i6;have g:=aG.mk (And.intro b0 b1);have aH:=aG.mk (And.intro a0 a1);clear i6 dq df b0 b1 a0 a1;have bj:=J.ty;walk_at"g";refine bI (fun c1=> ?_) (fun c1=> ?_)
  .walk_at"g";intro p M;have l11:=(J.new (o:= .tup (aB 11 [a,b,n])) M).at_;have R:=J.app M (11,[a,b,n]) (vc (Et (by decide) aH.out.1 aH.out.2 g.out.1 g.out.2 m.out.1 m.out.2) (by decide))
   walk_at"g";exact⟨b,n,_,_,_,_,_,_,rfl,g.out,m.out,R⟩
  walk_at"g";refine bI (fun c2=> ?_) (fun c2=> ?_)
  .walk_at"g";intro p M;have l11:=(J.new (o:= .tup (aB 12 [a,b,n])) M).at_;have R:=J.app M (12,[a,b,n]) (vc (Et (by decide) aH.out.1 aH.out.2 g.out.1 g.out.2 m.out.1 m.out.2) (by decide))
   walk_at"g";exact⟨b,n,_,_,_,_,_,_,rfl,g.out,m.out,R⟩
  walk_at"g";refine bI (fun c3=> ?_) (fun c3=> ?_)
  .walk_at"g";intro p1 T;have C:=J.new (o:= .lst [.int a,.int b]) T;have l11:upd a8 p1 (.lst [.int a,.int b]) p1=some (.lst [.int a,.int b]):=ad;have b4:=J.deal.ne T;have I:=C.deal;generalize upd a8 p1 (.lst [.int a,.int b])=S at*;clear U hz bj l10;walk_at"g";intro r bb r0 r1 N ab;have l12:=ab _ _ b4 l11;have O:=C.dl N ab;refine aA fun G_ L=> ?_
   obtain⟨x,hx,ex⟩:=Jz (x:=a) (y:=b) r0 r1;refine L ?_
   have xH:aG (0<=x/\x<6):=⟨by have:=aH.out;have:=g.out;lia,by have:=aH.out;have:=g.out;lia⟩
   have d1:=hD.tup O.but cH;clear hx C I ab l11;walk_at"g";intro v b8 v0 v1 j aK;have G:=O.dl j aK;have hz:=G.sz (by lia)
   walk_at"g";intro p M;have l14:=(G.new (o:= .tup (aB 1 [x,v])) M).at_;have R:=G.app M (1,[x,v]) (vc (BR xH.out.1 xH.out.2 v0 v1) (by decide))
   walk_at"g";exact⟨b,n,_,_,_,_,_,_,rfl,g.out,m.out,R⟩
  walk_at"g";refine bI (fun c4=> ?_) (fun c4=> ?_)
  .walk_at"g";intro p1 T;have C:=J.new (o:= .lst [V.str "add",.str "sub",.str "and",.str "or",.str "xor",.str "less",.str "left",.str "right"]) T;have l11:upd a8 p1 (.lst [V.str "add",.str "sub",.str "and",.str "or",.str "xor",.str "less",.str "left",.str "right"]) p1=some (.lst [V.str "add",.str "sub",.str "and",.str "or",.str "xor",.str "less",.str "left",.str "right"]):=ad;have b4:=J.deal.ne T;have I:=C.deal;generalize upd a8 p1 (.lst [V.str "add",.str "sub",.str "and",.str "or",.str "xor",.str "less",.str "left",.str "right"])=S at*;clear U hz bj l10;walk_at"g";intro r bb r0 r1 N ab;have l12:=ab _ _ b4 l11;have O:=C.dl N ab;refine aA fun G_ L=> ?_
   obtain⟨k,hk,ek⟩:=Lr r0 r1;refine L ?_
   have bj:=O.ty;clear C I ab l11;walk_at"g";intro v b8 v0 v1 j aK;have G:=O.dl j aK;have hz:=G.sz (by lia)
   walk_at"g";intro p M;have l14:=(G.new (o:= .tup (aB k [a,b,v])) M).at_;have R:=G.app M (k,[a,b,v]) (vc (GV hk aH.out.1 aH.out.2 g.out.1 g.out.2 v0 v1) (by show 1<=k/\k<=12;lia))
   walk_at"g";exact⟨b,n,_,_,_,_,_,_,rfl,g.out,m.out,R⟩
  walk_at"g";refine bI (fun c5=> ?_) (fun c5=> ?_)
  .walk_at"g";intro p M;have l11:=(J.new (o:= .tup (aB 10 [a,b,n])) M).at_;have R:=J.app M (10,[a,b,n]) (vc (Et (by decide) aH.out.1 aH.out.2 g.out.1 g.out.2 m.out.1 m.out.2) (by decide))
   walk_at"g";exact⟨b,n,_,_,_,_,_,_,rfl,g.out,m.out,R⟩
  walk_at"g";refine bI (fun c6=> ?_) (fun c6=> ?_)
  .walk_at"g";refine bI (fun c7=> ?_) (fun c7=> ?_)
   .have c7H:=aG.mk c7;clear c7;have aR:=aG.mk U;clear U;walk_at"g";refine⟨aR.out,c7H.out,by have:=tH.out;lia,?_⟩
    intro z S z0 z1 I F;have C:=J.dl I F;have hz:=C.sz (by lia)
    have zH:=aG.mk z1;clear z1;walk_at"g";intro p M;have l14:=(C.new (o:= .tup (aB 18 [z])) M).at_;have R:=C.app M (18,[z]) (yx (.inr (.inr (.inr (.inr (.inl ⟨.inr rfl,z,rfl,z0,by have:=zH.out;have:=tH.out;lia⟩))))) (by decide) (by decide) (fun e=>absurd e (by decide)) (fun e=>absurd e (by decide)) (fun _=>zH.out))
    walk_at"g";exact⟨b,n,_,_,_,_,_,_,rfl,g.out,m.out,R⟩
   .walk_at"g";refine bI (fun c8=> ?_) (fun c8=> ?_)
    .exact absurd (c6.symm.trans c8) (by decide)
    .have aR:=aG.mk U;clear U;walk_at"g";refine⟨aR.out,by have:=nH.out;lia,by have:=nH.out;lia,?_⟩
     intro z S z0 z1 I F;have C:=J.dl I F;have hz:=C.sz (by lia)
     have zH:aG (z<nb/\z<6):=⟨z1,by have:=nH.out;lia⟩
     clear z1;walk_at"g";intro p M;have l14:=(C.new (o:= .tup (aB 1 [a,z])) M).at_;have R:=C.app M (1,[a,z]) (vc (BR aH.out.1 aH.out.2 z0 (by have:=zH.out;lia)) (by decide))
     walk_at"g";exact⟨b,n,_,_,_,_,_,_,rfl,g.out,m.out,R⟩
  .walk_at"g";refine bI (fun c8=> ?_) (fun c8=> ?_)
   .have aR:=aG.mk U;clear U;walk_at"g";refine⟨aR.out,by have:=nH.out;lia,by have:=nH.out;lia,?_⟩
    intro z S z0 z1 I F;have C:=J.dl I F;have hz:=C.sz (by lia)
    have zH:aG (z<nb/\z<6):=⟨z1,by have:=nH.out;lia⟩
    clear z1;walk_at"g";intro p M;have l14:=(C.new (o:= .tup (aB 14 [a,z])) M).at_;have R:=C.app M (14,[a,z]) (yx (.inr (.inr (.inr (.inr (.inr (.inl ⟨rfl,a,z,rfl,aH.out.1,aH.out.2,z0,by have:=zH.out;lia⟩)))))) (by decide) (by decide) (fun e=>absurd e (by decide)) (fun _=>zH.out.1) (fun e=>absurd e (by decide)))
    walk_at"g";exact⟨b,n,_,_,_,_,_,_,rfl,g.out,m.out,R⟩
   .have aR:=aG.mk U;clear U;walk_at"g";refine⟨aR.out,by have:=nH.out;lia,by have:=nH.out;lia,?_⟩
    intro z S z0 z1 I F;have C:=J.dl I F;have hz:=C.sz (by lia)
    have zH:aG (z<nb/\z<6):=⟨z1,by have:=nH.out;lia⟩
    clear z1;walk_at"g";intro p M;have l14:=(C.new (o:= .tup (aB 1 [a,z])) M).at_;have R:=C.app M (1,[a,z]) (vc (BR aH.out.1 aH.out.2 z0 (by have:=zH.out;lia)) (by decide))
    walk_at"g";exact⟨b,n,_,_,_,_,_,_,rfl,g.out,m.out,R⟩
 .intro Z H7 ar;refine aA fun G_ L=> ?_
  obtain⟨b2,n2,y1,y2,y3,y4,ts,is,rfl,hb,hn,R7⟩:=ar;refine L ?_
  have b5:=R7.deal;clear cc R6;walk_at"g";intro t1 dO;have R8:=R7.new (o:= .tup [.str "stop"]) dO;have u1:upd H7 t1 (.tup [.str "stop"]) t1=some (.tup [.str "stop"]):=ad;have a7:=aG.mk R8.deal
  change gB _ _ _ (upd H7 t1 (.tup [.str "stop"])) _
  generalize upd H7 t1 (.tup [.str "stop"])=H8 at*;clear b5;walk_at"g";refine⟨a7.out,by have:=nH.out;lia,by have:=nH.out;lia,?_⟩
  intro z H9 z0 z1 ba g9;have R9:=R8.dl ba g9;have cv:=a7.out.tup g9 u1;have zH:aG (z<nb/\z<6):=⟨z1,by have:=nH.out;lia⟩
  clear z1 R8 a7 g9 u1;walk_at"g";intro t2 c';have J:=R9.new (o:= .tup [.str "jump",.int z]) c';have de:=af c' (.tup [.str "jump",.int z]);have u2:upd H9 t2 (.tup [.str "jump",.int z]) t2=some (.tup [.str "jump",.int z]):=ad;have bu:=de _ _ cv;have U:=J.deal
  change gB _ _ _ (upd H9 t2 (.tup [.str "jump",.int z])) _
  generalize upd H9 t2 (.tup [.str "jump",.int z])=a8 at*;clear ba R9 de cv;walk_at"g";intro y S y0 dZ I F;have C:=J.dl I F;have bV:=U.tup F bu;have bx:=U.tup F u2;clear U J F bu u2;walk_at"g";intro t3 dg;have O:=C.new (o:= .tup [.str "through",.int y]) dg;have cb:=af dg (.tup [.str "through",.int y]);have u3:upd S t3 (.tup [.str "through",.int y]) t3=some (.tup [.str "through",.int y]):=ad;have bt:=cb _ _ bV;have br:=cb _ _ bx;have N:=O.deal;generalize upd S t3 (.tup [.str "through",.int y])=bb at*;clear I C cb bV bx;walk_at"g";intro p4 bX;have G:=O.new (o:= .lst [.ref t1,.ref t2,.ref t3]) bX;have bo:=af bX (.lst [.ref t1,.ref t2,.ref t3]);have l13:upd bb p4 (.lst [.ref t1,.ref t2,.ref t3]) p4=some (.lst [.ref t1,.ref t2,.ref t3]):=ad;have bM:=bo _ _ bt;have bw:=bo _ _ br;have bD:=bo _ _ u3;have d2:=N.ne bX;have j:=G.deal;generalize upd bb p4 (.lst [.ref t1,.ref t2,.ref t3])=b8 at*;clear N O bo bt br u3;have bj:=G.ty;walk_at"g";intro r cj r0 r1 bE a6;have b7:=G.dl bE a6;have l14:=a6 _ _ d2 l13;obtain⟨kn,tc,ec,uc,gc,lc⟩:∃(kn:Ins) (tc:Addr),atI [V.ref t1,.ref t2,.ref t3] r=some (.ref tc)/\cj tc=some (.tup (aB kn.1 kn.2))/\GI nb gt kn/\nP kn.1:=by
   obtain rfl | rfl | rfl:r=0\/r=1\/r=2:=by lia
   .exact⟨(0,[]),t1,rfl,j.tup a6 bM,yx (.inl ⟨rfl,rfl⟩) (by decide) (by decide) (fun e=>absurd e (by decide)) (fun e=>absurd e (by decide)) (fun e=>absurd e (by decide)),.inl rfl⟩
   .exact⟨(13,[z]),t2,rfl,j.tup a6 bw,yx (.inr (.inr (.inr (.inr (.inl ⟨.inl rfl,z,rfl,z0,by have:=zH.out;lia⟩))))) (by decide) (by decide) (fun _=>zH.out.1) (fun e=>absurd e (by decide)) (fun e=>absurd e (by decide)),.inr (.inl rfl)⟩
   .exact⟨(15,[y]),t3,rfl,j.tup a6 bD,yx (.inr (.inr (.inr (.inr (.inr (.inr (.inl ⟨rfl,y,rfl,y0,dZ⟩))))))) (by decide) (by decide) (fun e=>absurd e (by decide)) (fun e=>absurd e (by decide)) (fun e=>absurd e (by decide)),.inr (.inr rfl)⟩
  have dv:=b7.sz (by lia)
  clear j G a6 bM bw bD l13;walk_at"g";intro p5 cR;have b6:=b7.new (o:= .lst [.ref tc]) cR;have cm:=af cR (.lst [.ref tc]);have l15:upd cj p5 (.lst [.ref tc]) p5=some (.lst [.ref tc]):=ad;have bz:=cm _ _ uc;have cM:=b6.at_;generalize upd cj p5 (.lst [.ref tc])=da at*;have hz:(ts.map V.ref).length+[V.ref tc].length<=sizeLine:=dv;walk_at"g";intro p6 cp;have dB:=b6.new (o:= .lst (ts.map V.ref++[.ref tc])) cp;have dp:=af cp (.lst (ts.map V.ref++[.ref tc]));have l16:upd da p6 (.lst (ts.map V.ref++[.ref tc])) p6=some (.lst (ts.map V.ref++[.ref tc])):=ad;have cF:=dp _ _ bz;generalize upd da p6 (.lst (ts.map V.ref++[.ref tc]))=d9 at*;clear bE b7 b6 cm dp uc bz l14 l15 cM;walk_at"g";intro p7 dh;have a9:=dB.new (o:= .tup (ts.map V.ref++[.ref tc])) dh;have dQ:=af dh (.tup (ts.map V.ref++[.ref tc]));refine q p7 (ts++[tc]) (is++[kn]) _ ?_ ?_ ?_ (fun k hk=> ?_) ⟨is,kn,rfl,lc⟩ a9.deal a9.but
  .rw[MH];exact SqT.of ad
  .exact(show dE K _ [tc] [kn] from⟨SqT.of (dQ _ _ cF),True.intro⟩).app a9.ins
  .rw[MA,Nv];have:=a9.len
   lia
  .rcases MZ.mp hk with hk | hk
   .exact a9.gi k hk
   .rw[MY.mp hk];exact gc
theorem GSt.mono{H C:Hp}{o:List Addr}{gs:List (List Ins)}(f:∀t xs,SqT K H t xs->SqT K C t xs)(h:GSt K H o gs):GSt K C o gs:=⟨h.1,fun j b bk c a=>by
 obtain⟨J,U,I⟩:=h.2 j b bk c a
 exact⟨J,f _ _ U,I.mono f⟩⟩
theorem GSt.snoc{H:Hp}{o:List Addr}{gs:List (List Ins)}{b:Addr}{bk:List Ins}(h:GSt K H o gs)(J:GBk K H b bk):GSt K H (o++[b]) (gs++[bk]):=by
 refine⟨by rw[MA,MA,h.1];rfl,fun a y e C I=> ?_⟩
 by_cases z:a<o.length
 .rw[Nh z] at C;rw[Nh (by have:=h.1;lia)] at I
  exact h.2 a y e C I
 .have za:a=o.length:=by
   have:=(gV.mp C).1;rw[MA,Nv] at this
   lia
  subst za;rw[MT (by lia),NO] at C
  rw[h.1,MT (by lia),NO] at I
  cases C
  cases I
  exact J
def IP(K:Frag):Sp:=fun f H Q _=>∃(a d rm:Addr) (e:List Int) (c:Nat) (b I:Int),f=[.ref a,.ref d,.ref rm,.int I]/\(∃J,ax J H/\J d=none/\SqL K J a (e.map V.int))/\a_ H d/\H rm=some (.tup [.int c,.int b])/\SpM.Room c b/\0<=I/\I<=16/\
 ∀(g:Addr) (o:List Addr) (U:List (List Ins)) C,But d H C->SqT K C g (o.map V.ref)->GSt K C o U->GuG I U->U.length<=6->Q (.ref g) C
theorem xP(B:Bi mg)(D:rV K mg)(iZ:Has P w K mg base 1 "_law_deal" Cb (HJ K))(ao:Has P w K mg base 1 "_law_draw" qm oH)(oI:Has P w K mg base 3 "_law_rows" ["_law_deal_here","_law_room_here","_law_gates","_law_blocks"] (CH K)):
  Has P w K mg base 4 "_law_guest" ["_law_script","_law_deal_here","_law_room_here","_law_gates"] (IP K):=by
 refine D.has qh (fun vs H Q E h=> ?_) (fun f ba A Z s H vs Q E hr h=> ?_)
 .obtain⟨a,d,rm,ns,rk,rb,gt,rfl,_⟩:=h
  rfl
 obtain⟨a,d,rm,ns,rk,rb,gt,rfl,⟨H0,s0,f0,hS⟩,hD,G,hR,t0,Y,q⟩:=h;have tH:=aG.mk (And.intro t0 Y);clear t0 Y
 refine⟨_,(ac (psS 4 qh.nd (au aP aa (pcH ao hr (pa2 (pv 1) aa))))
   (ae (ai (cn cQ (by rfl) B.tuple fQ (pa1 (ko (by rfl) (by rfl) (by rfl) (bk (sc0:=ah jk) (N0:=["_law_script","_law_deal_here","_law_room_here","_law_gates","_law_blocks"]) ["_law_i","_law_room_here","_law_gates","_law_blocks","_law_script"] 1 [2,3,4,0]) (eD (by rfl) B.range (pa1 (pv 4))) (fun _ _ _ _=>(aD (i:=0) (show List.Nodup (["_law_i","_law_room_here","_law_gates","_law_blocks","_law_script"]:List Str) by decide) (by rfl) (by left;rfl))) (fun _ _ _ _=>(pcH oI hr (pa4 (pcH iZ hr (pa2 (pv 4) (au aP aa (pv 0)))) (pv 1) (pv 2) (pv 3)))))))))),?_⟩
 try dsimp only[aT]
 walk_at"g";intro m H1 m0 m1 c S;have a9:SqL K H1 a (ns.map V.int):=(But.same s0 f0 S).seq hS;have a6:=hD.tup S G;obtain⟨x,N⟩:∃n:Nat,1+m=n:=NC (by lia)
 have C:aG (0<x/\x<=6):=⟨by lia,by lia⟩
 have bb: -(2^62)<=1+m/\1+m<2^62:=by lia
 clear m0 m1;walk_at"g";have ev:(fun i j:Int=>V.int (i+j)) 1 m=V.int x:=Ng V.int N
 rw[ev];intro p9 J;have n9:=c.ne J;have aH:=s_ c S J;have nn:(1+m).toNat=x:=by rw[N];rfl
 rw[nn];refine qT (lo:=0) (n:=x) (fun j O X=>aG (But d H X)/\a_ X d/\X p9=some (.lst O)/\∃(o:List Addr) (r:List (List Ins)),O=o.map V.ref/\GSt K X o r/\r.length=j/\∀bk∈r,(∀R∈bk,GI x gt R)/\bk.length<=30/\∃ab R,bk=ab++[R]/\nP R.1)
  ⟨⟨cY J S⟩,c.up J,ad,[],[],rfl,⟨rfl,fun j b bk e=>by simp at e⟩,rfl,fun bk I=>by cases I⟩ ?_ ?_
 .rintro j O H5 F hF hj ⟨⟨g5⟩,hD5,l5,o,r,rfl,hg5,hlen,hall⟩
  have hz:(o.map V.ref).length<sizeLine:=by
   rw[fI,hg5.1,hlen];exact MJ (show j<100 by have:=C.out;lia) (by decide)
  have a7:=(But.same s0 f0 g5).seq hS;have y:=hD.tup g5 G;have j6:j<6:=by have:=C.out;lia
  clear hj;walk_at"g";intro d7 H7 f7 a8 s7;have aR:=s7 _ _ y;have n0:=C.out.1;have n1:=C.out.2;have t0:=tH.out.1;have Y:=tH.out.2;have l7:=s7 _ _ l5;walk_at"g";intro p ts is H8 ar M aK L U a' g8;have T:ax H5 H8:=But.same s7 f7 g8;have l8:=T _ _ l5;walk_at"g";refine hF _ _ ⟨⟨G9 aH (g5.trans T.but)⟩,?_,ad,o++[p],r++[is],by rw[MH];rfl,?_,by rw[MA,hlen];rfl,fun bk I=> ?_⟩
  .obtain⟨u,v,e⟩:=bp T hD5;exact⟨u,v,by rw[aj n9.symm];exact e⟩
  .exact((hg5.same T).mono fun _ _ z=>Ei l8 z).snoc ⟨ts,Ei l8 ar,M.mono fun _ _ z=>Ei l8 z⟩
  .rcases MZ.mp I with I | I
   .exact hall bk I
   .rw[MY.mp I];exact⟨L,aK,U⟩
 .rintro O H5 ⟨⟨g5⟩,hD5,l5,o,r,rfl,hg5,hlen,hall⟩
  walk_at"g";intro g hg;have e7:=af hg (.tup (o.map V.ref));refine q g o r _ (cY hg g5) (SqT.of ad) (hg5.same e7) ⟨by rw[hlen];exact C.out.1,by rw[hlen];have:=C.out.2;lia,fun bk I=> ?_⟩ (by rw[hlen];exact C.out.2)
  rw[hlen];exact hall bk I
theorem C8{kvs:List (Key × V)}{k:Key}{v:V}(C:(kvs.map (·.1)).Nodup):((dw kvs k v).map (·.1)).Nodup:=by
 by_cases h:(kvs.any fun o=>decide (o.1=k))=true
 .unfold dw;rw[ME h,QZ];have e:kvs.map ((fun x=>x.1) ∘ fun o=>if o.1=k then(o.1,v) else o)=kvs.map (·.1):=by
   apply List.map_congr_left
   intro p _;show(if p.1=k then(p.1,v) else p).1=p.1
   split <;> rfl
  rw[e];exact C
 .refine Iw v C ?_
  cases hv:eZ kvs k with
  | none=>rfl
  | some y=>
   exact absurd (Pt.mpr ⟨_,z_ hv,MO rfl⟩) h
theorem wrB{d c:Addr}{H C:Hp}{o:HO}(I:H c=none)(b:But d H C):But d H (upd C c o):=fun x y nx e=>by
 rw[aj (ak e I)];exact b _ _ nx e
theorem a_.wr{d c:Addr}{H:Hp}{o:HO}(h:a_ H d)(n:c≠d):a_ (upd H c o) d:=by
 obtain⟨x,y,e⟩:=h;exact⟨x,y,by rw[aj n.symm];exact e⟩
structure RpA (H:Hp) (v:V) (bs:List Int) (ws:List (Key × V)):Prop where
 ex:∃ra rb rd:Addr,v= .ref ra/\H ra=some (.tup [.ref rb,.ref rd])/\H rb=some (.tup (bs.map V.int))/\H rd=some (.dK ws)
 len:bs.length=7
 rng:∀x∈bs,0<=x/\x<4294967296
 mem:b_ ws
 few:ws.length<=6
 nod:(ws.map (·.1)).Nodup
def fu(H:Hp)(ys:List V)(reps:List (List Int × List (Key × V))):Prop:=ys.length=reps.length/\∀(i:Nat) (v:V) (bs:List Int) (o:List (Key × V)),ys[i]? =some v->reps[i]? =some (bs,o)->RpA H v bs o
theorem RpA.mono{H o:Hp}{v:V}{bs:List Int}{ws:List (Key × V)}(h:RpA H v bs ws)(C:∀a xs,H a=some (.tup xs)->o a=some (.tup xs))(I:∀a kvs,H a=some (.dK kvs)->o a=some (.dK kvs)):RpA o v bs ws:=by
 obtain⟨b,J,U,f,c,d,e⟩:=h.ex;exact⟨⟨b,J,U,f,C _ _ c,C _ _ d,I _ _ e⟩,h.len,h.rng,h.mem,h.few,h.nod⟩
theorem fu.mono{H o:Hp}{ys:List V}{reps:List (List Int × List (Key × V))}(h:fu H ys reps)(I:∀a xs,H a=some (.tup xs)->o a=some (.tup xs))(C:∀a kvs,H a=some (.dK kvs)->o a=some (.dK kvs)):fu o ys reps:=
 ⟨h.1,fun i v bs J a b=>(h.2 i v bs J a b).mono I C⟩
theorem fu.same{H o:Hp}{ys:List V}{reps:List (List Int × List (Key × V))}(h:fu H ys reps)(e:ax H o):fu o ys reps:=h.mono (fun _ _ h=>e _ _ h) (fun _ _ h=>e _ _ h)
theorem a_.keepT{H C:Hp}{d a:Addr}{o:HO}(h:a_ H d)(b:But d H C)(e:H a=some o)(I:∀xs,o≠ .lst xs):C a=some o:=b _ _ (fun z=>by
 obtain⟨x,y,J⟩:=h;rw[z,J] at e
 cases e
 exact I _ rfl) e
theorem fu.dl{H o:Hp}{d:Addr}{ys:List V}{reps:List (List Int × List (Key × V))}(h:fu H ys reps)(hd:a_ H d)(e:But d H o):fu o ys reps:=h.mono (fun _ _ h=>hd.keepT e h (fun _ z=>by cases z)) (fun _ _ h=>hd.keepT e h (fun _ z=>by cases z))
theorem fu.wr{H:Hp}{c:Addr}{J:List V}{o:HO}{ys:List V}{reps:List (List Int × List (Key × V))}(h:fu H ys reps)(C:H c=some (.lst J)):fu (upd H c o) ys reps:=h.mono (fun a I h=>by rw[aj (fun z=>by rw[z,C] at h;cases h)];exact h) (fun a I h=>by rw[aj (fun z=>by rw[z,C] at h;cases h)];exact h)
theorem fu.snoc{H:Hp}{ys:List V}{reps:List (List Int × List (Key × V))}{v:V}{bs:List Int}{ws:List (Key × V)}(h:fu H ys reps)(U:RpA H v bs ws):fu H (ys++[v]) (reps++[(bs,ws)]):=by
 refine⟨by rw[MA,MA,h.1];rfl,fun i w o C a b=> ?_⟩
 by_cases I:i<ys.length
 .rw[Nh I] at a;rw[Nh (by rw[<- h.1];exact I)] at b
  exact h.2 i w o C a b
 .rw[MT (by lia)] at a
  rw[MT (by rw[<- h.1];lia), <-h.1] at b
  have J:i - ys.length=0:=by
   have:=(gV.mp a).1
   simp at this
   lia
  rw[J] at a b;obtain rfl:v=w:=by simpa using a
  obtain⟨rfl,rfl⟩:bs=o/\ws=C:=by simpa using b
  exact U
theorem fu.drop{H:Hp}{ys:List V}{reps:List (List Int × List (Key × V))}(n:Nat)(h:fu H ys reps):fu H (ys.drop n) (reps.drop n):=by
 refine⟨by rw[Ni,Ni,h.1],fun i v bs o a b=> ?_⟩
 rw[O4] at a b;exact h.2 _ v bs o a b
theorem fu.en{H:Hp}{pl I:Addr}{k:Nat}{b:Int}{m s:Nat}{g:Int}{ys:List V}{reps:List (List Int × List (Key × V))}(e:Pl H pl k b m s g)(C:H I=some (.lst ys))(h:fu H ys reps):En K H pl I ⟨k,b,m,s,g,reps⟩:=
 ⟨e,⟨_,C⟩,ys,SqL.of C,h.1,fun i v bs U a n u o=>by
  have r:=h.2 i v bs U a n;obtain⟨p,j,f,q,d,c,J⟩:=r.ex
  exact⟨⟨p,j,f,q,SqT.of d,SqT.of c,J,ak J o⟩,r.len,r.rng,r.mem,MV r.few (by decide),r.nod⟩⟩
def HM:Sp:=fun a H Q _=>∃(d rm:Addr) (U:Nat) (J:Int),a=[.ref d,.ref rm]/\a_ H d/\H rm=some (.tup [.int U,.int J])/\SpM.Room U J/\∀(c:Addr) (I:List V) (o:List (List Int × List (Key × V))) C,H c=none->C c=some (.lst I)->fu C I o->o.length<=4->a_ C d->But d H C->Q (.ref c) C
theorem vk(B:Bi mg)(D:nL K mg)(ao:Has P w K mg base 1 "_law_draw" qm oH)(cq:Has P w K mg base 2 "_law_value" ky zm):Has P w K mg base 3 "_law_replies" ["_law_deal_here","_law_room_here"] HM:=by
 refine D.has c_ (fun vs H Q E h=> ?_) (fun f cD A bM s H vs Q E hr h=> ?_)
 .obtain⟨d,rm,rk,rb,rfl,_⟩:=h
  rfl
 obtain⟨d,rm,rk,rb,rfl,hD,ba,hR,q⟩:=h;have hk:=hR.k20;have bH:(1:Int)*2^((rk:Int)).toNat=2^rk:=by rw[Pb,MN]
 have ab:(2:Int)^rk<=2^20:=SpM.ple hk;have aH:=SpM.pp rk;rw[<- bH] at ab aH;have cH:Ah 1 (rk:Int):=⟨by lia,by lia,by decide⟩
 have nH:=aG.mk (And.intro ab aH);clear ab aH hk
 refine⟨_,(ac (psS 2 c_.nd (bG dA))
   (ac (fg M7 (by rfl) (dY (eD (by rfl) B.range (pa1 (pcH ao hr (pa2 (pv 0) aa))))) (aD (i:=3) c_.nd (by rfl) (by left;rfl)) (ac (psS 4 c_.nd (cn cQ (by rfl) B.tuple fQ (pa1 (ko (by rfl) (by rfl) (by rfl) (bk (sc0:=ah gC) (N0:=["_law_deal_here","_law_room_here","_law_found","_law_k","_law_boxes","_law_writes","_law_j"]) ["_law_j","_law_deal_here","_law_room_here"] 1 [0,1]) (eD (by rfl) B.range (pa1 aa)) (fun _ _ _ _=>(aD (i:=0) (show List.Nodup (["_law_j","_law_deal_here","_law_room_here"]:List Str) by decide) (by rfl) (by left;rfl))) (fun _ _ _ _=>(pcH cq hr (pa2 (pv 1) (pv 2))))))))
   (ac (psS 5 c_.nd Bg)
   (ac (fg M7 (by rfl) (dY (eD (by rfl) B.range (pa1 (pcH ao hr (pa2 (pv 0) aa))))) (aD (i:=6) c_.nd (by rfl) (by left;rfl)) (ae (vW (uQ hr) (pv 5) (au aP (pX ag (pv 1) aa) (pcH ao hr (pa2 (pv 0) (au jd aa (pX ag (pv 1) aa))))) (pcH cq hr (pa2 (pv 0) (pv 1))) (by rfl))))
   (ae (bL (gH MX M9 M_ cC (pv 2) (pa1 (aw (pa2 (pv 4) (pv 5)))))))))))
   (ae (ai (pv 2))))),?_⟩
 try dsimp only[aT]
 walk_at"g";intro c hc;have O:c≠d:=hD.ne hc;have cb:=hD.up (o:= .lst []) hc;have bx:upd H c (.lst []) c=some (.lst []):=ad;have b0:But d H (upd H c (.lst [])):=(af hc _).but;generalize upd H c (.lst [])=H0 at*;walk_at"g";intro n H1 n0 n1 br b1;have a':=b1 _ _ O bx;have B1:=b0.trans b1;walk_at"g";refine⟨gU (fun i Z g=>aG (∃(X:List V) (I:List (List Int × List (Key × V))) (x y z u:Option V),I.length<=i/\fu g X I/\g c=some (.lst X)/\a_ g d/\But d H g/\Z=[some (.ref d),some (.ref rm),some (.ref c),x,y,z,u])) ⟨[],[],_,_,_,_,Na _,⟨rfl,fun i v bs ws e=>by simp at e⟩,a',br,B1,rfl⟩ ?_ ?_⟩
 .intro i Z H2 hi hh_;refine aA fun G_ J=> ?_
  obtain⟨X,I,x,y,z,u,hl,R,S,b,b2,rfl⟩:=hh_;refine J ?_
  have cz:i<5:=by simp at hi;lia
  clear hi n0 n1 br a' B1 b1 cb bx b0;walk_at"g";intro p hp;have bo:p≠d:=b.ne hp;refine qT (lo:=0) (n:=7) (fun j N g=>aG (But d H2 g)/\a_ g d/\g p=some (.lst N)/\∃bs:List Int,N=bs.map V.int/\bs.length=j/\∀v∈bs,0<=v/\v<4294967296)
   ⟨⟨(af hp _).but⟩,b.up hp,ad,[],rfl,rfl,fun v hv=>by cases hv⟩ ?_ ?_
  .intro j N H3 F hF hj hh_;refine aA fun G_ J=> ?_
   obtain⟨⟨g1⟩,aK,l3,bs,rfl,bh,b5⟩:=hh_;refine J ?_
   have hz:(bs.map V.int).length<sizeLine:=by
    rw[fI,bh];exact MJ (show j<100 by lia) (by decide)
   have cp:=hD.tup (b2.trans g1) ba;walk_at"g";intro v H4 v0 v1 a g4;have l4:=g4 _ _ bo l3;walk_at"g";refine hF _ _ ⟨⟨wrB hp (g1.trans g4)⟩,a.wr bo,ad,bs++[v],by rw[MH];rfl,by rw[MA,bh];rfl,fun u hu=> ?_⟩
   rcases MZ.mp hu with hu | hu
   .exact b5 u hu
   .rw[MY.mp hu];exact⟨v0,v1⟩
  .intro N H3 hh_;refine aA fun G_ J=> ?_
   obtain⟨⟨g1⟩,aK,l3,bs,rfl,h7,b'⟩:=hh_;refine J ?_
   have a6:=g1 _ _ O S;have T:=R.dl b g1;have B3:=b2.trans g1;walk_at"g";intro t ht;have e4:=af ht (.tup (bs.map V.int));have l4:upd H3 t (.tup (bs.map V.int)) t=some (.tup (bs.map V.int)):=ad;have a:=bp e4 aK;have a9:=e4 _ _ a6;have G:=T.same e4;have B4:But d H (upd H3 t (.tup (bs.map V.int))):=cY ht B3;generalize upd H3 t (.tup (bs.map V.int))=H4 at*;clear S b b2 R a6 aK T l3 g1 B3 e4;walk_at"g";intro U m;have e5:=af m (.dK []);have m5:upd H4 U (.dK []) U=some (.dK []):=ad;have bW:=bp e5 a;have cc:=e5 _ _ a9;have bE:=G.same e5;have L:U≠d:=a.ne m;have B5:But d H (upd H4 U (.dK [])):=cY m B4;have l5:=e5 _ _ l4;have cL:=s_ a B4 m;generalize upd H4 U (.dK [])=H5 at*;walk_at"g";intro n2 H6 bw bD bt b6;have m6:=b6 _ _ L m5;have B6:=b6;walk_at"g";refine⟨gU (fun i2 Z g=>aG (∃(C:List (Key × V)) (x:Option V),C.length<=i2/\b_ C/\(C.map (·.1)).Nodup/\g U=some (.dK C)/\a_ g d/\But d H4 g/\Z=[some (.ref d),some (.ref rm),some (.ref c),some (.int (0+i)),some (.ref t),some (.ref U),x])) ⟨[],_,Na _,(fun x hx=>absurd hx (by simp)),O2,m6,bt,e5.but.trans b6,rfl⟩ ?_ ?_⟩
   .intro i2 Z H7 hi2 hh_;refine aA fun G_ J=> ?_
    obtain⟨C,x2,bj,aR,ar,m7,Y,b7,rfl⟩:=hh_;refine J ?_
    have cm:i2<3:=by simp at hi2;lia
    have bb:=hD.tup (B4.trans b7) ba;clear hi2 bw bD;walk_at"g";intro v H8 v0 v1 M b8;have ct:=Y.tup b8 bb;have m8:=b8 _ _ L m7;have B8:=b7.trans b8;have cj:=aG.mk M;clear M;walk_at"g";refine⟨cj.out,nH.out.2,by have:=nH.out.1;lia,?_⟩
    intro r H9 r0 r1 b4 b9;have m9:=b9 _ _ L m8;have B9:=B8.trans b9;have cM:tI H9 U (.int (rb+r)) (.int v) (upd H9 U (.dK (dw C (.inl (rb+r)) (.int v)))):=tI.k (k:= .inl (rb+r)) m9 (Nw (show C.length<=100 by lia) (by decide))
    have cv:=nM C (.inl (rb+r)) (.int v);walk_at"g";exact aG.mk ⟨_,_,by lia,aR.put v0 v1,C8 ar,ad,b4.wr L,wrB m B9,rfl⟩
   .intro Z H7 hh_;refine aA fun G_ J=> ?_
    obtain⟨C,x2,bj,aR,ar,m7,Y,b7,rfl⟩:=hh_;refine J ?_
    have bX:C.length<=6:=by lia
    have a8:=b7 _ _ O a9;have l7:=a.tup b7 l4;have bu:=G.dl a b7;have B7:=B4.trans b7;have hz:X.length<sizeLine:=by
     rw[G.1];exact MJ (show I.length<100 by lia) (by decide)
    have cF:tyV K "list" (.ref c) H7:= .inl ⟨rfl,_,SqL.of a8⟩;clear bj bw bD m6 bt b6 B6 bW cc bE B5 l5 m5 e5;walk_at"g";intro u2 a7;have e8:=af a7 (.tup [.ref t,.ref U]);have l8:upd H7 u2 (.tup [.ref t,.ref U]) u2=some (.tup [.ref t,.ref U]):=ad;have c8:=e8 _ _ a8;have bV:=e8 _ _ l7;have m8:=e8 _ _ m7;have bz:=bu.same e8;have M:=bp e8 Y;have B8:But d H (upd H7 u2 (.tup [.ref t,.ref U])):=cY a7 B7;generalize upd H7 u2 (.tup [.ref t,.ref U])=H8 at*;walk_at"g";refine⟨X++[.ref u2],I++[(bs,C)],_,_,_,_,by rw[MA];simp only[MU,Nl];lia,?_,ad,M.wr O,wrB hc B8,rfl⟩
    refine(bz.snoc ⟨⟨u2,t,U,rfl,l8,bV,m8⟩,h7,b',aR,bX,ar⟩).wr c8
 .intro Z H2 hh_;refine aA fun G_ J=> ?_
  obtain⟨X,I,x,y,z,u,hl,R,S,b,b2,rfl⟩:=hh_;refine J ?_
  walk_at"g";exact q c X I H2 hc S R (by lia) b b2
abbrev ge:=Int × List Int × List (Key × V)
abbrev ls:=List Int × List (Key × V)
noncomputable def iV(left:List ls)(rows:List ge):List ls:=if rows=[] then left else left.drop 1
noncomputable def nk(x:Fx)(ws:List Int)(own:Int->Bool):Nat->List ls->MSt->List ge->(Str × List Int) × MSt × List ge × List ls
 | 0,left,m,rows=>(("lost",[]),m,rows,left)
 | n+1,left,m,rows=>if (dH x ws left m).1≠bF\/own (dH x ws left m).2.1.p=true then((dH x ws left m).1,{(dH x ws left m).2.1 with rows:=[]},rows++(dH x ws left m).2.1.rows,iV left (dH x ws left m).2.1.rows)
  else nk x ws own n (iV left (dH x ws left m).2.1.rows) {(dH x ws left m).2.1 with rows:=[]} (rows++(dH x ws left m).2.1.rows)
theorem pO{x:Fx}{ws:List Int}{own:Int->Bool}{n:Nat}{left:List ls}{m m1:MSt}{rows:List ge}{e:Str × List Int}{t:Int}(h:dH x ws left m=(e,m1,t))(hs:e≠bF\/own m1.p=true):nk x ws own (n+1) left m rows=(e,{m1 with rows:=[]},rows++m1.rows,iV left m1.rows):=by
 unfold nk;rw[h,ME hs]
theorem vR{x:Fx}{ws:List Int}{own:Int->Bool}{n:Nat}{left:List ls}{m m1:MSt}{rows:List ge}{t:Int}(h:dH x ws left m=(bF,m1,t))(hs:own m1.p=false):nk x ws own (n+1) left m rows=nk x ws own n (iV left m1.rows) {m1 with rows:=[]} (rows++m1.rows):=by
 conv=>lhs;unfold nk
 have o:¬(bF≠bF\/own m1.p=true):=by
  rintro(z | z)
  .exact z rfl
  .rw[hs] at z;cases z
 rw[h,mC o]
theorem FO{x:Fx}{ws:List Int}{own:Int->Bool}{C:Int->Prop}(U:∀q,C q->own q=false){left:List ls}{rows:List ge}{n:Nat}{m o:MSt}(w:Way x ws C n m o)(b:m.rows=[])(J:0<n)(ho:own o.p=true):∀f,n<=f->nk x ws own f left m rows=(bF,o,rows,left):=by
 induction w with
 | done m=>exact absurd J (by decide)
 | @step n m m1 o h1 h2 h3 w ih=>
  intro f a;obtain⟨f,rfl⟩:∃g,f=g+1:=⟨f - 1,by lia⟩
  have I:({m1 with rows:=[]}:MSt)=m1:=by rw[<- h3]
  cases w with
  | done _=>
   rw[pO (h2 left) (.inr ho),I,h3,MS]
   rfl
  | step g1 g2 g3 w'=>
   rw[vR (h2 left) (U _ g1),I,h3,MS];exact ih h3 (Nat.succ_pos _) ho f (by lia)
theorem EV{x:Fx}{k:Nat}{ns:List Int}{m:MSt}(o:m.rows=[])(hw:∀y∈x.reps,y.2.length<=100):(cg x k ns m).2.kvs.length+100*(iV x.reps (cg x k ns m).2.rows).length<=m.kvs.length+100*x.reps.length+1/\∀r∈(cg x k ns m).2.rows,r.2.1=m.bx/\r.2.2=m.kvs:=by
 have l0:iV x.reps []=x.reps:=rfl;have C:∀(P:ge->Prop), ∀r∈([]:List ge),P r:=fun P r h=>by cases h
 unfold cg
 split
 .rw[o,l0];exact⟨by lia,C _⟩
 .split
  .split
   .rw[o,l0];exact⟨by lia,C _⟩
   .rw[o]
    split
    .rename_i e
     have U:x.reps=[]:=by
      cases h:x.reps with
      | nil=>rfl
      | cons a b=>rw[h] at e;cases e
     refine⟨?_,fun r o=> ?_⟩
     .show m.kvs.length+100*(iV x.reps ([]++[(ns.getD 0 0,m.bx,m.kvs)])).length<=_
      rw[U];show m.kvs.length+100*0<=_
      lia
     .rw[MY.mp (show r∈[(ns.getD 0 0,m.bx,m.kvs)] from o)];exact⟨rfl,rfl⟩
    .rename_i bs wr e
     have I:=MD e;have J:=hw _ I;have c:=fN wr m.kvs;have d:0<x.reps.length:=List.length_pos_of_mem I;have J:wr.length<=100:=J;refine⟨?_,fun r o=> ?_⟩
     .show(cP m.kvs wr).length+100*(x.reps.drop 1).length<=_
      rw[Ni]
      lia
     .rw[MY.mp (show r∈[(ns.getD 0 0,m.bx,m.kvs)] from o)];exact⟨rfl,rfl⟩
  .split
   .split
    .split
     .show m.kvs.length+100*(iV x.reps m.rows).length<=_/\∀r∈m.rows,_
      rw[o,l0];exact⟨by lia,C _⟩
     .have:=nM m.kvs (.inl (bq ns m.bx)) (.int (bxG m.bx (ns.getD 0 0)));show(dw m.kvs _ _).length+100*(iV x.reps m.rows).length<=_/\∀r∈m.rows,_
      rw[o,l0];exact⟨by lia,C _⟩
    .rw[o,l0];exact⟨by lia,C _⟩
   .split
    .show m.kvs.length+100*(iV x.reps m.rows).length<=_/\∀r∈m.rows,_
     rw[o,l0];exact⟨by lia,C _⟩
    .show m.kvs.length+100*(iV x.reps m.rows).length<=_/\∀r∈m.rows,_
     rw[o,l0];exact⟨by lia,C _⟩
theorem rE{x:Fx}{ws:List Int}{left:List ls}{m:MSt}(hw:∀y∈left,y.2.length<=100):(dH x ws left m).2.1.kvs.length+100*(iV left (dH x ws left m).2.1.rows).length<=m.kvs.length+100*left.length+1/\∀r∈(dH x ws left m).2.1.rows,r.2.1=m.bx/\r.2.2=m.kvs:=by
 have h:=fun k C=>EV (x:={x with reps:=left}) (k:=k) (ns:=C) (m:={m with rows:=[]}) rfl hw
 unfold dH cu
 split
 .exact⟨Oh _,fun r I=>by cases I⟩
 .rename_i k C _
  have o:=h k C
  split
  .rename_i e st es
   rw[es] at o;exact o
  .rename_i st es
   rw[es] at o;unfold cu
   split <;> exact o
theorem KF{bx:List Int}(h:bx.length=8):ik (bx.map V.int) none (some 6)=(bx.take 6).map V.int/\¬(HT.sIx (bx.map V.int).length 0 none=0/\HT.sIx (bx.map V.int).length (bx.map V.int).length (some 6)=(bx.map V.int).length):=by
 have e:=C7 (xs:=bx.map V.int) (n:=6);refine⟨by rw[Pk];exact e,fun z=> ?_⟩
 have:=z.2;rw[fI,h] at this;exact absurd this (by decide)
def cE(H:Hp):List Addr->List ge->Prop
 | [],[]=>True
 | r::rs,x::xs=>JG H r x.1 x.2.1 x.2.2/\cE H rs xs
 | _,_=>False
theorem cE.len{H:Hp}:∀{o:List Addr}{xs:List ge},cE H o xs->o.length=xs.length
 | [],[],_=>rfl
 | _::_,_::_,h=>Ng (· +1) (cE.len h.2)
 | [],_::_,h=>h.elim
 | _::_,[],h=>h.elim
theorem cE.same{H o:Hp}(s:ax H o):∀{C:List Addr}{xs:List ge},cE H C xs->cE o C xs
 | [],[],_=>True.intro
 | _::_,_::_,h=>by
  obtain⟨⟨t,d,a,b,c⟩,r⟩:=h;exact⟨⟨t,d,s _ _ a,s _ _ b,s _ _ c⟩,cE.same s r⟩
 | [],_::_,h=>h.elim
 | _::_,[],h=>h.elim
theorem cE.app{H:Hp}{C:List Addr}{ys:List ge}(hs:cE H C ys):∀{o:List Addr}{xs:List ge},cE H o xs->cE H (o++C) (xs++ys)
 | [],[],_=>hs
 | _::_,_::_,h=>⟨h.1,cE.app hs h.2⟩
 | [],_::_,h=>h.elim
 | _::_,[],h=>h.elim
theorem cE.get{H:Hp}:∀{o:List Addr}{xs:List ge}{i:Nat}{r:Addr},cE H o xs->o[i]? =some r->∃x,xs[i]? =some x/\JG H r x.1 x.2.1 x.2.2
 | _::_,x::_,0,_,h,e=>by
  cases e
  exact⟨x,rfl,h.1⟩
 | _::_,_::_,i+1,_,h,e=>cE.get (i:=i) h.2 e
 | [],_,_,_,_,e=>by cases e
 | _::_,[],_,_,h,_=>h.elim
theorem yC.l{H:Hp}{C:Addr}:∀{o:List Addr}{xs:List ge},yC H C o xs->cE H o xs
 | [],[],_=>True.intro
 | _::_,_::_,h=>by
  obtain⟨⟨t,d,a,b,c,_⟩,r⟩:=h;exact⟨⟨t,d,a,b,c⟩,yC.l r⟩
 | [],_::_,h=>h.elim
 | _::_,[],h=>h.elim
def E5(r:ge):Prop:=r.2.1.length=8/\b_ r.2.2/\r.2.2.length<=5000
noncomputable def six(r:ge):ge:=(r.1,r.2.1.take 6,r.2.2)
theorem cE.wr{H:Hp}{p:Addr}{ys:List V}{o:HO}(I:H p=some (.lst ys)):∀{C:List Addr}{xs:List ge},cE H C xs->cE (upd H p o) C xs
 | [],[],_=>True.intro
 | _::_,_::_,h=>by
  obtain⟨⟨t,d,a,b,c⟩,r⟩:=h;have k:∀{q:Addr}{u:HO},H q=some u->(∀U,u≠ .lst U)->upd H p o q=some u:=fun {q u} e J=>by
   rw[aj (fun z=>by rw[z,I] at e;cases e;exact J _ rfl)]
   exact e
  exact⟨⟨t,d,k a (fun _ z=>by cases z),k b (fun _ z=>by cases z),k c (fun _ z=>by cases z)⟩,cE.wr I r⟩
 | [],_::_,h=>h.elim
 | _::_,[],h=>h.elim
theorem Iv{X:Cx}{K:Frag}{C:Pos}{o:List Expr}{k:Nat}{t:TGs}{n:Nat}(J:X.K=K)(a:X.calm=true)(h:PGs X o t)
  (U:(assignEach o X.env).length=n:=by rfl) (I:(assignEach o X.env).findIdx? (·.1)=none:=by rfl):PG X (.Tuple o k C) (KZ K n t):=by
 subst J;exact k_ a h U I
def AV(K:Frag):Sp:=fun a H Q _=>∃(C:Addr) (I:List Addr) (rows:List ge),a=[.ref C]/\SqL K H C (I.map V.ref)/\cE H I rows/\(∀r∈rows,E5 r)/\rows.length<=1000/\∀(J:Addr) (U:List Addr) o,ax H o->o J=some (.lst (U.map V.ref))->cE o U (rows.map six)->Q (.ref J) o
theorem AB(B:Bi mg)(D:uS K mg):Has P w K mg base 1 "_law_told" ["_law_rows_here"] (AV K):=by
 refine D.has At (fun Z H Q E h=> ?_) (fun f ab A j s H Z Q E hr h=> ?_)
 .obtain⟨rl,M,rows,rfl,_⟩:=h
  rfl
 obtain⟨rl,M,rows,rfl,g,J,S,O,q⟩:=h;refine⟨_,(ae (ai (ko (by rfl) (by rfl) (by rfl) (bk (sc0:=ah kq) (N0:=["_law_rows_here"]) ["_law_n","_law_boxes","_law_memory"] 3 []) (rT (pv 0)) (fun _ _ _ _=>((Iv (K:=K) (n:=3) (by rfl)) (by rfl) (aS (aD (i:=0) (show List.Nodup (["_law_n","_law_boxes","_law_memory"]:List Str) by decide) (by rfl) (by left;rfl)) (aS (aD (i:=1) (show List.Nodup (["_law_n","_law_boxes","_law_memory"]:List Str) by decide) (by rfl) (by left;rfl)) (aS (aD (i:=2) (show List.Nodup (["_law_n","_law_boxes","_law_memory"]:List Str) by decide) (by rfl) (by left;rfl)) iS))))) (fun _ _ _ _=>(aw (pa3 (pv 0) (di (IZ (K:=K) (by rfl)) (pv 1) eQ (eP aa)) (pv 2))))))),?_⟩
 try dsimp only[aT]
 walk_at"g";intro p N;refine yS (xs:=M.map V.ref) (fun i b e=>aG (ax H e)/\e p=some (.lst b)/\∃o:List Addr,b=o.map V.ref/\cE e o ((rows.take i).map six)) ⟨⟨af N _⟩,ad,[],rfl,True.intro⟩ (fun i b e h=>h.1.out.seq g) ?_ ?_
 .rintro i x b H1 F hF hx ⟨⟨s1⟩,l1,o,rfl,hts⟩
  obtain⟨r,R,rfl⟩:=cV hx;obtain⟨rw,G,t,d,a1,a2,a3⟩:=(J.same s1).get R;obtain⟨k1,k2,k3⟩:=S rw (MD G);have il:i<rows.length:=(gV.mp G).1;have hz:(o.map V.ref).length<sizeLine:=by
   have:=hts.len;rw[fI,M0] at this;rw[fI];exact MJ (show o.length<1001 by lia) (by decide)
  walk_at"g";refine⟨.none (.none (.none .refl)),?_⟩
  walk_at"g";obtain⟨X,Y⟩:=KF k1;refine⟨Y,fun C m=> ?_⟩
  rw[X];have c:=af m (.tup ((rw.2.1.take 6).map V.int));have l3:upd H1 C (.tup ((rw.2.1.take 6).map V.int)) C=some (.tup ((rw.2.1.take 6).map V.int)):=ad;generalize upd H1 C (.tup ((rw.2.1.take 6).map V.int))=L at*;walk_at"g";intro I u;have a:=af u (.tup [.int rw.1,.ref C,.ref d]);have l4:upd L I (.tup [.int rw.1,.ref C,.ref d]) I=some (.tup [.int rw.1,.ref C,.ref d]):=ad;have S4:=s1.trans (c.trans a);have z:=a _ _ (c _ _ l1);have y:=a _ _ l3;have v:=a _ _ (c _ _ a3);have U:=(hts.same c).same a;generalize upd L I (.tup [.int rw.1,.ref C,.ref d])=T at*;walk_at"g";refine hF _ _ ⟨⟨eR N S4⟩,ad,o++[I],by rw[MH];rfl,?_⟩
  rw[N8,G,MH];exact((show cE T [I] [six rw] from⟨⟨C,d,l4,y,v⟩,True.intro⟩).app U).wr z
 .rintro b H1 ⟨⟨s1⟩,l1,o,rfl,hts⟩
  rw[fI,J.len,ML] at hts;exact q p o H1 s1 l1 hts
noncomputable def uL:List Str:=["spent","lost","stopped","asks","beyond"]
theorem GJ:∀x∈uL,PyData.strOk x=true:=by decide +kernel
theorem Gk{x:Fx}{k:Nat}{ns:List Int}{st:MSt}{e:Str × List Int}(h:(cg x k ns st).1=some e):e.1∈uL:=by
 unfold cg at h
 split at h
 .cases h;decide +kernel
 split at h
 .split at h
  .cases h;decide +kernel
  .split at h
   .cases h;exact(show("asks":Str)∈uL by decide +kernel)
   .cases h
 split at h
 .split at h
  .split at h <;> cases h
  .cases h;exact(show("beyond":Str)∈uL by decide +kernel)
 split at h <;> cases h
theorem Ed{x:Fx}{ws:List Int}:∀(n:Nat) (st:MSt) (t:Int),(cu x ws n st t).1.1∈uL
 | 0,st,t=>by
  unfold cu
  split
  .exact(show("lost":Str)∈uL by decide +kernel)
  .exact(show("spent":Str)∈uL by decide +kernel)
 | n+1,st,t=>by
  unfold cu
  split
  .exact(show("lost":Str)∈uL by decide +kernel)
  .rename_i k ns _
   split
   .rename_i e st' es
    exact Gk (x:=x) (k:=k) (ns:=ns) (st:=st) (by rw[es])
   .exact Ed n _ _
theorem El{x:Fx}{ws:List Int}{n:Nat}{st:MSt}{t:Int}:PyData.strOk (cu x ws n st t).1.1=true:=GJ _ (Ed n st t)
theorem Ho{x:Fx}{k:Nat}{ns:List Int}{m:MSt}:(cg x k ns m).2.rows.length<=m.rows.length+1:=by
 unfold cg
 split
 .exact Oh _
 split
 .split
  .exact Oh _
  .split
   .show(m.rows++[_]).length<=_
    rw[MA];exact MC _
   .show(m.rows++[_]).length<=_
    rw[MA];exact MC _
 split
 .split
  .split <;> exact Oh _
  .exact Oh _
 split <;> exact Oh _
theorem D6{x:Fx}{ws:List Int}{left:List ls}{m:MSt}:(dH x ws left m).2.1.rows.length<=1:=by
 have h:=fun k C=>Ho (x:={x with reps:=left}) (k:=k) (ns:=C) (m:={m with rows:=[]})
 unfold dH cu
 split
 .exact Na 1
 .rename_i k C _
  have o:=h k C
  split
  .rename_i e st es
   rw[es] at o;exact o
  .rename_i st es
   rw[es] at o;unfold cu
   split <;> exact o
def StA(K:Frag)(H:Hp)(sa:Addr)(m:MSt):Prop:=∃C o,SqT K H sa [.int m.p,.ref C,.ref o]/\SqT K H C (m.bx.map V.int)/\H o=some (.dK m.kvs)
theorem StA.same{H o:Hp}{sa:Addr}{m:MSt}(s:ax H o)(h:StA K H sa m):StA K o sa m:=by
 obtain⟨a,J,I,C,U⟩:=h;exact⟨a,J,s.tup I,s.tup C,s _ _ U⟩
structure MOk (m:MSt) (left:List ls) (c:Nat):Prop where
 b8:Bxs m.bx
 mem:b_ m.kvs
 len:m.kvs.length+100*left.length<=c
def K1(K:Frag)(H:Hp)(o:Addr)(e:Str × List Int):Prop:=SqT K H o (.str e.1::e.2.map V.int)
theorem oz{H:Hp}{ys:List V}{reps:List ls}(h:fu H ys reps):∀y∈reps,y.2.length<=100:=by
 intro y C;obtain⟨i,o,e⟩:=List.getElem_of_mem C;have I:i<ys.length:=by rw[h.1];exact o
 have:=(h.2 i ys[i] y.1 y.2 (be I) (by rw[be o,e])).few
 lia
theorem tO{left:List ls}{n:Nat}{r:List ge}(h:r.length<=1):iV (left.drop n) r=left.drop (n+r.length):=by
 unfold iV
 split
 .rename_i z
  rw[z]
  rfl
 .rename_i z
  have:r.length=1:=by
   have:=N3.mpr z
   lia
  rw[this,List.drop_drop]
noncomputable def K_:Str × List Int:=("lost",[])
def yP(K:Frag):Sp:=fun s H Q _=>∃(e pl cd n sa g:Addr) (I:Int) (x:Fx) (b:List Int) (m:MSt) (left:List ls) (j:List V) (c:Nat) (a:Str × List Int) (d:MSt) (o:List ge) (C:List ls),s=[.ref e,.ref sa,.ref g,.int I]/\H e=some (.tup [.ref pl,.ref cd,.ref n])/\Pl H pl x.pk x.pb x.pm x.ps x.pg/\SqL K H cd (b.map V.int)/\(∀y∈b,0<=y/\y<4294967296)/\StA K H sa m/\MOk m left c/\c<=1900/\
 H g=some (.lst j)/\fu H j left/\left.length<=4/\aG (nk x b (fun p=>decide (p=I)) 17 left m []=(a,d,o,C))/\a≠K_/\
 ∀(q i U rw:Addr) (f:List Addr) J,ax H J->J q=some (.tup [.ref i,.ref U,.ref rw])->K1 K J i a->PyData.strOk a.1=true->StA K J U d->MOk d C (c+40)->J rw=some (.lst (f.map V.ref))->cE J f o->(∀r∈o,E5 r)->o.length<=17->Q (.ref q) J
structure Ga (K:Frag) (H:Hp) (x:Fx) (ws:List Int) (place:Int) (left:List ls) (m:MSt) (c i:Nat) (H':Hp) (eq sa kl:Addr) (rs:List Addr) (e:Str × List Int) (m':MSt) (rows:List ge):Prop where
 same:ax H H'
 i16:i<=16
 en:K1 K H' eq e
 so:PyData.strOk e.1=true
 st:StA K H' sa m'
 ok:MOk m' (left.drop rows.length) (c+(i+1))
 kl:H' kl=some (.lst (rs.map V.ref))
 rl:cE H' rs rows
 rk:∀r∈rows,E5 r
 len:rows.length<=i+1
 nx:((e≠bF\/m'.p=place)/\nk x ws (fun p=>decide (p=place)) 17 left m []=(e,m',rows,left.drop rows.length))\/(e=bF/\m'.p≠place/\nk x ws (fun p=>decide (p=place)) (16 - i) (left.drop rows.length) m' rows=nk x ws (fun p=>decide (p=place)) 17 left m [])
theorem Ga.skip{H:Hp}{x:Fx}{ws:List Int}{o:Int}{left:List ls}{m:MSt}{c i:Nat}{a C:Hp}{J sa U:Addr}{I:List Addr}{e:Str × List Int}{m':MSt}{rows:List ge}(h:Ga K H x ws o left m c i a J sa U I e m' rows)(s:ax a C)(b:i<16)(hs:e≠bF\/m'.p=o):Ga K H x ws o left m c (i+1) C J sa U I e m' rows:=
 ⟨h.same.trans s,by lia,s.tup h.en,h.so,h.st.same s,⟨h.ok.b8,h.ok.mem,MV h.ok.len (by lia)⟩,s _ _ h.kl,h.rl.same s,h.rk,MV h.len (by lia),by
  rcases h.nx with z | ⟨z1,z2,_⟩
  .exact .inl z
  .rcases hs with y | y
   .exact absurd z1 y
   .exact absurd y z2⟩
theorem vx(B:Bi mg)(D:pC K mg)(ao:Has P w K mg base 8 "run" yw (GP K)):Has P w K mg base 9 "_law_reached" ["_law_made","_law_stand","_law_replies_here","_law_place"] (yP K):=by
 refine D.has aO (fun vs H Q E h=> ?_) (fun f d3 A c7 s H vs Q E hr h=> ?_)
 .obtain⟨ma,pl,cd,da,sa,ll,I,x,U,m,left,ys,c,e2,m2,ab,aK,rfl,_⟩:=h
  rfl
 obtain⟨ma,pl,cd,da,sa,ll,I,x,U,m,left,ys,c,e2,m2,ab,aK,rfl,c6,R,dt,dQ,dq,bh,bW,cb,bo,ct,⟨bV⟩,dB,q⟩:=h;obtain⟨bt,md,h1,h2,h3⟩:=dq;have dy:En K H pl ll {x with reps:=left}:=fu.en R cb bo
 have c':vw {x with reps:=left}:=⟨by show left.length<=20;lia,oz bo⟩
 have cR:=bh.mem;have b1:=bh.b8;have bj:m.kvs.length<=2000:=by have:=bh.len;lia
 have ar:=rE (x:=x) (ws:=U) (m:=m) (left:=left) (oz bo);have Y:PyData.strOk (dH x U left m).1.1=true:=El;have F:(dH x U left m).2.1.rows.length<=1:=D6;have cH:=aG.mk (And.intro bW ct);clear bW ct
 refine⟨_,(ac (kN (pv 0) (k_ (n:=3) (by rfl) (aS (aD (i:=4) aO.nd (by rfl) (by left;rfl)) (aS (aD (i:=5) aO.nd (by rfl) (by left;rfl)) (aS (aD (i:=6) aO.nd (by rfl) (by left;rfl)) iS)))))
   (ac (kN (pcH ao hr (pa5 (pv 4) (pv 5) (pv 1) (pv 2) aa)) (k_ (n:=4) (by rfl) (aS (aD (i:=7) aO.nd (by rfl) (by left;rfl)) (aS (aD (i:=1) aO.nd (by rfl) (by left;rfl)) (aS (aD (i:=8) aO.nd (by rfl) (by left;rfl)) (aS (aD (i:=9) aO.nd (by rfl) (by left;rfl)) iS))))))
   (ac (psS 10 aO.nd (cn lW (by rfl) B.list Az (pa1 (pv 8))))
   (ac (fg M7 (by rfl) (dY (eD (by rfl) B.range (pa1 aa))) (aD (i:=11) aO.nd (by rfl) (by left;rfl)) (ae (ay (PW.pt (wc (pcT (wU (r6 hr)) (pv 7) (aw (pa1 av))) (sE (pcT yo (pX ag (pv 1) aa) (pv 3))))) (ac (kN (pcH ao hr (pa5 (pv 4) (pv 5) (pv 1) (di vY (pv 2) (eP (aL aN (by rfl) B.len dD (pa1 (pv 10)))) eQ) aa)) (k_ (n:=4) (by rfl) (aS (aD (i:=7) aO.nd (by rfl) (by left;rfl)) (aS (aD (i:=1) aO.nd (by rfl) (by left;rfl)) (aS (aD (i:=8) aO.nd (by rfl) (by left;rfl)) (aS (aD (i:=9) aO.nd (by rfl) (by left;rfl)) iS))))))
   (ae (psS 10 aO.nd (au o5 (pv 10) (pv 8))))) am)))
   (ae (ai (aw (pa3 (pv 7) (pv 1) (pv 10))))))))),?_⟩
 try dsimp only[aT]
 walk_at"g";intro q1 H2 s2 ra g aH;have ra:Bq H H2 q1 (dH x U left m):=ra;have g:b_ (dH x U left m).2.1.kvs:=g;have aH:Bxs (dH x U left m).2.1.bx:=aH;have bu:=fun e b t h hs=>pO (x:=x) (ws:=U) (own:=fun p=>decide (p=I)) (n:=16) (left:=left) (m:=m) (m1:=b) (rows:=[]) (e:=e) (t:=t) h hs
 have a':=fun b t h hs=>vR (x:=x) (ws:=U) (own:=fun p=>decide (p=I)) (n:=16) (left:=left) (m:=m) (m1:=b) (rows:=[]) (t:=t) h hs
 generalize eT:dH x U left m=T at*;refine aA fun X C=> ?_
 obtain⟨e1,b,t1⟩:=T;refine C ?_
 refine aA fun X C=> ?_
 obtain⟨eq,sq,tb,db,dp,G,a1,a2,a3,a4,a5,a6,a7,a8,a9⟩:=ra.ex;refine C ?_
 dsimp only at a1 a2 a3 a4 a5 a6 a9 g aH Y F;refine aA fun X C=> ?_
 obtain⟨bb,S⟩:=ar;refine C ?_
 dsimp only at bb S;have bH:=a9.l;have dO:G.length=b.rows.length:=bH.len;walk_at"g";intro kl bj;have e3:=af bj (.lst (G.map V.ref));have l3:upd H2 kl (.lst (G.map V.ref)) kl=some (.lst (G.map V.ref)):=ad;have S3:=s2.trans e3;have b6:∀r∈b.rows,E5 r:=fun r hr=>by
  refine aA fun X C=> ?_
  obtain⟨z1,z2⟩:=S r hr;refine C ?_
  exact⟨by rw[z1];exact b1.len,by rw[z2];exact cR,by rw[z2];lia⟩
 have R0:Ga K H x U I left m c 0 (upd H2 kl (.lst (G.map V.ref))) eq sq kl G e1 {b with rows:=[]} b.rows:=by
  have u:iV left b.rows=left.drop b.rows.length:=by
   have:=tO (left:=left) (n:=0) F;rw[Ny] at this;exact this
  refine⟨S3,Na _,SqT.of (e3 _ _ a2),Y,⟨tb,db,SqT.of (e3 _ _ a3),SqT.of (e3 _ _ a4),e3 _ _ a5⟩,⟨aH,g,by rw[<- u];have:=bh.len;show b.kvs.length+_<=_;lia⟩,l3,bH.same e3,b6,F,?_⟩
  by_cases z:e1≠bF\/b.p=I
  .refine .inl ⟨z,?_⟩
   rw[bu e1 b t1 rfl (z.imp id fun y=>MO y),u]
   rfl
  .have z1:e1=bF:=O7 fun y=>z (.inl y)
   have z2:b.p≠I:=fun y=>z (.inr y)
   subst z1;refine .inr ⟨rfl,z2,?_⟩
   rw[a' b t1 rfl (MG z2),u]
   rfl
 generalize upd H2 kl (.lst (G.map V.ref))=H3 at*;clear bu a' bb S b6 bH a9 F Y;walk_at"g"
 refine⟨gU (n:=16) (fun i Z H'=>aG (∃(eq cp kl:Addr) (rs:List Addr) (e:Str × List Int) (m':MSt) (rows:List ge) (y1 y2 y3:Option V),Ga K H x U I left m c i H' eq cp kl rs e m' rows/\
   Z=[some (.ref ma),some (.ref cp),some (.ref ll),some (.int I),some (.ref pl),some (.ref cd),some (.ref da),some (.ref eq),y1,y2,some (.ref kl),y3]))
  ⟨_,_,_,_,_,_,_,some (.ref dp),some (.int t1),none,R0,rfl⟩ ?_ ?_⟩
 .clear R0 l3 e3 S3 a1 a2 a3 a4 a5 a6 a7 a8 ra g aH bj s2 dy;intro i Z H4 hi bD;refine aA fun X C=> ?_
  obtain⟨aR,bz,bM,d,e4,L,o,y1,y2,y3,J,rfl⟩:=bD;refine C ?_
  have cq:i<16:=by simpa using hi
  clear hi;have b2:=J.en;have cF:=J.so;refine aA fun X C=> ?_
  obtain⟨dR,d0,g1,g2,g3⟩:=id J.st;refine C ?_
  walk_at"g";intro p5 cc;have e5:=af cc (.tup [.str "spent"]);refine⟨aR,p5,e4.1,"spent",e4.2,rfl,rfl,e5.tup b2,SqT.of ad,cF,by decide +kernel,?_⟩
  have b4:=e5.tup g1;generalize upd H4 p5 (.tup [.str "spent"])=H5 at*
  by_cases he:e4=bF
  .subst he;walk_at"g"
   by_cases N:L.p=I
   .refine qk (Ng V.int N) ?_
    exact aG.mk ⟨_,_,_,_,_,_,_,_,_,_,J.skip e5 cq (.inr N),rfl⟩
   refine Ec (by rw[MG (fun e=>N (by injection e))];rfl) ?_
   have S5:=J.same.trans e5;have cz:=e5 _ _ J.kl;have c8:=S5 _ _ cb;have bw:=bo.same S5;have cD:=e5.tup g2;have b5:=e5 _ _ g3;have cM:=S5 _ _ c6;have b9:Pl H5 pl x.pk x.pb x.pm x.ps x.pg:=⟨S5 _ _ R.at_,R.room,R.ms⟩;have cm:=S5.seq dt;have b':((d.map V.ref).length:Int)=(o.length:Nat):=by rw[fI,J.rl.len]
   walk_at"g";intro p6 bX;have ec:ik ys (some ((d.map V.ref).length:Int)) none=ys.drop o.length:=by rw[b'];exact oE
   rw[ec];have j:=af bX (.lst (ys.drop o.length));have l6:upd H5 p6 (.lst (ys.drop o.length)) p6=some (.lst (ys.drop o.length)):=ad;have S6:=S5.trans j;have dh:=j _ _ cz;have O:=(bw.same j).drop o.length;have d7:=j.tup b4;have dV:=j.tup cD;have d2:=j _ _ b5;have df:Pl (upd H5 p6 (.lst (ys.drop o.length))) pl x.pk x.pb x.pm x.ps x.pg:=⟨j _ _ b9.at_,R.room,R.ms⟩;have d1:=j.seq cm;have cj:=(J.rl.same e5).same j;generalize upd H5 p6 (.lst (ys.drop o.length))=H6 at*;have d4:En K H6 pl p6 {x with reps:=left.drop o.length}:=fu.en df l6 O
   have dT:(left.drop o.length).length<=4:=by rw[Ni];have:=cH.out.2;lia
   have dZ:vw {x with reps:=left.drop o.length}:=⟨by show(left.drop o.length).length<=20;lia,oz O⟩
   have cL:=J.ok.mem;have b0:=J.ok.b8;have dK:L.kvs.length<=2000:=by have:=J.ok.len;have:=cH.out.1;lia
   have ar:=rE (x:=x) (ws:=U) (m:=L) (left:=left.drop o.length) (oz O);have Y:PyData.strOk (dH x U (left.drop o.length) L).1.1=true:=El;have F:(dH x U (left.drop o.length) L).2.1.rows.length<=1:=D6;obtain⟨f,ef⟩:∃f,16 - i=f+1:=⟨15 - i,by lia⟩
   have bE:=(J.nx.resolve_left fun z=>z.1.elim (fun y=>y rfl) N).2.2
   rw[ef] at bE;have bu:=fun e b t h hs=>pO (x:=x) (ws:=U) (own:=fun p=>decide (p=I)) (n:=f) (left:=left.drop o.length) (m:=L) (m1:=b) (rows:=o) (e:=e) (t:=t) h hs
   have a':=fun b t h hs=>vR (x:=x) (ws:=U) (own:=fun p=>decide (p=I)) (n:=f) (left:=left.drop o.length) (m:=L) (m1:=b) (rows:=o) (t:=t) h hs
   have dJ:=J.ok.len;have de:=J.rk;have dc:=J.len;clear c' ar cR b1 bj;clear J e5 j cz c8 bw b4 cD b5 g1 g2 g3 b9 cm b2 cM bX cc S5;have ar:=rE (x:=x) (ws:=U) (m:=L) (left:=left.drop o.length) (oz O);walk_at"g";intro q7 H7 s7 ra M br;have ra:Bq H6 H7 q7 (dH x U (left.drop o.length) L):=ra;have M:b_ (dH x U (left.drop o.length) L).2.1.kvs:=M;have br:Bxs (dH x U (left.drop o.length) L).2.1.bx:=br;generalize d8:dH x U (left.drop o.length) L=T at*;refine aA fun X C=> ?_
   obtain⟨ba,a,b7⟩:=T;refine C ?_
   refine aA fun X C=> ?_
   obtain⟨dm,dn,dv,dx,dX,v,a1,a2,a3,a4,a5,a6,a7,a8,a9⟩:=ra.ex;refine C ?_
   dsimp only at a1 a2 a3 a4 a5 a6 a9 M br Y F;refine aA fun X C=> ?_
   obtain⟨bb,S⟩:=ar;refine C ?_
   dsimp only at bb S;have d6:=s7 _ _ dh;have dg:=a9.l.app (cj.same s7);have cv:v.length=a.rows.length:=a9.l.len;have hz:(d.map V.ref).length+(v.map V.ref).length<=sizeLine:=by
    rw[fI,fI,cv,cj.len];exact MV (show o.length+a.rows.length<=100 by lia) (by decide)
   walk_at"g";intro p8 c9;have e8:=af c9 (.lst (d.map V.ref++v.map V.ref));have l8:upd H7 p8 (.lst (d.map V.ref++v.map V.ref)) p8=some (.lst ((d++v).map V.ref)):=by rw[MH];exact ad
   generalize upd H7 p8 (.lst (d.map V.ref++v.map V.ref))=H8 at*;have u:iV (left.drop o.length) a.rows=left.drop (o++a.rows).length:=by
    rw[MA];exact tO F
   walk_at"g";refine aG.mk ⟨dm,dn,p8,d++v,ba,{a with rows:=[]},o++a.rows,_,_,_,⟨S6.trans (s7.trans e8),by lia,SqT.of (e8 _ _ a2),Y,⟨dv,dx,SqT.of (e8 _ _ a3),SqT.of (e8 _ _ a4),e8 _ _ a5⟩,⟨br,M,by rw[<- u];show a.kvs.length+_<=_;lia⟩,l8,dg.same e8,(fun r hr=> ?_),by rw[MA];lia,?_⟩,rfl⟩
   .rcases MZ.mp hr with hr | hr
    .exact de r hr
    .refine aA fun X C=> ?_
     obtain⟨z1,z2⟩:=S r hr;refine C ?_
     exact⟨by rw[z1];exact b0.len,by rw[z2];exact cL,by rw[z2];lia⟩
   .by_cases z:ba≠bF\/a.p=I
    .refine .inl ⟨z,?_⟩
     rw[<- bE,bu ba a b7 rfl (z.imp id fun y=>MO y),u]
    .have z1:ba=bF:=O7 fun y=>z (.inl y)
     have z2:a.p≠I:=fun y=>z (.inr y)
     subst z1;refine .inr ⟨rfl,z2,?_⟩
     rw[<- bE,a' a b7 rfl (MG z2),u,show 16 - (i+1)=f by lia]
  .have hb:(decide (e4.1="spent") && decide (e4.2=[]))=false:=by
    rw[OG]
    by_cases z1:e4.1="spent"
    .exact .inr (MG fun z2=>he (QI z1 z2))
    .exact .inl (MG z1)
   walk_at"g";refine sI hb ?_
   walk_at"g";exact aG.mk ⟨_,_,_,_,_,_,_,_,_,_,J.skip e5 cq (.inl he),rfl⟩
 .intro Z H4 bD;refine aA fun X C=> ?_
  obtain⟨aR,bz,bM,d,e4,L,o,y1,y2,y3,J,rfl⟩:=bD;refine C ?_
  have fin:(e4,L,o,left.drop o.length)=(e2,m2,ab,aK):=by
   rw[<- bV];rcases J.nx with⟨_,z⟩|⟨_,_,z⟩
   .exact z.symm
   .rw[bV] at z;exact absurd (Ng (·.1) z) fun y=>dB y.symm
  refine aA fun X C=> ?_
  obtain⟨f1,fin⟩:=Prod.mk.inj fin;refine C ?_
  refine aA fun X C=> ?_
  obtain⟨f2,fin⟩:=Prod.mk.inj fin;refine C ?_
  refine aA fun X C=> ?_
  obtain⟨f3,f4⟩:=Prod.mk.inj fin;refine C ?_
  subst f1 f2 f3 f4;walk_at"g";intro q5 dr;have j:=af dr (.tup [.ref aR,.ref bz,.ref bM]);exact q q5 aR bz bM d _ (J.same.trans j) ad (j.tup J.en) J.so (J.st.same j) ⟨J.ok.b8,J.ok.mem,MV J.ok.len (by lia)⟩ (j _ _ J.kl) (J.rl.same j) J.rk J.len
theorem Fo{x:Fx}{ws:List Int}{S:Nat}{gs:List (List Ins)}{C:Nat->Nat->Nat}{j:Nat->Nat->Option (Int × Int)}{G:Nat->Nat->List Ins}{J:PSt}{m:MSt}{t:Nat}{rows:List ge}{o:Int}(c:CD x ws S gs C j G)(Q:XOk x)(M:GuG x.pg gs)(F:S=8*2^x.ps)(hm:gs.length<=2^x.pm)(e:x.pm+x.ps<=7)(H:PIn 6 gs J)
  (s:AR x gs C j (aX x gs t J) bF m rows) (R:m.rows=[]) (r:(aX x gs (t+1) J).1=bF) (a:o=(C (aX x gs (t+1) J).2.b.toNat (aX x gs (t+1) J).2.i.toNat:Nat)):
  ∃U I,U.rows=[]/\nk x ws (fun p=>decide (p=o)) 17 (x.reps.drop rows.length) m []=(bF,U,I,x.reps.drop (rows++I).length)/\AR x gs C j (aX x gs (t+1) J) bF U (rows++I):=by
 obtain⟨d,Y,E,h⟩:=Bn c Q M F hm e H s R (by rw[r];decide +kernel)
 have A:iV (x.reps.drop rows.length) d.rows=x.reps.drop (rows++d.rows).length:=by
  rw[MA];exact tO E
 rcases h with⟨g,_,_⟩|⟨n,U,g,y,w,N,f,hs,L⟩
 .exact absurd r g
 .obtain⟨sg,hp⟩:=hs.on g;obtain⟨O,B⟩:=hp.pl.at_;obtain⟨bk,D,T⟩:=tw B;have u:decide (U.p=o)=true:=MO (sg.pl.trans a.symm);have v:∀q,o9 gs C q->decide (q=o)=false:=fun q X=>MG fun z=>X ⟨_,bk,_,O,D,T,z.trans a⟩
  refine⟨U,d.rows,f,?_,hs⟩
  rcases NV n with z | z
  .subst z
   cases w
   rw[pO y (.inr u),A]
   rfl
  .have n1:decide (d.p=o)=false:=by
    cases w with
    | done _=>exact absurd z (by decide)
    | step g1 _ _ _=>exact v _ g1
   rw[vR y n1,A,FO v w rfl z u 16 (by lia)]
   rfl
theorem J4{x:Fx}{ws:List Int}{st:MSt}{t:Int}{n:Nat}(h:(cu x ws 1 st t).1≠bF):cu x ws (n+1) st t=cu x ws 1 st t:=by
 unfold cu at h ⊢
 split
 .rfl
 .rename_i k ns e
  rw[e] at h;dsimp only at h ⊢
  split
  .rfl
  .rename_i st' e2
   rw[e2] at h;dsimp only at h;unfold cu at h ⊢
   cases e3:bQ ws st'.p with
   | none=>
    cases n <;> (dsimp only;rw[e3])
   | some y=>
    rw[e3] at h;exact absurd rfl h
theorem dE.at_{H:Hp}:∀{o:List Addr}{is:List Ins}{j:Nat}{kn:Ins},dE K H o is->is[j]? =some kn->∃t,o[j]? =some t/\SqT K H t (aB kn.1 kn.2)
 | t::_,_::_,0,_,h,e=>by
  cases e
  exact⟨t,rfl,h.1⟩
 | _::_,_::_,j+1,_,h,e=>dE.at_ (j:=j) h.2 e
 | _,[],_,_,_,e=>by cases e
 | [],_::_,_,_,h,_=>h.elim
theorem Er{H:Hp}{g:Addr}{o:List Addr}{gs:List (List Ins)}(b:SqT K H g (o.map V.ref))(C:GSt K H o gs):Dz K H g gs:=by
 refine⟨o,b,C.1,fun i blk I=> ?_⟩
 have c:i<o.length:=by rw[C.1];exact(gV.mp I).1
 have e:o[i]? =some o[i]:=be c;obtain⟨a,U,J⟩:=C.2 i _ blk e I;exact⟨_,a,e,U,J.len,fun j f d=>J.at_ d⟩
theorem fu.enh{H:Hp}{pl I:Addr}{k:Nat}{b:Int}{m s:Nat}{g:Int}{ys:List V}{reps:List ls}(e:Rm H pl k b)(C:H I=some (.lst ys))(h:fu H ys reps):EnH K H pl I ⟨k,b,m,s,g,reps⟩:=
 ⟨e,⟨_,C⟩,ys,SqL.of C,h.1,fun i v bs U a n u o=>by
  have r:=h.2 i v bs U a n;obtain⟨p,j,f,q,d,c,J⟩:=r.ex
  exact⟨⟨p,j,f,q,SqT.of d,SqT.of c,J,ak J o⟩,r.len,r.rng,r.mem,MV r.few (by decide),r.nod⟩⟩
theorem fu.xok{H:Hp}{k:Nat}{b:Int}{m s:Nat}{g:Int}{ys:List V}{reps:List ls}(h:fu H ys reps)(I:SpM.Room k b):XOk ⟨k,b,m,s,g,reps⟩:=by
 refine⟨I,fun y C=> ?_⟩
 obtain⟨i,o,e⟩:=List.getElem_of_mem C;have r:=h.2 i _ y.1 y.2 (be (show i<ys.length by rw[h.1];exact o)) (by rw[be o,e])
 exact⟨r.len,r.rng,r.mem⟩
theorem dS.l{I H:Hp}{C:Addr}:∀{o:List (Addr × Addr)}{xs:List ge},dS I H C o xs->cE H (o.map (·.1)) xs
 | [],[],_=>True.intro
 | _::_,_::_,h=>by
  obtain⟨⟨_,_,c,t,a,b⟩,r⟩:=h;exact⟨⟨t,_,a,b,c⟩,dS.l r⟩
 | [],_::_,h=>h.elim
 | _::_,[],h=>h.elim
structure L83 (K:Frag) (H:Hp) (g rm ma pl cd da bt md rl:Addr) (x:Fx) (ws:List Int) (gs:List (List Ins)) (PL:List (List Key × V)) (bs:List Int) (kvs:List (Key × V)) (ys:List V):Prop where
 gu:Dz K H g gs
 rm:Rm H rm x.pk x.pb
 ma:H ma=some (.tup [.ref pl,.ref cd,.ref da])
 pl:Pl H pl x.pk x.pb x.pm x.ps x.pg
 cd:H cd=some (.lst (ws.map V.int))
 da:H da=some (.dT PL)
 bt:H bt=some (.tup (bs.map V.int))
 md:H md=some (.dK kvs)
 rl:H rl=some (.lst ys)
 rp:fu H ys x.reps
theorem L83.same{H a:Hp}{g rm C pl cd I U b J:Addr}{x:Fx}{ws:List Int}{gs:List (List Ins)}{o:List (List Key × V)}{bs:List Int}{kvs:List (Key × V)}{ys:List V}(h:L83 K H g rm C pl cd I U b J x ws gs o bs kvs ys)(s:ax H a):L83 K a g rm C pl cd I U b J x ws gs o bs kvs ys:=
 ⟨h.gu.mv s,h.rm.mv s,s _ _ h.ma,⟨s _ _ h.pl.at_,h.pl.room,h.pl.ms⟩,s _ _ h.cd,s _ _ h.da,s _ _ h.bt,s _ _ h.md,s _ _ h.rl,h.rp.same s⟩
structure M83 (x:Fx) (ws:List Int) (gs:List (List Ins)) (pos:Nat->Nat->Nat) (ft:Nat->Nat->Option (Int × Int)) (G:Nat->Nat->List Ins) (PL:List (List Key × V)):Prop where
 cd:CD x ws (8*2^x.ps) gs pos ft G
 gu:GuG x.pg gs
 m:gs.length<=2^x.pm
 ms:x.pm+x.ps<=7
 wr:∀y∈ws,0<=y/\y<4294967296
 pw:∀b bk j kn,gs[b]? =some bk->bk[j]? =some kn->eZ PL (pk b j)=some (.int ((pos b j:Nat):Int))
theorem TrA.get{H:Hp}:∀{o:List Addr}{ps:List (Int × Int)}{j:Nat}{b i:Int},TrA H o ps->ps[j]? =some (b,i)->∃t,o[j]? =some t/\H t=some (.tup [.int b,.int i])
 | t::_,_::_,0,_,_,h,e=>by
  cases e
  exact⟨t,rfl,h.1⟩
 | _::_,_::_,j+1,_,_,h,e=>TrA.get (j:=j) h.2 e
 | [],[],_,_,_,_,e=>by cases e
 | [],_::_,_,_,_,h,_=>h.elim
 | _::_,[],_,_,_,h,_=>h.elim
structure A83 (K:Frag) (x:Fx) (gs:List (List Ins)) (pos:Nat->Nat->Nat) (ft:Nat->Nat->Option (Int × Int)) (p0:PSt) (n j:Nat) (H:Hp) (sa rw:Addr) (rs:List Addr) (m:MSt) (rows:List ge):Prop where
 st:StA K H sa m
 ok:MOk m (x.reps.drop rows.length) (410+40*j)
 r0:m.rows=[]
 rw:H rw=some (.lst (rs.map V.ref))
 rl:cE H rs rows
 rk:∀r∈rows,E5 r
 len:rows.length<=17*j
 sim:AR x gs pos ft (aX x gs (min j (n - 1)) p0) bF m rows
theorem A83.same{x:Fx}{gs:List (List Ins)}{o:Nat->Nat->Nat}{J:Nat->Nat->Option (Int × Int)}{U:PSt}{n j:Nat}{H C:Hp}{sa rw:Addr}{I:List Addr}{m:MSt}{rows:List ge}(h:A83 K x gs o J U n j H sa rw I m rows)(s:ax H C):A83 K x gs o J U n j C sa rw I m rows:=
 ⟨h.st.same s,h.ok,h.r0,s _ _ h.rw,h.rl.same s,h.rk,h.len,h.sim⟩
theorem CD.ft0{x:Fx}{ws:List Int}{S:Nat}{gs:List (List Ins)}{o:Nat->Nat->Nat}{C:Nat->Nat->Option (Int × Int)}{G:Nat->Nat->List Ins}(c:CD x ws S gs o C G)(I:GuG x.pg gs){b:Nat}(J:b<gs.length):C b 0=none:=(c.begins I (v:=(b:Int)) (by lia) (by lia)).2.2
def IJ(K:Frag):Sp:=fun n H Q _=>∃(g rm a st b pl cd j d i c:Addr) (x:Fx) (U:List Int) (I:List (List Ins)) (C:Nat->Nat->Nat) (m:Nat->Nat->Option (Int × Int)) (G:Nat->Nat->List Ins) (J:List (List Key × V)) (bs:List Int) (o:List (Key × V)) (p:List V) (f:Nat) (v1 v2:Int),n=[.ref g,.ref rm,.int x.pg,.ref a,.ref st,.ref b,.int 24]/\L83 K H g rm a pl cd j d i b x U I J bs o p/\M83 x U I C m G J/\H st=some (.tup [.int f,.ref d,.ref i,.ref c])/\H c=some (.tup [.int v1,.int v2])/\f<I.length/\BxN 6 bs/\b_ o/\o.length<=8/\x.reps.length<=4/\(0<=v1/\v1<4294967296)/\(0<=v2/\v2<4294967296)/\∀e,ax H e->Q (.bl true) e
theorem ES{H:Hp}{n:Nat}{a b:Addr}{ns:List Int}(J:H a=some (.tup (ns.map V.int)))(I:H b=some (.tup (ns.map V.int))):kr K H (n+1) (.ref a) (.ref b):= .tup (SqT.of J) (SqT.of I) rfl fun j x y o C=>by
 rw[o] at C
 cases C
 rw[MW] at o
 cases h:ns[j]? with
 | none=>rw[h] at o;cases o
 | some v=>
  rw[h] at o
  cases o
  exact .int v
theorem yg{H:Hp}{c ps:List Addr}{xs:List ge}(g:cE H c xs)(p:cE H ps xs)(hm:∀r∈xs,b_ r.2.2):∀(j:Nat) (x y:V),(c.map V.ref)[j]? =some x->(ps.map V.ref)[j]? =some y->kr K H 32 x y:=fun j x y o C=>by
 obtain⟨r,m,rfl⟩:=cV o;obtain⟨E,J,rfl⟩:=cV C;obtain⟨z,b,t,d,a1,a2,a3⟩:=g.get m;obtain⟨A,I,D,B,s,q,b3⟩:=p.get J;rw[b] at I
 cases I
 have f:=hm z (MD b);refine .tup (SqT.of a1) (SqT.of s) rfl fun i u v o C=> ?_
 match i,o,C with
 | 0,o,C=>cases o;cases C;exact .int _
 | 1,o,C=>cases o;cases C;exact ES a2 q
 | 2,o,C=>
  cases o
  cases C
  exact .dct (.inl a3) (.inl b3) (fun a U=>by obtain⟨e,v,rfl,_⟩:=f a U;exact⟨v,rfl⟩) (fun a U=>by obtain⟨e,v,rfl,_⟩:=f a U;exact⟨e,rfl⟩)
 | n+3,o,_=>simp at o
theorem Hy{H:Hp}{C t:Addr}{o:List (List Key × V)}{b i v:Int}(hd:H C=some (.dT o))(J:0<=b)(I:0<=i)(U:H t=some (.tup [.int b,.int i]))(a:eZ o (pk b.toNat i.toNat)=some (.int v)):wR H C (.ref t) (some (.int v)):=by
 refine .inr ⟨o,pk b.toNat i.toNat,t,.inl hd,rfl,?_,a.symm⟩
 rw[U];show _=some (HO.tup [.int ((b.toNat:Nat):Int),.int ((i.toNat:Nat):Int)])
 rw[Nz J,Nz I]
theorem xS(B:Bi mg)(D:rA K mg)(c7:Has P w K mg base 8 "run" yw (GP K))(iP:Has P w K mg base 8 "run_plainly" Cz (LE K 6))(ku:Has P w K mg base 1 "_law_told" ["_law_rows_here"] (AV K))(jG:Has P w K mg base 9 "_law_reached" ["_law_made","_law_stand","_law_replies_here","_law_place"] (yP K)):Has P w K mg base 10 "_law_alike" ["_law_guest_here","_law_room_here","_law_gates","_law_made","_law_start","_law_replies_here","_law_most"] (IJ K):=by
 refine D.has aM (fun vs H Q E h=> ?_) (fun f jY A g' s H vs Q E I h=> ?_)
 .obtain⟨g,rm,ma,st,rl,pl,cd,da,bt,md,ot,x,ws,X,u,ft,G,PL,bs,c,ys,U,v1,v2,rfl,_⟩:=h
  rfl
 obtain⟨g,rm,ma,st,rl,pl,cd,da,bt,md,ot,x,ws,X,u,ft,G,PL,bs,c,ys,U,v1,v2,rfl,J,M,eX,d2,cR,dq,d',jR,ka,ia,g9,q⟩:=h;have hl:SqT K H bt (bs.map V.int):=SqT.of J.bt;have h4:=J.md;have hK:EnH K H rm rl x:=fu.enh (m:=x.pm) (s:=x.ps) (g:=x.pg) J.rm J.rl J.rp;have hg:=J.gu;have go:=M.gu.ok;have fx:vw x:=⟨by lia,oz J.rp⟩
 have bX:XOk x:=J.rp.xok (m:=x.pm) (s:=x.ps) (g:=x.pg) J.rm.room;have b0:(0:Int)<=(U:Int):=by lia
 have b1:(U:Int)<X.length:=by lia
 have hB:24<=1001:=by decide
 have j3:c.length<=2000:=by lia
 refine⟨_,(ac (kN (pv 4) (k_ (n:=4) (by rfl) (aS (aD (i:=7) aM.nd (by rfl) (by left;rfl)) (aS (aD (i:=8) aM.nd (by rfl) (by left;rfl)) (aS (aD (i:=9) aM.nd (by rfl) (by left;rfl)) (aS (aD (i:=10) aM.nd (by rfl) (by left;rfl)) iS))))))
   (ac (psS 11 aM.nd (pcH iP I (az (pv 0) (az (pv 1) (az (pv 2) (az (pv 7) (az (pv 8) (az (pv 9) (az (pv 5) (az (pv 6) dA))))))))))
   (ac (psS 12 aM.nd (pX ag (pv 11) aa))
   (ac (psS 13 aM.nd (aw (pa3 (zE (uQ I) (pX ag (pv 3) aa) (aw (pa2 (pv 7) aa)) (by intro _ _;rfl)) (au Ao (pv 8) (pv 10)) (pv 9))))
   (ac (psS 14 aM.nd (bG dA))
   (ac (fg M7 (by rfl) (dY (eD (by rfl) B.range (pa1 (aL aN (by rfl) B.len dD (pa1 (pv 12)))))) (aD (i:=15) aM.nd (by rfl) (by left;rfl)) (ac (psS 16 aM.nd (pcH iP I (az (pv 0) (az (pv 1) (az (pv 2) (az (pv 7) (az (pv 8) (az (pv 9) (az (pv 5) (az (pv 15) dA))))))))))
   (ac (aW (cy (ay (PW.pt (gP (pcT (Bw (r6 I)) (pX ag (pv 16) aa) (aw (pa1 av))) (gP (pcT (ox (r6 I)) (pX ag (pv 16) aa) (pX bc (pv 12) (pv 15))) (hZ (pcT yo (pX ag (pv 13) aa) (zE (uQ I) (pX ag (pv 3) aa) (pX bc (pv 12) (pv 15)) (by intro _ _;rfl))))))) (ae (ai uT)) am)))
   (ac (aW (cy (ay (PW.pt (gP (pcT (ox (r6 I)) (di kZ (pX ag (pv 13) aa) eQ (eP aa)) (pX ag (pv 16) aa)) (gP (pcT (wK (r6 I)) (pX ag (pv 13) aa) (pX ag (pv 16) aa)) (hZ (pcT (Bf (r6 I)) (pcH ku I (pa1 (pv 14))) (pX ag (pv 16) aa)))))) (ae (ai uT)) am)))
   (ae (ay (pcT kh (au aP (pv 15) aa) (aL aN (by rfl) B.len dD (pa1 (pv 12)))) (ac (kN (pcH jG I (pa4 (pv 3) (pv 13) (di vY (pv 5) (eP (aL aN (by rfl) B.len dD (pa1 (pv 14)))) eQ) (zE (uQ I) (pX ag (pv 3) aa) (pX bc (pv 12) (au aP (pv 15) aa)) (by intro _ _;rfl)))) (k_ (n:=3) (by rfl) (aS (aD (i:=17) aM.nd (by rfl) (by left;rfl)) (aS (aD (i:=13) aM.nd (by rfl) (by left;rfl)) (aS (aD (i:=18) aM.nd (by rfl) (by left;rfl)) iS)))))
   (ac (psS 14 aM.nd (au o5 (pv 14) (pv 18)))
   (ae (ay (pcT (Bw (r6 I)) (pv 17) (aw (pa1 av))) (ae (ai uT)) am)))) am))))))
   (ac (aW (cy (ay (PW.pt (gP (pcT (wU (r6 I)) (pX ag (pv 11) aa) (aw (pa1 av))) (hZ (pcT (wU (r6 I)) (pX ag (pv 11) aa) (aw (pa1 av)))))) (ae (ai uT)) am)))
   (ac (kN (pcH c7 I (pa5 (pX ag (pv 3) aa) (pX ag (pv 3) aa) (pv 13) (di vY (pv 5) (eP (aL aN (by rfl) B.len dD (pa1 (pv 14)))) eQ) aa)) (k_ (n:=4) (by rfl) (aS (aD (i:=17) aM.nd (by rfl) (by left;rfl)) (aS (aD (i:=13) aM.nd (by rfl) (by left;rfl)) (aS (aD (i:=18) aM.nd (by rfl) (by left;rfl)) (aS (aD (i:=19) aM.nd (by rfl) (by left;rfl)) iS))))))
   (ac (aW (cy (ay (PW.pt (gP (pcT (FY (r6 I)) (pv 17) (pX ag (pv 11) aa)) (gP (pcT (ox (r6 I)) (di kZ (pX ag (pv 13) aa) eQ (eP aa)) (pX ag (pv 11) aa)) (hZ (pcT (wK (r6 I)) (pX ag (pv 13) aa) (pX ag (pv 11) aa)))))) (ae (ai uT)) am)))
   (ae (ai (pcE (Co (r6 I)) (pcH ku I (pa1 (au o5 (pv 14) (pv 18)))) (pX ag (pv 11) aa))))))))))))),?_⟩
 try dsimp only[aT]
 walk_at"g";intro q1 H1 s1 pa gk hG;refine aA fun y o=> ?_
 obtain⟨eW,jx,g5,hL,jy,T,fK,a,u1,u2,u3,u4,u5,u6,u7,_,_,_,_,u8,u9⟩:=pa.ex;refine o ?_
 have bj:PIn 6 X ⟨(U:Nat),0,⟨bs,c,[]⟩,[]⟩:=⟨u_.start go b0 b1,dq,d'⟩;have de:=fun j (hj:j<=24)=>Mn (x:=x) bX (by decide) go bj rfl hj
 have e1:=(de 0 (Na _)).len;have n1:1<=(aX x X 24 ⟨(U:Nat),0,⟨bs,c,[]⟩,[]⟩).2.tr.length:=(gV.mp (zu (x:=x) (n:=23) bj)).1;have cq:=wS (x:=x) (gs:=X) 24 ⟨(U:Nat),0,⟨bs,c,[]⟩,[]⟩;have el:a.length=_:=u9.len;generalize hR:aX x X 24 ⟨(U:Nat),0,⟨bs,c,[]⟩,[]⟩=R at*;have J1:=J.same s1;have eo:=s1 _ _ eX;have cz:=s1 _ _ d2;clear pa gk hG hl h4 hK hg eX d2;have hS:X[U]? =some X[U]:=be cR;have hO:0<(X[U]).length:=by
  refine aA fun y o=> ?_
  obtain⟨_,_,jP,kn,e,_⟩:=M.gu.blk _ (Nm cR);refine o ?_
  rw[e,MA,Nv]
  lia
 have gd:(X[U])[0]? =some (X[U])[0]:=be hO;have gc:=J1.ma;walk_at"g";intro kt fX;have e2:=af fX (.tup [.int U,.int 0]);have ef:upd H1 kt (.tup [.int U,.int 0]) kt=some (.tup [.int U,.int 0]):=ad;have J2:=J1.same e2;have hn:=e2 _ _ cz;generalize upd H1 kt (.tup [.int U,.int 0])=H2 at*;have dn:wR H2 da (.ref kt) (some (.int ((u U 0:Nat):Int))):= .inr ⟨PL,pk U 0,kt,.inl J2.da,rfl,ef,(M.pw U _ 0 _ hS gd).symm⟩;have hM:SqT K H2 bt (bs.map V.int):=SqT.of J2.bt;have h6:=dq.len;walk_at"g";refine⟨(fun z=>by rw[Om] at z;rw[z] at h6;cases h6),by rw[fI,h6];exact(by decide:6+2<=sizeLine),(fun z=>by cases z),fun _ b8 eg=> ?_⟩
 have e3:=af eg (.tup (bs.map V.int++[.int v1,.int v2]));have fv:upd H2 b8 (.tup (bs.map V.int++[.int v1,.int v2])) b8=some (.tup ((bs++[v1,v2]).map V.int)):=by rw[MH];exact ad
 generalize upd H2 b8 (.tup (bs.map V.int++[.int v1,.int v2]))=H3 at*;walk_at"g";intro sa fh;have e4:=af fh (.tup [.int ((u U 0:Nat):Int),.ref b8,.ref md]);have d0:upd H3 sa (.tup [.int ((u U 0:Nat):Int),.ref b8,.ref md]) sa=some (.tup [.int ((u U 0:Nat):Int),.ref b8,.ref md]):=ad;have ey:=e4 _ _ fv;generalize upd H3 sa (.tup [.int ((u U 0:Nat):Int),.ref b8,.ref md])=H4 at*;walk_at"g";intro ar cb;have e5:=af cb (.lst []);have ei:upd H4 ar (.lst []) ar=some (.lst []):=ad;have fp:=e5 _ _ d0;have fZ:=e5 _ _ ey;generalize upd H4 ar (.lst [])=H5 at*;have L:=((e2.trans e3).trans e4).trans e5;have J5:=J1.same L;have g0:=L _ _ u1;have hY:=L _ _ u2;have jD:=L _ _ u3;have g6:=L _ _ u4;have hI:=L _ _ u5;have fL:=L _ _ u6;have b5:=L _ _ u7;have h7:=u8.l.same L;have ew:TrA H5 a R.2.tr:=u9.mono fun _ _ e=>L _ _ e
 have S5:=s1.trans L;have A5:A83 K x X u ft ⟨(U:Nat),0,⟨bs,c,[]⟩,[]⟩ R.2.tr.length 0 H5 sa ar [] ⟨((u U 0:Nat):Int),bs++[v1,v2],c,[]⟩ []:=by
  have h8:Bxs (bs++[v1,v2]):=⟨by rw[MA,h6];rfl,fun v hv=>by
   rcases MZ.mp hv with hv | hv
   .exact dq.rng v hv
   .simp only[M3,Nr,Oo] at hv
    rcases hv with rfl | rfl
    .exact ia
    .exact g9⟩
  have fE:(bs++[v1,v2]).take 6=bs:=PX h6;have f0:=M.cd.ft0 M.gu cR;refine⟨⟨b8,md,SqT.of fp,SqT.of fZ,J5.md⟩,⟨h8,d',by show c.length+100*x.reps.length<=_;lia⟩,rfl,ei,True.intro,(fun r I=>by cases I),Na _,?_⟩
  rw[Nat.zero_min];refine⟨rfl,fE,h8,rfl,rfl,(fun r I=>by cases I),fun _=>⟨⟨?_,fE,h8,rfl,fun f e=> ?_⟩,bj⟩⟩
  .show((u U 0:Nat):Int)=(u ((U:Nat):Int).toNat (0:Int).toNat:Nat)
   rw[MN]
   rfl
  .have e:ft ((U:Nat):Int).toNat (0:Int).toNat=some f:=e;rw[MN] at e;exact absurd (f0.symm.trans e) (fun z=>by cases z)
 clear u1 u2 u3 u4 u5 u6 u7 u8 u9 L J1 J2 dn e2 e3 e4 e5 fv ey d0 eo cz hn ef hM gc fX eg fh cb ei fp fZ;have aR:=aG.mk de;have nH:=aG.mk (And.intro n1 e1);have dp:((a.map V.ref).length:Int)=(R.2.tr.length:Nat):=by rw[fI,el]
 have ao: -(2^62)<=(((a.map V.ref).length:Nat):Int)/\(((a.map V.ref).length:Nat):Int)<2^62:=by rw[dp];have:=nH.out;lia
 clear de n1 e1;have tt:SqL K H5 T (a.map V.ref)\/SqT K H5 T (a.map V.ref):= .inl (SqL.of b5)
 change Nx _ [some (.ref g),some (.ref rm),some (.int x.pg),some (.ref ma),some (.ref st),some (.ref rl),some (.int 24),some (.int U),some (.ref bt),some (.ref md),some (.ref ot),some (.ref q1),some (.ref T),some (.ref sa),some (.ref ar),none,none,none,none,none] H5
 have r1:=ao.1;have r2:=ao.2;apply NxH.st
 focus assumption
 with_reducible apply JO
 intro _ _;apply Hi
 focus (exact rfl)
 refine⟨T,_,rfl,tt,?_⟩
 refine⟨_,rfl,r1,r2,?_⟩
 have bu:(a.map V.ref).length=R.2.tr.length:=by rw[fI,el]
 refine⟨gU (n:=(a.map V.ref).length) (fun j Z H'=>aG (∃(sa rw:Addr) (S:List Addr) (m:MSt) (rows:List ge) (y1 y2 y3 y4 y5:Option V),ax H5 H'/\A83 K x X u ft ⟨(U:Nat),0,⟨bs,c,[]⟩,[]⟩ R.2.tr.length j H' sa rw S m rows/\
  Z=[some (.ref g),some (.ref rm),some (.int x.pg),some (.ref ma),some (.ref st),some (.ref rl),some (.int 24),some (.int U),some (.ref bt),some (.ref md),some (.ref ot),some (.ref q1),some (.ref T),some (.ref sa),some (.ref rw),y1,y2,y3,y4,y5])) ⟨sa,ar,[],_,[],none,none,none,none,none,ax.refl _,A5,rfl⟩ ?_ ?_⟩
 .clear A5 sa ar r1 r2 ao;intro j Z H6 hj Y;refine aA fun y o=> ?_
  obtain⟨sa,rw,S,m,rows,y1,y2,y3,y4,y5,s6,A6,rfl⟩:=Y;refine o ?_
  rw[bu] at hj;rw[Int.zero_add];have ix:j<24:=by have:=nH.out;lia
  have J6:=J5.same s6;have f7:SqT K H6 bt (bs.map V.int):=SqT.of J6.bt;have hP:=J6.md;have h9:EnH K H6 rm rl x:=fu.enh (m:=x.pm) (s:=x.ps) (g:=x.pg) J6.rm J6.rl J6.rp;have hy:=J6.gu;have ib:j<=1001:=by lia
  have er:=wS (x:=x) (gs:=X) j ⟨(U:Nat),0,⟨bs,c,[]⟩,[]⟩;refine aA fun y o=> ?_
  obtain⟨cs,ct⟩:=(aR.out j (by lia)).part hj
  refine o ?_
  have p:=A6.sim;rw[show min j (R.2.tr.length - 1)=j by lia] at p
  have kj:=tt;clear tt dp;walk_at"g";intro q7 H7 s7 pa kl gT;refine aA fun y o=> ?_
  obtain⟨dJ,gb,hQ,ie,jw,j0,d8,jL,u1,u2,u3,u4,u5,u6,_,_,_,_,_,u8,_⟩:=pa.ex;refine o ?_
  refine aA fun y o=> ?_
  obtain⟨sg,hp⟩:=p.on p.en.symm;refine o ?_
  generalize hC:aX x X j ⟨(U:Nat),0,⟨bs,c,[]⟩,[]⟩=C at*;clear pa gT f7 hP h9 hy;have J7:=J6.same s7;have A7:=A6.same s7;have S7:=s6.trans s7;have cv:=S7 _ _ b5;have fm:TrA H7 a R.2.tr:=ew.mono fun _ _ e=>S7 _ _ e
  refine aA fun y o=> ?_
  obtain⟨tj,h',e0⟩:=fm.get ct;refine o ?_
  have ks:atI (a.map V.ref) (j:Int)=some (.ref tj):=aY (by rw[MW,h'];rfl)
  have eT:SqT K H7 gb ([C.2.b,C.2.i].map V.int):=SqT.of u3;have fc:=u8.l;refine aA fun y o=> ?_
  obtain⟨hX,g4,h1,h2,h3⟩:=id A7.st;refine o ?_
  refine aA fun y o=> ?_
  obtain⟨kn,hi⟩:=hp.pl.at_;refine o ?_
  refine aA fun y o=> ?_
  obtain⟨bk,hb,eE⟩:=tw hi;refine o ?_
  have bD:=M.pw _ _ _ _ hb eE;rw[<- sg.pl] at bD;have ha:=hp.pl.b0;have hH:=hp.pl.i0;have b6:=J7.ma;have hJ:C.1=bF:=cs;clear hi hb eE A6 J6 s7 u8;walk_at"g";refine⟨fun Z' H'=>aG (ax H7 H'/\Z'=[some (.ref g),some (.ref rm),some (.int x.pg),some (.ref ma),some (.ref st),some (.ref rl),some (.int 24),some (.int U),some (.ref bt),some (.ref md),some (.ref ot),some (.ref q1),some (.ref T),some (.ref sa),some (.ref rw),some (.int j),some (.ref q7),y3,y4,y5]),?_,?_⟩
  .walk_at"g";intro pS cM;have O:=af cM (.tup [.str "spent"]);refine⟨dJ,pS,C.1.1,"spent",C.1.2,rfl,rfl,SqT.of (O _ _ u2),SqT.of ad,er,by decide +kernel,?_⟩
   generalize upd H7 pS (.tup [.str "spent"])=H8 at*;have w1:=O _ _ u1;have w2:=O _ _ cv;have w3:=O.tup eT;have w4:=O _ _ e0;have w5:=O.tup h1;have w6:=O _ _ b6;have w7:SqT K H8 tj ([C.2.b,C.2.i].map V.int):=SqT.of w4;have dn:=Hy (J7.same O).da ha hH w4 bD;have hb:(!(decide (C.1.1="spent") && decide (C.1.2=[])))=false:=by rw[hJ];rfl
   walk_at"g";refine sI hb ?_
   walk_at"g";refine qk (show[C.2.b,C.2.i]=[C.2.b,C.2.i] from rfl) ?_
   walk_at"g";refine qk rfl ?_
   exact aG.mk ⟨O,rfl⟩
  .intro Z' H8 Y;refine aA fun y o=> ?_
   obtain⟨s8,rfl⟩:=Y;refine o ?_
   have J8:=J7.same s8;have A8:=A7.same s8;have S8:=S7.trans s8;have eG:=s8 _ _ u1;have v4:SqT K H8 hQ ((m.bx.take 6).map V.int):=by rw[p.bx];exact SqT.of (s8 _ _ u4)
   have v5:H8 ie=some (.dK m.kvs):=by rw[p.kv];exact s8 _ _ u5
   have v6:=s8 _ _ u6;have bE:cE H8 (d8.map (·.1)) (rows.map six):=by
    have:=fc.same s8;rw[p.rw] at this;exact this
   have g1:=s8.tup h1;have g2:=s8.tup h2;have g3:=s8 _ _ h3;have ig:=A8.ok.mem;refine aA fun y o=> ?_
   obtain⟨c6,n6⟩:=KF A8.ok.b8.len;refine o ?_
   clear u1 u2 u3 u4 u5 u6 fc eT h1 h2 h3 b6 A7 J7 cv fm e0 S7 bD;walk_at"g";refine⟨fun Z' H'=>aG (ax H8 H'/\Z'=[some (.ref g),some (.ref rm),some (.int x.pg),some (.ref ma),some (.ref st),some (.ref rl),some (.int 24),some (.int U),some (.ref bt),some (.ref md),some (.ref ot),some (.ref q1),some (.ref T),some (.ref sa),some (.ref rw),some (.int j),some (.ref q7),y3,y4,y5]),?_,?_⟩
   .walk_at"g";intro p1 hx;rw[c6];have e9:=af hx (.tup ((m.bx.take 6).map V.int));have l9:SqT K (upd H8 p1 (.tup ((m.bx.take 6).map V.int))) p1 ((m.bx.take 6).map V.int):=SqT.of ad;have hq:=e9 _ _ eG;have jH:=e9.tup v4;have jZ:=e9 _ _ v5;have j1:=e9.tup g1;have km:=e9 _ _ g3;generalize upd H8 p1 (.tup ((m.bx.take 6).map V.int))=H9 at*;have b9:Cl m.kvs:=fun kv hk=>by obtain⟨pc,v,rfl,_⟩:=ig kv hk;exact⟨v,rfl⟩
    have dT:SqL K H9 rw (S.map V.ref):=SqL.of (e9 _ _ A8.rw);have br:=A8.rl.same e9;have hW:=A8.rk;have ke:rows.length<=1000:=by have:=A8.len;lia
    walk_at"g";refine qk (show m.bx.take 6=m.bx.take 6 from rfl) ?_
    walk_at"g";intro tl ts bo F l10 d9;have jn:=F _ _ hq;have iZ:=F _ _ (e9 _ _ v6);have a8:=(bE.same e9).same F;have il:(ts.map V.ref).length=((d8.map (·.1)).map V.ref).length:=by rw[fI,fI,d9.len,a8.len]
    have dx:=yg (K:=K) d9 a8 (fun r I=>by
     refine aA fun y o=> ?_
     obtain⟨r',c9,rfl⟩:=Nn.mp I;refine o ?_
     exact(hW r' c9).2.1)
    walk_at"g";refine sI rfl ?_
    exact aG.mk ⟨e9.trans F,rfl⟩
   .intro Z' H9 Y;refine aA fun y o=> ?_
    obtain⟨s9,rfl⟩:=Y;refine o ?_
    have J9:=J8.same s9;have A9:=A8.same s9;have S9:=S8.trans s9;have e6:=S9 _ _ b5;have g7:SqL K H9 T (a.map V.ref)\/SqT K H9 T (a.map V.ref):= .inl (SqL.of e6);clear J8 A8 eG v4 v5 v6 bE g1 g2 g3 c6 n6 s8 s9;walk_at"g";refine bI (fun cj=> ?_) (fun cj=> ?_)
    .have eh:j+1<R.2.tr.length:=by rw[bu] at cj;exact_mod_cast cj
     refine aA fun y o=> ?_
     obtain⟨ds,dt⟩:=(aR.out (j+1) (by lia)).part eh
     refine o ?_
     have a':PIn 6 X (aX x X (j+1) ⟨(U:Nat),0,⟨bs,c,[]⟩,[]⟩).2:=by
      rcases iW (x:=x) bX (by decide) go (j+1) _ bj (j+1) (MC _) with⟨a1,_⟩|⟨_,_,a3,_⟩
      .rw[ds] at a1;exact absurd rfl a1
      .exact a3
     refine aA fun y o=> ?_
     obtain⟨kc,eJ⟩:=a'.pl.at_;refine o ?_
     refine aA fun y o=> ?_
     obtain⟨j5,bw,ez⟩:=tw eJ;refine o ?_
     have c8:=M.pw _ _ _ _ bw ez;have cD:AR x X u ft (aX x X j ⟨(U:Nat),0,⟨bs,c,[]⟩,[]⟩) bF m rows:=by rw[hC];exact p
     refine aA fun y o=> ?_
     obtain⟨m2,d1,f',ep,fj⟩:=Fo M.cd bX M.gu rfl M.m M.ms bj cD A9.r0 ds rfl;refine o ?_
     have f6:TrA H9 a R.2.tr:=ew.mono fun _ _ e=>S9 _ _ e
     refine aA fun y o=> ?_
     obtain⟨tk,hT,es⟩:=f6.get dt;refine o ?_
     have j2:atI (a.map V.ref) ((j:Int)+1)=some (.ref tk):=by
      have z:atI (a.map V.ref) ((j+1:Nat):Int)=some (.ref tk):=aY (by rw[MW,hT];rfl)
      exact z
     have dV:=a'.pl.b0;have fA:=a'.pl.i0;have dv:SqL K H9 rw (S.map V.ref)\/SqT K H9 rw (S.map V.ref):= .inl (SqL.of A9.rw);have br:SqL K H9 rl ys:=SqL.of J9.rl;have bV:((S.map V.ref).length:Int)=(rows.length:Nat):=by rw[fI,A9.rl.len]
     have hF:=J9.ma;generalize hE:aX x X (j+1) ⟨(U:Nat),0,⟨bs,c,[]⟩,[]⟩=E2 at*;generalize i3:((u E2.2.b.toNat E2.2.i.toNat:Nat):Int)=ic at*;clear eJ bw ez p cD a' cj;walk_at"g";intro aK a7;have ec:ik ys (some ((S.map V.ref).length:Int)) none=ys.drop rows.length:=by rw[bV];exact oE
     rw[ec];have N:=af a7 (.lst (ys.drop rows.length));have l10:upd H9 aK (.lst (ys.drop rows.length)) aK=some (.lst (ys.drop rows.length)):=ad;generalize upd H9 aK (.lst (ys.drop rows.length))=bo at*;have bM:=J9.same N;have d:=A9.same N;have ee:=S9.trans N;have iF:=bM.ma;have iw:=ee _ _ b5;have dQ:=N _ _ es;have dn:=Hy bM.da dV fA dQ c8;have i2:=bM.pl;have i1:SqL K bo cd (ws.map V.int):=SqL.of bM.cd;have wr:=M.wr;have iD:=d.st;have iR:=d.ok;have jq:410+40*j<=1900:=by lia
     have iM:=bM.rp.drop rows.length;have jM:(x.reps.drop rows.length).length<=4:=by rw[Ni];lia
     have kb:bF≠K_:=by decide +kernel
     have jo:=aG.mk ep;clear ep;clear J9 A9 hF br dv g7 e6 S9 f6 N a7 es;walk_at"g";intro j4 eH fa i9 ab dO dm k1 k2 k3 k4 k5 k6 k7 k8 k9;have hu:=dm _ _ d.rw;have hz:(S.map V.ref).length+(ab.map V.ref).length<=sizeLine:=by
      rw[fI,fI,d.rl.len,k7.len];exact MV (show rows.length+d1.length<=1000 by have:=d.len;lia) (by decide)
     walk_at"g";intro b2 eu;have d3:=af eu (.lst (S.map V.ref++ab.map V.ref));have l12:upd dO b2 (.lst (S.map V.ref++ab.map V.ref)) b2=some (.lst ((S++ab).map V.ref)):=by rw[MH];exact ad
     generalize upd dO b2 (.lst (S.map V.ref++ab.map V.ref))=fl at*;have ed:=d3.tup k2;walk_at"g";intro eS fk;have dB:=af fk (.tup [.str "spent"]);refine⟨eH,eS,bF.1,"spent",bF.2,rfl,rfl,dB.tup ed,SqT.of ad,by decide +kernel,by decide +kernel,?_⟩
     generalize upd fl eS (.tup [.str "spent"])=kk at*;walk_at"g";refine sI (show(!(decide (bF.1="spent") && decide (bF.2=[])))=false by decide +kernel) ?_
     have bH:=d3.trans dB;refine aG.mk ⟨fa,b2,S++ab,m2,rows++d1,_,_,_,_,_,ee.trans (dm.trans bH),⟨k4.same bH,⟨k5.b8,k5.mem,MV k5.len (by lia)⟩,f',dB _ _ l12,(k7.app (d.rl.same dm)).same bH,(fun r I=> ?_),?_,?_⟩,rfl⟩
     .rcases MZ.mp I with I | I
      .exact d.rk r I
      .exact k8 r I
     .rw[MA];have:=d.len
      lia
     .rw[show min (j+1) (R.2.tr.length - 1)=j+1 by lia,hE]
      exact fj
    .refine aG.mk ⟨sa,rw,S,m,rows,_,_,_,_,_,S9,⟨A9.st,⟨A9.ok.b8,A9.ok.mem,MV A9.ok.len (by lia)⟩,A9.r0,A9.rw,A9.rl,A9.rk,MV A9.len (by lia),?_⟩,rfl⟩
     have eh:¬j+1<R.2.tr.length:=fun z=>cj (by rw[bu];exact_mod_cast z)
     rw[show min (j+1) (R.2.tr.length - 1)=j by lia,hC]
     exact p
 .clear A5 sa ar r1 r2 ao;intro Z H6 Y;refine aA fun y o=> ?_
  obtain⟨sa,rw,S,m,rows,y1,y2,y3,y4,y5,s6,A6,rfl⟩:=Y;refine o ?_
  have J6:=J5.same s6;have eN:=s6 _ _ g0;have c':=s6 _ _ hY;have p:=A6.sim;rw[bu,show min R.2.tr.length (R.2.tr.length - 1)=R.2.tr.length - 1 by lia] at p
  have n1:=nH.out.1;have dh:=(aR.out R.2.tr.length nH.out.2).whole (MC _);have S6:=S5.trans s6;have fin:∀H',ax H6 H'->Q (.bl true) H':=fun H' z=>q H' (S6.trans z)
  clear tt dp aR;walk_at"g";refine⟨fun Z' H'=>aG (ax H6 H'/\R.1≠(("leaves":Str),([]:List Int))/\R.1≠bF/\Z'=[some (.ref g),some (.ref rm),some (.int x.pg),some (.ref ma),some (.ref st),some (.ref rl),some (.int 24),some (.int U),some (.ref bt),some (.ref md),some (.ref ot),some (.ref q1),some (.ref T),some (.ref sa),some (.ref rw),y1,y2,y3,y4,y5]),?_,?_⟩
  .walk_at"g";intro pL g8;have e7:=af g8 (.tup [.str "leaves"]);refine⟨eW,pL,R.1.1,"leaves",R.1.2,rfl,rfl,SqT.of (e7 _ _ c'),SqT.of ad,cq,by decide +kernel,?_⟩
   generalize upd H6 pL (.tup [.str "leaves"])=H7 at*;have js:=e7 _ _ eN;have dJ:=e7 _ _ c'
   by_cases bW:R.1=(("leaves":Str),([]:List Int))
   .have hb:(decide (R.1.1="leaves") && decide (R.1.2=[]))=true:=by rw[bW];rfl
    walk_at"g";refine Ec hb ?_
    walk_at"g";exact fin _ e7
   have hb:(decide (R.1.1="leaves") && decide (R.1.2=[]))=false:=by
    rw[OG]
    by_cases z1:R.1.1="leaves"
    .exact .inr (MG fun z2=>bW (QI z1 z2))
    .exact .inl (MG z1)
   walk_at"g";refine sI hb ?_
   walk_at"g";intro pS cM;have O:=af cM (.tup [.str "spent"]);refine⟨eW,pS,R.1.1,"spent",R.1.2,rfl,rfl,SqT.of (O _ _ dJ),SqT.of ad,cq,by decide +kernel,?_⟩
   generalize upd H7 pS (.tup [.str "spent"])=H8 at*
   by_cases bh:R.1=bF
   .have bw:(decide (R.1.1="spent") && decide (R.1.2=[]))=true:=by rw[bh];rfl
    walk_at"g";refine Ec bw ?_
    walk_at"g";exact fin _ (e7.trans O)
   have bw:(decide (R.1.1="spent") && decide (R.1.2=[]))=false:=by
    rw[OG]
    by_cases z1:R.1.1="spent"
    .exact .inr (MG fun z2=>bh (QI z1 z2))
    .exact .inl (MG z1)
   walk_at"g";refine sI bw ?_
   exact aG.mk ⟨e7.trans O,bW,bh,rfl⟩
  intro Z' H7 Y;refine aA fun y o=> ?_
  obtain⟨s7,bW,bh,rfl⟩:=Y;refine o ?_
  obtain⟨t,et⟩:∃t,R.2.tr.length=t+1:=⟨R.2.tr.length - 1,by lia⟩
  rw[et,Nat.add_sub_cancel] at p;rw[et] at dh;refine aA fun y o=> ?_
  obtain⟨m1,r8,j',aH⟩:=Bn M.cd bX M.gu rfl M.m M.ms bj p A6.r0 (by rw[dh];exact bW)
  refine o ?_
  rw[dh] at aH;obtain⟨he,ht,hs⟩:R.1≠bF/\dH x ws (x.reps.drop rows.length) m=(R.1,m1,1)/\AR x X u ft R R.1 m1 (rows++m1.rows):=by
   rcases aH with z | ⟨n,m2,z,_⟩
   .exact z
   .exact absurd z bh
  have cc:cu {x with reps:=x.reps.drop rows.length} ws 16 {m with rows:=[]} 0=(R.1,m1,1):=by
   rw[J4 (n:=15) (by
    have z:cu {x with reps:=x.reps.drop rows.length} ws 1 {m with rows:=[]} 0=(R.1,m1,1):=ht
    rw[z]
    exact bh)]
   exact ht
  have J7:=J6.same s7;have A7:=A6.same s7;have hU:=S6.trans s7;have dv:SqL K H7 rw (S.map V.ref)\/SqT K H7 rw (S.map V.ref):= .inl (SqL.of A7.rw);have gj:SqL K H7 rl ys:=SqL.of J7.rl;have bV:((S.map V.ref).length:Int)=(rows.length:Nat):=by rw[fI,A7.rl.len]
  have b6:=J7.ma;clear aH A6 J6 p fin;walk_at"g";intro p8 fy;have ec:ik ys (some ((S.map V.ref).length:Int)) none=ys.drop rows.length:=by rw[bV];exact oE
  rw[ec];have O:=af fy (.lst (ys.drop rows.length));have l8:upd H7 p8 (.lst (ys.drop rows.length)) p8=some (.lst (ys.drop rows.length)):=ad;generalize upd H7 p8 (.lst (ys.drop rows.length))=H8 at*;have J8:=J7.same O;have A8:=A7.same O;have S8:=hU.trans O;have ba:=J8.rp.drop rows.length;have gY:En K H8 pl p8 {x with reps:=x.reps.drop rows.length}:=fu.en J8.pl l8 ba
  have hD:SqL K H8 cd (ws.map V.int):=SqL.of J8.cd;have wr:=M.wr;refine aA fun y o=> ?_
  obtain⟨hX,g4,h1,h2,h3⟩:=id A8.st;refine o ?_
  have h5:vw {x with reps:=x.reps.drop rows.length}:=⟨by show(x.reps.drop rows.length).length<=20;rw[Ni];lia,oz ba⟩
  have eb:=A8.ok.mem;have e':=A8.ok.b8;have jg:m.kvs.length<=2000:=by have:=A8.ok.len;have:=nH.out;lia
  have cm:=(rE (x:=x) (ws:=ws) (m:=m) (left:=x.reps.drop rows.length) (oz ba)).2;rw[ht] at cm;have d7:=(s7.trans O) _ _ eN;have ea:=(s7.trans O) _ _ c';have dR:SqT K H8 g5 ((m1.bx.take 6).map V.int):=by rw[hs.bx];exact SqT.of (((s6.trans s7).trans O) _ _ g6)
  have d4:H8 hL=some (.dK m1.kvs):=by rw[hs.kv];exact((s6.trans s7).trans O) _ _ hI
  have b7:=((s6.trans s7).trans O) _ _ fL;have bE:cE H8 (fK.map (·.1)) ((rows++m1.rows).map six):=by
   have:=h7.same ((s6.trans s7).trans O);rw[hs.rw] at this;exact this
  clear J7 A7 dv gj b6 O fy ec l8;walk_at"g";intro q9 H9 s9 ra dr hN;have ra:Bq H8 H9 q9 (R.1,m1,1):=by rw[<- cc];exact ra
  have dr:b_ m1.kvs:=by
   have z:b_ (cu {x with reps:=x.reps.drop rows.length} ws 16 {m with rows:=[]} 0).2.1.kvs:=dr
   rw[cc] at z;exact z
  refine aA fun y o=> ?_
  obtain⟨hc,hA,jK,j6,dT,bz,a1,a2,a3,a4,a5,a6,_,_,a9⟩:=ra.ex;refine o ?_
  dsimp only at a1 a2 a3 a4 a5 a6 a9;have br:=a9.l;have df:=s9 _ _ d7;have dX:=s9 _ _ ea;have cH:=s9.tup dR;have cp:=s9 _ _ d4;have cL:=s9 _ _ b7;have d6:=bE.same s9;have A9:=A8.same s9;have S9:=S8.trans s9;refine aA fun y o=> ?_
  obtain⟨c6,n6⟩:=KF (bx:=m1.bx) hs.b8.len;refine o ?_
  have b9:Cl m1.kvs:=fun kv hk=>by obtain⟨pc,v,rfl,_⟩:=dr kv hk;exact⟨v,rfl⟩
  clear ra hN d7 ea dR d4 b7 bE gY hD h1 h2 h3 J8 A8 ba h5;walk_at"g";refine⟨fun Z' H'=>aG (ax H9 H'/\Z'=[some (.ref g),some (.ref rm),some (.int x.pg),some (.ref ma),some (.ref st),some (.ref rl),some (.int 24),some (.int U),some (.ref bt),some (.ref md),some (.ref ot),some (.ref q1),some (.ref T),some (.ref hA),some (.ref rw),y1,y2,some (.ref hc),some (.ref dT),some (.int 1)]),?_,?_⟩
  .have hb:(!(decide (R.1.1=R.1.1) && decide (R.1.2=R.1.2)))=false:=by rw[MO rfl,MO rfl];rfl
   walk_at"g";refine sI hb ?_
   walk_at"g";intro aK a7;rw[c6];have N:=af a7 (.tup ((m1.bx.take 6).map V.int));have l10:SqT K (upd H9 aK (.tup ((m1.bx.take 6).map V.int))) aK ((m1.bx.take 6).map V.int):=SqT.of ad;have cF:=N _ _ df;have iv:=N.tup cH;have iC:=N _ _ cp;have iE:=N _ _ a3;have jh:=N _ _ a5;generalize upd H9 aK (.tup ((m1.bx.take 6).map V.int))=bo at*;walk_at"g";refine qk (show m1.bx.take 6=m1.bx.take 6 from rfl) ?_
   walk_at"g";refine sI rfl ?_
   exact aG.mk ⟨N,rfl⟩
  .intro Z' bo Y;refine aA fun y o=> ?_
   obtain⟨F,rfl⟩:=Y;refine o ?_
   have d:=A9.same F;have i6:=F _ _ a6;have ek:=br.same F;have a8:=d6.same F;have cF:=F _ _ df;have dc:=F _ _ cL;have jm:=d.rw;have hz:(S.map V.ref).length+(bz.map V.ref).length<=sizeLine:=by
    rw[fI,fI,d.rl.len,br.len];exact MV (show rows.length+m1.rows.length<=1000 by have z:=d.len;rw[bu] at z;have:=nH.out;lia) (by decide)
   clear A9 df dX cH cp cL d6 a1 a2 a3 a4 a5 a6 a9 br c6 n6 b9;walk_at"g";intro dy fB;have e11:=af fB (.lst (S.map V.ref++bz.map V.ref));have l11:SqL K (upd bo dy (.lst (S.map V.ref++bz.map V.ref))) dy ((S++bz).map V.ref):=SqL.of (by rw[MH];exact ad)
   have jO:=(ek.app d.rl).same e11;have fb:=e11 _ _ cF;have dg:=e11 _ _ dc;have ej:=a8.same e11;generalize upd bo dy (.lst (S.map V.ref++bz.map V.ref))=dO at*;have dZ:∀r∈rows++m1.rows,E5 r:=fun r I=>by
    rcases MZ.mp I with I | I
    .exact d.rk r I
    .refine aA fun y o=> ?_
     obtain⟨z1,z2⟩:=cm r I;refine o ?_
     exact⟨by rw[z1];exact e'.len,by rw[z2];exact eb,by rw[z2];lia⟩
   have i7:(rows++m1.rows).length<=1000:=by
    rw[MA];have z:=d.len;rw[bu] at z;have:=nH.out
    lia
   walk_at"g";intro tl ts fl b4 l12 eK;have i':=b4 _ _ fb;have hh:=b4 _ _ dg;have b':=ej.same b4;have ij:(ts.map V.ref).length=((fK.map (·.1)).map V.ref).length:=by rw[fI,fI,eK.len,b'.len]
   have dx:=yg (K:=K) eK b' (fun r I=>by
    refine aA fun y o=> ?_
    obtain⟨r',c9,rfl⟩:=Nn.mp I;refine o ?_
    exact(dZ r' c9).2.1)
   walk_at"g";exact q _ (((S9.trans F).trans e11).trans b4)
theorem BI{o:Type}[DecidableEq o]{a b:List (o × V)}{k:o}:eZ (a++b) k=(eZ a k).or (eZ b k):=by
 induction a with
 | nil=>rfl
 | cons p r ih=>
  rw[OH]
  by_cases e:p.1=k
  .rw[iU e,iU e]
   rfl
  .rw[gD e,gD e,ih]
theorem Ca{n u:Nat}:∀{a:Nat}{bs:List Nat}{j q:Nat},bs[j]? =some q->eZ (j7 n u a bs) (pk u (a+j))=some (.int ((u*n+q:Nat):Int))
 | a,b::r,0,q,h=>by
  have e:b=q:=by simpa using h
  subst e;exact iU rfl
 | a,b::r,j+1,q,h=>by
  rw[N7] at h;show eZ ((pk u a,_)::j7 n u (a+1) r) _=_
  rw[gD (fun z=>by have:=(zB z).2;lia),show a+(j+1)=a+1+j by lia]
  exact Ca h
 | _,[],j,q,h=>by simp at h
theorem ym{n u v:Nat}(o:v≠u):∀{a:Nat}{bs:List Nat}{j:Nat},eZ (j7 n u a bs) (pk v j)=none
 | _,[],_=>rfl
 | a,b::r,j=>by
  show eZ ((pk u a,_)::j7 n u (a+1) r) _=_
  rw[gD (fun z=>o (zB z).1.symm)]
  exact ym o
theorem Cw{n:Nat}:∀{u:Nat}{bss:List (List Nat)}{b j q:Nat}{bs:List Nat},bss[b]? =some bs->bs[j]? =some q->eZ (jz n u bss) (pk (u+b) j)=some (.int (((u+b)*n+q:Nat):Int))
 | u,c::r,0,j,q,bs,h,h2=>by
  have e:c=bs:=by simpa using h
  subst e;show eZ (j7 n u 0 c++jz n (u+1) r) _=_
  rw[BI,PM];have:=Ca (n:=n) (u:=u) (a:=0) h2;rw[Ny] at this;rw[this]
  rfl
 | u,c::r,b+1,j,q,bs,h,h2=>by
  rw[N7] at h;show eZ (j7 n u 0 c++jz n (u+1) r) _=_
  rw[BI,ym (by lia),show u+(b+1)=u+1+b by lia]
  exact Cw h h2
 | _,[],_,_,_,_,h,_=>by simp at h
theorem Cv{n u:Nat}:∀{a:Nat}{bs:List Nat}{o:List Key × V},o∈j7 n u a bs->∃j q,bs[j]? =some q/\o=(pk u (a+j),.int ((u*n+q:Nat):Int))
 | a,b::r,o,h=>by
  rcases M3.mp h with rfl | h
  .exact⟨0,b,rfl,rfl⟩
  .obtain⟨j,q,h1,h2⟩:=Cv h;exact⟨j+1,q,h1,by rw[h2,show a+1+j=a+(j+1) by lia]⟩
 | _,[],_,h=>by cases h
theorem Bb{n:Nat}:∀{u:Nat}{bss:List (List Nat)}{o:List Key × V},o∈jz n u bss->∃b j q bs,bss[b]? =some bs/\bs[j]? =some q/\o=(pk (u+b) j,.int (((u+b)*n+q:Nat):Int))
 | u,c::r,o,h=>by
  rcases MZ.mp (show o∈j7 n u 0 c++jz n (u+1) r from h) with h | h
  .obtain⟨j,q,h1,h2⟩:=Cv h;exact⟨0,j,q,c,rfl,h1,by rw[h2,Ny,PM]⟩
  .obtain⟨b,j,q,bs,h1,h2,h3⟩:=Bb h;exact⟨b+1,j,q,bs,h1,h2,by rw[h3,show u+1+b=u+(b+1) by lia]⟩
 | _,[],_,h=>by cases h
structure PlW (gs:List (List Ins)) (pos:Nat->Nat->Nat) (kvs:List (List Key × V)):Prop where
 get:∀b bk j kn,gs[b]? =some bk->bk[j]? =some kn->eZ kvs (pk b j)=some (.int ((pos b j:Nat):Int))
 mem:∀kv∈kvs, ∃b bk j kn,gs[b]? =some bk/\bk[j]? =some kn/\kv=(pk b j,.int ((pos b j:Nat):Int))
theorem Ge{S:Nat}{gs:List (List Ins)}{ds:List Bk}(h:∀b:Nat,ds[b]? =none↔gs[b]? =none)(J:∀(b:Nat) (d:Bk) (bk:List Ins),ds[b]? =some d->gs[b]? =some bk->d.2.length=bk.length):PlW gs (AY S ds) (jz S 0 (ds.map (·.2))):=by
 refine⟨fun b bk j f o a=> ?_,fun c U=> ?_⟩
 .cases hd:ds[b]? with
  | none=>rw[(h b).mp hd] at o;cases o
  | some d=>
   have C:j<d.2.length:=by rw[J b d bk hd o];exact(gV.mp a).1
   have e:d.2[j]? =some d.2[j]:=be C;have:=Cw (n:=S) (u:=0) (bss:=ds.map (·.2)) (b:=b) (bs:=d.2) (by rw[MW,hd];rfl) e
   rw[Ny] at this;rw[this,kg hd e]
 .obtain⟨b,j,q,bs,I,h2,h3⟩:=Bb U;rw[Ny] at h3;rw[MW] at I
  cases hd:ds[b]? with
  | none=>rw[hd] at I;cases I
  | some d=>
   rw[hd] at I;have I:d.2=bs:=MR I;subst I
   cases o:gs[b]? with
   | none=>rw[(h b).mpr o] at hd;cases hd
   | some bk=>
    have C:j<bk.length:=by rw[<- J b d bk hd o];exact(gV.mp h2).1
    exact⟨b,bk,j,bk[j],o,be C,by rw[h3,kg hd h2]⟩
theorem Dr:∀{ds:List Bk},ds≠[]->∃M,qu M ds
 | [],h=>absurd rfl h
 | [d],_=>⟨bun d,⟨d,Nc,rfl⟩,fun e I=>by rw[MY.mp I];exact MC _⟩
 | d::e::r,_=>by
  obtain⟨M,J,C⟩:=Dr (ds:=e::r) (by intro z;cases z)
  by_cases c:M<=bun d
  .exact⟨bun d,⟨d,Nc,rfl⟩,fun f o=>by
    rcases M3.mp o with rfl | o
    .exact MC _
    .exact MV (C f o) c⟩
  .obtain⟨f,o,e1⟩:=J
   exact⟨M,⟨f,M8 _ o,e1⟩,fun f o=>by
    rcases M3.mp o with rfl | o
    .lia
    .exact C f o⟩
theorem GY{n b c:Nat}(h:nz n b)(o:n<=2^c):b<=c:=by
 by_cases z:b<=c
 .exact z
 .have:=h.2 c (by lia)
  lia
def IE(K:Frag):Sp:=fun c H Q _=>∃(o rm:Addr) (I:List Addr) (C:List (List Ins)) (a U b:Int) (M:Nat),c=[.ref o,.ref rm,.int b]/\SqT K H o (I.map V.ref)/\GSt K H I C/\SqT K H rm [.int a,.int U]/\
 GuB C/\qu M (C.map cT)/\∀m s,nz C.length m->nz M s->m+s<=7/\∀r J,ax H J->xj H J r (C.map cT) a U b m s->Q (.ref r) J
theorem Lp{n:Addr}{vs:List V}{H:Hp}{Q:VK}{E:XK}(h:IE K vs H Q E):GX K n vs H Q E0:=by
 obtain⟨C,rm,o,c,a,i,b,M,I,e,J,U,j,d,q⟩:=h;refine⟨C,rm,o,c,a,i,b,M,I,e,J,U,j,d,fun m s hm hs=> ?_⟩
 obtain⟨g,f⟩:=q m s hm hs;exact⟨fun z=>absurd g (by lia),fun _=>f⟩
def Ic(K:Frag):Sp:=fun d H Q _=>∃(J rm:Addr) (C:List Addr) (o:List (List Ins)) (I:Nat) (U b:Int) (M:Nat),d=[.ref J,.ref rm,.int b]/\SqT K H J (C.map V.ref)/\GSt K H C o/\SqT K H rm [.int I,.int U]/\
 GuB o/\(∀bk∈o, ∀c∈bk,c.1≠16)/\SpM.Room I U/\qu M (o.map (thD I U))/\∀m s,nz o.length m->nz M s->m+s<=7/\∀r a,ax H a->xj H a r (o.map (thD I U)) I U b m s->Q (.ref r) a
theorem LP{r:Addr}{vs:List V}{H:Hp}{Q:VK}{E:XK}(h:Ic K vs H Q E):F4 K r vs H Q E0:=by
 obtain⟨C,rm,o,e,c,n,d,M,I,g,J,b,p,f,a,U,q⟩:=h;refine⟨C,rm,o,e,c,n,d,M,I,g,J,b,p,f,a,U,fun m s hm hs=> ?_⟩
 obtain⟨j,i⟩:=q m s hm hs;exact⟨fun z=>absurd j (by lia),fun _=>i⟩
theorem Cy{gs:List (List Ins)}{D:List Ins->Bk}{M s:Nat}(I:qu M (gs.map D))(hs:nz M s):∀bk∈gs,lnW (D bk).1<=8*2^s:=fun bk o=>by
 have C:=I.le (D bk) (List.mem_map_of_mem o);have J:=hs.1;unfold bun at C
 lia
theorem F_{gs:List (List Ins)}{D:List Ins->Bk}{M s:Nat}(J:qu M (gs.map D))(hs:nz M s)(h:∀bk∈gs,lnW (D bk).1<=if bk.length %2=0 then 4*bk.length else 4*(bk.length - 1)+3)(o:∀bk∈gs,bk.length<=30):s<=4:=GY hs (by
 obtain⟨d,hd,e⟩:=J.mem;obtain⟨bk,C,rfl⟩:=Nn.mp hd;have I:=h bk C;have U:=o bk C;unfold bun at e
 split at I <;> lia)
theorem Jn{gl m s:Nat}(C:gl<=2^m)(o:m+s<=7):(gl:Int)*((8*2^s:Nat):Int)<=262144:=by
 have a:gl*(8*2^s)<=2^m*(8*2^s):=NK _ C;have U:2^m*(8*2^s)=8*2^(m+s):=by rw[Nat.pow_add];ac_rfl
 have b:2^(m+s)<=2^7:=NZ (by decide) o
 have J:gl*(8*2^s)<=262144:=by lia
 have I:((gl*(8*2^s):Nat):Int)<=((262144:Nat):Int):=Int.ofNat_le.mpr J;rw[Int.natCast_mul] at I;exact I
theorem yl{ds:List Bk}{S tot:Nat}(U:∀d∈ds, ∀m∈d.1,aI 8 262144 (plc S m).1 (plc S m).2):∀y∈aV (lj S tot ds),0<=y/\y<4294967296:=by
 have I:∀y∈fU 0 [],0<=y/\y<4294967296:=yt (.inl ⟨rfl,rfl⟩);intro y J;unfold aV at J;obtain⟨a,o,C⟩:=List.mem_flatMap.mp J;unfold lj at o;rcases MZ.mp o with o | o
 .obtain⟨d,h3,h4⟩:=List.mem_flatMap.mp o;unfold gq at h4;rcases MZ.mp h4 with h4 | h4
  .obtain⟨m,h5,rfl⟩:=Nn.mp h4;exact yt (U d h3 m h5) y C
  .rw[(NU.mp h4).2] at C;exact I y C
 .rw[(NU.mp o).2] at C;exact I y C
theorem Lyd.all{bk:List Ins}{st:Nat->Bk}{g:Nat->List Ins}{T:Ins->Prop}(h:Lyd bk st g)(o:T nop)(C:∀j,j<bk.length->∀m∈g j,T m):∀j,j<=bk.length->∀m∈(st j).1,T m
 | 0,_,m,hm=>by rw[h.z] at hm;cases hm
 | j+1,hj,m,hm=>by
  obtain⟨n,_,e,_⟩:=h.s j hj;rw[e] at hm;rcases MZ.mp hm with hm | hm
  .rcases MZ.mp hm with hm | hm
   .exact Lyd.all h o C j (by lia) m hm
   .rw[(NU.mp hm).2];exact o
  .exact C j hj m hm
theorem FF{k:Nat}{rb:Int}{m s:Nat}{U:Int}{reps:List ls}{gs:List (List Ins)}{M:Nat}(I:GuG U gs)(e:qu M (gs.map cT))(hm:nz gs.length m)(hs:nz M s)(o:m+s<=7):M83 ⟨k,rb,m,s,U,reps⟩ (aV (lj (8*2^s) (2^m*(8*2^s)) (gs.map cT))) gs (AY (8*2^s) (gs.map cT)) (fun _ _=>none) (fun b j=>grp ((gs.getD b []).getD j (0,[]))) (jz (8*2^s) 0 ((gs.map cT).map (·.2))):=by
 have J:=Jn hm.1 o;refine⟨HS I J (Cy e hs),I,hm.1,o,yl (fun d hd=> ?_),?_⟩
 .obtain⟨bk,hb,rfl⟩:=Nn.mp hd
  have:=(DL bk).all (T:=fun m=>aI 8 262144 (plc (8*2^s) m).1 (plc (8*2^s) m).2) pG (fun j f m hm=>by
   have a:bk.getD j (0,[])=bk[j]:=by rw[MF,be f];rfl
   rw[a] at hm
   exact vO ((I.blk bk hb).1 _ (Nm _)) J m hm) bk.length (MC _)
  rw[ML] at this;exact this
 .exact(Ge (fun b=>by rw[MW,PN]) (fun b d bk C c=>by
   rw[MW,c] at C;have C:cT bk=d:=MR C;rw[<- C];have:=vS bk bk.length (MC _);rw[ML] at this
   exact this)).get
theorem GO{k:Nat}{rb:Int}{m s:Nat}{U:Int}{reps:List ls}{gs:List (List Ins)}{M:Nat}(J:GuG U gs)(f:qu M (gs.map (thD k rb)))(hm:nz gs.length m)(hs:nz M s)(o:m+s<=7):M83 ⟨k,rb,m,s,U,reps⟩ (aV (lj (8*2^s) (2^m*(8*2^s)) (gs.map (thD k rb)))) gs (AY (8*2^s) (gs.map (thD k rb))) (fun b j=>(ksT k rb (gs.getD b []) j).ft) (fun b j=>thG k rb (ksT k rb (gs.getD b []) j) ((gs.getD b []).getD j (0,[]))) (jz (8*2^s) 0 ((gs.map (thD k rb)).map (·.2))):=by
 have I:=Jn hm.1 o;refine⟨IK (x:=⟨k,rb,m,s,U,reps⟩) J I (Cy f hs),J,hm.1,o,yl (fun d hd=> ?_),?_⟩
 .obtain⟨bk,hb,rfl⟩:=Nn.mp hd
  have:=(FP (pk:=k) (pb:=rb) bk).all (T:=fun m=>aI 8 262144 (plc (8*2^s) m).1 (plc (8*2^s) m).2) pG (fun j a m hm=>by
   have c:bk.getD j (0,[])=bk[j]:=by rw[MF,be a];rfl
   rw[c] at hm;have gi:=(J.blk bk hb).1 _ (Nm a);rcases ir k rb (ksT k rb bk j) bk[j] with z | ⟨hk,_,z⟩|⟨hk,_,z⟩
   .rw[z] at hm;exact vO gi I m hm
   .rw[z] at hm;rw[MY.mp hm];exact Dy gi I
   .rw[z] at hm;rw[MY.mp hm,gz (kn:=((bk[j]).1,[(bk[j]).2.getD 0 0,6,0])) (show(bk[j]).1≠13 by lia) (show(bk[j]).1≠14 by lia)]
    exact uk gi.v6.w8 hk) bk.length (MC _)
  rw[ML] at this;exact this
 .exact(Ge (fun b=>by rw[MW,PN]) (fun b d bk C e=>by
   rw[MW,e] at C;have C:thD k rb bk=d:=MR C;rw[<- C];have:=zv k rb bk bk.length (MC _);rw[ML] at this
   exact this)).get
theorem Lk{K:Frag}{h:Heap}{mg:Str->Option Value}{f:Params}{D a:Addr}{n:Nat}{t0 t1 t2 t3 t4 t5 t6 t7 t8 t9 B R N H T L ab A Q:Tok}{p u q b3 i s j v r g U C b c e I d o J:Addr}(X:K.In h)(G:h.Ns mainGlobals mg)(hs:W.nsIn K mainGlobals "SORTS"=some (some (.ref D)))(ks:gx K D (ue.map V.str))
  (ha:W.nsIn K mainGlobals "FIELDS"=some (some (.ref a))) (hl:K.lookup a=some {cls:= .type "dict",data:= .dict (Cq f [("stop",t0,.ref p),("put",t1,.ref u),("add",t2,.ref q),("sub",t3,.ref b3),("and",t4,.ref i),("or",t5,.ref s),("xor",t6,.ref j),("less",t7,.ref v),("left",t8,.ref r),("right",t9,.ref g),("more",B,.ref U),("load",R,.ref C),("store",N,.ref b),("jump",H,.ref c),("jumpif",T,.ref e),("through",L,.ref I),("fit",ab,.ref d),("aim",A,.ref o),("gate",Q,.ref J)]) n})
  (k0:gx K p ((aQ 0).map V.str)) (k1:gx K u ((aQ 1).map V.str)) (k2:gx K q ((aQ 2).map V.str)) (k3:gx K b3 ((aQ 3).map V.str)) (k4:gx K i ((aQ 4).map V.str)) (k5:gx K s ((aQ 5).map V.str)) (k6:gx K j ((aQ 6).map V.str)) (k7:gx K v ((aQ 7).map V.str)) (k8:gx K r ((aQ 8).map V.str)) (k9:gx K g ((aQ 9).map V.str)) (Z:gx K U ((aQ 10).map V.str)) (x:gx K C ((aQ 11).map V.str)) (S:gx K b ((aQ 12).map V.str)) (M:gx K c ((aQ 13).map V.str)) (O:gx K e ((aQ 14).map V.str)) (Y:gx K I ((aQ 15).map V.str)) (z:gx K d ((aQ 16).map V.str)) (E:gx K o ((aQ 17).map V.str)) (F:gx K J ((aQ 18).map V.str)):Tb K mg f:=by
 refine⟨⟨D,Rw X G hs,ks⟩,a,[("stop",.ref p),("put",.ref u),("add",.ref q),("sub",.ref b3),("and",.ref i),("or",.ref s),("xor",.ref j),("less",.ref v),("left",.ref r),("right",.ref g),("more",.ref U),("load",.ref C),("store",.ref b),("jump",.ref c),("jumpif",.ref e),("through",.ref I),("fit",.ref d),("aim",.ref o),("gate",.ref J)],Rw X G ha,⟨_,n,hl,?_⟩,fun k y=> ?_⟩
 .repeat' (first | exact Paired.nil | refine Paired.cons ⟨rfl,rfl⟩ ?_)
 .match k,y with
  | 0,_=>exact⟨p,rfl,k0⟩
  | 1,_=>exact⟨u,rfl,k1⟩
  | 2,_=>exact⟨q,rfl,k2⟩
  | 3,_=>exact⟨b3,rfl,k3⟩
  | 4,_=>exact⟨i,rfl,k4⟩
  | 5,_=>exact⟨s,rfl,k5⟩
  | 6,_=>exact⟨j,rfl,k6⟩
  | 7,_=>exact⟨v,rfl,k7⟩
  | 8,_=>exact⟨r,rfl,k8⟩
  | 9,_=>exact⟨g,rfl,k9⟩
  | 10,_=>exact⟨U,rfl,Z⟩
  | 11,_=>exact⟨C,rfl,x⟩
  | 12,_=>exact⟨b,rfl,S⟩
  | 13,_=>exact⟨c,rfl,M⟩
  | 14,_=>exact⟨e,rfl,O⟩
  | 15,_=>exact⟨I,rfl,Y⟩
  | 16,_=>exact⟨d,rfl,z⟩
  | 17,_=>exact⟨o,rfl,E⟩
  | 18,_=>exact⟨J,rfl,F⟩
  | m+19,y=>exact absurd y (by lia)
theorem Ks(B:Bi mg)(T:Tb K mg w.params)(T2:Tb2 K mg)(Tx:∃CT,mg "TooLong"=some (.ref CT)/\EK K CT){df:Addr}(bj:cA K mg "LaidBlock" df)(cv:cx K df){kA:Addr}(iR:cA K mg "Known" kA)(mU:lT K kA){fk:Addr}(bE:cA K mg "Holding" fk)(de:cZ K fk){ie:Addr}(eG:cA K mg "Machine" ie)(iE:gQ K ie){dZ:Addr}(cD:cA K mg "PlainRun" dZ)(d9:eB K dZ)(jD:pf K mg)(DB:Gq K mg)(Aw:DZ K mg)(xo:BF K mg)(mn:sP K mg)(jP:oS K mg)(mq:sY K mg)(rc:xg K mg)(nV:uz K mg)(d6:gI K mg)(io:lF K mg)(qX:xf K mg)(jw:pz K mg)(oK:uO K mg)(oy:uK K mg)(mt:sf K mg)(lR:tF K mg)(iD:lH K mg)(wI:BJ K mg)(o8:uP K mg)(jL:oB K mg)(pD:uV K mg)(qP:w_ K mg)(qG:wx K mg)(qM:wE K mg)(tY:yK K mg)(oo:uF K mg)(oT:uD K mg)(mP:tz K mg)(kS:qi K mg)(pd:uE K mg)(rh:xu K mg)(qB:wY K mg)(kB:qw K mg)(nJ:uA K mg)(jx:nK K mg)(i9:nj K mg)(eW:e_ K df)(dB:dC K df)(eK:eI K df)(iM:iI K df)(d8:d5 K df)(dQ:dN K df)(mL:sD K mg)(mf:sr K mg)(wk:Bc K mg)(zj:ED K mg)(kO:qr K mg)(o_:uY K mg)(ix:lK K mg)(og:uM K mg)(ii:lC K mg)(jO:oW K mg)(j5:oj K mg)(DJ:Ht K mg)(gY:iB K kA)(jZ:jE K kA)(fZ:fW K kA)(fB:fG K kA)(gd:gf K kA)(i_:nw K mg)(CZ:GG K mg)(tS:yF K mg)(f8:f9 K fk)(fK:fC K fk)(jg:jc K fk)(kP:kT K fk)(gj:gg K ie)(iC:iK K ie)(lY:mz K ie)(eJ:eO K ie)(dy:Jy K mg)(fA:fD K dZ)(iF:gW K dZ)(ij:iy K dZ)(dO:dI K dZ)(fh:eV K dZ)(hU:iz K dZ)(kY:qA K mg)(o6:uR K mg)(nS:uG K mg)(oY:uJ K mg)(l_:sW K mg)(mV:si K mg)(pj:uy K mg)(mi:rV K mg)(jR:nL K mg)(oC:uS K mg)(jK:pC K mg)(lM:rA K mg){f:Addr}{fd:FuncData}(F:Fun K "law" "law" Es f fd):je P w K mg base CX0 12 f fd ["_law_script"] (BW K):=by
 obtain⟨CT,tZ,ab⟩:=Tx;have al:=vv (P:=P) (w:=w) (base:=base) B jD;have bh:=IQ B DB al;have jm:=FN (P:=P) (w:=w) (base:=base) B Aw;have mR:=xA B mn bh;have dX:=xD B T mq mR;have ig:=BA B rc dX;have dq:=zO (P:=P) (w:=w) (base:=base) B nV;have bM:=xV (P:=P) (w:=w) (base:=base) B lR;have h_:=sj B iD al;have cF:=Fn B wI jm;have bV:=Af (P:=P) (w:=w) (base:=base) B o8;have aK:=vf B jL cF;have ce:=zD B pD h_ aK;have qL:=BU B qP ce;have qZ:=Cd B qG ce;have dJ:=vI B jw al bh;have qF:=CG B qM bh aK;have pF:=Dc B tY al aK;have ol:=y6 B oo cF;have ph:=zA B oT bV bM bh al ce;have mr:=x_ B mP bV bh al aK;have kW:=xc B kS cF bV dJ qL qZ qF pF ol ph mr;have nR:=zw B pd jm ce;have fj:=zJ B oy al bh;have qO:=AJ B rh al bh jm aK;have qJ:=A3 B qB al cF bV fj aK;have hX:=BD (P:=P) (w:=w) (base:=base) B T2 qX;have eE:=xq B kB bM;have oM:=An B nJ cF bM nR qO qJ kW;have jY:=vg B jx bM hX oM;have jh:=tN B i9 al;have bX:=nI (P:=P) (w:=w) (base:=base) B bj cv eW;have bo:=j_ (P:=P) (w:=w) (base:=base) B bj cv dB;have cM:=sH B bj cv iM dq;have bz:=lA B bj cv d8 cM;have br:=kH B bj cv dQ cM bo;have bD:=mj B bj cv eK dq;have dg:=Au (P:=P) (w:=w) (base:=base) B og;have aR:=sU (P:=P) (w:=w) (base:=base) B ii;have cR:=vC B jO dg aR;have jq:=vt B bj j5 bX cR bD br bz;have jo:=xX B mL al;have lP:=yd (P:=P) (w:=w) (base:=base) B bj cv mf;have wG:=E6 (P:=P) (w:=w) (base:=base) B wk;have pQ:=Gh B zj ig;have kX:=wf B bj cv kO ig wG pQ;have oJ:=zf (P:=P) (w:=w) (base:=base) B bj cv o_;have cL:=rH B ab tZ ix al jo lP kX pQ oJ;have C5:=HR B DJ jq cL;have gT:=rS B iR mU gY eE;have jM:=vy B iR mU jZ eE;have d3:=pY B iR mU fZ dg aR cR jh;have f_:=qb B iR mU gd hX;have fE:=oA B iR mU fB jY f_;have i7:=tW B bj iR i_ bX gT d3 jM fE bo bD br bz;have CV:=ID B CZ i7 cL;have xy:=EZ B xo al;have jy:=vm B jP bh xy;have d4:=lw B T d6 dX jy;have g0:=sR B io d4;have C5:=C5.has (fun vs H Q E h=>Lp (E:=E) h)
 have nQ:=zS B oK bh;have t_:=DH B tS al;have lN:=xK B mt bh dJ nQ fj;have m1:=uj B bE de jg bh t_;have m2:=ww (P:=P) (w:=w) (base:=base) B bE de kP;have m3:=oG B bE de fK m2 m1 lN;have m4:=qd (P:=P) (w:=w) (base:=base) B bE de f8;have m5:=mQ (P:=P) (w:=w) (base:=base) B bE de eG iE eJ;have m6:=ya B bE de eG iE lY dq m3 m5;have m7:=tE B eG iE iC g0 m6;have m8:=qc (C:=fk) (P:=P) (w:=w) (base:=base) B eG iE gj;have Ky:=IR B bE de eG iE dy m4 m8 m7;have bw:=Ky.imp (fun _ _ _ _ h=>DK h)
 have n5:=kJ (P:=P) (w:=w) (base:=base) B cD d9 dO;have n6:=nE (nb:=6) B bE de cD d9 fh n5;have n7:=su (P:=P) (w:=w) (base:=base) B cD d9 hU;have n8:=rX B bE de cD d9 ij m3 n6 n5 n7;have n9:=sB B cD d9 iF n8;have g':=pe (C:=fk) (nb:=6) (P:=P) (w:=w) (base:=base) B cD d9 fA;have iP:=wm (by decide) (by decide) B bE de cD d9 kY m4 g' n9
 have CV:=CV.has (fun vs H Q E h=>LP (E:=E) h)
 have iZ:=zn (P:=P) (w:=w) (base:=base) B o6;have ao:=ze (P:=P) (w:=w) (base:=base) B nS;have CM:=Aa B oY ao;have cq:=xG B l_ ao;have lQ:=xY B mV ao;have oI:=zd B pj ao cq lQ;have zN:=xP B mi iZ ao oI;have xm:=vk B jR ao cq;have ku:=AB (P:=P) (w:=w) (base:=base) B oC;have jG:=vx B jK bw;have zT:=xS B lM bw iP ku jG;refine F.ok gX (fun vs H Q E h=> ?_) (fun h9 A hq s H vs Q E N h=> ?_)
 .obtain⟨a,ns,rfl,_⟩:=h
  rfl
 obtain⟨a,ns,rfl,hS,iv,hO,q⟩:=h
 refine⟨_,(ac (psS 1 gX.nd (pcH iZ N (pa2 (pv 0) aa)))
   (ac (psS 2 gX.nd (pcH CM N (pa1 (pv 1))))
   (ac (psS 3 gX.nd (pcH ao N (pa2 (pv 1) aa)))
   (ac (psS 4 gX.nd (pcH zN N (pa4 (pv 0) (pv 1) (pv 2) (pv 3))))
   (ac (psS 1 gX.nd (pcH iZ N (pa2 (pv 0) aa)))
   (ac (psS 5 gX.nd Bg)
   (ac (fg M7 (by rfl) (dY (eD (by rfl) B.range (pa1 (pcH ao N (pa2 (pv 1) aa))))) (aD (i:=6) gX.nd (by rfl) (by left;rfl)) (ae (vW (uQ N) (pv 5) (au aP (pX ag (pv 2) aa) (pcH ao N (pa2 (pv 1) (au jd aa (pX ag (pv 2) aa))))) (pcH cq N (pa2 (pv 1) (pv 2))) (by rfl))))
   (ac (psS 7 gX.nd (cn cQ (by rfl) B.tuple fQ (pa1 (ko (by rfl) (by rfl) (by rfl) (bk (sc0:=ah Es) (N0:=["_law_script","_law_deal_here","_law_room_here","_law_gates","_law_guest_here","_law_memory","_law_k","_law_boxes","_law_others","_law_start","_law_replies_here","_law_made"]) ["_law_k","_law_deal_here","_law_room_here"] 1 [1,2]) (eD (by rfl) B.range (pa1 aa)) (fun _ _ _ _=>(aD (i:=0) (show List.Nodup (["_law_k","_law_deal_here","_law_room_here"]:List Str) by decide) (by rfl) (by left;rfl))) (fun _ _ _ _=>(pcH cq N (pa2 (pv 1) (pv 2))))))))
   (ac (psS 8 gX.nd (aw (pa2 (pcH cq N (pa2 (pv 1) (pv 2))) (pcH ao N (pa2 (pv 1) (cI (v:=4294967296) (by rfl)))))))
   (ac (psS 9 gX.nd (aw (pa4 (pcH ao N (pa2 (pv 1) (aL aN (by rfl) B.len dD (pa1 (pv 4))))) (pv 7) (pv 5) (pv 8))))
   (ac (psS 10 gX.nd (pcH xm N (pa2 (pv 1) (pv 2))))
   (ac (fg M7 (by rfl) (dY (rT (bG (pa2 (pcH C5 N (pa3 (pv 4) (pv 2) (pv 3))) (pcH CV N (pa3 (pv 4) (pv 2) (pv 3))))))) (aD (i:=11) gX.nd (by rfl) (by left;rfl)) (ae (ay (ip (eL (pcH zT N (az (pv 4) (az (pv 2) (az (pv 3) (az (pv 11) (az (pv 9) (az (pv 10) (az aa dA)))))))))) (ae (ai uT)) am)))
   (ae (ai uT)))))))))))))),?_⟩
 try dsimp only[aT]
 walk_at"g";intro d1 H1 f1 hH s1;walk_at"g";intro rm Y O H2 r2 hR fL g2;have S2:ax H H2:=But.same s1 f1 g2;walk_at"g";intro gt H3 ia ha gb g3;have r3:=fL.tup g3 r2;have S3:ax H H3:=But.same S2 f1 g3;have hQ:gt<=16:=by lia
 have hG:∃H0,ax H0 H3/\H0 d1=none/\SqL K H0 a (ns.map V.int):=⟨H,S3,f1,hS⟩;clear ha;walk_at"g";intro g cb gs H4 g4 fy dc gu g6;have S4:ax H H4:=But.same S3 f1 g4;have r4:=gb.tup g4 r3;have i1:=S4.seq hS;clear s1 g2 g3 g4 S2 S3 r2 r3 hH fL gb hG;walk_at"g";intro d2 H5 f5 dp s5;have r5:=s5 _ _ r4;have hk:=hR.k20;have hh:(1:Int)*2^((Y:Int)).toNat=2^Y:=by rw[Pb,MN]
 have d':(2:Int)^Y<=2^20:=SpM.ple hk;have dv:=SpM.pp Y;rw[<- hh] at d' dv;have h2:Ah 1 (Y:Int):=⟨by lia,by lia,by decide⟩
 have nH:=aG.mk (And.intro d' dv);have gl:(cb.map V.ref).length=gs.length:=by rw[fI,dc.1]
 have ef:=aG.mk (And.intro gu.n0 g6);clear d' dv hk;walk_at"g";intro R b5;have s6:=s5.trans (af b5 (.dK []));have m6:upd H5 R (.dK []) R=some (.dK []):=ad;have hI:=dp.up (o:= .dK []) b5;have M:R≠d2:=dp.ne b5;have hc:=s5.free b5;generalize upd H5 R (.dK [])=H6 at*;clear dp r5;walk_at"g";intro n7 H7 e9 ej d7 g7;have m7:=g7 _ _ M m6;have s7:ax H4 H7:=But.same s6 f5 g7;clear hI m6 g7 s6;walk_at"g";refine⟨gU (fun i Z H'=>aG (∃(e:List (Key × V)) (x:Option V),e.length<=i/\b_ e/\H' R=some (.dK e)/\a_ H' d2/\ax H4 H'/\Z=[some (.ref a),some (.ref d2),some (.ref rm),some (.int gt),some (.ref g),some (.ref R),x,none,none,none,none,none])) ⟨[],none,Na _,(fun x hx=>absurd hx (by simp)),m7,d7,s7,rfl⟩ ?_ ?_⟩
 .intro i Z H8 hi d;refine aA fun G_ I=> ?_
  obtain⟨e,x,hl,et,m8,bu,s8,rfl⟩:=d;refine I ?_
  have ib:i<9:=by simp at hi;lia
  have r8:=s8 _ _ r4;clear hi e9 ej d7 m7 s7;walk_at"g";intro v H9 v0 v1 a7 b9;have s9:ax H4 H9:=But.same s8 f5 b9;have r9:=s9 _ _ r4;have m9:=b9 _ _ M m8;have bx:=aG.mk a7;clear a7;walk_at"g";refine⟨bx.out,nH.out.2,by have:=nH.out.1;lia,?_⟩
  intro r b0 q0 q1 L b4;have a8:ax H4 b0:=But.same s9 f5 b4;have cm:=b4 _ _ M m9;have il:tI b0 R (.int (O+r)) (.int v) (upd b0 R (.dK (dw e (.inl (O+r)) (.int v)))):=tI.k (k:= .inl (O+r)) cm (Nw (show e.length<=100 by lia) (by decide))
  have hY:=nM e (.inl (O+r)) (.int v);walk_at"g";exact aG.mk ⟨_,_,by lia,et.put v0 v1,ad,L.wr M,eR hc a8,rfl⟩
 intro Z H8 d;refine aA fun G_ I=> ?_
 obtain⟨e,x,hl,et,m8,bu,s8,rfl⟩:=d;refine I ?_
 have h5:e.length<=8:=by lia
 clear hl e9 ej d7 m7 s7;walk_at"g";intro p hp;have ez:p≠d2:=bu.ne hp;have fp:=s8.free hp;refine qT (lo:=0) (n:=6) (fun j b7 H'=>aG (But d2 H8 H')/\a_ H' d2/\H' p=some (.lst b7)/\∃bs:List Int,b7=bs.map V.int/\bs.length=j/\∀v∈bs,0<=v/\v<4294967296)
  ⟨⟨(af hp _).but⟩,bu.up hp,ad,[],rfl,rfl,fun v hv=>by cases hv⟩ ?_ ?_
 .intro j b7 H9 F hF hj d;refine aA fun G_ I=> ?_
  obtain⟨⟨g9⟩,a7,l9,bs,rfl,e8,ht⟩:=d;refine I ?_
  have hz:(bs.map V.int).length<sizeLine:=by
   rw[fI,e8];exact MJ (show j<100 by lia) (by decide)
  have r9:=bu.tup g9 (s8 _ _ r4);walk_at"g";intro v b0 v0 v1 L fx;have l10:=fx _ _ ez l9;walk_at"g";refine hF _ _ ⟨⟨wrB hp (g9.trans fx)⟩,L.wr ez,ad,bs++[v],by rw[MH];rfl,by rw[MA,e8];rfl,fun u hu=> ?_⟩
  rcases MZ.mp hu with hu | hu
  .exact ht u hu
  .rw[MY.mp hu];exact⟨v0,v1⟩
 intro b7 H9 d;refine aA fun G_ I=> ?_
 obtain⟨⟨g9⟩,a7,l9,bs,rfl,h6,hM⟩:=d;refine I ?_
 have s9:ax H4 H9:=But.same s8 f5 g9;have m9:=g9 _ _ M m8;clear g9 s8 bu m8;walk_at"g";intro bt fc;have a8:=s9.trans (af fc (.tup (bs.map V.int)));have dx:=af fc (.tup (bs.map V.int));have b4:upd H9 bt (.tup (bs.map V.int)) bt=some (.tup (bs.map V.int)):=ad;have L:=bp dx a7;have cm:=dx _ _ m9;generalize upd H9 bt (.tup (bs.map V.int))=b0 at*;have hg:=a8 _ _ r4;clear s9 a7 m9 dx l9;walk_at"g";intro v1 hP v10 v11 ct b8;have e6:ax H4 hP:=But.same a8 f5 b8;have f':=L.tup b8 b4;have eu:=b8 _ _ M cm;clear a8 L b4 cm b8 hg;walk_at"g";intro v2 dV gc hn cz b6;have eo:ax H4 dV:=But.same e6 f5 b6;have eT:=ct.tup b6 f';have f6:=b6 _ _ M eu;clear e6 ct f' eu b6;walk_at"g";intro ot gk;have b2:=af gk (.tup [.int v1,.int v2]);have ei:upd dV ot (.tup [.int v1,.int v2]) ot=some (.tup [.int v1,.int v2]):=ad;have ed:=eo.trans b2;have fb:=b2 _ _ eT;have eh:=b2 _ _ f6;have D:=bp b2 cz;generalize upd dV ot (.tup [.int v1,.int v2])=fv at*;have hN:SqL K fv g (cb.map V.ref)\/SqT K fv g (cb.map V.ref):= .inr (ed.tup fy);have bx:=aG.mk D;clear eo cz eT f6 b2 D;walk_at"g";refine⟨bx.out,by rw[gl];have:=ef.out;lia,by rw[gl];have:=ef.out;lia,?_⟩
 intro bb dT er f7 c9 ba;rw[gl] at f7;have D:=bx.out;have fa:ax H4 dT:=But.same ed f5 ba;have el:=D.tup ba fb;have es:=D.tup ba ei;have eS:=ba _ _ M eh;obtain⟨bb,rfl⟩:∃n:Nat,bb=n:=NC er;have h4:bb<gs.length:=by lia
 clear ed D fb eh ei hN ba bx f7 er;walk_at"g";intro st hC;have a6:=af hC (.tup [.int bb,.ref bt,.ref R,.ref ot]);have cp:upd dT st (.tup [.int bb,.ref bt,.ref R,.ref ot]) st=some (.tup [.int bb,.ref bt,.ref R,.ref ot]):=ad;have dm:=fa.trans a6;have eH:=a6 _ _ el;have ey:=a6 _ _ es;have e0:=a6 _ _ eS;have ar:=bp a6 c9;generalize upd dT st (.tup [.int bb,.ref bt,.ref R,.ref ot])=h8 at*;have hJ:=dm _ _ r4;clear fa c9 el eS es a6;walk_at"g";intro rl ys c ec h' a9 bW hD fl aH;have ee:ax H4 ec:=But.same dm f5 aH;have d0:=ar.tup aH eH;have eN:=ar.tup aH ey;have cH:=ar.tup aH cp;have dt:=aH _ _ M e0;have c8:SqT K ec g (cb.map V.ref):=ee.tup fy;have bH:=dc.same ee;have cj:=ee _ _ r4;have c':SqT K ec rm [.int Y,.int O]:=SqT.of cj;have h1:=gu.gub;have e':gs≠[]:=fun z=>by have:=gu.n0;rw[z] at this;exact absurd this (by decide)
 refine aA fun G_ I=> ?_
 obtain⟨M1,dh⟩:=Dr (ds:=gs.map cT) (fun z=>e' (Om.mp z))
 refine I ?_
 refine aA fun G_ I=> ?_
 obtain⟨M2,dR⟩:=Dr (ds:=gs.map (thD Y O)) (fun z=>e' (Om.mp z))
 refine I ?_
 have e4:∀bk∈gs,bk.length<=30:=fun bk hb=>(gu.blk bk hb).2.1
 have iw:∀bk∈gs, ∀kn∈bk,kn.1≠16:=fun bk hb kn hk=>((gu.blk bk hb).1 kn hk).nm.1
 clear dm ar eH ey e0 cp hJ aH fl;walk_at"g";intro m1 t1 eb dn;have m3:m1<=3:=GY eb (by lia)
 have t4:t1<=4:=F_ dh dn (fun bk _=>by
  have:=pM bk bk.length (MC _);rw[ML] at this
  exact this) e4
 have fm:m1+t1<=7:=by lia
 refine⟨fm,?_⟩
 intro q1 h7 b hA;have ep:=FF (k:=Y) (rb:=O) (reps:=c) gu dh eb dn fm;have a':=b.tup c8;have S:=bH.same b;have e5:=b.tup c';clear dh dn eb m3 t4;walk_at"g";intro m2 t2 ea dr;have m3:m2<=3:=GY ea (by lia)
 have t4:t2<=4:=F_ dR dr (fun bk _=>by
  have:=rD Y O bk bk.length (MC _);rw[ML] at this
  exact this) e4
 have ek:m2+t2<=7:=by lia
 refine⟨ek,?_⟩
 intro q2 cc U hB;have e7:=GO (k:=Y) (rb:=O) (reps:=c) gu dR ea dr ek;clear dR dr ea m3 t4;refine aA fun G_ I=> ?_
 obtain⟨a1,a2,a3,c0,c1,c2,c3,_⟩:=hA;refine I ?_
 refine aA fun G_ I=> ?_
 obtain⟨e1,e2,e3,c4,c5,c6,c7,_⟩:=hB;refine I ?_
 have J1:L83 K cc g rm q1 a1 a2 a3 bt R rl ⟨Y,O,m1,t1,gt,c⟩ _ gs _ bs e ys:=⟨Er (U.tup a') (S.same U),⟨⟨[],(b.trans U) _ _ cj⟩,hR⟩,U _ _ c0,⟨U _ _ c1,hR,by lia⟩,U _ _ c2,U _ _ c3,(b.trans U) _ _ d0,(b.trans U) _ _ dt,(b.trans U) _ _ a9,(bW.same b).same U⟩
 have J2:L83 K cc g rm q2 e1 e2 e3 bt R rl ⟨Y,O,m2,t2,gt,c⟩ _ gs _ bs e ys:=⟨Er (U.tup a') (S.same U),⟨⟨[],(b.trans U) _ _ cj⟩,hR⟩,c4,⟨c5,hR,by lia⟩,c6,c7,(b.trans U) _ _ d0,(b.trans U) _ _ dt,(b.trans U) _ _ a9,(bW.same b).same U⟩
 have eg:=(b.trans U) _ _ cH;have g8:=(b.trans U) _ _ eN;have ic:BxN 6 bs:=⟨h6,hM⟩;clear c0 c1 c2 c3 c4 c5 c6 c7 cH eN d0 dt a9 bW c8 bH a' S c' e5 cj;walk_at"g";intro lp g5;have hE:=af g5 (.lst [.ref q1,.ref q2]);have ew:upd cc lp (.lst [.ref q1,.ref q2]) lp=some (.lst [.ref q1,.ref q2]):=ad;refine⟨lp,rfl,⟨_,SqL.of ew⟩,?_⟩
 generalize upd cc lp (.lst [.ref q1,.ref q2])=hL at*;refine⟨wl (xs:=[.ref q1,.ref q2]) (fun i Z H'=>aG (∃y:Option V,ax hL H'/\Z=[some (.ref a),some (.ref d2),some (.ref rm),some (.int gt),some (.ref g),some (.ref R),x,some (.ref bt),some (.ref ot),some (.ref st),some (.ref rl),y])) ⟨none,ax.refl _,rfl⟩ ?_ ?_ ?_⟩
 .intro i Z H' _ d;refine aA fun G_ I=> ?_
  obtain⟨y,b1,_⟩:=d;refine I ?_
  exact b1.seq (SqL.of ew)
 .intro i u Z H20 hi d;refine aA fun G_ I=> ?_
  obtain⟨y,b1,rfl⟩:=d;refine I ?_
  have b':=hE.trans b1;have hW:=b' _ _ eg;have i2:=b' _ _ g8;have i3:0<=v1/\v1<4294967296:=⟨v10,v11⟩;have h3:0<=v2/\v2<4294967296:=⟨gc,hn⟩;obtain⟨ma,pl,cd,da,m,t,ws,fX,ft,G,PL,rfl,J,MM⟩:∃(ma pl cd da:Addr) (m t:Nat) (ws:List Int) (fX:Nat->Nat->Nat) (ft:Nat->Nat->Option (Int × Int)) (G:Nat->Nat->List Ins) (PL:List (List Key × V)),u= .ref ma/\L83 K H20 g rm ma pl cd da bt R rl ⟨Y,O,m,t,gt,c⟩ ws gs PL bs e ys/\M83 ⟨Y,O,m,t,gt,c⟩ ws gs fX ft G PL:=by
   match i,hi with
   | 0,hi=>cases hi;exact⟨_,_,_,_,_,_,_,_,_,_,_,rfl,J1.same b',ep⟩
   | 1,hi=>cases hi;exact⟨_,_,_,_,_,_,_,_,_,_,_,rfl,J2.same b',e7⟩
   | n+2,hi=>simp at hi
  refine aA fun G_ I=> ?_
  obtain⟨X,eX⟩:∃X:Fx,X=⟨Y,O,m,t,gt,c⟩:=⟨_,rfl⟩;refine I ?_
  rw[<- eX] at J MM;have hy:V.int gt=V.int X.pg:=by rw[eX]
  have hT:X.reps.length<=4:=by rw[eX];exact hD
  clear J1 J2 ep e7;rw[hy];walk_at"g";intro i0 hK;walk_at"g";refine sI rfl ?_
  exact aG.mk ⟨some (.ref ma),b1.trans hK,rfl⟩
 .intro Z H20 d;refine aA fun G_ I=> ?_
  obtain⟨y,b1,rfl⟩:=d;refine I ?_
  walk_at"g";exact q H20
end
end My
set_option Elab.async true
local macro_rules|`(command|#check [$x,*])=>return Lean.mkNullNode (<-x.getElems.mapM fun n=>`(command|def $(Lean.mkIdent (.str `PySem.Challenge.cw_fencemask_k83_whole_plain_and_masked_ali_holds ("tw"++n.raw[0].getAtomVal))):ident:=0))
#check [9200167995849777074,10951442728800068764,5316684305151768095,11351147894407443274,9348378505831311243,4249906142160063942,11816362567068463041,5461917646140842588,13142586951469206759,5801903932496728209,18119087796963246397,6381622165760284631,12448717758141316970,2264278721793898558,1676768819547800115,3454434786611434737,8928486927910443623,18259206852324300352,1047016132256182350,12754120935577409351,10082373908537374032,647517149452002447,144188590819336312,12595580221247357153,15636056546904488258,15500673428152703197,5900991257437949644,14501986975045430499,6595946452720082843,1491629973682612153,15385271320616053022,7088069917787398119,16197033372615841549,16545169473322304411,2550418939617919617,11063309065814731443,17293424810141034206,11712972502031406904,11980035324147017851,1992146360061502944,14351544538776542375,9231033290477499674,15612051278862773636,15021402705511009204,14564445512861724061,7864426316071537142,9207964173331162760,13157173030277754628,13646710009024833410,8051743463749653420,11976919136045743381,10299410036292094417,3558918832643351431,10663992471189949383,12634157124008750964,12577700351605467112,11939198320591940138,8237540717622206219,994644295682170521,15192790385755840700,3121992753923406995,10538352740931604314,109627490847326442,18013697755828023262,7801495994849197333,14997606573444435031,17849117459985684104,6210725711787170122,1610825178706548593,1096876382522680282,11216547790478122906,5269732336820696933,2216620260987788143,14043630350474915519,12187472154117670609,3841840806235920226,4946603687956609730,11116973302336152749,12808518679848897574,11239880606860235497,3901246114023054986,9231100075712639763,2158774048589055727,4665069833958610643,8941438863241475131,13235545080427193508,3181659305105324861,10171483258285660866,6520945458884186549,11240373103671806528,6569108629203991888,16017177322319341227,3487621863728469084,10096650685464132642,13510745284194815093,18179452773255609218,15268745420136877146,7688577045441575110,4775960826924281037,317692432794714004,14794292377510166818,7178860775080136617,9779556188605877129,559121790817045284,2625634986444959206,316657073628821482,9590509981042396996,9034068300535095679,12902149520695421106,3589697347324653266,14564468580952519858,1111036471516796191,7046111736802387716,11772724886477018690,581673654225599446,1791947945556516939,8760387443769970857,10568481099888539706,4750096461165020154,18176951088918403746,6803348981471708923,6149733676896418352,5110505808778517442,4353905392240051005,5311528105231147377,7198143133954409929,10135745363283165783,1705383055739179541,1125265619880021275,16051946240949617847,921150934195742869,6554579939377316031,9422499947100041633,14887218030000941191,8672389194709243726,13752568222475584676,7296504673772996182,17620678088759070125,7180957980764121859,7262533648995880514,1433226270087427531,16595429288067056774,1998752753760773201,5328333300966464026,5333153298631459762,4679414678560461918,17189626944459992713,13650083860807097737,8421573046992871483,11235028499033941405,9477970883242019119,5132254776772868084,16250696091972864344,17218106096485184480,11600398375752035226,14222665422965037774,10135648315310738879,12116075518640148883,15869007454308280784,1442932152739040069,2203895587326280343,18296990198793846902,3687798797601125666,7750563191647488377,9518374266390602855,17300529278561348801,4792553856943678332,13851928652004454409,7308089139355910234,509319802440279921,10400002657701790568,14114492864676577788,11051499669496243886,14069051762619409454,6910607464097222980,8074881812013749716,11056121932358448953,11931339723852756960,13819371068384586156,2348420252589418793,14397680710609023011,11091134764993726301,11567631572915629796,4953995148060992679,8221244567136804250,16593383458743161573,15541066107169293551,775397612552898306,14421891793868376122,15036607206433296644,17850258683864466560,3652312453140222315,12513488051351576584,3520469538951488205,2465102768421125922,13764991706325338551,9089100119541625470,11975859349583328442,12431196411783539292,451451375275252998,14209115723223547028,16013260392948304961,4364072173373353780,14087996483635788311,1233545014807280265,14929217471935127221,3135860889160442770,14295648368840114884,10880586880047553881,14028926285757757252,5859365783669838259,15859705522669125113,12180446648293474976,2608215472292066181,8643767339327268062,17131374819542584644,845545392713246264,379898414273553849,16116312420329754075,14677957692620000875,12001484417925485487,7464852484626556642,12378077565157143163,4745383733373504456,12882025031471986958,6887977266215474295,17882083601759996106,6093530056637844480,4970341919898174536,5274893821800380115,18316785032792506009,9465697500587670130,15044264176560800008,9930938365699393436,13584788754159914681,5870851763147994184,7729432998476366244,4192466818229948137,5996223881840126081,15341703078942701071,13114587348505050806,15387811211289561572,12568496036087905439,3028670331423057856,16216921266969207134,2862616903012571808,6136296330672064335,3379012030032667581,15655265577174431635,10317891581227383845,18308833374671042997,12678919841724103839,18073508186512162683,917111055688185007,14563039740996655262,7200744387969629267,2554314157420182197,971939419239375898,17182084012653216194,5391181487018546793,7886107408882016444,1071593331701613583,9456020894067497583,4429742355662403138,10640626138197389550,16628506037838158669,2787749943891872808,14758198189558690635,16217993613286439127,2665515441463834151,15137553705394403444,1119500148930765809,17379086058106783819,18258951581003734910,8987853705624782481,13760550686584187342,13696005540580962911,13690497695440535276,2142289612720949881,16722269044597549184,10994716755403752963,13403707936978876058,15262090097857160673,16284045462287554491,6093283922814991387,4666122912965974783,10956352133167900554,12092715259756824301,17833997943729045559,15202020658743036801,1882719639146258535,2302082486475850499,12546733266478040293,12399475209544317016,2646415603527673568,8226493318797949510,5637367538948519805,1596141621211001829,13284257280524902741,14835010131438847536,439836946950742073,3250270958763005844,505085119375276803,6683887956025393082,17709070652658098142,13645059133571701717,4931810959133208551,2561005828753268712,9272028232038098064,10479235135189729079,15187084303446967536,5444899211335114681,17373878589331354037,11877684841468881653,14841443784417933065,14272584659506176068,374863667634853315,7042063489823531304,5485866043714189840,6517066401007978363,7520068410595652311,4583330557627624755,18148313426289421895,4691938909113637746,5056103428045461096,8002263053064012892,5162951595525159228,17520154468383274210,2789835734670677909,2498090506461210465,7052374226060732935,15625157428571687635,17515729433013090479,8317698599400020093,9240113894928735833,10954069151420493852,10458093900031154782,10734465791924853656,14006397802182320700,12414996561781866594,17110424176995923690,2058574980648822446,2859382860994832518,15405491477388505196,9888369390998286973,5731533276127296703,4469391518075336689,47294058075141098,6498786622708825399,17882183193138025555,13303850534596360494,13085324642308598660,5632813615592744936,5879981745994690834,8585248718784218419,11781914545468096109,14523388482780430859,4941205386328399214,2882287169191595924,10299050344406343986,666026154728614219,7029865315554664284,13015549701693596666,18162422471116886507,2013401120165697091,12610934977967797447,15083176111485780521,1934376760043773623,1012151654393138983,11653984210505195836,2854192658294224174,9461326855102057696,6500874823423840170,13598968713544501319,10025687865609547968,17746698776281894091,10918389841214046228,3794354069739460286,16844570712685456444,15892697747472090552,16124670327960742983,6391133419238497590,5450889919435356977,9447626408713750644,16200119747282505105,4584630270331281441,11242804892248606627,17736226024688055599,17591847902031316014,10575111710760939131,2038527058895508904,13647832992080828184,1904599791866374599,16672051197452949427,9272044959510167002,3566923438346852086,17642632284800079041,10194012340172445545,17219561011571952928,9202855387462279012,6535848200980378107,17442256200470197817,5734222527134805457,13838635661260929014,10268928131904672856,2561633518531361879,1170157576081870970,13792760375466439810,7125676027735677374,5267449382967465036,11365514776426667057,16080429555933427525,5128996133224197242,2287288233197634276,3335256401818676000,16269350718756497153,7818364521850668118,13662892951702830276,16546066171952102751,16369369595457020906,11732616707330037205,9741139205831226822,15385360265799621724,488056713663402040,6544043888048293726,18222418898135381412,16024968889264239730,6248670415705851474,1399832413744340838,15383610976858732300,18072015710006179440,3848102979734182046,6359804352804555455,10226180989229822756,6895334630600022711,4747914272250760323,14988108658418073951,10704992288189962504,15981687493522030662,13245933791194697206,392196543409877492,3491901212083594861,1007172017266783378,10649134932081578419,15455729952706903019,11778354640150133719,5995653983419564517,5947192451046581520,17462495945143083842,4278505406403539840,506592618117142081,5168168685188805886,12819159833170849026,10223437083302869460,2186941002986951808,10241738798037585586,15011620551240630681,17145664532611678988,3305303437241766593,6044760536994270589,4942061578300482350,12504578378086923713,8095124117784917534,2274611241786591405,9721433290175661194,11659205600987871217,5748715360359845980,12045836205252447497,2629505470290360004,6278438452396391245,8186767015165290001,12881801135191394174,5149499234402670187,10007567951971065750,15528252686265489391,1971950939401837103,15594124758506676968,8936380508927343974,5854648564166348362,1618158849493891669,14276561222154026058,2842210254953381502,12635779819094235717,7023844832938793327,17575245486488740630,17711594289852200613,16589041580397815973,15367983732409798669,11754382546635492346,13786364466533234271,1515317856240435625,11092826952089688822,6410914940342143243,13811882946047240678,15487502384072348504,1139193907641913541,9425668588757694567,14838936552166460659,6806199003583846226,5825578625450827470,11066441289867261721,16009956605594005548,1827211288498888721,15709560018627965229,11152177486329377250,3859640393609943564,4798914422212506381,18366395648303291892,12553722359990647436,16627137860534526319,16994539842963135056,11696313011434426229,7450360052809958957,1581204515261554956,289767746236521423,7918833040890988728,1961309925103989386,4707667830469238754,415470206742113274,16755779419169255379,2722516927809787487,16737121259468881297,12059586625051966087,4038747919710052318,17648872065878991191,14921929124786029803,6014706954552982523,10572917922806247977,18271831977189652775,11868920064069821536,14822938886990259147,11392460456943101826,2420855262244064604,6557273473866411951,10980900339770109345,16009438773960100859,10945108989485370416,5566831077101057251,6373038678752454901,4883806206856490261,15910253034750622707,18133360378872043883,11833467327052671844,9265092394405042312,9324428249844275917,4742114114868036203,2759040480684882195,17935499062032423893,8581891773593482138,18321732603821297977,6921602956962690577,1356491898241124112,6619434438782475231,18079901554397675409,9329450808453482414,6873533271803908156,10635439797814668225,13576651935191251007,13789218440673275865,14951973274205085948,671651375188358284,5869699769610182170,4800026909153527321,13124559778667989965,6968614555704840930,15270874632536742150,9548496340281165174,4738349399366806399,10297398824030721305,1365207046196461973,2819305347671087311,8809115254255448642,6064530709420186134,6075156693126222875,466725909998680252,2402577746183123850,10201387986257960669,16431624999183500772,7486804262245666299,6615325530626139598,6094967267986628636,8693882104473992906,2504711571120144013,17989896456898186130,10780351270181190358,15943539098885297006,16445816013411748064,12373363379522747842,10629565913090652789,1932334606470643743,17404561189026471856,16875001012404341654,10867207113204781733,12657181419533001320,12160335406444653639,13538254818312172006,2439016516840619240,13792456637089380973,3624640577275788720,9141023356489604285,10879692923991933638,3048450187227002306,610976713472042903,10410202169947850436,1003250436529430574,141141885072561439,4052059748729387910,6292040201959095619,15199878898634422753,283057590821533204,12404177960516408077,16178384802536213999,13553754316595946166,12426216283763646382,2923596585793634086,15364639637499789795,14967888938784539592,9624272509544717030,8954013668390055344,3566296353957295258,14901993854069569680,14001100868037368439,7034213749988778252,11159317832938353711,10337387643955479514,6804344856008747279,6904999780143648479,12136615002017414622,16338654004540845170,705296960236341375,15980230273515423891,71289716557202441,12374375521951657558,3515046550593975585,14258688507274778605,15619424145299669417,17888346413990839237,4748005036354478989,7183238732717917755,15994630132700442818,6279922707224556760,14670410383053621037,6977046655974595829,13460304200328218489,14238372545603415272,5483557698796622571,6685619761045818790,16488726664109122560,17520633741102250200,10364156385833788434,3405318597516318367,16980200252081894002,5365025646485166710,15636421315298432263,1938316528460570265,8900207742484018210,13013598567663896236,14379983856966686176,519103796694041614,10215696008171934835,6323482436704219410,13250240206224437135,16424808504341454481,6040096030215686278,7008626026102696846,14166452568092820023,7912561864176746882,1766185328330408627,7466095095313726945,9025901143197806272,17123302243993294942,6173613253873198524,15391451011674550848,4413863805126051463,13577491738547924108,831971172753274990,2014826680338813328,438560455420207134,11932461405775745062,7242578907325447981,3367763468421291664,1224483028758532275,1823020577930550001,17202184361883864078,2551646734200589008,17444988546758583703,10210055665604343157,7102450552311387638,14091535793445418307,4052105547404349480,10583968649364918857,2363198766301892576,4762217329132714475]
open PySem PySem.W PyProof.Rows
set_option maxRecDepth 100000 in
set_option maxHeartbeats 0 in
theorem PySem.Challenge.cw_fencemask_k83_whole_plain_and_masked_ali_holds : PySem.Challenge.rw_fencemask_k83_whole_plain_and_masked_ali.Holds := by
 w_on;o_law;k_head;(case hw=>w_witness2)
 k_fill
 refine L2.GH (l:=PySem.Challenge.rw_fencemask_k83_whole_plain_and_masked_ali) (k:=12) (d:=_) (x:="_law_script") rfl rfl ⟨rfl,by decide,by decide⟩ (fun w h Y=>PySem.W.kIn_of Y) ?F
 case F=>
  intro w mg fa h KX G hmg;have B:L2.Bi mg:=by
   refine' L2.K4 KX G ?z0 ?z1 ?z2 ?z3 ?z4 ?z5 ?z6 ?z7 ?z8 ?z9 ?z10 ?z11 ?z12 ?z13 ?z14 ?z15
   (case z0=>k_is)
   (case z1=>k_is)
   (case z2=>k_is)
   (case z3=>k_is)
   (case z4=>k_is)
   (case z5=>k_is)
   (case z6=>k_is)
   (case z7=>k_is)
   (case z8=>k_is)
   (case z9=>k_is)
   (case z10=>k_is)
   (case z11=>k_is)
   (case z12=>k_is)
   (case z13=>k_is)
   (case z14=>k_is)
   (case z15=>k_is)
  have T:My.Tb (L2.KOf KX) mg w.params:=by
   dsimp only[L2.KOf];refine' My.Lk KX G ?s (L2.fP ?sl ?sz ?sv) ?a ?l (L2.fP ?l0 ?z0 ?v0) (L2.fP ?l1 ?z1 ?v1) (L2.fP ?l2 ?z2 ?v2) (L2.fP ?l3 ?z3 ?v3) (L2.fP ?l4 ?z4 ?v4) (L2.fP ?l5 ?z5 ?v5) (L2.fP ?l6 ?z6 ?v6) (L2.fP ?l7 ?z7 ?v7) (L2.fP ?l8 ?z8 ?v8) (L2.fP ?l9 ?z9 ?v9) (L2.fP ?l10 ?z10 ?v10) (L2.fP ?l11 ?z11 ?v11) (L2.fP ?l12 ?z12 ?v12) (L2.fP ?l13 ?z13 ?v13) (L2.fP ?l14 ?z14 ?v14) (L2.fP ?l15 ?z15 ?v15) (L2.fP ?l16 ?z16 ?v16) (L2.fP ?l17 ?z17 ?v17) (L2.fP ?l18 ?z18 ?v18)
   case s | sl | a | l | l0 | l1 | l2 | l3 | l4 | l5 | l6 | l7 | l8 | l9 | l10 | l11 | l12 | l13 | l14 | l15 | l16 | l17 | l18=>k_is
   case sz | z0 | z1 | z2 | z3 | z4 | z5 | z6 | z7 | z8 | z9 | z10 | z11 | z12 | z13 | z14 | z15 | z16 | z17 | z18=>exact Nat.le_of_ble_eq_true rfl
   case sv | v0 | v1 | v2 | v3 | v4 | v5 | v6 | v7 | v8 | v9 | v10 | v11 | v12 | v13 | v14 | v15 | v16 | v17 | v18=>repeat' (first | exact PySem.Paired.nil | refine PySem.Paired.cons ⟨_,rfl⟩ ?_)
  have T2:My.Tb2 (L2.KOf KX) mg:=by
   dsimp only[L2.KOf];refine' ⟨⟨_,PySem.W.mg_of KX G ?a1,L2.fP ?l1 ?z1 ?v1⟩⟩
   (case a1=>k_is);(case l1=>k_is);(case z1=>exact Nat.le_of_ble_eq_true rfl);(case v1=>repeat' (first | exact PySem.Paired.nil | refine PySem.Paired.cons ⟨_,rfl⟩ ?_))
  have Tx:∃CT,mg "TooLong"=some (.ref CT)/\L2.EK (L2.KOf KX) CT:=by
   dsimp only[L2.KOf];refine' ⟨_,PySem.W.mg_of KX G ?a,⟨?b⟩⟩
   (case a=>k_is);(case b=>k_exc)
  have⟨df,bj,cv,eW,dB,eK,iM,d8,dQ⟩:∃C:Addr,L2.cA (L2.KOf KX) mg "LaidBlock" C/\My.cx (L2.KOf KX) C/\My.e_ (L2.KOf KX) C/\My.dC (L2.KOf KX) C/\My.eI (L2.KOf KX) C/\My.iI (L2.KOf KX) C/\My.d5 (L2.KOf KX) C/\My.dN (L2.KOf KX) C:=by
   dsimp only[L2.KOf];refine' ⟨_,L2.rM KX G ?a ?pg ?hd ?po ?sa ?mk ?kp,⟨?n0,?n1,?n2⟩,L2.bJ My.nA ?a0 ?l0 ?c0 ?f0 ?k0,L2.bJ My.j8 ?a1 ?l1 ?c1 ?f1 ?k1,L2.bJ My.mM ?a2 ?l2 ?c2 ?f2 ?k2,L2.bJ My.rn ?a3 ?l3 ?c3 ?f3 ?k3,L2.bJ My.lr ?a4 ?l4 ?c4 ?f4 ?k4,L2.bJ My.kU ?a5 ?l5 ?c5 ?f5 ?k5⟩
   (case a=>k_is);(case pg=>k_is);(case hd=>k_is);(case po=>k_is);(case sa=>k_is);(case mk=>k_is);(case kp=>k_is)
   (case n0=>k_is);(case n1=>k_is);(case n2=>k_is)
   (case a0=>k_is);(case l0=>k_is);(case c0=>k_is);(case f0=>k_is);(case k0=>k_is)
   (case a1=>k_is);(case l1=>k_is);(case c1=>k_is);(case f1=>k_is);(case k1=>k_is)
   (case a2=>k_is);(case l2=>k_is);(case c2=>k_is);(case f2=>k_is);(case k2=>k_is)
   (case a3=>k_is);(case l3=>k_is);(case c3=>k_is);(case f3=>k_is);(case k3=>k_is)
   (case a4=>k_is);(case l4=>k_is);(case c4=>k_is);(case f4=>k_is);(case k4=>k_is)
   (case a5=>k_is);(case l5=>k_is);(case c5=>k_is);(case f5=>k_is);(case k5=>k_is)
  have⟨kA,iR,mU,gY,jZ,fZ,fB,gd⟩:∃C:Addr,L2.cA (L2.KOf KX) mg "Known" C/\My.lT (L2.KOf KX) C/\My.iB (L2.KOf KX) C/\My.jE (L2.KOf KX) C/\My.fW (L2.KOf KX) C/\My.fG (L2.KOf KX) C/\My.gf (L2.KOf KX) C:=by
   dsimp only[L2.KOf];refine' ⟨_,L2.rM KX G ?a ?pg ?hd ?po ?sa ?mk ?kp,⟨?n0,?n1,?n2⟩,L2.bJ My.rQ ?a0 ?l0 ?c0 ?f0 ?k0,L2.bJ My.vz ?a1 ?l1 ?c1 ?f1 ?k1,L2.bJ My.qg ?a2 ?l2 ?c2 ?f2 ?k2,L2.bJ My.nZ ?a3 ?l3 ?c3 ?f3 ?k3,L2.bJ My.qa ?a4 ?l4 ?c4 ?f4 ?k4⟩
   (case a=>k_is);(case pg=>k_is);(case hd=>k_is);(case po=>k_is);(case sa=>k_is);(case mk=>k_is);(case kp=>k_is)
   (case n0=>k_is);(case n1=>k_is);(case n2=>k_is)
   (case a0=>k_is);(case l0=>k_is);(case c0=>k_is);(case f0=>k_is);(case k0=>k_is)
   (case a1=>k_is);(case l1=>k_is);(case c1=>k_is);(case f1=>k_is);(case k1=>k_is)
   (case a2=>k_is);(case l2=>k_is);(case c2=>k_is);(case f2=>k_is);(case k2=>k_is)
   (case a3=>k_is);(case l3=>k_is);(case c3=>k_is);(case f3=>k_is);(case k3=>k_is)
   (case a4=>k_is);(case l4=>k_is);(case c4=>k_is);(case f4=>k_is);(case k4=>k_is)
  have⟨fk,bE,de,f8,fK,jg,kP⟩:∃C:Addr,L2.cA (L2.KOf KX) mg "Holding" C/\My.cZ (L2.KOf KX) C/\My.f9 (L2.KOf KX) C/\My.fC (L2.KOf KX) C/\My.jc (L2.KOf KX) C/\My.kT (L2.KOf KX) C:=by
   dsimp only[L2.KOf];refine' ⟨_,L2.rM KX G ?a ?pg ?hd ?po ?sa ?mk ?kp,⟨?n0,?n1,?n2,?n3,?n4,?n5⟩,L2.bJ My.pW ?a0 ?l0 ?c0 ?f0 ?k0,L2.bJ My.oi ?a1 ?l1 ?c1 ?f1 ?k1,L2.bJ My.ud ?a2 ?l2 ?c2 ?f2 ?k2,L2.bJ My.wN ?a3 ?l3 ?c3 ?f3 ?k3⟩
   (case a=>k_is);(case pg=>k_is);(case hd=>k_is);(case po=>k_is);(case sa=>k_is);(case mk=>k_is);(case kp=>k_is)
   (case n0=>k_is);(case n1=>k_is);(case n2=>k_is);(case n3=>k_is);(case n4=>k_is);(case n5=>k_is)
   (case a0=>k_is);(case l0=>k_is);(case c0=>k_is);(case f0=>k_is);(case k0=>k_is)
   (case a1=>k_is);(case l1=>k_is);(case c1=>k_is);(case f1=>k_is);(case k1=>k_is)
   (case a2=>k_is);(case l2=>k_is);(case c2=>k_is);(case f2=>k_is);(case k2=>k_is)
   (case a3=>k_is);(case l3=>k_is);(case c3=>k_is);(case f3=>k_is);(case k3=>k_is)
  have⟨ie,eG,iE,gj,iC,lY,eJ⟩:∃C:Addr,L2.cA (L2.KOf KX) mg "Machine" C/\My.gQ (L2.KOf KX) C/\My.gg (L2.KOf KX) C/\My.iK (L2.KOf KX) C/\My.mz (L2.KOf KX) C/\My.eO (L2.KOf KX) C:=by
   dsimp only[L2.KOf];refine' ⟨_,L2.rM KX G ?a ?pg ?hd ?po ?sa ?mk ?kp,⟨?n0,?n1,?n2,?n3⟩,L2.bJ My.pZ ?a0 ?l0 ?c0 ?f0 ?k0,L2.bJ My.sT ?a1 ?l1 ?c1 ?f1 ?k1,L2.bJ My.xZ ?a2 ?l2 ?c2 ?f2 ?k2,L2.bJ My.mW ?a3 ?l3 ?c3 ?f3 ?k3⟩
   (case a=>k_is);(case pg=>k_is);(case hd=>k_is);(case po=>k_is);(case sa=>k_is);(case mk=>k_is);(case kp=>k_is)
   (case n0=>k_is);(case n1=>k_is);(case n2=>k_is);(case n3=>k_is)
   (case a0=>k_is);(case l0=>k_is);(case c0=>k_is);(case f0=>k_is);(case k0=>k_is)
   (case a1=>k_is);(case l1=>k_is);(case c1=>k_is);(case f1=>k_is);(case k1=>k_is)
   (case a2=>k_is);(case l2=>k_is);(case c2=>k_is);(case f2=>k_is);(case k2=>k_is)
   (case a3=>k_is);(case l3=>k_is);(case c3=>k_is);(case f3=>k_is);(case k3=>k_is)
  have⟨dZ,cD,d9,fA,iF,ij,dO,fh,hU⟩:∃C:Addr,L2.cA (L2.KOf KX) mg "PlainRun" C/\My.eB (L2.KOf KX) C/\My.fD (L2.KOf KX) C/\My.gW (L2.KOf KX) C/\My.iy (L2.KOf KX) C/\My.dI (L2.KOf KX) C/\My.eV (L2.KOf KX) C/\My.iz (L2.KOf KX) C:=by
   dsimp only[L2.KOf];refine' ⟨_,L2.rM KX G ?a ?pg ?hd ?po ?sa ?mk ?kp,⟨?n0,?n1,?n2,?n3⟩,L2.bJ My.nU ?a0 ?l0 ?c0 ?f0 ?k0,L2.bJ My.rF ?a1 ?l1 ?c1 ?f1 ?k1,L2.bJ My.sC ?a2 ?l2 ?c2 ?f2 ?k2,L2.bJ My.kI ?a3 ?l3 ?c3 ?f3 ?k3,L2.bJ My.nC ?a4 ?l4 ?c4 ?f4 ?k4,L2.bJ My.sO ?a5 ?l5 ?c5 ?f5 ?k5⟩
   (case a=>k_is);(case pg=>k_is);(case hd=>k_is);(case po=>k_is);(case sa=>k_is);(case mk=>k_is);(case kp=>k_is)
   (case n0=>k_is);(case n1=>k_is);(case n2=>k_is);(case n3=>k_is)
   (case a0=>k_is);(case l0=>k_is);(case c0=>k_is);(case f0=>k_is);(case k0=>k_is)
   (case a1=>k_is);(case l1=>k_is);(case c1=>k_is);(case f1=>k_is);(case k1=>k_is)
   (case a2=>k_is);(case l2=>k_is);(case c2=>k_is);(case f2=>k_is);(case k2=>k_is)
   (case a3=>k_is);(case l3=>k_is);(case c3=>k_is);(case f3=>k_is);(case k3=>k_is)
   (case a4=>k_is);(case l4=>k_is);(case c4=>k_is);(case f4=>k_is);(case k4=>k_is)
   (case a5=>k_is);(case l5=>k_is);(case c5=>k_is);(case f5=>k_is);(case k5=>k_is)
  have jD:=L2.aF My.vj KX G (by k_is) (by k_is) (by k_is) (by k_is)
  have DB:=L2.aF My.Jf KX G (by k_is) (by k_is) (by k_is) (by k_is)
  have Aw:=L2.aF My.FA KX G (by k_is) (by k_is) (by k_is) (by k_is)
  have xo:=L2.aF My.ET KX G (by k_is) (by k_is) (by k_is) (by k_is)
  have mn:=L2.aF My.xU KX G (by k_is) (by k_is) (by k_is) (by k_is)
  have jP:=L2.aF My.vF KX G (by k_is) (by k_is) (by k_is) (by k_is)
  have mq:=L2.aF My.xJ KX G (by k_is) (by k_is) (by k_is) (by k_is)
  have rc:=L2.aF My.Cm KX G (by k_is) (by k_is) (by k_is) (by k_is)
  have nV:=L2.aF My.AD KX G (by k_is) (by k_is) (by k_is) (by k_is)
  have d6:=L2.aF My.lD KX G (by k_is) (by k_is) (by k_is) (by k_is)
  have io:=L2.aF My.tG KX G (by k_is) (by k_is) (by k_is) (by k_is)
  have qX:=L2.aF My.BX KX G (by k_is) (by k_is) (by k_is) (by k_is)
  have jw:=L2.aF My.vb KX G (by k_is) (by k_is) (by k_is) (by k_is)
  have oK:=L2.aF My.Ar KX G (by k_is) (by k_is) (by k_is) (by k_is)
  have oy:=L2.aF My.Ac KX G (by k_is) (by k_is) (by k_is) (by k_is)
  have mt:=L2.aF My.xF KX G (by k_is) (by k_is) (by k_is) (by k_is)
  have lR:=L2.aF My.xC KX G (by k_is) (by k_is) (by k_is) (by k_is)
  have iD:=L2.aF My.rB KX G (by k_is) (by k_is) (by k_is) (by k_is)
  have wI:=L2.aF My.EG KX G (by k_is) (by k_is) (by k_is) (by k_is)
  have o8:=L2.aF My.y8 KX G (by k_is) (by k_is) (by k_is) (by k_is)
  have jL:=L2.aF My.vJ KX G (by k_is) (by k_is) (by k_is) (by k_is)
  have pD:=L2.aF My.zX KX G (by k_is) (by k_is) (by k_is) (by k_is)
  have qP:=L2.aF My.AN KX G (by k_is) (by k_is) (by k_is) (by k_is)
  have qG:=L2.aF My.BO KX G (by k_is) (by k_is) (by k_is) (by k_is)
  have qM:=L2.aF My.Bo KX G (by k_is) (by k_is) (by k_is) (by k_is)
  have tY:=L2.aF My.Dq KX G (by k_is) (by k_is) (by k_is) (by k_is)
  have oo:=L2.aF My.Al KX G (by k_is) (by k_is) (by k_is) (by k_is)
  have oT:=L2.aF My.zL KX G (by k_is) (by k_is) (by k_is) (by k_is)
  have mP:=L2.aF My.xQ KX G (by k_is) (by k_is) (by k_is) (by k_is)
  have kS:=L2.aF My.wD KX G (by k_is) (by k_is) (by k_is) (by k_is)
  have pd:=L2.aF My.zY KX G (by k_is) (by k_is) (by k_is) (by k_is)
  have rh:=L2.aF My.Bx KX G (by k_is) (by k_is) (by k_is) (by k_is)
  have qB:=L2.aF My.By KX G (by k_is) (by k_is) (by k_is) (by k_is)
  have kB:=L2.aF My.wA KX G (by k_is) (by k_is) (by k_is) (by k_is)
  have nJ:=L2.aF My.zV KX G (by k_is) (by k_is) (by k_is) (by k_is)
  have jx:=L2.aF My.vh KX G (by k_is) (by k_is) (by k_is) (by k_is)
  have i9:=L2.aF My.tQ KX G (by k_is) (by k_is) (by k_is) (by k_is)
  have mL:=L2.aF My.xW KX G (by k_is) (by k_is) (by k_is) (by k_is)
  have mf:=L2.aF My.ye KX G (by k_is) (by k_is) (by k_is) (by k_is)
  have wk:=L2.aF My.E9 KX G (by k_is) (by k_is) (by k_is) (by k_is)
  have zj:=L2.aF My.Hw KX G (by k_is) (by k_is) (by k_is) (by k_is)
  have kO:=L2.aF My.wn KX G (by k_is) (by k_is) (by k_is) (by k_is)
  have o_:=L2.aF My.Ag KX G (by k_is) (by k_is) (by k_is) (by k_is)
  have ix:=L2.aF My.sy KX G (by k_is) (by k_is) (by k_is) (by k_is)
  have og:=L2.aF My.zq KX G (by k_is) (by k_is) (by k_is) (by k_is)
  have ii:=L2.aF My.se KX G (by k_is) (by k_is) (by k_is) (by k_is)
  have jO:=L2.aF My.vq KX G (by k_is) (by k_is) (by k_is) (by k_is)
  have j5:=L2.aF My.vi KX G (by k_is) (by k_is) (by k_is) (by k_is)
  have DJ:=L2.aF My.Il KX G (by k_is) (by k_is) (by k_is) (by k_is)
  have i_:=L2.aF My.uq KX G (by k_is) (by k_is) (by k_is) (by k_is)
  have CZ:=L2.aF My.Ix KX G (by k_is) (by k_is) (by k_is) (by k_is)
  have tS:=L2.aF My.Du KX G (by k_is) (by k_is) (by k_is) (by k_is)
  have d_run:=L2.aF My.J_ KX G (by k_is) (by k_is) (by k_is) (by k_is)
  have kY:=L2.aF My.wW KX G (by k_is) (by k_is) (by k_is) (by k_is)
  have o6:=L2.aF My.zl KX G (by k_is) (by k_is) (by k_is) (by k_is)
  have nS:=L2.aF My.zW KX G (by k_is) (by k_is) (by k_is) (by k_is)
  have oY:=L2.aF My.As KX G (by k_is) (by k_is) (by k_is) (by k_is)
  have l_:=L2.aF My.xL KX G (by k_is) (by k_is) (by k_is) (by k_is)
  have mV:=L2.aF My.xT KX G (by k_is) (by k_is) (by k_is) (by k_is)
  have pj:=L2.aF My.Ay KX G (by k_is) (by k_is) (by k_is) (by k_is)
  have mi:=L2.aF My.xE KX G (by k_is) (by k_is) (by k_is) (by k_is)
  have jR:=L2.aF My.vB KX G (by k_is) (by k_is) (by k_is) (by k_is)
  have oC:=L2.aF My.AE KX G (by k_is) (by k_is) (by k_is) (by k_is)
  have jK:=L2.aF My.vE KX G (by k_is) (by k_is) (by k_is) (by k_is)
  have lM:=L2.aF My.x5 KX G (by k_is) (by k_is) (by k_is) (by k_is)
  refine' L2.KN My.KK KX G hmg ?a ?l ?c ?k (fun f fd D base=>My.Ks B T T2 Tx bj cv iR mU bE de eG iE cD d9 jD DB Aw xo mn jP mq rc nV d6 io qX jw oK oy mt lR iD wI o8 jL pD qP qG qM tY oo oT mP kS pd rh qB kB nJ jx i9 eW dB eK iM d8 dQ mL mf wk zj kO o_ ix og ii jO j5 DJ gY jZ fZ fB gd i_ CZ tS f8 fK jg kP gj iC lY eJ d_run fA iF ij dO fh hU kY o6 nS oY l_ mV pj mi jR oC jK lM D)
  case a | l | c | k=>k_is
