import PyProof.Rows.All
import KE.KItem
import OpenK.KEqL
import KE.KIsAll
import KE.KIntText
import KE.KDictOf
import PySem.Challenge.RW_fencemask_k92_texts_refused
open PySem.W (Frag)
set_option Elab.async false
set_option linter.all false
set_option maxRecDepth 100000
section
local macro_rules(kind:=Lean.Parser.Command.declaration)|s=>do
 let v:=s[1][3]
 unless v.isOfKind ``Lean.Parser.Command.declValSimple&&v[0].getPos?.isSome&&s[1].isOfKind ``Lean.Parser.Command.theorem do Lean.Macro.throwUnsupported
 return s.setArg 1 (s[1].setArg 3 ((v.setArg 0 (.atom .none ":=")).setArg 1 (<-if v[1].isOfKind ``Lean.Parser.Term.byTactic then `(by with_unfolding_all ($(⟨v[1][1]⟩):tacticSeq)) else `(by with_unfolding_all exact $(⟨v[1]⟩)))))
def be:=@List.length_map
def gV:=@PySem.Heap.get?_push_of_some
def RV:=@PySem.wpAny_bind
def RW:=@decide_eq_false
def RX:=@List.getElem?_eq_some_iff
def RY:=@Nat.le_trans
def RZ:=@List.length_append
def R0:=@decide_eq_true
def R1:=@List.getElem?_eq_getElem
def R3:=@Nat.le_refl
def R4:=@List.length_cons
def R5:=@List.map_append
def R6:=@if_neg
def R7:=@List.size_toArray
def R8:=@List.mem_cons_of_mem
def R9:=@if_pos
def R_:=@PySem.Heap.lt_size
def Sa:=@List.mem_of_getElem?
def Sb:=@Nat.lt_of_lt_of_le
def Sd:=@Nat.le_of_ble_eq_true
def Se:=@List.mem_cons
def Sf:=@PySem.wpAny_pure
def Sg:=@List.length_take
def Sh:=@PySem.Heap.get?_push_size
def Sj:=@Option.some.inj
def Sk:=@Nat.ne_of_lt
def Sl:=@List.take_length
def Sm:=@Bool.false_ne_true
def Sn:=@List.mem_cons_self
def So:=@PySem.F.plainAttrs_str
def Sr:=@PySem.F.plainAttrs_list
def Ss:=@List.map_cons
def Su:=@Bool.and_eq_true
def Sw:=@PySem.PassesOwn.never
def Sx:=@List.getElem?_map
def Sy:=@beq_eq_false_iff_ne
def Sz:=@List.getD_eq_getElem?_getD
def SA:=@PySem.wpAny_loadPart_at
def SB:=@Nat.lt_of_le_of_lt
def SD:=@Ne.symm
def SE:=@of_decide_eq_true
def SG:=@List.drop_eq_getElem_cons
def SH:=@List.length_drop
def SI:=@Int.eq_ofNat_of_zero_le
def SJ:=@List.append_nil
def SK:=@Nat.zero_le
def SL:=@PySem.F.slot_list_append
def SM:=@PySem.F.type_list_append
def SN:=@List.mem_singleton
def SO:=@List.length_replicate
def SQ:=@List.append_assoc
def SR:=@List.mem_append
def SS:=@List.not_mem_nil
def SU:=@List.getElem?_append_right
def SV:=@List.mem_append_right
def SW:=@List.getElem?_append_left
def SX:=@PySem.wpAny_field
def SY:=@List.mem_map
def SZ:=@PyProof.Rows.callWith_type1
def S0:=@List.replicate_succ
def S7:=@List.all_eq_true
def S8:=@PySem.wpAny_mono
def S9:=@PySem.W.mg_none_of
def S_:=@List.contains_cons
def Ta:=@Nat.ne_of_beq_eq_false
def Tc:=@beq_iff_eq
def Tf:=@beq_self_eq_true
def Tg:=@Int.toNat_natCast
def Th:=@PySem.F.slot_str_join
def Ti:=@PySem.F.type_str_join
def Tj:=@PySem.wpAny_loadPart'
def Tn:=@PySem.wpAny_Call_Name_kw
def To:=@Bool.false_and
def Tp:=@PySem.Heap.size_push
def Tq:=@PySem.wpAny_newObj_type
def Tt:=@List.take_of_length_le
def Tu:=@List.Sublist.length_le
def Tv:=@PySem.mem_of_lookup
def Tw:=@List.lookup_cons
def Tz:=@Nat.ne_of_gt
def TB:=@List.sum_cons
def TC:=@Nat.pow_le_pow_right
def TF:=@PySem.codeAny_call_builtin
def TH:=@PySem.W.kia_one
def TJ:=@PySem.wpAny_callSpecial?_slot
def TL:=@decide_eq_true_eq
def TM:=@PySem.call_meets
def TN:=@PySem.wpAny_isSubtype_exc
def TQ:=@List.takeWhile_cons
def TU:=@Nat.mul_le_mul_left
def TV:=@PySem.F.slot_str_split
def TX:=@PySem.F.type_str_split
def TY:=@Nat.lt_irrefl
def TZ:=@PySem.wpAny_standAt
def T3:=@Bool.and_true
def T4:=@PySem.F.slot_tuple_iterator_next
def T5:=@PySem.wpAny_seqItems
def T7:=@PySem.wpAny_setField_rec
def T8:=@List.mem_replicate
def T9:=@List.getElem?_toArray
def T_:=@PySem.builtinLookup_eq_fast
def Ua:=@PySem.wpAny_passesOwn
def Ub:=@Nat.min_eq_left
def Uc:=@List.range_succ
def Ud:=@PySem.wpAny_truthy_bool
def Ue:=@or_false
def Ug:=@Nat.mul_le_mul_right
def Uh:=@PySem.wpAny_pyIter_enum
def Ui:=@Bool.or_true
def Uj:=@List.map_take
def Uk:=@List.map_drop
def Ul:=@PySem.F.slot_list_extend
def Um:=@PySem.F.type_list_extend
def Uo:=@Bool.true_and
def Up:=@PyProof.Rows.slot_tuple_getitem
def Uq:=@List.map_eq_nil_iff
def Ur:=@Int.toNat_of_nonneg
def Us:=@List.take_succ
def Ut:=@PySem.sizeLine_eq
def Uu:=@Nat.le_of_lt
def Uv:=@List.getElem?_set_self
def Uw:=@PySem.wpAny_pyIter_tuple
def Ux:=@List.mem_filterMap
def Uy:=@PySem.codeAny_mono
def Uz:=@PySem.Heap.get?_update_other
def UA:=@List.find?_cons
def UB:=@PySem.wpAny_holding
def UC:=@PySem.Heap.get?_update_self
def UD:=@List.getElem?_eq_none
def UE:=@List.take_append_drop
def UF:=@PySem.wpAny_pyIter_list
def UG:=@List.flatten_cons
def UH:=@PySem.F.typeOf_object_class
def UI:=@List.foldl_append
def UJ:=@PySem.F.slot_str_startswith
def UK:=@PySem.F.type_str_startswith
def UL:=@PySem.PassesOwn.leaving
def UM:=@PySem.Heap.get?_none_of_le
def UN:=@PySem.wpAny_letOwnedTupleGo_enum
def UO:=@Array.getElem?_eq_some_iff
def UP:=@List.extract_toArray
def UQ:=@PySem.wpAny_call_entry
def UR:=@decide_eq_decide
def US:=@List.flatMap_append
def UT:=@List.dropWhile_cons
def UU:=@PySem.F.args_tuple_add_2
def UV:=@PySem.wpAny_execs_nil
def UW:=@if_true
def UX:=@List.length_nil
def UY:=@Int.emod_nonneg
def UZ:=@PySem.typeLookup_type
def U0:=@Bool.false_eq_true
def U1:=@List.find?_toArray
def U2:=@Int.emod_lt_of_pos
def U3:=@PySem.Code.quiet_builtin
def U4:=@PySem.F.called_enumerate
def U5:=@PySem.F.entry_tuple_add
def U6:=@PySem.wpAny_pyNext_enum_itemD
def U7:=@PySem.F.slot_tuple_add
def U8:=@PyProof.Rows.subscriptTail_builtinR
def U9:=@Nat.mul_comm
def U_:=@Nat.lt_or_ge
def Va:=@List.drop_of_length_le
def Vb:=@PySem.wpAny_setField
def Vc:=@Nat.lt_succ_of_lt
def Vd:=@PySem.wpAny_pyNext_enum_endD
def Ve:=@PySem.F.slot_tuple_mul
def Vf:=@Option.map_eq_some_iff
def Vg:=@List.length_range
def Vh:=@List.map_map
def Vi:=@Nat.sub_self
def Vj:=@List.takeWhile_sublist
def Vk:=@List.dropWhile_sublist
def Vl:=@PySem.plainObj_wpAny_Assign_Attribute
def Vm:=@List.length_filter_le
def Vn:=@PySem.typeIs_str
def Vo:=@Int.mul_le_mul_of_nonneg_right
def Vp:=@List.getElem_mem
def Vq:=@List.any_cons
def Vr:=@PySem.W.mg_of
def Vs:=@PySem.wpAny_onRaise
def Vt:=@not_not_intro
def Vu:=@PySem.W.mg_of
def Vv:=@List.mem_append_left
def Vw:=@List.getElem?_set_ne
def Vx:=@PySem.wpAny_updateSeq_pair
def Vy:=@List.mem_of_mem_take
def Vz:=@Bool.eq_iff_iff
def VA:=@List.nodup_cons
def VB:=@List.length_set
def VC:=@List.foldl_cons
def VD:=@PySem.F.args_tuple_iterator_next_1
def VE:=@PySem.F.slot_zip_next
def VF:=@List.filterMap_cons
def VG:=@Array.length_toList
def VH:=@List.map_congr_left
def VJ:=@ne_true_of_eq_false
def VL:=@PySem.F.slot_gs_get
def VM:=@PySem.W.callWith_K
def VN:=@PySem.F.entry_tuple_iterator_next
def VO:=@PySem.F.attrBase_ValueError
def VP:=@PySem.Calls.Name_function_global
def VQ:=@PySem.wpAny_call
def VR:=@PySem.Obj.data_mapFields
def VS:=@PySem.F.args_str_split_2
def VT:=@List.drop_zero
def VU:=@bne_iff_ne
def VV:=@PySem.F.slot_str_partition
def VW:=@PySem.F.type_str_partition
def VX:=@List.filter_append
def VY:=@PySem.wpAny_binaryOp_repeat_ref
def VZ:=@List.getElem?_zip_eq_some
def V0:=@Exists.elim
def V1:=@PySem.F.entry_str_split
def V2:=@Int.le_refl
def V3:=@Nat.le_succ_of_le
def V4:=@PySem.W.hideAll_get
def V5:=@List.all_cons
def V6:=@Bool.false_or
def V7:=@PySem.wpAny_comprehension_free
def V8:=@Nat.mul_assoc
def V9:=@Int.mul_assoc
def V_:=@PySem.F.store_ValueError
def Wa:=@List.eq_of_mem_replicate
def Wb:=@PySem.F.slot_list_insert
def Wc:=@PySem.F.type_list_insert
def Wd:=@PySem.wpAny_lookBehind
def We:=@PySem.pastItsLine_dict
def Wf:=@Nat.lt_succ_self
def Wg:=@List.getElem?_replicate
def Wh:=@PySem.noFill_tuple_add
def Wi:=@Nat.min_le_right
def Wj:=@if_false
def Wl:=@List.getElem?_cons_succ
def Wm:=@PySem.F.slot_str_split
def Wn:=@Nat.succ_ne_self
def Wo:=@PySem.F.slot_tuple_rmul
def Wp:=@PyProof.Rows.seqSlot_of
def Wq:=@Nat.min_eq_right
def Wr:=@List.drop_length
def Ws:=@PySem.wpAny_pyNext_range_end
def Wt:=@PySem.wpAny_pyIter_rangeiter
def Wu:=@PySem.typeIs_int
def Wv:=@Nat.succ_mul
def Ww:=@PySem.Draws.list
def Wx:=@Nat.pow_succ
def Wy:=@PySem.W.ns_none_of
def Wz:=@List.drop_eq_nil_of_le
def WA:=@List.of_mem_zip
def WB:=@List.forIn_cons
def WC:=@Option.map_some
def WD:=@PySem.Heap.Ns.of_isNs
def WG:=@List.sum_append
def WH:=@PySem.wpAny_isTrue_Compare1
def WI:=@List.length_singleton
def WJ:=@PySem.Obj.isFreed_of_fields
def WK:=@Int.mul_ediv_add_emod
def WL:=@PySem.F.slot_int_rmul
def WM:=@PySem.F.entry_bexc_ga
def WN:=@PySem.F.entry_enumerate_new
def WO:=@List.findSome?_append
def WQ:=@List.mem_range
def WR:=@List.nodup_nil
def W6:=@PySem.Paired.length
def W7:=@PyProof.Rows.Constant_none
def W8:=@PySem.W.plainGet_of
def W9:=@PySem.W.callWith_K0
def W_:=@PySem.seq_tuple_add
def Xa:=@Bool.or_false
def Xb:=@List.take_nil
def Xc:=@Prod.mk.injEq
def Xo:=@PySem.W.of_hideAll
def Xq:=@PySem.wpAny_nsSet1
def Xs:=@PySem.concat_meets
def Xt:=@List.map_nil
def Xu:=@PySem.seqIndex_neg
def Xy:=@Nat.sub_zero
def Xz:=@Int.pow_succ
def XA:=@Int.mul_comm
def XB:=@PySem.W.isNs_of_in
def XJ:=@PyProof.Rows.IsTup.new
namespace L2
open PySem PySem.Spec PyProof.Rows
abbrev Key:=Sum Int Str
noncomputable def ir:Key->Value->Bool
 | .inl k,v=>Value.isInt k v
 | .inr x,v=>Value.isStrOf x v
noncomputable def RP(w:World):Key->Int
 | .inl k=>hashInt k
 | .inr x=>hashStr w x
theorem di:∀{k:Key}{v:Value},ir k v=true->(∃i t,k=Sum.inl i/\v=Value.int i t)\/(∃x t,k=Sum.inr x/\v=Value.str x t)
 | .inl i,v,h=>by
  obtain⟨t,e⟩:=Value.isInt_shape (k:=i) (v:=v) h;exact .inl ⟨i,t,rfl,e⟩
 | .inr x,v,h=>by
  obtain⟨t,e⟩:=Value.isStrOf_shape (x:=x) (v:=v) h;exact .inr ⟨x,t,rfl,e⟩
theorem Jc(i:Int)(t:Tok):ir (.inl i) (.int i t)=true:=by simp [ir,Value.isInt]
theorem wY(x:Str)(t:Tok):ir (.inr x) (.str x t)=true:=by simp [ir,Value.isStrOf]
theorem Om(a b:Int):decide ((Sum.inl a:Key)=Sum.inl b)=(a==b):=by
 by_cases e:a=b
 .subst e;simp
 .have h:¬(Sum.inl a:Key)=Sum.inl b:=fun q=>e (Sum.inl.inj q)
  rw[RW h];exact(Sy.mpr e).symm
theorem OI(a b:Str):decide ((Sum.inr a:Key)=Sum.inr b)=decide (a=b):=by
 by_cases e:a=b
 .subst e;simp
 .have h:¬(Sum.inr a:Key)=Sum.inr b:=fun q=>e (Sum.inr.inj q)
  rw[RW h,RW e]
theorem OA(a:Int)(b:Str):decide ((Sum.inl a:Key)=Sum.inr b)=false:=RW (fun q=>nomatch q)
theorem O4(a:Str)(b:Int):decide ((Sum.inr a:Key)=Sum.inl b)=false:=RW (fun q=>nomatch q)
noncomputable def eC(prog:Program)(w:World):PySem.KeyKind prog w Key where
 is:=ir
 hash:=RP w
 inj:=fun v a b J C=>by
  rcases di J with⟨i,t,rfl,rfl⟩|⟨x,t,rfl,rfl⟩
  .rcases di C with⟨j,u,rfl,e⟩|⟨y,u,rfl,e⟩
   .injection e with e1 _;rw[e1]
   .exact nomatch e
  .rcases di C with⟨j,u,rfl,e⟩|⟨y,u,rfl,e⟩
   .exact nomatch e
   .injection e with e1 _;rw[e1]
 byValue:=fun k v h=>by
  rcases di h with⟨i,t,rfl,rfl⟩|⟨x,t,rfl,rfl⟩ <;> rfl
 pyHash:=fun o h=>by
  rcases di o with⟨i,t,rfl,rfl⟩|⟨x,t,rfl,rfl⟩
  .exact wpAny_pyHash_int h
  .exact wpAny_pyHash_str h
 eqBool:=fun I o h=>by
  rcases di I with⟨i,t,rfl,rfl⟩|⟨x,t,rfl,rfl⟩
  .rcases di o with⟨j,u,rfl,rfl⟩|⟨y,u,rfl,rfl⟩
   .rw[Om] at h;exact wpAny_eqBool_int h
   .rw[OA] at h;exact SeqAt.EqAt.int_str i t y u _ _ _ _ h
  .rcases di o with⟨j,u,rfl,rfl⟩|⟨y,u,rfl,rfl⟩
   .rw[O4] at h;exact SeqAt.EqAt.str_int x t j u _ _ _ _ h
   .rw[OI] at h;exact wpAny_eqBool_str h
 «strs»:=fun k x t v h=>by
  rcases di h with⟨i,u,rfl,e⟩|⟨y,u,rfl,e⟩
  .exact nomatch e
  .injection e with e1 _
   subst e1
   cases v <;> rfl
theorem Ep(prog:Program)(w:World)(i:Int)(t:Tok):(eC prog w).is (.inl i) (.int i t)=true:=Jc i t
theorem qT(prog:Program)(w:World)(x:Str)(t:Tok):(eC prog w).is (.inr x) (.str x t)=true:=wY x t
inductive V where
 | non | bl (b:Bool) | int (i:Int) | str (x:Str) | byt (b:Array UInt8) | flt (b:UInt64) | ref (a:Addr) | ty (n:String)
 deriving DecidableEq
def bC:V->Value->Prop
 | .non,u=>u=Value.none
 | .bl b,u=>u=Value.bool b
 | .int i,u=>∃t,u=Value.int i t
 | .str x,u=>∃t,u=Value.str x t
 | .byt b,u=>∃t,u=Value.bytes b t
 | .flt b,u=>∃t,u=Value.float b t
 | .ref a,u=>u=Value.ref a
 | .ty n,u=>u=Value.type n
abbrev aY:List V->List Value->Prop:=Paired bC
theorem aY.length{xs:List V}{us:List Value}(r:aY xs us):xs.length=us.length:=W6 r
theorem aY.get:∀{xs:List V}{us:List Value}{i:Nat}{x:V},aY xs us->xs[i]? =some x->∃u,us[i]? =some u/\bC x u
 | _,_,_,_,.nil,e=>by simp at e
 | _,_,0,_,.cons r _,e=>by simp at e;subst e;exact⟨_,rfl,r⟩
 | _,_,i+1,x,.cons _ t,e=>by
  obtain⟨u,C,o⟩:=aY.get (i:=i) (x:=x) t (by simpa using e)
  exact⟨u,by simpa using C,o⟩
theorem aY.set{x:V}{u:Value}(r:bC x u):∀{xs:List V}{us:List Value}(i:Nat),aY xs us->aY (xs.set i x) (us.set i u)
 | _,_,_,.nil=> .nil
 | _,_,0,.cons _ t=> .cons r t
 | _,_,i+1,.cons q t=> .cons q (aY.set r i t)
theorem aY.append:∀{xs ys:List V}{us o:List Value},aY xs us->aY ys o->aY (xs++ys) (us++o)
 | _,_,_,_,.nil,s=>s
 | _,_,_,_,.cons r t,s=> .cons r (aY.append t s)
theorem aY.take:∀{xs:List V}{us:List Value}(n:Nat),aY xs us->aY (xs.take n) (us.take n)
 | _,_,0,_=> .nil
 | _,_,_+1,.nil=> .nil
 | _,_,n+1,.cons r t=> .cons r (aY.take n t)
theorem aY.drop:∀{xs:List V}{us:List Value}(n:Nat),aY xs us->aY (xs.drop n) (us.drop n)
 | _,_,0,r=>r
 | _,_,_+1,.nil=> .nil
 | _,_,n+1,.cons _ t=>aY.drop n t
def mJ:Option V->Option Value->Prop
 | some v,some u=>bC v u
 | none,none=>True
 | _,_=>False
def KV{o:Type}:List (o × V)->List (o × Value)->Prop:=Paired fun(p:o × V) (q:o × Value)=>p.1=q.1/\bC p.2 q.2
noncomputable def kV:Key->V
 | .inl i=> .int i
 | .inr x=> .str x
inductive HO where
 | lst (xs:List V)
 | tup (xs:List V)
 | dK (kvs:List (Key × V)) | dT (kvs:List (List Key × V))
 | set (S:Int->Bool) (n:Nat)
 | ins (C dx:Addr) (fs:List (Str × V))
 | own (x:Addr)
 | xd (fs:List (Str × V))
 | met (f x:Addr)
 | rng (lo hi:Int)
 | frz (o:Obj) (u:HO)
 | tbl (ps:Array Value)
 | ext (φ:Heap->Prop)
abbrev Hp:=Addr->Option HO
noncomputable def upd(H:Hp)(a:Addr)(o:HO):Hp:=fun b=>if b=a then some o else H b
theorem ae{H:Hp}{a:Addr}{o:HO}:upd H a o a=some o:=by unfold upd;rw[R9 rfl]
theorem aj{H:Hp}{a b:Addr}{o:HO}(h:b≠a):upd H a o b=H b:=by unfold upd;rw[R6 h]
theorem MN{H:Hp}{a:Addr}{o u:HO}:upd (upd H a o) a u=upd H a u:=by
 funext b;unfold upd;split <;> rfl
theorem dj{H:Hp}{a b:Addr}{o u:HO}(h:H a=some o)(h':H b=some u)(d:o≠u):a≠b:=by
 intro e;subst e;rw[h] at h';exact d (Sj h')
theorem aq{H:Hp}{a b:Addr}{o:HO}(h:H a=some o)(h':H b=none):a≠b:=by
 intro e;subst e;rw[h] at h';cases h'
section
variable (P : Program) (w : World)
def cy(H:Hp)(h:Heap)(a:Addr):HO->Prop
 | .lst J=>J.length<=sizeLine/\∃(I:List Value) (n:Nat),aY J I/\h.get? a=some {cls:= .type "list",data:= .seq I.toArray n}
 | .tup J=>J.length<=sizeLine/\∃I:List Value,aY J I/\IsTup h a I.toArray
 | .dK kvs=>kvs.length<=sizeLine/\(a==sysModules)=false/\∃vs,KV kvs vs/\h.DictOf (eC P w) a vs
 | .dT kvs=>kvs.length<=sizeLine/\(a==sysModules)=false/\∃J:List (List Key × Addr × Value),
   Paired (fun(p:List Key × V) (q:List Key × Addr × Value)=>p.1=q.1/\H q.2.1=some (.tup (p.1.map kV))/\bC p.2 q.2.2) kvs J/\
   ∃o d e,h.get? a=some o/\o.ExactDict/\o.data= .dict d e/\d.toList=J.map (entryOfKey (tupleKind (eC P w)))/\(J.map (·.1)).Nodup
 | .set S n=>h.SetOf (intKind P w) a S n
 | .ins C dx fs=>H dx=some (.own a)/\fs.length<=1000/\dx≠a/\h.get? a=some (W.instObj C dx)/\
   ∃U,h.Ns1 dx U/\(∀f,mJ (fs.lookup f) (U f))/\PySem.Within U (fs.map (·.1))
 | .own _=>∃o,h.get? a=some o
 | .xd fs=>∃U,h.Ns1 a U/\∀f,mJ (fs.lookup f) (U f)
 | .rng lo hi=>∃t u v,h.get? a=some {cls:= .type "range",data:= .fields #[.int lo t,.int hi u,.int 1 v]}
 | .frz o u=>h.get? a=some o/\cy H h a u
 | .tbl ps=>h.get? a=some {cls:= .none,data:= .fields ps}
 | .met f x=>h.get? a=some (W.methodObj (.ref f) (.ref x))
 | .ext φ=>φ h/\(∃o,h.get? a=some o)/\∀c b:Heap,φ c->(∀o,c.get? a=some o->b.get? a=some o)->φ b
def HOk(H:Hp)(h:Heap):Prop:=∀a o,H a=some o->cy P w H h a o
end
section
variable {P : Program} {w : World} {H H' : Hp} {h h' : Heap} {a : Addr} {o : HO}
theorem cy.lt(x:cy P w H h a o):a<h.objs.size:=by
 cases o with
 | lst xs=>obtain⟨_,_,_,_,e⟩:=x;exact R_ e
 | tup xs=>obtain⟨_,_,_,p⟩:=x;exact p.lt
 | dK kvs=>obtain⟨_,_,_,_,o,_,_,e,_⟩:=x;exact R_ e
 | dT kvs=>obtain⟨_,_,_,_,o,_,_,e,_⟩:=x;exact R_ e
 | set S n=>obtain⟨o,_,_,_,e,_⟩:=x;exact R_ e
 | ins C dx fs=>obtain⟨_,_,_,e,_⟩:=x;exact R_ e
 | own y=>obtain⟨_,e⟩:=x;exact R_ e
 | xd fs=>obtain⟨_,⟨_,_,_,e,_⟩,_⟩:=x;exact R_ e
 | rng lo hi=>obtain⟨_,_,_,e⟩:=x;exact R_ e
 | frz ob u=>obtain⟨e,_⟩:=x;exact R_ e
 | tbl ps=>exact R_ (show h.get? a=some _ from x)
 | met f y=>exact R_ (show h.get? a=some _ from x)
 | ext φ=>obtain⟨_,⟨_,e⟩,_⟩:=x;exact R_ e
theorem Paired.mapP{I J:Type}{F G:I->J->Prop}:∀{C:List I}{l₂:List J},Paired F C l₂->(∀a b,F a b->G a b)->Paired G C l₂
 | _,_,.nil,_=> .nil
 | _,_,.cons r t,f=> .cons (f _ _ r) (Paired.mapP t f)
theorem cy.stay(x:cy P w H h a o)(k:∀b u,(b=a\/H b=some (.own a))->h.get? b=some u->h'.get? b=some u)
  (ho:∀b,H b=some (.own a)->H' b=some (.own a)) (m:∀b xs,H b=some (.tup xs)->H' b=some (.tup xs)):cy P w H' h' a o:=by
 induction o with
 | lst xs=>obtain⟨z,i,n,r,e⟩:=x;exact⟨z,i,n,r,k _ _ (.inl rfl) e⟩
 | tup xs=>obtain⟨z,i,r,I,e,c⟩:=x;exact⟨z,i,r,I,k _ _ (.inl rfl) e,c⟩
 | dK kvs=>obtain⟨z,y,vs,r,I,U,J,e,c⟩:=x;exact⟨z,y,vs,r,I,U,J,k _ _ (.inl rfl) e,c⟩
 | dT kvs=>
  obtain⟨z,y,xs,r,I,U,J,e,c⟩:=x;exact⟨z,y,xs,Paired.mapP r fun p q z=>⟨z.1,m _ _ z.2.1,z.2.2⟩,I,U,J,k _ _ (.inl rfl) e,c⟩
 | set S n=>obtain⟨I,U,J,t,e,c⟩:=x;exact⟨I,U,J,t,k _ _ (.inl rfl) e,c⟩
 | ins C dx fs=>
  obtain⟨d,z,ne,e,l,⟨j,U,J,s,c⟩,r⟩:=x;exact⟨ho _ d,z,ne,k _ _ (.inl rfl) e,l,⟨j,U,J,k _ _ (.inr d) s,c⟩,r⟩
 | own y=>obtain⟨I,e⟩:=x;exact⟨I,k _ _ (.inl rfl) e⟩
 | xd fs=>obtain⟨l,⟨j,U,J,e,c⟩,r⟩:=x;exact⟨l,⟨j,U,J,k _ _ (.inl rfl) e,c⟩,r⟩
 | rng lo hi=>obtain⟨t,u,v,e⟩:=x;exact⟨t,u,v,k _ _ (.inl rfl) e⟩
 | frz I u ih=>obtain⟨e,q⟩:=x;exact⟨k _ _ (.inl rfl) e,ih q⟩
 | tbl ps=>
  have e:h.get? a=some {cls:= .none,data:= .fields ps}:=x;show h'.get? a=some {cls:= .none,data:= .fields ps}
  exact k a _ (.inl rfl) e
 | met f y=>
  have e:h.get? a=some (W.methodObj (.ref f) (.ref y)):=x;show h'.get? a=some (W.methodObj (.ref f) (.ref y))
  exact k a _ (.inl rfl) e
 | ext φ=>obtain⟨p,⟨o,e⟩,st⟩:=x;exact⟨st _ _ p fun o q=>k _ _ (.inl rfl) q,⟨o,k _ _ (.inl rfl) e⟩,st⟩
theorem HOk.lt(x:HOk P w H h)(e:H a=some o):a<h.objs.size:=(x a o e).lt
theorem HOk.fresh(x:HOk P w H h)(e:h.objs.size<=a):H a=none:=by
 cases q:H a with
 | none=>rfl
 | some u=>exact absurd (Sb (x.lt q) e) (TY _)
theorem HOk.kept(x:HOk P w H h)(k:∀b u,h.get? b=some u->h'.get? b=some u):HOk P w H h':=fun a o e=>
 (x a o e).stay (fun b u _ q=>k b u q) (fun _ q=>q) fun _ _ q=>q
theorem HOk.laid(x:HOk P w H h)(k:∀b u,h.get? b=some u->h'.get? b=some u)(J:h.objs.size<=a)(new:cy P w (upd H a o) h' a o):HOk P w (upd H a o) h':=fun b u e=>by
 have C:=x.fresh J
 by_cases I:b=a
 .subst I;rw[ae] at e;cases e;exact new
 .rw[aj I] at e;exact(x b u e).stay (fun c v _ q=>k c v q) (fun c q=>by rw[aj (aq q C)];exact q) fun c U q=>by rw[aj (aq q C)];exact q
end
def Rd(H:Hp)(a:Addr)(u:HO):Prop:=H a=some u\/∃o,H a=some (.frz o u)
theorem Rd.ok{P:Program}{w:World}{H:Hp}{h:Heap}{a:Addr}{u:HO}(r:Rd H a u)(x:HOk P w H h):cy P w H h a u:=by
 rcases r with r | ⟨o,r⟩
 .exact x a u r
 .obtain⟨_,q⟩:=x a _ r;exact q
def Mut:Option HO->Prop
 | some (.lst _)=>True
 | some (.dK _)=>True
 | some (.dT _)=>True
 | some (.set _ _)=>True
 | some (.ins _ _ _)=>True
 | some (.ext _)=>True
 | _=>False
section
variable {P : Program} {w : World} {H : Hp} {h h' : Heap} {x e : Addr} {o' : HO}
theorem HOk.write(ok:HOk P w H h)(U:Mut (H x))(he:e=x\/H e=some (.own x))(k:∀b u,b≠e->h.get? b=some u->h'.get? b=some u)(f:∃u,h'.get? e=some u)
  (new:cy P w (upd H x o') h' x o'):HOk P w (upd H x o') h':=fun b u q=>by
 have C:∀c y,H c=some (.own y)->c≠x:=fun c y r z=>by subst z;rw[r] at U;exact U
 have I:∀c J,H c=some (.tup J)->c≠x:=fun c J r z=>by subst z;rw[r] at U;exact U
 by_cases a:b=x
 .subst a;rw[ae] at q;cases q;exact new
 .rw[aj a] at q
  by_cases o:b=e
  .have q':H b=some (.own x):=by
    rcases he with z | z
    .exact absurd (o.trans z) a
    .rw[o];exact z
   rw[q] at q';cases q';obtain⟨v,i⟩:=f;exact⟨v,by rw[o];exact i⟩
  .refine(ok b u q).stay (fun c v d r=>k c v ?_ r) (fun c r=>by rw[aj (C c b r)];exact r) fun c J r=>by rw[aj (I c J r)];exact r
   rcases d with rfl | d
   .exact o
   .rintro rfl
    rcases he with z | z
    .exact C c b d z
    .rw[d] at z;cases z;exact a rfl
end
structure Un (fs ex:List Addr) (H H':Hp) (h h':Heap):Prop where
 keep:∀b o,h.get? b=some o->H b=none->b ∉ fs->b ∉ ex->h'.get? b=some o
 slot:∀b o,h.get? b=some o->H b=none->b∈fs->b ∉ ex->∃sl,h'.get? b=some {o with slots:=sl}
 free:∀b o,h.get? b=some o->H b=none->b ∉ ex->H' b=none
 there:∀b o,h.get? b=some o->b ∉ ex->∃o',h'.get? b=some o'
 tups:∀b xs,H b=some (.tup xs)->H' b=some (.tup xs)
 frzs:∀b o u,H b=some (.frz o u)->H' b=some (.frz o u)
 tbls:∀b ps,H b=some (.tbl ps)->∃more,H' b=some (.tbl (ps++more))
section
variable {fs fs' ex ex' : List Addr} {H H1 H2 : Hp} {h h1 h2 h' : Heap} {a x e : Addr} {o : HO}
theorem Un.any(u:Un fs ex H H1 h h1){b:Addr}{C:Obj}(q:h.get? b=some C)(n:H b=none)(I:b ∉ ex):∃sl,h1.get? b=some {C with slots:=sl}:=by
 by_cases J:b∈fs
 .exact u.slot b C q n J I
 .exact⟨C.slots,u.keep b C q n J I⟩
theorem Un.trans(a:Un fs ex H H1 h h1)(b:Un fs ex H1 H2 h1 h2):Un fs ex H H2 h h2 where
 keep:=fun c I q n d C=>b.keep c I (a.keep c I q n d C) (a.free c I q n C) d C
 slot:=fun c I q n d C=>by
  obtain⟨sl,J⟩:=a.slot c I q n d C;obtain⟨f,j⟩:=b.slot c _ J (a.free c I q n C) d C;exact⟨f,j⟩
 free:=fun c I q n C=>by
  obtain⟨i,J⟩:=a.there c I q C;exact b.free c i J (a.free c I q n C) C
 there:=fun c I q C=>by
  obtain⟨i,J⟩:=a.there c I q C;exact b.there c i J C
 tups:=fun c U q=>b.tups c U (a.tups c U q)
 frzs:=fun c I U q=>b.frzs c I U (a.frzs c I U q)
 tbls:=fun c k q=>by
  obtain⟨l,J⟩:=a.tbls c k q;obtain⟨m,j⟩:=b.tbls c _ J;exact⟨l++m,by rw[j,Array.append_assoc]⟩
theorem Un.kept(k:∀b u,h.get? b=some u->h'.get? b=some u):Un fs ex H H h h':=
 ⟨fun b C q _ _ _=>k b C q,fun b C q _ _ _=>⟨C.slots,k b C q⟩,fun _ _ _ n _=>n,fun b C q _=>⟨C,k b C q⟩,fun _ _ q=>q,fun _ _ _ q=>q,fun _ I q=>⟨#[],by rw[q];simp⟩⟩
theorem Un.refl:Un fs ex H H h h:=Un.kept fun _ _ q=>q
theorem Un.laid(k:∀b u,h.get? b=some u->h'.get? b=some u)(J:h.objs.size<=a)(C:H a=none):Un fs ex H (upd H a o) h h' where
 keep:=fun b u q _ _ _=>k b u q
 slot:=fun b u q _ _ _=>⟨u.slots,k b u q⟩
 free:=fun b u q n _=>by rw[aj (Sk (Sb (R_ q) J))];exact n
 there:=fun b u q _=>⟨u,k b u q⟩
 tups:=fun b I q=>by rw[aj (aq q C)];exact q
 frzs:=fun b u I q=>by rw[aj (aq q C)];exact q
 tbls:=fun b U q=>⟨#[],by rw[aj (aq q C),q];simp⟩
theorem Un.write(I:Mut (H x))(he:e=x\/H e=some (.own x))(k:∀b u,b≠e->h.get? b=some u->h'.get? b=some u)(J:∃u,h'.get? e=some u):Un fs ex H (upd H x o) h h':=by
 have U:∀b,H b=none->b≠x:=fun b n z=>by subst z;rw[n] at I;exact I
 have c:∀b,H b=none->b≠e:=fun b n z=>by
  subst z;rcases he with r | r
  .exact U b n r
  .rw[n] at r;cases r
 have hm:∀b u,H b=some u->¬Mut (some u)->b≠x:=fun b u q f z=>by subst z;rw[q] at I;exact f I
 refine⟨fun b u q n _ _=>k b u (c b n) q,fun b u q n _ _=>⟨u.slots,k b u (c b n) q⟩,fun b u q n _=>by rw[aj (U b n)];exact n,fun b u q _=> ?_,
  fun b d q=>by rw[aj (hm b _ q fun z=>z)];exact q,fun b u d q=>by rw[aj (hm b _ q fun z=>z)];exact q,fun b i q=>⟨#[],by rw[aj (hm b _ q fun z=>z),q];simp⟩⟩
 by_cases C:b=e
 .subst C;exact J
 .exact⟨u,k b u C q⟩
end
noncomputable def trk(h:Heap)(H:Hp):List Addr:=(List.range h.objs.size).filter fun a=>(H a).isSome
noncomputable def CV(h:Heap)(H:Hp):Heap:=W.hideAll h (trk h H)
theorem IY(h:Heap)(H:Hp):(CV h H).objs.size=h.objs.size:=W.hideAll_size _ _
theorem Lf{h:Heap}{H:Hp}{b:Addr}{o:Obj}(e:h.get? b=some o)(n:H b=none):(CV h H).get? b=some o:=
 V4 _ e fun hm=>by
  have q:(H b).isSome=true:=(List.mem_filter.mp hm).2;rw[n] at q;simp at q
theorem Mn{h:Heap}{H:Hp}{b:Addr}{o:Obj}(e:(CV h H).get? b=some o):h.get? b=some o/\H b=none:=by
 have C:h.get? b=some o:=Xo (trk h H) e;refine⟨C,?_⟩
 cases q:H b with
 | none=>rfl
 | some x=>
  have hm:b∈trk h H:=List.mem_filter.mpr ⟨WQ.mpr (R_ C),by simp [q]⟩
  have z:(CV h H).get? b=none:=W.hideAll_none (trk h H) hm;rw[z] at e;cases e
noncomputable def L_(g h:Heap)(L:Addr):List (Addr × Obj):=(List.range h.objs.size).filterMap fun a=>if a=L\/(g.get? a).isSome=true then none else(h.get? a).map fun o=>(a,o)
noncomputable def rest(g h:Heap)(L d:Addr):List (Addr × Obj):=(L_ g h L).filter fun p=>decide (p.1≠d)
structure Mod (K:Frag) (mg:Str->Option Value) (base:Heap):Prop where
 kin:K.In base
 glob:base.Ns mainGlobals mg
 blt:∃mb,base.Ns builtinsNs mb/\∀x:Str,x≠"__name__"->mb x=bootBuiltins x
 nolimit:base.NoLimit
structure Cx where
 prog:Program
 w:World
 K:Frag
 mg:Str->Option Value
 base:Heap
 A:Around
 N:List Str
 s₀:Shared
 H₀:Hp
 env:Env
 outer:List Env
 stack:List Env
 ex:List Addr
 fn:Str->Bool
 calm:Bool
 pn:List (Addr × Obj)
 xe:Value->Shared->Prop
noncomputable def frs(l:List Env):List Addr:=l.filterMap (·.frame)
noncomputable abbrev Cx.fs(X:Cx):List Addr:=frs X.outer
def Vis(o:Scope)(x:Str):Prop:=o.names.lookup x=some .local\/o.names.lookup x=some .cell\/o.names.lookup x=some .free
def Loc(o:Scope)(x:Str):Prop:=o.names.lookup x=some .local\/o.names.lookup x=some .cell
def QB(env:Env)(h:Heap)(m:Str->Option Value)(x:Str)(u:Value):Prop:=
 (env.kindOf x=some .local/\m x=some u)\/((env.kindOf x=some .cell\/env.kindOf x=some .free)/\∃c,env.cells.lookup x=some c/\h.IsCell c (some u))
structure Cx.Ok (X:Cx):Prop where
 mod:Mod X.K X.mg X.base
 kind:X.env.scope.kind= .function
 glob:X.env.globals=mainGlobals
 blt:X.env.builtins=builtinsNs
 above:X.s₀.heap.objs.size<=X.env.locals
 inj:∀x y c,X.env.cells.lookup x=some c->X.env.cells.lookup y=some c->x=y
 has:∀x,(X.env.kindOf x=some .cell\/X.env.kindOf x=some .free)->∃c,X.env.cells.lookup x=some c
 cab:∀x c,X.fn x=true->X.env.cells.lookup x=some c->X.s₀.heap.objs.size<=c
 hd:X.calm=true->X.A.handled=none
 frames:X.A.frames=some X.stack
 stk:X.stack=X.outer\/(X.stack=X.env::X.outer/\X.env.frame=some X.env.locals)
 exf:∀b∈X.ex,b≠X.env.locals/\∀x c,X.env.cells.lookup x=some c->c≠b
 bs:∀b o,X.base.get? b=some o->X.s₀.heap.get? b=some o/\X.H₀ b=none
 bsz:X.base.objs.size<=X.s₀.heap.objs.size
 noex:∀b o,X.base.get? b=some o->b ∉ X.ex
 exfs:∀b∈X.ex,b ∉ X.fs
 funs:X.s₀.heap.FunFrames X.base X.outer
 frf:∀b∈X.fs,X.H₀ b=none
structure Inv (X:Cx) (pins:List (Addr × Obj)) (Z:List (Option V)) (H:Hp) (s:Shared):Prop where
 ok:X.Ok
 os:s.os=X.s₀.os
 bare:AllBare s.gens
 base:Un X.fs X.ex X.H₀ H X.s₀.heap s.heap
 loc:∃m,s.heap.Ns X.env.locals m/\∀(i:Nat) (x:Str) (v:V),X.N[i]? =some x->Z[i]? =some (some v)->Vis X.env.scope x->∃u,bC v u/\QB X.env s.heap m x u
 cell:∀x c,X.env.cells.lookup x=some c->∃v,s.heap.IsCell c v
 free:H X.env.locals=none
 freeC:∀x c,X.env.cells.lookup x=some c->H c=none
 pin:∀p∈X.pn++pins,s.heap.get? p.1=some p.2/\H p.1=none/\p.1≠X.env.locals/\p.1 ∉ X.fs/\∀v,p.2.data≠ .cell v
 hok:HOk X.prog X.w H s.heap
 len:Z.length=X.N.length
section
variable {X : Cx} {pins : List (Addr × Obj)} {σ : List (Option V)} {H H' : Hp} {s : Shared} {h' : Heap}
theorem Cx.Ok.nofr(ok:X.Ok){b:Addr}{o:Obj}(e:X.base.get? b=some o):b ∉ X.fs:=fun C=>by
 have:=(ok.funs.mem C).1;rw[e] at this;cases this
theorem Inv.bs(I:Inv X pins Z H s):∀b o,X.base.get? b=some o->s.heap.get? b=some o/\H b=none:=fun b o e=>
 ⟨I.base.keep b o (I.ok.bs b o e).1 (I.ok.bs b o e).2 (I.ok.nofr e) (I.ok.noex b o e),I.base.free b o (I.ok.bs b o e).1 (I.ok.bs b o e).2 (I.ok.noex b o e)⟩
theorem Inv.bk(I:Inv X pins Z H s):∀b o,X.base.get? b=some o->s.heap.get? b=some o:=fun b o e=>(I.bs b o e).1
theorem Inv.mod(I:Inv X pins Z H s):Mod X.K X.mg X.base:=I.ok.mod
theorem Inv.kIn(I:Inv X pins Z H s):X.K.In s.heap:=I.ok.mod.kin.keeps I.bk
theorem Inv.lt(I:Inv X pins Z H s):X.env.locals<s.heap.objs.size:=let ⟨_,hn,_⟩:=I.loc;hn.lt
theorem Inv.sz(I:Inv X pins Z H s):X.s₀.heap.objs.size<=s.heap.objs.size:=RY I.ok.above (Uu I.lt)
theorem Inv.nofs(I:Inv X pins Z H s){a:Addr}(h:s.heap.objs.size<=a):a ∉ X.fs:=fun C=>by
 obtain⟨_,o,ho,_⟩:=I.ok.funs.mem C;exact absurd (Sb (R_ ho) (RY I.sz h)) (TY _)
theorem Inv.cne(I:Inv X pins Z H s):∀x c,X.env.cells.lookup x=some c->c≠X.env.locals:=fun x c e z=>by
 obtain⟨v,o,ho,hd⟩:=I.cell x c e;obtain⟨m,⟨U,a,b,J,C,_⟩,_⟩:=I.loc;rw[z,J] at ho;cases ho;rw[C] at hd;cases hd
theorem Inv.funs(I:Inv X pins Z H s):s.heap.FunFrames X.base X.outer:=by
 have all:∀(l:List Env),(∀b∈frs l,b∈X.fs)->X.s₀.heap.FunFrames X.base l->s.heap.FunFrames X.base l:=by
  intro l
  induction l with
  | nil=>intro _ _;trivial
  | cons env r ih=>
   intro hs a;obtain⟨d,⟨L,o,C,c,ho,hd⟩,f⟩:=a;have U:L∈X.fs:=hs L (by unfold frs;rw[VF,C];exact Sn)
   obtain⟨sl,e⟩:=I.base.slot L o ho (I.ok.frf L U) U fun z=>I.ok.exfs L z U
   exact⟨d,⟨L,_,C,c,e,hd⟩,ih (fun b J=>hs b (by unfold frs;rw[VF,C];exact R8 _ J)) f⟩
 exact all X.outer (fun _ J=>J) I.ok.funs
theorem Inv.stack(I:Inv X pins Z H s):s.heap.FunFrames X.base X.stack:=by
 rcases I.ok.stk with e | ⟨e,hf⟩
 .rw[e];exact I.funs
 .rw[e];obtain⟨m,o,_⟩:=I.loc;refine .cons (by rw[I.ok.kind];decide) hf o ?_ I.funs
  exact UM (RY I.ok.bsz I.ok.above)
theorem Inv.stkSub(I:Inv X pins Z H s):∀b∈frs X.stack,b∈X.env.locals::X.fs:=fun b o=>by
 rcases I.ok.stk with e | ⟨e,hf⟩
 .rw[e] at o;exact R8 _ o
 .rw[e] at o;unfold frs at o;rw[VF,hf] at o;exact o
theorem Inv.stkFree(I:Inv X pins Z H s):∀b∈frs X.stack,H b=none:=fun b C=>by
 rcases Se.mp (I.stkSub b C) with e | C
 .rw[e];exact I.free
 .obtain⟨_,o,ho,_⟩:=I.ok.funs.mem C;exact I.base.free b o ho (I.ok.frf b C) fun z=>I.ok.exfs b z C
theorem Inv.step{g':Array GenState}{t':Nat}{d':Drawn}{ch:List Addr}(I:Inv X pins Z H s)
  (a:∀b∈ch,(b∈X.ex\/X.s₀.heap.objs.size<=b)/\b≠X.env.locals/\(∀x c,X.env.cells.lookup x=some c->c≠b)/\∀p∈X.pn++pins,p.1≠b)
  (keep:∀b o,b≠X.env.locals->b ∉ X.fs->b ∉ ch->s.heap.get? b=some o->H b=none->h'.get? b=some o)
  (y:∀b o,b≠X.env.locals->b∈X.fs->b ∉ ch->s.heap.get? b=some o->H b=none->∃sl,h'.get? b=some {o with slots:=sl}) (free:∀b o,b ∉ ch->s.heap.get? b=some o->H b=none->H' b=none)
  (there:∀b o,b ∉ ch->s.heap.get? b=some o->∃G,h'.get? b=some G)
  (F:∀b xs,H b=some (.tup xs)->H' b=some (.tup xs)) (D:∀b o u,H b=some (.frz o u)->H' b=some (.frz o u)) (B:∀b ps,H b=some (.tbl ps)->∃more,H' b=some (.tbl (ps++more)))
  (ns:∀m,s.heap.Ns X.env.locals m->h'.Ns X.env.locals m) (M:HOk X.prog X.w H' h') (P:AllBare g'):
  Inv X pins Z H' {s with heap:=h',gens:=g',drawn:=d',toks:=t'}:=by
 have K:∀b o,X.s₀.heap.get? b=some o->b≠X.env.locals:=fun b o e=>Sk (Sb (R_ e) I.ok.above)
 have j:∀b o,X.s₀.heap.get? b=some o->b ∉ X.ex->b ∉ ch:=fun b o e C A=>by
  rcases(a b A).1 with z | z
  .exact C z
  .exact absurd (Sb (R_ e) z) (TY _)
 have J:∀x c,X.env.cells.lookup x=some c->∀v,s.heap.IsCell c v->h'.IsCell c v:=fun x c e v ⟨o,ho,hd⟩=>by
  have U:c ∉ ch:=fun z=>(a c z).2.2.1 x c e rfl
  by_cases O:c∈X.fs
  .obtain⟨sl,q⟩:=y c o (I.cne x c e) O U ho (I.freeC x c e);exact⟨_,q,hd⟩
  .exact⟨o,keep c o (I.cne x c e) O U ho (I.freeC x c e),hd⟩
 refine⟨I.ok,I.os,P,⟨fun b o e n A C=> ?_,fun b o e n A C=> ?_,fun b o e n C=> ?_,fun b o e C=> ?_,fun b xs e=>F b xs (I.base.tups b xs e),fun b o xs e=>D b o xs (I.base.frzs b o xs e),fun b ps e=> ?_⟩,?_,fun x c e=> ?_,?_,fun x c e=> ?_,fun p N=> ?_,M,I.len⟩
 .exact keep b o (K b o e) A (j b o e C) (I.base.keep b o e n A C) (I.base.free b o e n C)
 .obtain⟨sl,f⟩:=I.base.slot b o e n A C;obtain⟨L,E⟩:=y b _ (K b o e) A (j b o e C) f (I.base.free b o e n C);exact⟨L,E⟩
 .obtain⟨G,f⟩:=I.base.there b o e C;exact free b G (j b o e C) f (I.base.free b o e n C)
 .obtain⟨G,f⟩:=I.base.there b o e C;exact there b G (j b o e C) f
 .obtain⟨m1,f⟩:=I.base.tbls b ps e;obtain⟨Q,E⟩:=B b _ f;exact⟨m1++Q,by rw[E,Array.append_assoc]⟩
 .obtain⟨m,hn,hl⟩:=I.loc;refine⟨m,ns m hn,fun i x v f E R=> ?_⟩
  obtain⟨u,r,l⟩:=hl i x v f E R;refine⟨u,r,?_⟩
  rcases l with l | ⟨k,c,e,z⟩
  .exact .inl l
  .exact .inr ⟨k,c,e,J x c e _ z⟩
 .obtain⟨v,z⟩:=I.cell x c e;exact⟨v,J x c e v z⟩
 .obtain⟨m,⟨o,_,_,ho,_⟩,_⟩:=I.loc;exact free _ o (fun z=>(a _ z).2.1 rfl) ho I.free
 .obtain⟨v,o,ho,hd⟩:=I.cell x c e;exact free c o (fun z=>(a c z).2.2.1 x c e rfl) ho (I.freeC x c e)
 .obtain⟨e,n,ne,nf,d⟩:=I.pin p N;have U:p.1 ∉ ch:=fun z=>(a p.1 z).2.2.2 p N rfl
  exact⟨keep p.1 p.2 ne nf U e n,free p.1 p.2 U e n,ne,nf,d⟩
theorem Inv.un{t':Nat}(I:Inv X pins Z H s)(u:Un X.fs [] H H' s.heap h')(c:HOk X.prog X.w H' h'):Inv X pins Z H' {s with heap:=h',toks:=t'}:=by
 obtain⟨m,⟨o,l,k,ho,r⟩,_⟩:=id I.loc;obtain⟨sl,f⟩:=u.any ho I.free (by simp)
 exact I.step (g':=s.gens) (d':=s.drawn) (ch:=[]) (fun _ z=>nomatch z) (fun b o _ a _ e n=>u.keep b o e n a (by simp)) (fun b o _ a _ e n=>u.slot b o e n a (by simp)) (fun b o _ e n=>u.free b o e n (by simp)) (fun b o _ e=>u.there b o e (by simp)) u.tups u.frzs u.tbls (fun i hm=>by
  obtain⟨j,U,J,C,d⟩:=hm;rw[ho] at C;cases C
  exact⟨_,U,J,f,d⟩) c I.bare
theorem Inv.call{g':Array GenState}{t':Nat}{d':Drawn}{ch:List Addr}(I:Inv X pins Z H s)(u:Un (frs X.stack) ch H H' s.heap h')(i:HOk X.prog X.w H' h')(j:AllBare g')
  (U:∀b∈ch,(b∈X.ex\/X.s₀.heap.objs.size<=b)/\b≠X.env.locals/\(∀x c,X.env.cells.lookup x=some c->c≠b)/\∀p∈X.pn++pins,p.1≠b):
  Inv X pins Z H' {s with heap:=h',gens:=g',drawn:=d',toks:=t'}:=by
 obtain⟨m,⟨o,A,y,ho,r⟩,_⟩:=id I.loc;obtain⟨sl,f⟩:=u.any ho I.free fun z=>(U _ z).2.1 rfl
 exact I.step (ch:=ch) U (fun b o f l C e n=>u.keep b o e n (fun z=>(Se.mp (I.stkSub b z)).elim f l) C) (fun b o _ _ C e n=>u.any e n C) (fun b o C e n=>u.free b o e n C) (fun b o C e=>u.there b o e C) u.tups u.frzs u.tbls (fun q hm=>by
  obtain⟨v,d,a,J,k⟩:=hm;rw[ho] at J;cases J
  exact⟨_,d,a,f,k⟩) i j
theorem Inv.turned{t':Nat}{it:Addr}(I:Inv X pins Z H s)(k:∀b o,b≠it->s.heap.get? b=some o->h'.get? b=some o)(a:H it=none)(U:it≠X.env.locals)
  (j:it∈X.ex\/X.s₀.heap.objs.size<=it) (f:∀x c,X.env.cells.lookup x=some c->c≠it) (i:∀p∈X.pn++pins,p.1≠it):Inv X pins Z H {s with heap:=h',toks:=t'}:=by
 have J:∀b u,H b=some u->b≠it:=fun b u e z=>by rw[z,a] at e;cases e
 refine I.step (g':=s.gens) (d':=s.drawn) (ch:=[it]) (fun b d=> ?_) (fun b o _ _ C e _=>k b o (fun z=>C (by simp [z])) e) (fun b o _ _ C e _=>⟨o.slots,k b o (fun z=>C (by simp [z])) e⟩) (fun _ _ _ _ n=>n)
  (fun b o C e=>⟨o,k b o (fun z=>C (by simp [z])) e⟩) (fun _ _ e=>e) (fun _ _ _ e=>e) (fun b l e=>⟨#[],by rw[e];simp⟩) (fun m hm=> ?_) (fun b u e=> ?_) I.bare
 .have e:b=it:=by simpa using d
  subst e;exact⟨j,U,f,i⟩
 .obtain⟨o,es,ep,ho,r⟩:=hm;exact⟨o,es,ep,k _ o (SD U) ho,r⟩
 .refine(I.hok b u e).stay (fun c v C q=>k c v ?_ q) (fun _ q=>q) fun _ _ q=>q
  rcases C with z | z
  .rw[z];exact J b u e
  .exact J c _ z
theorem Inv.tok(I:Inv X pins Z H s)(t:Nat):Inv X pins Z H {s with toks:=t}:=I.un (h':=s.heap) (t':=t) Un.refl I.hok
theorem Inv.kept{t':Nat}(I:Inv X pins Z H s)(k:∀b u,s.heap.get? b=some u->h'.get? b=some u):Inv X pins Z H {s with heap:=h',toks:=t'}:=I.un (Un.kept k) (I.hok.kept k)
theorem Inv.laid{a:Addr}{o:HO}{t':Nat}(I:Inv X pins Z H s)(k:∀b u,s.heap.get? b=some u->h'.get? b=some u)(C:s.heap.objs.size<=a)(new:cy X.prog X.w (upd H a o) h' a o):
  Inv X pins Z (upd H a o) {s with heap:=h',toks:=t'}:=I.un (Un.laid k C (I.hok.fresh C)) (I.hok.laid k C new)
theorem Inv.write{x e:Addr}{o:HO}{t':Nat}(I:Inv X pins Z H s)(J:Mut (H x))(he:e=x\/H e=some (.own x))(k:∀b u,b≠e->s.heap.get? b=some u->h'.get? b=some u)(C:∃u,h'.get? e=some u)
  (new:cy X.prog X.w (upd H x o) h' x o):Inv X pins Z (upd H x o) {s with heap:=h',toks:=t'}:=I.un (Un.write J he k C) (I.hok.write J he k C new)
theorem Inv.weak{o:List (Option V)}(I:Inv X pins Z H s)(U:o.length=Z.length)(w:∀(i:Nat) v,o[i]? =some (some v)->Z[i]? =some (some v)):Inv X pins o H s:=
 ⟨I.ok,I.os,I.bare,I.base,let ⟨m,hn,hl'⟩:=I.loc;⟨m,hn,fun i x v J a C=>hl' i x v J (w i v a) C⟩,I.cell,I.free,I.freeC,I.pin,I.hok,U.trans I.len⟩
theorem Inv.pins_of{o:List (Addr × Obj)}(I:Inv X pins Z H s)(h:∀p∈o,s.heap.get? p.1=some p.2/\H p.1=none/\p.1≠X.env.locals/\p.1 ∉ X.fs/\∀v,p.2.data≠ .cell v):Inv X o Z H s:=
 ⟨I.ok,I.os,I.bare,I.base,I.loc,I.cell,I.free,I.freeC,fun p C=>(SR.mp C).elim (fun z=>I.pin p (Vv _ z)) (h p),I.hok,I.len⟩
theorem zo{N:List Str}(I:N.Nodup){i j:Nat}{x:Str}(a:N[i]? =some x)(b:N[j]? =some x):i=j:=by
 obtain⟨U,o⟩:=RX.mp a;obtain⟨J,C⟩:=RX.mp b;exact(List.getElem_inj I).mp (o.trans C.symm)
theorem A9{M:Model}{A:Around}{E:Value->Shared->Prop}{i:Nat}{x:Str}{v:V}{u:Value}{Q:Unit->Shared->Prop}(I:Inv X pins Z H s)(hN:X.N.Nodup)(F:X.N[i]? =some x)(f:Loc X.env.scope x)(r:bC v u)
  (h:∀s',Inv X pins (Z.set i (some v)) H s'->(∃a,Heap.SameBut a s.heap s'.heap/\(a=X.env.locals\/X.env.cells.lookup x=some a))->Q () s') (hf:X.fn x=true\/X.env.scope.names.lookup x=some .local:=by first | exact .inl rfl | exact .inr rfl | assumption):wpAny M A (storeName X.env x u) Q E s:=by
 obtain⟨m,Y,hl⟩:=id I.loc;have G:(X.env.scope.kind == .class || (X.env.scope.kind == .module && X.env.locals != X.env.globals))=false:=by rw[I.ok.kind];rfl
 have P:i<Z.length:=by rw[I.len];exact(RX.mp F).1
 have cne:=I.cne;have C:∀{a:Addr}{h':Heap},(∃o,s.heap.get? a=some o/\H a=none)->Heap.SameBut a s.heap h'->HOk X.prog X.w H h':=fun {a h'} ha hs b ob e=>by
  obtain⟨_,_,l⟩:=ha;refine(I.hok b ob e).stay (fun c R U q=>(hs.2 c ?_).trans q) (fun _ q=>q) fun _ _ q=>q
  rintro rfl
  rcases U with rfl | U
  .rw[l] at e;cases e
  .rw[l] at U;cases U
 rcases f with hk | hk
 .refine wpAny_storeName_local hk Y (fun h' ab hs=> ?_) G
  obtain⟨oL,_,_,ar,_⟩:=id Y;refine h _ ⟨I.ok,I.os,I.bare,⟨fun b o e n D f=> ?_,fun b o e n D f=> ?_,I.base.free,fun b o e f=> ?_,I.base.tups,I.base.frzs,I.base.tbls⟩,⟨_,ab,fun j y v' J B e3=> ?_⟩,fun y c e=> ?_,I.free,I.freeC,fun p W=> ?_,C ⟨oL,ar,I.free⟩ hs,by simpa using I.len⟩ ⟨_,hs,.inl rfl⟩
  .exact(hs.2 b (Sk (Sb (R_ e) I.ok.above))).trans (I.base.keep b o e n D f)
  .obtain⟨sl,J⟩:=I.base.slot b o e n D f;exact⟨sl,(hs.2 b (Sk (Sb (R_ e) I.ok.above))).trans J⟩
  .obtain⟨o',J⟩:=I.base.there b o e f;exact⟨o',(hs.2 b (Sk (Sb (R_ e) I.ok.above))).trans J⟩
  .by_cases hj:j=i
   .subst hj;rw[F] at J;cases J;rw[Uv P] at B
    cases B
    exact⟨u,r,.inl ⟨hk,by simp⟩⟩
   .rw[Vw (SD hj)] at B;obtain⟨u',r',q⟩:=hl j y v' J B e3;refine⟨u',r',?_⟩
    rcases q with⟨k,e⟩|⟨k,c,e,z⟩
    .refine .inl ⟨k,?_⟩
     have:y≠x:=fun e=>hj (zo hN J (e ▸ F))
     simp [this,e]
    .exact .inr ⟨k,c,e,z.sameBut hs (cne y c e)⟩
  .obtain⟨R,z⟩:=I.cell y c e;exact⟨R,z.sameBut hs (cne y c e)⟩
  .obtain⟨e,n,ne,nf,d⟩:=I.pin p W;exact⟨(hs.2 p.1 ne).trans e,n,ne,nf,d⟩
 .have hfn:X.fn x=true:=by
   rcases hf with z | z
   .exact z
   .rw[z] at hk;cases hk
  obtain⟨c,U⟩:=I.ok.has x (.inl hk);obtain⟨R,z⟩:=I.cell x c U;refine wpAny_storeName_cell I.ok.kind hk U z (fun h' O hs=> ?_)
  obtain⟨oc,L,K⟩:=id z;refine h {s with heap:=h'} ⟨I.ok,I.os,I.bare,⟨fun b o e n D f=> ?_,fun b o e n D f=> ?_,I.base.free,fun b o e f=> ?_,I.base.tups,I.base.frzs,I.base.tbls⟩,⟨m,Y.sameBut hs (SD (cne x c U)),fun j y v' J B e3=> ?_⟩,fun y T e=> ?_,I.free,I.freeC,fun p W=> ?_,C ⟨oc,L,I.freeC x c U⟩ hs,by simpa using I.len⟩ ⟨c,hs,.inr U⟩
  .exact(hs.2 b (Sk (Sb (R_ e) (I.ok.cab x c hfn U)))).trans (I.base.keep b o e n D f)
  .obtain⟨sl,J⟩:=I.base.slot b o e n D f;exact⟨sl,(hs.2 b (Sk (Sb (R_ e) (I.ok.cab x c hfn U)))).trans J⟩
  .obtain⟨o',J⟩:=I.base.there b o e f;exact⟨o',(hs.2 b (Sk (Sb (R_ e) (I.ok.cab x c hfn U)))).trans J⟩
  .by_cases hj:j=i
   .subst hj;rw[F] at J;cases J;rw[Uv P] at B
    cases B
    exact⟨u,r,.inr ⟨.inl hk,c,U,O⟩⟩
   .rw[Vw (SD hj)] at B;obtain⟨u',r',q⟩:=hl j y v' J B e3;refine⟨u',r',?_⟩
    rcases q with q | ⟨k,T,e,z'⟩
    .exact .inl q
    .refine .inr ⟨k,T,e,z'.sameBut hs ?_⟩
     rintro rfl
     exact hj (zo hN J (I.ok.inj _ _ _ e U ▸ F))
  .by_cases hcc:T=c
   .subst hcc;exact⟨_,O⟩
   .obtain⟨w2,z2⟩:=I.cell y T e;exact⟨w2,z2.sameBut hs hcc⟩
  .obtain⟨e,n,ne,nf,d⟩:=I.pin p W;refine⟨(hs.2 p.1 ?_).trans e,n,ne,nf,d⟩
   intro q;rw[q,L] at e;have q':oc=p.2:=Sj e;exact d R (by rw[<- q'];exact K)
theorem vX{M:Model}{A:Around}{E:Value->Shared->Prop}{i:Nat}{x:Str}{v:V}{u:Value}{Q:Unit->Shared->Prop}(I:Inv X pins Z H s)(U:X.N.Nodup)(C:X.N[i]? =some x)(o:Loc X.env.scope x)(r:bC v u)
  (h:∀s',Inv X pins (Z.set i (some v)) H s'->Q () s') (J:X.fn x=true\/X.env.scope.names.lookup x=some .local:=by first | exact .inl rfl | exact .inr rfl | assumption):wpAny M A (storeName X.env x u) Q E s:=
 A9 I U C o r (fun s' a _=>h s' a) J
theorem Inv.call'{s':Shared}{ch:List Addr}(I:Inv X pins Z H s)(ho:s'.os=s.os)(u:Un (frs X.stack) ch H H' s.heap s'.heap)(o:HOk X.prog X.w H' s'.heap)(d:AllBare s'.gens)
  (C:∀b∈ch,(b∈X.ex\/X.s₀.heap.objs.size<=b)/\b≠X.env.locals/\(∀x c,X.env.cells.lookup x=some c->c≠b)/\∀p∈X.pn++pins,p.1≠b):Inv X pins Z H' s':=by
 obtain⟨h',a,U,J,f⟩:=s';have e:f=s.os:=ho;subst e;exact I.call (g':=a) (t':=J) (d':=U) u o d C
end
abbrev XK:=Value->Option Addr->Hp->Prop
abbrev St:=List (Option V)
abbrev VK:=V->Hp->Prop
abbrev TE:=St->Hp->VK->Prop
abbrev TT:=St->Hp->(Bool->Hp->Prop)->Prop
abbrev TA:=St->Hp->(List V->Hp->Prop)->Prop
structure pD where
 nx:St->Hp->Prop
 rt:VK
 bk:St->Hp->Prop:=fun _ _=>False
 ct:St->Hp->Prop:=fun _ _=>False
abbrev TS:=pD->St->Hp->Prop
def EP(X:Cx)(o:List (Addr × Obj))(Z:St)(Q:VK)(u:Value)(s':Shared):Prop:=∃v C,Inv X o Z C s'/\bC v u/\Q v C
def TP(X:Cx)(o:List (Addr × Obj))(Z:St)(Q:Bool->Hp->Prop)(b:Bool)(s':Shared):Prop:=∃C,Inv X o Z C s'/\Q b C
def AP(X:Cx)(o:List (Addr × Obj))(Z:St)(Q:List V->Hp->Prop)(us:List Value)(s':Shared):Prop:=∃vs C,Inv X o Z C s'/\aY vs us/\Q vs C
def SP(X:Cx)(o:List (Addr × Obj))(D:pD)(f:Flow)(s':Shared):Prop:=
 match f with
 | .next=>∃I C,Inv X o I C s'/\D.nx I C
 | .brk=>∃I C,Inv X o I C s'/\D.bk I C
 | .cont=>∃I C,Inv X o I C s'/\D.ct I C
 | .ret u=>∃v I C,Inv X o I C s'/\bC v u/\D.rt v C
@[irreducible] def PE(X:Cx)(e:Expr)(t:TE):Prop:=
 ∀(o:List (Addr × Obj)) (s:Shared) (Z:St) (H:Hp) (Q:VK),Inv X o Z H s->t Z H Q->wpAny (model X.prog X.w) X.A (eval e X.env) (EP X o Z Q) X.xe s
@[irreducible] def PT(X:Cx)(e:Expr)(t:TT):Prop:=
 ∀(o:List (Addr × Obj)) (s:Shared) (Z:St) (H:Hp) (Q:Bool->Hp->Prop),Inv X o Z H s->t Z H Q->wpAny (model X.prog X.w) X.A (isTrue e X.env (eval e X.env)) (TP X o Z Q) X.xe s
@[irreducible] def PW(X:Cx)(e:Expr)(t:TT):Prop:=
 ∀(whole:Sem Value) (o:List (Addr × Obj)) (s:Shared) (Z:St) (H:Hp) (Q:Bool->Hp->Prop),Inv X o Z H s->t Z H Q->wpAny (model X.prog X.w) X.A (isTrue e X.env whole) (TP X o Z Q) X.xe s
theorem PW.pt{X:Cx}{e:Expr}{t:TT}(h:PW X e t):PT X e t:=h _
@[irreducible] def PA(X:Cx)(I:List Expr)(t:TA):Prop:=
 ∀(C:Pos) (o:List (Addr × Obj)) (s:Shared) (Z:St) (H:Hp) (Q:List V->Hp->Prop),Inv X o Z H s->t Z H Q->wpAny (model X.prog X.w) X.A (spliced (backTo C (starEach I X.env))) (AP X o Z Q) X.xe s
@[irreducible] def PS(X:Cx)(st:Stmt)(t:TS):Prop:=
 ∀(o:List (Addr × Obj)) (s:Shared) (Z:St) (H:Hp) (D:pD),Inv X o Z H s->t D Z H->wpAny (model X.prog X.w) X.A (exec st X.env) (SP X o D) X.xe s
@[irreducible] def PSs(X:Cx)(st:List Stmt)(t:TS):Prop:=
 ∀(o:List (Addr × Obj)) (s:Shared) (Z:St) (H:Hp) (D:pD),Inv X o Z H s->t D Z H->wpAny (model X.prog X.w) X.A (execs st X.env) (SP X o D) X.xe s
theorem thn{o:Type}{t:Sem o}{Q C:o->Shared->Prop}{M:Model}{A:Around}{E:Value->Shared->Prop}{s:Shared}(h:wpAny M A t Q E s)(I:∀a s,Q a s->C a s):wpAny M A t C E s:=S8 h I fun _ _ x=>x
theorem Eo{o J:Type}{p q:o->Shared->J->Prop}{t:Sem o}{C:o->Shared->Prop}{M:Model}{A:Around}{E:Value->Shared->Prop}{s:Shared}(h:wpAny M A t (fun a s=>∃x,p a s x/\q a s x) E s)(I:∀a s x,p a s x->q a s x->C a s):wpAny M A t C E s:=thn h fun a s h=>V0 h fun x h=>I a s x h.1 h.2
theorem PB{o U I:Type}{p q:o->Shared->U->I->Prop}{t:Sem o}{C:o->Shared->Prop}{M:Model}{A:Around}{E:Value->Shared->Prop}{s:Shared}(h:wpAny M A t (fun a s=>∃x y,p a s x y/\q a s x y) E s)(J:∀a s x y,p a s x y->q a s x y->C a s):wpAny M A t C E s:=thn h fun a s h=>V0 h fun x h=>V0 h fun y h=>J a s x y h.1 h.2
theorem cw{o U I:Type}{p r q:o->Shared->U->I->Prop}{t:Sem o}{C:o->Shared->Prop}{M:Model}{A:Around}{E:Value->Shared->Prop}{s:Shared}(h:wpAny M A t (fun a s=>∃x y,p a s x y/\r a s x y/\q a s x y) E s)(J:∀a s x y,p a s x y->r a s x y->q a s x y->C a s):wpAny M A t C E s:=thn h fun a s h=>V0 h fun x h=>V0 h fun y h=>J a s x y h.1 h.2.1 h.2.2
section
variable {X : Cx}
def O5(i:Nat):TE:=fun Z H Q=>∃v,Z[i]? =some (some v)/\Q v H
def tC(v:V):TE:=fun _ H Q=>Q v H
theorem Op{i:Nat}{x:Str}{a:Pos}(j:X.N[i]? =some x)(k:Vis X.env.scope x)(hd:(x==("__debug__":Str))=false:=by decide)(U:(x==("__classdict__":Str))=false:=by decide):PE X (.Name x a) (O5 i):=by
 intro J s Z H Q I h;obtain⟨v,e,h⟩:=h;obtain⟨m,f,d⟩:=I.loc;obtain⟨u,r,l⟩:=d i x v j e k;have fin:EP X J Z Q u s:=⟨v,H,I,r,h⟩;rcases l with⟨C,hm⟩|⟨C,c,b,o⟩
 .exact wpAny_Name (wpAny_loadName_local I.ok.kind C f hm fin) hd
 .rcases C with C | C
  .exact wpAny_Name (wpAny_loadName_cell I.ok.kind C b o fin) hd
  .exact wpAny_Name (wpAny_loadName_free I.ok.kind C b o fin U) hd
theorem ac{i j pos}:PE X (.Constant (.int i) j pos) (tC (.int i)):=fun _ _ _ H _ I h=>wpAny_Constant_int ⟨.int i,H,I.tok _,⟨_,rfl⟩,h⟩
theorem tI{b j pos}:PE X (.Constant (.bool b) j pos) (tC (.bl b)):=fun _ _ _ H _ I h=>Constant_bool ⟨.bl b,H,I,rfl,h⟩
theorem cO{j pos}:PE X (.Constant .none j pos) (tC .non):=fun _ _ _ H _ I h=>W7 ⟨.non,H,I,rfl,h⟩
theorem av{x j pos}:PE X (.Constant (.str x) j pos) (tC (.str x)):=fun _ _ _ H _ I h=>Calls.Constant_str ⟨.str x,H,I.tok _,⟨_,rfl⟩,h⟩
def Gl(X:Cx)(x:Str):Prop:=X.env.kindOf x=some .globalImplicit
theorem jJ{E:Value->Shared->Prop}{o:List (Addr × Obj)}{s:Shared}{Z:St}{H:Hp}{x:Str}{u:Value}{C:Pos}{Q:Value->Shared->Prop}(I:Inv X o Z H s)(J:Gl X x)(hm:X.mg x=some u)(h:Q u s)
  (hd:(x==("__debug__":Str))=false:=by decide):wpAny (model X.prog X.w) X.A (eval (.Name x C) X.env) Q E s:=
 VP I.ok.kind J (Calls.loadGlobal_global (by rw[I.ok.glob];exact I.mod.glob.keeps I.bk) hm h) hd
theorem lL{E:Value->Shared->Prop}{o:List (Addr × Obj)}{s:Shared}{Z:St}{H:Hp}{x:Str}{u:Value}{C:Pos}{Q:Value->Shared->Prop}(I:Inv X o Z H s)(J:Gl X x)(hm:X.mg x=none)(b:bootBuiltins x=some u)(h:Q u s)
  (U:x≠"__name__":=by decide) (hd:(x==("__debug__":Str))=false:=by decide):wpAny (model X.prog X.w) X.A (eval (.Name x C) X.env) Q E s:=by
 obtain⟨d,c,a⟩:=I.mod.blt;exact VP I.ok.kind J (Calls.loadGlobal_builtin (by rw[I.ok.glob];exact I.mod.glob.keeps I.bk) hm (by rw[I.ok.blt];exact c.keeps I.bk) ((a x U).trans b) h) hd
theorem cZ{x:Str}{v:V}{u:Value}{o:Pos}(C:Gl X x)(hm:X.mg x=some u)(r:bC v u)(hd:(x==("__debug__":Str))=false:=by decide):PE X (.Name x o) (tC v):=
 fun _ _ _ H _ I h=>jJ I C hm ⟨v,H,I,r,h⟩ hd
theorem Ig{x:Str}{v:V}{u:Value}{o:Pos}(C:Gl X x)(hm:X.mg x=none)(J:bootBuiltins x=some u)(r:bC v u)(U:x≠"__name__":=by decide)(hd:(x==("__debug__":Str))=false:=by decide):PE X (.Name x o) (tC v):=
 fun _ _ _ H _ I h=>lL I C hm J ⟨v,H,I,r,h⟩ U hd
variable {a b : Expr} {ta tb : TE} {pos : Pos}
def PC(X:Cx)(J:CmpOp)(a b:Expr)(t:TE):Prop:=
 ∀(o:List (Addr × Obj)) (s:Shared) (Z:St) (H:Hp) (Q:VK),Inv X o Z H s->t Z H Q->
  wpAny (model X.prog X.w) X.A (eval a X.env) (fun v I=>wpAny (model X.prog X.w) X.A (eval b X.env) (fun u C=>wpAny (model X.prog X.w) X.A (compareOp J v u) (EP X o Z Q) X.xe C) X.xe I) X.xe s
theorem Fb(b:Expr){o:CmpOp}(h:o≠ .In)(C:o≠ .NotIn):behindInMarks o b=false:=by
 have I:(o==CmpOp.In)=false:=by cases o <;> first | rfl | exact absurd rfl h
 have J:(o==CmpOp.NotIn)=false:=by cases o <;> first | rfl | exact absurd rfl C
 cases b <;> simp [behindInMarks,I,J]
def RM(ta:TE):TE:=fun Z H Q=>ta Z H fun x o=>Q (.bl (decide (x= .non))) o
def PQ(ta:TE):TE:=fun Z H Q=>ta Z H fun x o=>Q (.bl (!decide (x= .non))) o
theorem bC.none_iff{x:V}{v:Value}(r:bC x v):(v==Value.none)=decide (x= .non):=by
 cases x with
 | non=>cases r;rfl
 | bl _=>cases r;rfl
 | int _=>obtain⟨t,rfl⟩:=r;rfl
 | str _=>obtain⟨t,rfl⟩:=r;rfl
 | byt _=>obtain⟨t,rfl⟩:=r;rfl
 | flt _=>obtain⟨t,rfl⟩:=r;rfl
 | ref _=>cases r;rfl
 | ty _=>cases r;rfl
theorem kf{j pos'}(U:PE X a ta):PC X .Is a (.Constant .none j pos') (RM ta):=by
 intro o s Z H Q I h;refine cw (U o s Z H _ I h) fun v e x c J C d=> ?_
 exact W7 (is_none_gen ⟨.bl _,c,J,by rw[C.none_iff];rfl,d⟩)
theorem HC{j pos'}(U:PE X a ta):PC X .IsNot a (.Constant .none j pos') (PQ ta):=by
 intro o s Z H Q I h;refine cw (U o s Z H _ I h) fun v e x c J C d=> ?_
 exact W7 (isnot_none_gen ⟨.bl _,c,J,by rw[C.none_iff];rfl,d⟩)
def tB(t:TE):TT:=fun Z H Q=>t Z H fun x o=>∃c,x= .bl c/\Q c o
theorem Gf{C:CmpOp}{t:TE}(h:PC X C a b t)(J:behindInMarks C b=false:=by first | exact Fb _ (by decide) (by decide) | rfl):PE X (.Compare a [C] [b] pos) t:=fun o s Z H Q I hw=>wpAny_Compare1 (h o s Z H Q I hw) J
theorem jT{C:CmpOp}{t:TE}(h:PC X C a b t)(J:behindInMarks C b=false:=by first | exact Fb _ (by decide) (by decide) | rfl):PT X (.Compare a [C] [b] pos) (tB t):=by
 intro o s Z H Q I hw;refine WH (thn (h o s Z H _ I hw) fun v k J=>thn J fun u m U=>thn U fun c l ⟨x,e,j,i,f⟩=> ?_) J
 obtain⟨d,rfl,q⟩:=f
 cases i
 exact Ud ⟨e,j,q⟩
theorem bN{e:Expr}{t:TE}(h:PE X e t)(he:∀whole,isTrue e X.env whole=(do let v <-whole;standAt e.pos;holding [v] (truthy v)):=by intro _;rfl):PT X e (tB t):=by
 intro o s Z H Q I hw;refine isTrue_plain (cw (h o s Z H _ I hw) fun v f x C c U J=> ?_) (he _)
 obtain⟨d,rfl,q⟩:=J
 cases U
 exact Ud ⟨C,c,q⟩
variable {tA tB' : TT} {rest : List Expr}
def Ro(t u:TT):TT:=fun Z H Q=>t Z H fun c o=>if c=true then u Z o Q else Q false o
def tOr(t u:TT):TT:=fun Z H Q=>t Z H fun c o=>if c=true then Q true o else u Z o Q
def Rf(t:TT):TT:=fun Z H Q=>t Z H fun c o=>Q (!c) o
theorem oH(C:PT X a tA):PW X (.BoolOp .And [a] pos) tA:=by
 intro J o s Z H Q I h;refine isTrue_and (thn (C o s Z H Q I h) fun c U e=> ?_)
 cases c with
 | true=>exact isTrue_and_nil e
 | false=>exact e
theorem eY(C:PT X a tA):PW X (.BoolOp .Or [a] pos) tA:=by
 intro J o s Z H Q I h;refine isTrue_or (thn (C o s Z H Q I h) fun c U e=> ?_)
 cases c with
 | false=>exact isTrue_or_nil e
 | true=>exact e
theorem uF(f:PT X a tA)(i:PW X (.BoolOp .And (b::rest) pos) tB'):PW X (.BoolOp .And (a::b::rest) pos) (Ro tA tB'):=by
 intro d o s Z H Q I h;refine isTrue_and (Eo (f o s Z H _ I h) fun c e J C U=> ?_)
 cases c with
 | true=>exact i d o e Z J Q C U
 | false=>exact⟨J,C,U⟩
theorem gX(f:PT X a tA)(i:PW X (.BoolOp .Or (b::rest) pos) tB'):PW X (.BoolOp .Or (a::b::rest) pos) (tOr tA tB'):=by
 intro d o s Z H Q I h;refine isTrue_or (Eo (f o s Z H _ I h) fun c e J C U=> ?_)
 cases c with
 | true=>exact⟨J,C,U⟩
 | false=>exact i d o e Z J Q C U
theorem ff(C:PT X a tA):PT X (.UnaryOp .Not a pos) (Rf tA):=by
 intro o s Z H Q I h;exact isTrue_not (C o s Z H (fun c J=>Q (!c) J) I h)
def P9(ta tb:TE):TE:=fun Z H Q=>ta Z H fun x o=>∃c,x= .bl c/\if c=true then tb Z o Q else Q (.bl false) o
def Q_(ta tb:TE):TE:=fun Z H Q=>ta Z H fun x o=>∃c,x= .bl c/\if c=true then Q (.bl true) o else tb Z o Q
def PU(ta:TE):TE:=fun Z H Q=>ta Z H fun x o=>∃c,x= .bl c/\Q (.bl (!c)) o
theorem gg{op}{t:TE}(h:PE X a t):PE X (.BoolOp op [a] pos) t:=fun o s Z H Q I hw=>BoolOp_one (h o s Z H Q I hw)
theorem gL(f:PE X a ta)(i:PE X (.BoolOp .And (b::rest) pos) tb):PE X (.BoolOp .And (a::b::rest) pos) (P9 ta tb):=by
 intro o s Z H Q I h;refine BoolOp_and (cw (f o s Z H _ I h) fun v e x U J d C=> ?_)
 obtain⟨c,rfl,C⟩:=C
 cases d
 refine Ud ?_
 cases c with
 | true=>exact i o e Z U Q J C
 | false=>exact⟨.bl false,U,J,rfl,C⟩
theorem Bg(f:PE X a ta)(i:PE X (.BoolOp .Or (b::rest) pos) tb):PE X (.BoolOp .Or (a::b::rest) pos) (Q_ ta tb):=by
 intro o s Z H Q I h;refine BoolOp_or (cw (f o s Z H _ I h) fun v e x U J d C=> ?_)
 obtain⟨c,rfl,C⟩:=C
 cases d
 refine Ud ?_
 cases c with
 | false=>exact i o e Z U Q J C
 | true=>exact⟨.bl true,U,J,rfl,C⟩
theorem Ou(d:PE X a ta):PE X (.UnaryOp .Not a pos) (PU ta):=by
 intro o s Z H Q I h;refine UnaryOp_ (cw (d o s Z H _ I h) fun v f x e U J C=> ?_)
 obtain⟨c,rfl,C⟩:=C
 cases J
 exact not_of (Ud ⟨.bl (!c),e,U,rfl,C⟩)
def tIf(t:TT)(ta tb:TE):TE:=fun Z H Q=>t Z H fun c o=>if c=true then ta Z o Q else tb Z o Q
theorem Fq{c:Expr}(f:PT X c tA)(i:PE X a ta)(j:PE X b tb):PE X (.IfExp c a b pos) (tIf tA ta tb):=by
 intro o s Z H Q I h;refine wpAny_IfExp (Eo (f o s Z H _ I h) fun d J U C e=> ?_)
 cases d with
 | true=>exact i o J Z U Q C e
 | false=>exact j o J Z U Q C e
end
def SqL(K:Frag)(H:Hp)(a:Addr)(xs:List V):Prop:=
 Rd H a (.lst xs)\/
  ∃(o:Obj) (C:Array Value) (n:Nat),K.lookup a=some o/\o.cls= .type "list"/\o.dict=none/\o.data= .seq C n/\C.size<=sizeLine/\aY xs C.toList
def SqT(K:Frag)(H:Hp)(a:Addr)(xs:List V):Prop:=
 Rd H a (.tup xs)\/
  ∃(o:Obj) (C:Array Value) (n:Nat),K.lookup a=some o/\o.cls= .type "tuple"/\o.data= .seq C n/\C.size<=sizeLine/\aY xs C.toList
noncomputable def RB:Value->Option V
 | .none=>some .non
 | .bool b=>some (.bl b)
 | .int i _=>some (.int i)
 | .str x _=>some (.str x)
 | .bytes b _=>some (.byt b)
 | .float b _=>some (.flt b)
 | .ref a=>some (.ref a)
 | .type n=>some (.ty n)
 | _=>none
theorem bC.abs{x:V}{u:Value}(r:bC x u):RB u=some x:=by
 cases x with
 | non=>cases r;rfl
 | bl _=>cases r;rfl
 | int _=>obtain⟨t,rfl⟩:=r;rfl
 | str _=>obtain⟨t,rfl⟩:=r;rfl
 | byt _=>obtain⟨t,rfl⟩:=r;rfl
 | flt _=>obtain⟨t,rfl⟩:=r;rfl
 | ref _=>cases r;rfl
 | ty _=>cases r;rfl
theorem bC.inj{x y:V}{u:Value}(r:bC x u)(q:bC y u):x=y:=Sj (r.abs.symm.trans q.abs)
theorem aY.inj:∀{xs ys:List V}{us:List Value},aY xs us->aY ys us->xs=ys
 | _,_,_,.nil,.nil=>rfl
 | _,_,_,.cons r t,.cons r' t'=>by rw[r.inj r',aY.inj t t']
section
variable {X : Cx} {pins : List (Addr × Obj)} {σ : St} {H : Hp} {s : Shared} {a : Addr} {xs ys : List V}
theorem SqL.of{K:Frag}(h:H a=some (.lst xs)):SqL K H a xs:= .inl (.inl h)
theorem SqT.of{K:Frag}(h:H a=some (.tup xs)):SqT K H a xs:= .inl (.inl h)
theorem Inv.list(I:Inv X pins Z H s)(h:SqL X.K H a xs):∃C:List Value,aY xs C/\PlainL s.heap a C.toArray/\xs.length<=sizeLine:=by
 rcases h with h | ⟨o,C,n,hk,hc,hd,hs,hz,r⟩
 .obtain⟨z,C,n,r,e⟩:=h.ok I.hok;exact⟨C,r,⟨_,n,e,rfl,rfl,rfl⟩,z⟩
 .refine⟨C.toList,r,⟨o,n,I.kIn a o hk,hc,hd,by simpa using hs⟩,?_⟩
  have e:=r.length
  simp only[VG] at e
  lia
theorem Inv.tuple(I:Inv X pins Z H s)(h:SqT X.K H a xs):∃C:List Value,aY xs C/\IsTup s.heap a C.toArray/\xs.length<=sizeLine:=by
 rcases h with h | ⟨o,C,n,hk,hc,hs,hz,r⟩
 .obtain⟨z,C,r,p⟩:=h.ok I.hok;exact⟨C,r,p,z⟩
 .refine⟨C.toList,r,⟨o,I.kIn a o hk,hc,n,by simpa using hs⟩,?_⟩
  have e:=r.length
  simp only[VG] at e
  lia
theorem Inv.list_inj(I:Inv X pins Z H s)(h:SqL X.K H a xs)(h':SqL X.K H a ys):xs=ys:=by
 obtain⟨J,r,⟨o,n,e,_,_,d⟩,_⟩:=I.list h;obtain⟨C,c,⟨i,f,U,_,_,b⟩,_⟩:=I.list h';rw[e] at U;cases U;rw[d] at b
 injection b with d1 _
 have:J=C:=by simpa using congrArg Array.toList d1
 subst this;exact r.inj c
theorem Inv.tuple_inj(I:Inv X pins Z H s)(h:SqT X.K H a xs)(h':SqT X.K H a ys):xs=ys:=by
 obtain⟨J,r,⟨o,e,_,n,d⟩,_⟩:=I.tuple h;obtain⟨C,c,⟨i,U,_,f,b⟩,_⟩:=I.tuple h';rw[e] at U;cases U;rw[d] at b
 injection b with d1 _
 have:J=C:=by simpa using congrArg Array.toList d1
 subst this;exact r.inj c
end
noncomputable abbrev Cx.wish(X:Cx)(E:Value->Shared->Prop):Cx:={X with xe:=E}
noncomputable abbrev Cx.nox(X:Cx):Cx:=X.wish fun _ _=>False
theorem Cx.Ok.wish{X:Cx}(ok:X.Ok)(E:Value->Shared->Prop):(X.wish E).Ok:=
 ⟨ok.mod,ok.kind,ok.glob,ok.blt,ok.above,ok.inj,ok.has,ok.cab,ok.hd,ok.frames,ok.stk,ok.exf,ok.bs,ok.bsz,ok.noex,ok.exfs,ok.funs,ok.frf⟩
theorem Cx.Ok.unwish{X:Cx}{E:Value->Shared->Prop}(ok:(X.wish E).Ok):X.Ok:=
 ⟨ok.mod,ok.kind,ok.glob,ok.blt,ok.above,ok.inj,ok.has,ok.cab,ok.hd,ok.frames,ok.stk,ok.exf,ok.bs,ok.bsz,ok.noex,ok.exfs,ok.funs,ok.frf⟩
section
variable {X : Cx} {pins : List (Addr × Obj)} {σ : St} {H : Hp} {s : Shared} {E : Value → Shared → Prop}
theorem Inv.wish(I:Inv X pins Z H s)(E:Value->Shared->Prop):Inv (X.wish E) pins Z H s:=⟨I.ok.wish E,I.os,I.bare,I.base,I.loc,I.cell,I.free,I.freeC,I.pin,I.hok,I.len⟩
theorem Inv.unwish(I:Inv (X.wish E) pins Z H s):Inv X pins Z H s:=⟨I.ok.unwish,I.os,I.bare,I.base,I.loc,I.cell,I.free,I.freeC,I.pin,I.hok,I.len⟩
theorem SP.unwish{D:pD}{f:Flow}{s':Shared}(h:SP (X.wish E) pins D f s'):SP X pins D f s':=by
 cases f with
 | next=>obtain⟨C,o,I,q⟩:=h;exact⟨C,o,I.unwish,q⟩
 | brk=>obtain⟨C,o,I,q⟩:=h;exact⟨C,o,I.unwish,q⟩
 | cont=>obtain⟨C,o,I,q⟩:=h;exact⟨C,o,I.unwish,q⟩
 | ret u=>obtain⟨v,C,o,I,r,q⟩:=h;exact⟨v,C,o,I.unwish,r,q⟩
theorem PE.nox{e:Expr}{t:TE}(h:PE X.nox e t):PE X e t:=fun pins s Z H Q I hw=>
 S8 (h pins s Z H Q (I.wish _) hw) (fun _ _ ⟨v,o,C,r,q⟩=>⟨v,o,C.unwish,r,q⟩) fun _ _ z=>False.elim z
theorem PSs.nox{st:List Stmt}{t:TS}(h:PSs X.nox st t):PSs X st t:=fun pins s Z H D I hw=>
 S8 (h pins s Z H D (I.wish _) hw) (fun _ _ q=>q.unwish) fun _ _ z=>False.elim z
end
section
variable {X : Cx} {st : Stmt} {rest : List Stmt} {t u : TS} {e : Expr} {te : TE} {pos : Pos}
def PK:TS:=fun D Z H=>D.nx Z H
def QC(t u:TS):TS:=fun D Z H=>t {D with nx:=u D} Z H
theorem ao:PSs X [] PK:=fun _ _ Z H _ I h=>UV ⟨Z,H,I,h⟩
theorem aa(U:PS X st t)(J:PSs X rest u):PSs X (st::rest) (QC t u):=by
 intro o s Z H D I h;refine wpAny_execs_cons (thn (U o s Z H {D with nx:=u D} I h) fun f c q=> ?_)
 cases f with
 | next=>
  obtain⟨a,C,b,q⟩:=q;exact J o c a C D b q
 | ret v=>exact q
 | brk=>exact q
 | cont=>exact q
theorem ad(C:PS X st t):PSs X [st] t:=by
 intro o s Z H D I h;refine wpAny_execs_cons (thn (C o s Z H D I h) fun f J q=> ?_)
 cases f with
 | next=>exact UV q
 | ret v=>exact q
 | brk=>exact q
 | cont=>exact q
theorem Inv.quiet{o:List (Addr × Obj)}{Z:St}{H:Hp}{s:Shared}(I:Inv X o Z H s):interactive X.env=false:=by simp [interactive,I.ok.kind]
def PH(te:TE):TS:=fun D Z H=>te Z H fun _ o=>D.nx Z o
theorem bj(he:PE X e te)(hs:swapsWith e none pos.line X.env=pure false:=by rfl):PS X (.Expr e pos) (PH te):=by
 intro o s Z H D I h;exact wpAny_Expr_any (cw (he o s Z H _ I h) fun v b x J C a U=>⟨Z,J,C,U⟩) I.quiet hs
def Rg(te:TE):TS:=fun D Z H=>te Z H D.rt
theorem ah(he:PE X e te):PS X (.Return (some e) pos) (Rg te):=by
 intro o s Z H D I h;exact wpAny_Return_some (cw (he o s Z H _ I h) fun v b x U J C a=>⟨x,Z,U,J,C,a⟩)
def RN(c:TT)(t u:TS):TS:=fun D Z H=>c Z H fun b o=>if b=true then t D Z o else u D Z o
theorem aC{c:Expr}{a b:List Stmt}{U:TT}(k:PT X c U)(l:PSs X a t)(j:PSs X b u):PS X (.If c a b pos) (RN U t u):=by
 intro o s Z H D I h;refine wpAny_If (Eo (k o s Z H _ I h) fun d C J i f=> ?_)
 cases d with
 | true=>exact l o C Z J D i f
 | false=>exact j o C Z J D i f
def Pc:TS:=fun _ _ _=>False
theorem qA:PS X st Pc:=fun _ _ _ _ _ _ h=>h.elim
end
abbrev TG:=V->St->Hp->(St->Hp->Prop)->Prop
abbrev TGs:=List V->St->Hp->(St->Hp->Prop)->Prop
@[irreducible] def PG(X:Cx)(o:Expr)(t:TG):Prop:=
 ∀(C:List (Addr × Obj)) (s:Shared) (Z:St) (H:Hp) (v:V) (u:Value) (Q:St->Hp->Prop),Inv X C Z H s->bC v u->t v Z H Q->
  wpAny (model X.prog X.w) X.A (assign o X.env u) (fun _ U=>∃J I,Inv X C J I U/\Q J I) X.xe s
@[irreducible] def PGs(X:Cx)(a:List Expr)(t:TGs):Prop:=
 ∀(o:List (Addr × Obj)) (s:Shared) (Z:St) (H:Hp) (vs:List V) (I:List Value) (Q:St->Hp->Prop),Inv X o Z H s->aY vs I->t vs Z H Q->
  wpAny (model X.prog X.w) X.A (assignInOrder ((assignEach a X.env).map (·.2)) I) (fun _ U=>∃J C,Inv X o J C U/\Q J C) X.xe s
abbrev Oe:=V->V->V->Hp->(Hp->Prop)->Prop
def Qc(X:Cx)(t:Oe):Prop:=
 ∀(C:List (Addr × Obj)) (s:Shared) (Z:St) (H:Hp) (o i v:V) (U J u:Value) (Q:Hp->Prop),Inv X C Z H s->bC o U->bC i J->bC v u->t o i v H Q->
  wpAny (model X.prog X.w) X.A (setItem U J u) (fun _ a=>∃I,Inv X C Z I a/\Q I) X.xe s
section
variable {X : Cx} {pos : Pos}
def yM(i:Nat):TG:=fun v Z H Q=>Q (Z.set i (some v)) H
theorem aJ{i:Nat}{x:Str}(a:X.N.Nodup)(J:X.N[i]? =some x)(C:Loc X.env.scope x)(U:X.fn x=true\/X.env.scope.names.lookup x=some .local:=by first | exact .inl rfl | exact .inr rfl | assumption):PG X (.Name x pos) (yM i):=by
 intro o s Z H v u Q I r h;exact wpAny_assign_Name (vX I a J C r (fun c b=>⟨_,H,b,h⟩) U)
def Rs:TGs:=fun vs Z H Q=>vs=[]/\Q Z H
def QU(t:TG)(u:TGs):TGs:=fun vs Z H Q=>∃v r,vs=v::r/\t v Z H fun C o=>u r C o Q
theorem jg:PGs X [] Rs:=by
 intro o s Z H vs C Q I r h;obtain⟨e,h⟩:=h;subst e
 cases r
 exact assignInOrder_nil ⟨Z,H,I,h⟩
theorem bH{e:Expr}{C:List Expr}{t:TG}{u:TGs}(i:PG X e t)(a:PGs X C u)
  (hs:(assignEach (e::C) X.env).map (·.2)=assign e X.env::(assignEach C X.env).map (·.2):=by rfl):PGs X (e::C) (QU t u):=by
 intro o s Z H vs k Q I r h;obtain⟨v,j,b,h⟩:=h;subst b
 cases r with
 | cons r rr=>
  rw[hs];refine assignInOrder_cons (PB (i o s Z H _ _ _ I r h) fun _ U J c f d=> ?_)
  exact a o U J c _ _ Q f rr d
def Ri(K:Frag)(n:Nat)(t:TGs):TG:=fun v Z H Q=>∃a o,v= .ref a/\SqT K H a o/\o.length=n/\t o Z H Q
theorem mB{J:List Expr}{k:Nat}{t:TGs}{n:Nat}(y:X.calm=true)(h:PGs X J t)
  (m:(assignEach J X.env).length=n:=by rfl) (U:(assignEach J X.env).findIdx? (·.1)=none:=by rfl):PG X (.Tuple J k pos) (Ri X.K n t):=by
 intro C s Z H v u Q I r hw;obtain⟨a,d,p,l,f,hw⟩:=hw;subst p
 cases r
 obtain⟨w,c,j,z⟩:=I.tuple l;refine assign_Tuple_tuple (I.ok.hd y) j (by simp [m, <-f,c.length]) U fun i q=> ?_
 have x:Inv X C Z H {s with heap:=i}:=I.kept (t':=s.toks) fun b o e=>q b o (Sk (R_ e)) e
 exact h C _ Z H d _ Q x (by simpa using c) hw
def Rn(I U:TE)(t:Oe):TG:=fun v Z H Q=>I Z H fun o a=>U Z a fun i J=>t o i v J fun C=>Q Z C
theorem zK{o i:Expr}{b a:TE}{t:Oe}(ho:PE X o b)(c:PE X i a)(hs:Qc X t)
  (B:∀v,assign (.Subscript o i pos) X.env v=(do
   let J <-holding [v] (eval o X.env)
   let U <-holding [v,J] (eval i X.env)
   standAt pos
   holding [v,J,U] (setItem J U v)
   release [v,J,U] []):=by intro _;rfl):PG X (.Subscript o i pos) (Rn b a t):=by
 intro C s Z H v u Q I r h;rw[B];refine RV (UB (cw (ho C s Z H _ I h) fun J f x k A w p=> ?_))
 refine RV (UB (cw (c C f Z k _ A p) fun U q y d e z l=> ?_))
 refine RV (TZ (RV (UB (Eo (hs C q Z d x y v J U u _ e w z r l) fun _ D j n m=> ?_))))
 exact wpAny_release ⟨Z,j,n,m⟩
def MQ(o:TE)(g:TG):TS:=fun D Z H=>o Z H fun x C=>g x Z C D.nx
theorem tW{C e:Expr}{J:TE}{g:TG}(he:PE X e J)(U:PG X C g)(hs:swapsWithSole [C] e pos.line X.env=pure false:=by rfl)(hw:swappedStores [C] e X.env=pure none:=by rfl)
  (i:(assignEach [C] X.env).map (·.2)=[assign C X.env]:=by rfl):PS X (.Assign [C] e pos) (MQ J g):=by
 intro o s Z H D I h;refine wpAny_Assign_stores (cw (he o s Z H _ I h) fun v a x b f d c=> ?_) hs hw
 rw[i];exact thn (U o a Z b x v _ f d c) fun _ j q=>q
theorem OJ{i:Nat}{x:Str}{e:Expr}{J:TE}{o:Pos}(d:X.N.Nodup)(U:X.N[i]? =some x)(f:Loc X.env.scope x)(he:PE X e J)(hs:swapsWith e (some (.Name x o)) pos.line X.env=pure false:=by rfl)(a:X.fn x=true\/X.env.scope.names.lookup x=some .local:=by first | exact .inl rfl | exact .inr rfl | assumption):
  PS X (.Assign [.Name x o] e pos) (MQ J (yM i)):=by
 intro C s Z H D I h;refine wpAny_Assign_Name (cw (he C s Z H _ I h) fun v m y c l k j=> ?_) hs
 exact vX l d U f k (fun n b=>⟨_,c,b,j⟩) a
end
section
variable {X : Cx} {pos : Pos}
def N4(c:TT)(U:TS):TS:=fun D Z H=>∃W:Nat->St->Hp->Prop,(∃m,W m Z H)/\∀m Z H,W m Z H->
 c Z H fun b I=>if b=true then ∃N:St->Hp->Prop,(∀J o,N J o->∃C,C<m/\W C J o)/\U {D with nx:=N,ct:=N,bk:=D.nx} Z I else D.nx Z I
theorem qG{c:Expr}{C:List Stmt}{x:TT}{u:TS}(p:PassesOwn (model X.prog X.w) X.A X.env X.xe)(P:PT X c x)(K:PSs X C u):PS X (.While c C [] pos) (N4 x u):=by
 intro o s Z H D I h;obtain⟨W,⟨F,B⟩,turn⟩:=h;refine wpAny_While (codeAny_whileLoop (fun n E=>∃z y,Inv X o z y E/\W n z y) ?_ F ⟨Z,H,I,B⟩)
 rintro n G ⟨a,q,O,L⟩
 refine Ua p (Eo (P o G a q _ O (turn n a q L)) fun b M l m d=> ?_)
 cases b with
 | true=>
  obtain⟨N,r,d⟩:=d;rw[R9 rfl];refine Ua p (thn (K o M a l _ m d) fun f Q e=> ?_)
  cases f with
  | next=>
   obtain⟨U,J,k,n3⟩:=e;obtain⟨j,hm,i⟩:=r U J n3;exact⟨j,hm,U,J,k,i⟩
  | cont=>
   obtain⟨U,J,k,n3⟩:=e;obtain⟨j,hm,i⟩:=r U J n3;exact⟨j,hm,U,J,k,i⟩
  | brk=>exact e
  | ret v=>exact e
 | false=>
  rw[R6 Sm];exact UV ⟨a,l,m,d⟩
end
structure It where
 go:Nat->Hp->Prop
 yld:Nat->Hp->V->Hp->Prop
 stop:Nat->Hp->Prop
def vj(X:Cx)(o:List (Addr × Obj))(H:Hp)(b:Addr):Prop:=
 H b=none/\b≠X.env.locals/\b ∉ X.fs/\(b∈X.ex\/X.s₀.heap.objs.size<=b)/\(∀x c,X.env.cells.lookup x=some c->c≠b)/\∀p∈X.pn++o,p.1≠b
theorem Inv.fpOk{X:Cx}{o:List (Addr × Obj)}{Z:St}{H J:Hp}{s:Shared}{b:Addr}(I:Inv X o Z H s)(C:s.heap.objs.size<=b)(a:J b=none):vj X o J b:=by
 refine⟨a,Tz (Sb I.lt C),I.nofs C,.inr (RY I.sz C),fun x c e z=> ?_,fun p U z=> ?_⟩
 .obtain⟨v,q⟩:=I.cell x c e;exact absurd (Sb q.lt (by rw[z];exact C)) (TY _)
 .exact absurd (Sb (R_ (I.pin p U).1) (by rw[z];exact C)) (TY _)
structure yK (P:Program) (w:World) (K:Frag) (tg:Expr) (J:It) (fp:List Addr) (it:Addr) (tn:Nat->Heap->Prop):Prop where
 mem:it∈fp
 obj:∀i h,tn i h->∀b∈fp, ∃o,h.get? b=some o/\∀v,o.data≠ .cell v
 keep:∀i h h',tn i h->(∀b∈fp, ∀o,h.get? b=some o->h'.get? b=some o)->tn i h'
 item:∀(X:Cx),X.prog=P->X.w=w->X.K=K->X.calm=true->∀(i:Nat) (pins:List (Addr × Obj)) (s:Shared) (Z:St) (H:Hp) (E:Value->Shared->Prop),Inv X pins Z H s->(∀b∈fp,vj X pins H b)->tn i s.heap->J.go i H->
  wpAny (model P w) X.A (pyNext (.ref it)) (fun r s1=>∃u,r=some u/\
   wpAny (model P w) X.A (letOwnedTupleGo tg (.ref it) u) (fun _ s2=>∃x H',Inv X pins Z H' s2/\bC x u/\J.yld i H x H'/\tn (i+1) s2.heap/\∀b∈fp,H' b=none) E s1) E s
 done:∀(X:Cx),X.prog=P->X.w=w->X.K=K->X.calm=true->∀(i:Nat) (pins:List (Addr × Obj)) (s:Shared) (Z:St) (H:Hp) (E:Value->Shared->Prop),Inv X pins Z H s->(∀b∈fp,vj X pins H b)->tn i s.heap->J.stop i H->
  wpAny (model P w) X.A (pyNext (.ref it)) (fun r s1=>r=none/\Inv X pins Z H s1) E s
 self:∀(A:Around) (i:Nat) (s:Shared) (Q:Value->Shared->Prop) (E:Value->Shared->Prop),tn i s.heap->Q (.ref it) s->wpAny (model P w) A (pyIter (.ref it)) Q E s
abbrev TI:=St->Hp->(It->Hp->Prop)->Prop
def PIE(X:Cx)(o:List (Addr × Obj))(Z:St)(e:Expr)(R:It->Hp->Prop)(I:Value)(c:Shared):Prop:=
 ∃(a:Addr) (d:List Addr) (U:Nat->Heap->Prop) (J:It) (C:Hp),I= .ref a/\Inv X o Z C c/\yK X.prog X.w X.K e J d a U/\U 0 c.heap/\(∀b∈d,vj X o C b)/\R J C
@[irreducible] def PI(X:Cx)(I C:Expr)(J:TI):Prop:=
 ∀(o:List (Addr × Obj)) (s:Shared) (Z:St) (H:Hp) (R:It->Hp->Prop),Inv X o Z H s->J Z H R->
  wpAny (model X.prog X.w) X.A (eval C X.env) (fun v U=>wpAny (model X.prog X.w) X.A (pyIter v) (PIE X o Z I R) X.xe U) X.xe s
theorem DO{M : Model}{A : Around}{E : Value → Shared → Prop}{s : Shared}{I : Expr}{it : Addr}{u : Value}{o : Obj}{n : String}{vs : Array Value}{Q : Unit → Shared → Prop}(ho : s.heap.get? it = some o)(J : o.cls = .type n)(hd : o.data = .fields vs)
    (U : ["enumerate", "zip", "dict_itemiterator", "dict_reverseitemiterator", "odict_iterator", "itertools.zip_longest", "itertools.pairwise"].contains n = false) (C : Q () s) : wpAny M A (letOwnedTupleGo I (.ref it) u) Q E s := by
  unfold letOwnedTupleGo
  cases I <;> first
    | exact Sf C
    | (cases u <;> first
        | exact Sf C
        | (refine RV (wpAny_load ho ?_)
           rw[J, hd]
           show wpAny M A (if (["enumerate", "zip", "dict_itemiterator", "dict_reverseitemiterator", "odict_iterator", "itertools.zip_longest", "itertools.pairwise"].contains n && vs[0]? == some (rawInt _)) = true then _ else _) Q E s
           rw[R6 (by intro h; rw[U, To] at h; cases h)]
           exact Sf C))
noncomputable def Itl(K:Frag)(a:Addr):It:=
 ⟨fun i H=>∃o x,SqL K H a o/\o[i]? =some x,fun i H x C=>C=H/\∀o,SqL K H a o->o[i]? =some x,fun i H=>∃o,SqL K H a o/\o.length<=i⟩
noncomputable def Itt(K:Frag)(a:Addr):It:=
 ⟨fun i H=>∃o x,SqT K H a o/\o[i]? =some x,fun i H x C=>C=H/\∀o,SqT K H a o->o[i]? =some x,fun i H=>∃o,SqT K H a o/\o.length<=i⟩
noncomputable def Itr(lo:Int)(n:Nat):It:=⟨fun i _=>i<n,fun i H x o=>o=H/\x= .int (lo+i),fun i _=>n<=i⟩
theorem IK{P:Program}{w:World}{K:Frag}{L:Expr}(a it:Addr):yK P w K L (Itl K a) [it] it (fun i h=>h.IsListIter it a i) where
 mem:=by simp
 obj:=fun i h st b J=>by
  have e:b=it:=by simpa using J
  subst e;obtain⟨o,e,c,d⟩:=st;exact⟨o,e,fun v z=>by rw[d] at z;cases z⟩
 keep:=fun i h j st k=>st.at fun o e=>k it (by simp) o e
 item:=by
  intro X A hw q B i C s Z H E I f st m;subst A hw q;obtain⟨D,x,l,r⟩:=m;obtain⟨y,n,p,Q⟩:=I.list l;obtain⟨u,N,F⟩:=n.get r;obtain⟨f0,f1,f2,f3,f4,f5⟩:=f it (by simp)
  refine wpAny_pyNext_list_item st p.isList (x:=u) (by simpa using N) fun j U M=> ?_
  have R:Inv X C Z H {s with heap:=j}:=I.turned (t':=s.toks) (fun b o J e=>(M.2 b J).trans e) f0 f1 f3 f4 f5
  obtain⟨o,e,c,d⟩:=id U;exact⟨u,rfl,DO (s:={s with heap:=j}) e c d (by decide) ⟨x,H,R,F,⟨rfl,fun W G=>by rw[I.list_inj G l];exact r⟩,U,fun b J=>(f b J).1⟩⟩
 done:=by
  intro X A hw q B i C s Z H E I f st m;subst A hw q;obtain⟨D,l,r⟩:=m;obtain⟨y,n,p,Q⟩:=I.list l;obtain⟨f0,f1,f2,f3,f4,f5⟩:=f it (by simp)
  have T:=n.length;exact wpAny_pyNext_list_end (I.ok.hd B) st p.isList (by simp;lia) fun j O=>⟨rfl,I.turned (t':=s.toks) (fun b o J e=>O b o J e) f0 f1 f3 f4 f5⟩
 self:=fun _ _ _ _ _ st h=>wpAny_pyIter_listiter st h
theorem GY{P:Program}{w:World}{K:Frag}{L:Expr}(a it:Addr):yK P w K L (Itt K a) [it] it (fun i h=>h.IsTupleIter it a i) where
 mem:=by simp
 obj:=fun i h st b J=>by
  have e:b=it:=by simpa using J
  subst e;obtain⟨o,e,c,d⟩:=st;exact⟨o,e,fun v z=>by rw[d] at z;cases z⟩
 keep:=fun i h l st k=>st.at fun o e=>k it (by simp) o e
 item:=by
  intro X A hw r B i C s Z H E I j st n;subst A hw r;obtain⟨D,x,m,y⟩:=n;obtain⟨U,q,p,Q⟩:=I.tuple m;obtain⟨u,N,F⟩:=q.get y;obtain⟨f0,f1,f2,f3,f4,f5⟩:=j it (by simp)
  refine wpAny_pyNext_tuple_item st (show s.heap.IsTuple a U.toArray from p) (x:=u) (by simpa using N) fun l f M=> ?_
  have R:Inv X C Z H {s with heap:=l}:=I.turned (t':=s.toks) (fun b o J e=>(M.2 b J).trans e) f0 f1 f3 f4 f5
  obtain⟨o,e,c,d⟩:=id f;exact⟨u,rfl,DO (s:={s with heap:=l}) e c d (by decide) ⟨x,H,R,F,⟨rfl,fun W G=>by rw[I.tuple_inj G m];exact y⟩,f,fun b J=>(j b J).1⟩⟩
 done:=by
  intro X A hw r B i C s Z H E I j st n;subst A hw r;obtain⟨D,m,y⟩:=n;obtain⟨U,q,p,Q⟩:=I.tuple m;obtain⟨f0,f1,f2,f3,f4,f5⟩:=j it (by simp)
  have T:=q.length;exact wpAny_pyNext_tuple_end (I.ok.hd B) st (show s.heap.IsTuple a U.toArray from p) (by simp;lia) fun l O=>⟨rfl,I.turned (t':=s.toks) (fun b o J e=>O b o J e) f0 f1 f3 f4 f5⟩
 self:=fun _ _ _ _ _ st h=>wpAny_pyIter_tupleiter st h
theorem F7{P:Program}{w:World}{K:Frag}{q:Expr}(it:Addr)(lo:Int)(n:Nat):yK P w K q (Itr lo n) [it] it (fun i h=>IsRangeIter h it (lo+(i:Nat)*1) ((n:Int) - (i:Nat)) 1) where
 mem:=by simp
 obj:=fun i h st b J=>by
  have e:b=it:=by simpa using J
  subst e
  exact⟨_,st,fun v z=>by
   have p:Data.fields _=Data.cell v:=z
   cases p⟩
 keep:=fun i h c st k=>k it (by simp) _ st
 item:=by
  intro X l hw f j i C s Z H E I a st d;subst l hw f;obtain⟨f0,f1,f2,f3,f4,f5⟩:=a it (by simp)
  have W:=Walks.range (prog:=X.prog) (w:=X.w) (I.ok.hd j) it lo 1 n;refine W.item i s _ _ d st fun v c m x U r=> ?_
  obtain⟨t,rfl⟩:=x;have y:Inv X C Z H {s with heap:=c,toks:=m}:=I.turned (fun b o J e=>r b o (by simpa using J) e) f0 f1 f3 f4 f5
  refine⟨_,rfl,DO (s:={s with heap:=c,toks:=m}) (n:="range_iterator") U rfl rfl (by decide) ⟨.int (lo+i),H,y,⟨t,?_⟩,⟨rfl,rfl⟩,U,fun b J=>(a b J).1⟩⟩
  rw[Int.mul_one]
 done:=by
  intro X l hw f j i C s Z H E I a st d;subst l hw f;obtain⟨f0,f1,f2,f3,f4,f5⟩:=a it (by simp)
  exact Ws (I.ok.hd j) st (by have:n<=i:=d;lia) fun c u=>⟨rfl,I.turned (t':=s.toks) (fun b o J e=>u b o J e) f0 f1 f3 f4 f5⟩
 self:=fun _ _ _ _ _ st h=>Wt st h
section
variable {X : Cx} {tg : Expr}
def Qt(K:Frag)(C:TE):TI:=fun Z H R=>C Z H fun x o=>∃a,x= .ref a/\(∃I,SqL K o a I)/\R (Itl K a) o
def RQ(K:Frag)(C:TE):TI:=fun Z H R=>C Z H fun x o=>∃a,x= .ref a/\(∃I,SqT K o a I)/\R (Itt K a) o
theorem nV{l:Expr}{c:TE}(d:PE X l c):PI X tg l (Qt X.K c):=by
 intro C s Z H R I h;refine cw (d C s Z H _ I h) fun v J x j U n m=> ?_
 obtain⟨a,e,⟨r,f⟩,q⟩:=m;subst e
 cases n
 obtain⟨k,u,p,w⟩:=U.list f;refine UF p.isList ?_
 refine⟨J.heap.objs.size,[J.heap.objs.size],_,_,j,rfl,U.kept (t':=J.toks) fun b o e=>gV _ e,IK a _,⟨_,Sh _ rfl,rfl,rfl⟩,fun b i=> ?_,q⟩
 have e:b=J.heap.objs.size:=by simpa using i
 subst e;exact U.fpOk (R3 _) (U.hok.fresh (R3 _))
theorem oN{l:Expr}{d:TE}(f:PE X l d):PI X tg l (RQ X.K d):=by
 intro C s Z H R I h;refine cw (f C s Z H _ I h) fun v J x k U n m=> ?_
 obtain⟨a,e,⟨r,i⟩,q⟩:=m;subst e
 cases n
 obtain⟨c,u,p,w⟩:=U.tuple i;refine Uw (show J.heap.IsTuple a c.toArray from p) ?_
 refine⟨J.heap.objs.size,[J.heap.objs.size],_,_,k,rfl,U.kept (t':=J.toks) fun b o e=>gV _ e,GY a _,⟨_,Sh _ rfl,rfl,rfl⟩,fun b j=> ?_,q⟩
 have e:b=J.heap.objs.size:=by simpa using j
 subst e;exact U.fpOk (R3 _) (U.hok.fresh (R3 _))
theorem El{J:List (Addr × Obj)}{Z:St}{H:Hp}{s:Shared}{R:It->Hp->Prop}{E:Value->Shared->Prop}{lo C:Int}{t u v:Tok}{U:Nat}(I:Inv X J Z H s)(j: -(2^62)<=lo)(d:lo<2^62)(i: -(2^62)<=C)(k:C<2^62)
  (q:R (Itr lo (C - lo).toNat) H):wpAny (model X.prog X.w) X.A (pyIter (.ref s.heap.objs.size)) (PIE X J Z tg R) E {s with heap:=s.heap.push {cls:= .type "range",data:= .fields #[.int lo t,.int C u,.int 1 v]},toks:=U}:=by
 refine wpAny_pyIter_range (IsRange.new ..) (small_one j d i k) ?_
 have a:Inv X J Z H {s with heap:=s.heap.push {cls:= .type "range",data:= .fields #[.int lo t,.int C u,.int 1 v]},toks:=U}:=I.kept fun b o e=>gV _ e
 refine⟨(s.heap.push {cls:= .type "range",data:= .fields #[.int lo t,.int C u,.int 1 v]}).objs.size,[(s.heap.push {cls:= .type "range",data:= .fields #[.int lo t,.int C u,.int 1 v]}).objs.size],_,_,H,rfl,
  a.kept (t':=U) fun b o e=>gV _ e,F7 _ lo (C - lo).toNat,?_,fun b c=> ?_,q⟩
 .have e1:lo+((0:Nat):Int)*1=lo:=by simp
  have f:(((C - lo).toNat:Nat):Int) - ((0:Nat):Int)=Builtin.Range.rangeSize lo C 1:=by rw[rangeSize_one];split <;> lia
  show IsRangeIter _ _ (lo+((0:Nat):Int)*1) ((((C - lo).toNat:Nat):Int) - ((0:Nat):Int)) 1
  rw[e1,f];exact Sh _ rfl
 .have e:b=(s.heap.push {cls:= .type "range",data:= .fields #[.int lo t,.int C u,.int 1 v]}).objs.size:=by simpa using c
  subst e;exact a.fpOk (R3 _) (a.hok.fresh (R3 _))
def Q0(o:TA):TI:=fun Z H R=>o Z H fun vs C=>∃j:Int,vs=[.int j]/\ -(2^62)<=j/\j<2^62/\R (Itr 0 j.toNat) C
def PD(o:TA):TI:=fun Z H R=>o Z H fun vs C=>∃i j:Int,vs=[.int i,.int j]/\(-(2^62)<=i/\i<2^62/\ -(2^62)<=j/\j<2^62)/\R (Itr i (j - i).toNat) C
theorem iL{a:Expr}{U:TA}{p C:Pos}(b:Gl X "range")(hm:X.mg "range"=none)(i:PA X [a] U)(hs:starEach [a] X.env=[(false,eval a X.env)]:=by rfl):PI X tg (.Call (.Name "range" p) [a] [] C) (Q0 U):=by
 intro o s Z H R I h;refine Call_ (lL I b hm boot_range (SZ (cw (i C o s Z H _ I h) fun m k vs l f d J=> ?_) hs rfl))
 obtain⟨j,e,J,c,q⟩:=J;subst e
 cases d with
 | cons r rr=>
  cases rr
  obtain⟨t,rfl⟩:=r;exact call_range_1 (El f (by lia) (by lia) J c (by simpa using q))
theorem Iu{a b:Expr}{c:TA}{p J:Pos}(d:Gl X "range")(hm:X.mg "range"=none)(u:PA X [a,b] c)(hs:starEach [a,b] X.env=[(false,eval a X.env),(false,eval b X.env)]:=by rfl)(C:starEach [b] X.env=[(false,eval b X.env)]:=by rfl):
  PI X tg (.Call (.Name "range" p) [a,b] [] J) (PD c):=by
 intro o s Z H R I h;refine Call_ (lL I d hm boot_range (SZ (cw (u J o s Z H _ I h) fun y w vs x n m U=> ?_) (by rw[hs,C]) (by rw[C];rfl)))
 obtain⟨i,j,e,⟨U,f,k,l⟩,q⟩:=U;subst e
 cases m with
 | cons r rr=>
  cases rr with
  | cons r' rr=>
   cases rr
   obtain⟨t,rfl⟩:=r;obtain⟨v,rfl⟩:=r';exact call_range_2 (El n U f k l q)
def Rh(U:TI)(g:TG)(c:TS):TS:=fun D Z H=>U Z H fun J b=>∃W:Nat->Nat->St->Hp->Prop,(∃m,W 0 m Z b)/\∀i m Z H,W i m Z H->
 (J.stop i H/\D.nx Z H)\/(J.go i H/\∃N:St->Hp->Prop,(∀I o,N I o->∃C,C<m/\W (i+1) C I o)/\∀x o,J.yld i H x o->g x Z o fun d a=>c {D with nx:=N,ct:=N,bk:=D.nx} d a)
noncomputable def Cz(C:List Addr)(h:Heap):List (Addr × Obj):=C.filterMap fun b=>(h.get? b).map fun o=>(b,o)
theorem nO{C:List Addr}{h:Heap}{b:Addr}{o:Obj}(I:b∈C)(e:h.get? b=some o):(b,o)∈Cz C h:=Ux.mpr ⟨b,I,by rw[e];rfl⟩
theorem IF{C:List Addr}{h:Heap}{p:Addr × Obj}(J:p∈Cz C h):p.1∈C/\h.get? p.1=some p.2:=by
 obtain⟨b,U,e⟩:=Ux.mp J
 cases q:h.get? b with
 | none=>rw[q] at e;cases e
 | some o=>
  rw[q] at e;have I:(b,o)=p:=Sj e;subst I;exact⟨U,q⟩
theorem Inv.pinned{C:List (Addr × Obj)}{Z:St}{H:Hp}{s:Shared}{J:List Addr}(I:Inv X C Z H s)(c:∀b∈J,vj X C H b)(ho:∀b∈J, ∃o,s.heap.get? b=some o/\∀v,o.data≠ .cell v):Inv X (C++Cz J s.heap) Z H s:=
 I.pins_of fun p f=>(SR.mp f).elim (fun z=>I.pin p (SV _ z)) fun z=>by
  obtain⟨U,e⟩:=IF z;obtain⟨f0,f1,f2,_⟩:=c p.1 U;obtain⟨o,a,d⟩:=ho p.1 U;rw[e] at a;cases a;exact⟨e,f0,f1,f2,d⟩
theorem Inv.unpinned{o pl:List (Addr × Obj)}{Z:St}{H:Hp}{s:Shared}(I:Inv X (o++pl) Z H s):Inv X o Z H s:=I.pins_of fun p C=>I.pin p (SV _ (Vv _ C))
theorem cv{p:Expr}{y:List Stmt}{wi:TI}{g:TG}{tb:TS}{R:Pos}(K:PassesOwn (model X.prog X.w) X.A X.env X.xe)(hc:X.calm=true)(hi:PI X tg p wi)(hg:PG X tg g)(k:PSs X y tb)
  (hs:∀x,foldedSetIterable p X.env x=pure x:=by intro _;rfl):PS X (.For tg p y [] R) (Rh wi g tb):=by
 intro C s Z H D I h;refine wpAny_For (thn (hi C s Z H _ I h) fun v s1 h1=>thn h1 fun aw s2 h2=> ?_) hs
 obtain⟨it,G,tn,J,H2,e,I2,T,ab,f2,W,⟨m0,w0⟩,turn⟩:=h2;subst e;have a:∀{q:Hp},(∀b∈G,q b=none)->∀b∈G,vj X C q b:=fun hn b k=>⟨hn b k,(f2 b k).2⟩
 refine codeAny_forLoop_any (fun n s'=>∃i M q,Inv X C M q s'/\tn i s'.heap/\(∀b∈G,q b=none)/\W i n M q) ?_ m0 ⟨0,Z,H2,I2,ab,fun b k=>(f2 b k).1,w0⟩
 rintro n s3 ⟨i,O,Q,I3,E,F,w3⟩
 rcases turn i n O Q w3 with⟨L,qn⟩|⟨go,N,hN,step⟩
 .refine Ua K (thn (T.done X rfl rfl rfl hc i C s3 O Q X.xe I3 (a F) E L) fun r s4 ⟨Y,I4⟩=> ?_)
  subst Y;exact UV ⟨O,Q,I4,qn⟩
 .refine Ua K (Eo (T.item X rfl rfl rfl hc i C s3 O Q X.xe I3 (a F) E go) fun r s4 u Y h4=> ?_)
  subst Y;refine Ua K (thn h4 fun _ s5 ⟨x,H5,I5,r5,y5,B,ar⟩=> ?_)
  have au:=I5.pinned (a ar) (T.obj _ _ B);refine Ua K (PB (hg _ s5 O H5 x u _ au r5 (step x H5 y5)) fun _ s6 Z6 H6 I6 q6=> ?_)
  refine Ua K (thn (k _ s6 Z6 H6 _ I6 q6) fun f s7 z=> ?_)
  have U:∀{c:St}{l:Hp},Inv X (C++Cz G s5.heap) c l s7->N c l->∃m,m<n/\∃i M q,Inv X C M q s7/\tn i s7.heap/\(∀b∈G,q b=none)/\W i m M q:=fun {c l} j P=>by
   obtain⟨m',hm,w7⟩:=hN c l P;refine⟨m',hm,i+1,c,l,j.unpinned,T.keep _ _ _ B fun b k o e=>(j.pin (b,o) (SV _ (SV _ (nO k e)))).1,fun b k=> ?_,w7⟩
   obtain⟨o,e,d⟩:=T.obj _ _ B b k;exact(j.pin (b,o) (SV _ (SV _ (nO k e)))).2.1
  cases f with
  | next=>obtain⟨c,l,j,P⟩:=z;exact U j P
  | cont=>obtain⟨c,l,j,P⟩:=z;exact U j P
  | brk=>obtain⟨c,l,j,z⟩:=z;exact⟨c,l,j.unpinned,z⟩
  | ret v=>obtain⟨x7,c,l,j,r7,z⟩:=z;exact⟨x7,c,l,j.unpinned,r7,z⟩
end
theorem z_{K:Frag}{a:Addr}{xs:List V}{g:TG}{d:TS}{D:pD}{Z:St}{H:Hp}(o:Nat->St->Hp->Prop)(l:o 0 Z H)(j:∀i Z H,i<=xs.length->o i Z H->SqL K H a xs)
  (hs:∀i x Z H,xs[i]? =some x->o i Z H->g x Z H fun U J=>d {D with nx:=o (i+1),ct:=o (i+1),bk:=D.nx} U J) (hd:∀Z H,o xs.length Z H->D.nx Z H):
  ∃W:Nat->Nat->St->Hp->Prop,(∃m,W 0 m Z H)/\∀i m Z H,W i m Z H->
   ((Itl K a).stop i H/\D.nx Z H)\/((Itl K a).go i H/\∃N:St->Hp->Prop,(∀b C,N b C->∃c,c<m/\W (i+1) c b C)/\∀x C,(Itl K a).yld i H x C->g x Z C fun U J=>d {D with nx:=N,ct:=N,bk:=D.nx} U J):=by
 refine⟨fun i m Z H=>m=xs.length - i/\i<=xs.length/\o i Z H,⟨xs.length,by simp,SK _,l⟩,?_⟩
 rintro i m Z H ⟨rfl,f,p⟩
 have q:=j i Z H f p
 by_cases I:i<xs.length
 .refine .inr ⟨⟨xs,xs[i],q,by simp [I]⟩,o (i+1),fun b C k=>⟨xs.length - (i+1),by lia,rfl,I,k⟩,fun x C y=> ?_⟩
  obtain⟨e,y⟩:=y;subst e;exact hs i x Z _ (y xs q) p
 .have e:i=xs.length:=by lia
  subst e;exact .inl ⟨⟨xs,q,R3 _⟩,hd Z H p⟩
theorem yA{K:Frag}{a:Addr}{xs:List V}{g:TG}{d:TS}{D:pD}{Z:St}{H:Hp}(o:Nat->St->Hp->Prop)(l:o 0 Z H)(j:∀i Z H,i<=xs.length->o i Z H->SqT K H a xs)
  (hs:∀i x Z H,xs[i]? =some x->o i Z H->g x Z H fun U J=>d {D with nx:=o (i+1),ct:=o (i+1),bk:=D.nx} U J) (hd:∀Z H,o xs.length Z H->D.nx Z H):
  ∃W:Nat->Nat->St->Hp->Prop,(∃m,W 0 m Z H)/\∀i m Z H,W i m Z H->
   ((Itt K a).stop i H/\D.nx Z H)\/((Itt K a).go i H/\∃N:St->Hp->Prop,(∀b C,N b C->∃c,c<m/\W (i+1) c b C)/\∀x C,(Itt K a).yld i H x C->g x Z C fun U J=>d {D with nx:=N,ct:=N,bk:=D.nx} U J):=by
 refine⟨fun i m Z H=>m=xs.length - i/\i<=xs.length/\o i Z H,⟨xs.length,by simp,SK _,l⟩,?_⟩
 rintro i m Z H ⟨rfl,f,p⟩
 have q:=j i Z H f p
 by_cases I:i<xs.length
 .refine .inr ⟨⟨xs,xs[i],q,by simp [I]⟩,o (i+1),fun b C k=>⟨xs.length - (i+1),by lia,rfl,I,k⟩,fun x C y=> ?_⟩
  obtain⟨e,y⟩:=y;subst e;exact hs i x Z _ (y xs q) p
 .have e:i=xs.length:=by lia
  subst e;exact .inl ⟨⟨xs,q,R3 _⟩,hd Z H p⟩
theorem g_{lo:Int}{n:Nat}{g:TG}{c:TS}{D:pD}{Z:St}{H:Hp}(C:Nat->St->Hp->Prop)(f:C 0 Z H)
  (hs:∀i Z H,i<n->C i Z H->g (.int (lo+i)) Z H fun U J=>c {D with nx:=C (i+1),ct:=C (i+1),bk:=D.nx} U J) (hd:∀Z H,C n Z H->D.nx Z H):
  ∃W:Nat->Nat->St->Hp->Prop,(∃m,W 0 m Z H)/\∀i m Z H,W i m Z H->
   ((Itr lo n).stop i H/\D.nx Z H)\/((Itr lo n).go i H/\∃N:St->Hp->Prop,(∀a I,N a I->∃b,b<m/\W (i+1) b a I)/\∀x I,(Itr lo n).yld i H x I->g x Z I fun U J=>c {D with nx:=N,ct:=N,bk:=D.nx} U J):=by
 refine⟨fun i m Z H=>m=n - i/\i<=n/\C i Z H,⟨n,by simp,SK _,f⟩,?_⟩
 rintro i m Z H ⟨rfl,j,p⟩
 by_cases o:i<n
 .refine .inr ⟨o,C (i+1),fun a I d=>⟨n - (i+1),by lia,rfl,o,d⟩,fun x I y=> ?_⟩
  obtain⟨e,y⟩:=y;subst e y;exact hs i Z _ o p
 .have e:i=n:=by lia
  subst e;exact .inl ⟨R3 _,hd Z H p⟩
abbrev R2:=V->V->Hp->VK->Prop
def OpR(X:Cx)(f:Value->Value->Sem Value)(r:R2):Prop:=
 ∀(o:List (Addr × Obj)) (s:Shared) (Z:St) (H:Hp) (x y:V) (v u:Value) (Q:VK),Inv X o Z H s->bC x v->bC y u->r x y H Q->
  wpAny (model X.prog X.w) X.A (f v u) (EP X o Z Q) X.xe s
def UnR(X:Cx)(f:Value->Sem Value)(r:V->Hp->VK->Prop):Prop:=
 ∀(o:List (Addr × Obj)) (s:Shared) (Z:St) (H:Hp) (x:V) (v:Value) (Q:VK),Inv X o Z H s->bC x v->r x H Q->
  wpAny (model X.prog X.w) X.A (f v) (EP X o Z Q) X.xe s
def fq(X:Cx)(f:Value)(r:List V->Hp->VK->Prop):Prop:=
 ∀(o:List (Addr × Obj)) (s:Shared) (Z:St) (H:Hp) (C:List V) (I:List Value) (Q:VK),Inv X o Z H s->aY C I->r C H Q->
  wpAny (model X.prog X.w) X.A (call f I) (EP X o Z Q) X.xe s
def tOp(r:R2)(o J:TE):TE:=fun Z H Q=>o Z H fun x I=>J Z I fun y C=>r x y C Q
def tUn(r:V->Hp->VK->Prop)(o:TE):TE:=fun Z H Q=>o Z H fun x C=>r x C Q
def rI(C:Int->Int->Prop)(g:Int->Int->V):R2:=fun x y H Q=>∃i j,x= .int i/\y= .int j/\C i j/\Q (g i j) H
def rI0(g:Int->Int->V):R2:=fun x y H Q=>∃i j,x= .int i/\y= .int j/\Q (g i j) H
def rU(g:Int->V):V->Hp->VK->Prop:=fun x H Q=>∃i,x= .int i/\Q (g i) H
section
variable {X : Cx} {a b c : Expr} {ta tb tc : TE} {pos : Pos}
theorem N5(z:PE X a ta)(l:PE X b tb){o:List (Addr × Obj)}{s:Shared}{Z:St}{H:Hp}{R:V->V->Hp->Prop}(I:Inv X o Z H s)
  (h:ta Z H fun x e=>tb Z e fun y C=>R x y C) {Q:Value->Shared->Prop}{f:Value->Value->Sem Value}
  (i:∀v u d x y C,Inv X o Z C d->bC x v->bC y u->R x y C->wpAny (model X.prog X.w) X.A (f v u) Q X.xe d):
  wpAny (model X.prog X.w) X.A (eval a X.env) (fun v J=>wpAny (model X.prog X.w) X.A (eval b X.env) (fun u U=>wpAny (model X.prog X.w) X.A (f v u) Q X.xe U) X.xe J) X.xe s:=by
 refine cw (z o s Z H _ I h) fun v k x e r p n=> ?_
 refine cw (l o k Z e _ r n) fun u d y C j q m=> ?_
 exact i v u d x y C j p q m
theorem ax{C:Operator}{r:R2}(ho:OpR X (binaryOp C) r)(j:PE X a ta)(e:PE X b tb):PE X (.BinOp a C b pos) (tOp r ta tb):=by
 intro o s Z H Q I h;exact wpAny_BinOp (N5 j e I h fun v u i x y U d J f q=>ho o i Z U x y v u Q d J f q)
theorem Lg{C:UnaryOp}{r:V->Hp->VK->Prop}(ho:UnR X (unaryOp C) r)(e:PE X a ta):PE X (.UnaryOp C a pos) (tUn r ta):=by
 intro o s Z H Q I h;exact UnaryOp_ (cw (e o s Z H _ I h) fun v d x f U J i=>ho o d Z f x v Q U J i)
theorem opI{f:Value->Value->Sem Value}{C:Int->Int->Prop}{g:Int->Int->Int}
  (o:∀(i j:Int) (t u:Tok) (s:Shared) (Q:Value->Shared->Prop) (E:Value->Shared->Prop),C i j->Q (.int (g i j) s.toks) {s with toks:=s.toks+1}->wpAny (model X.prog X.w) X.A (f (.int i t) (.int j u)) Q E s):
  OpR X f (rI C fun i j=> .int (g i j)):=by
 intro J s Z H x y v u Q I d e h;obtain⟨i,j,rfl,rfl,k,q⟩:=h;obtain⟨t,rfl⟩:=d;obtain⟨U,rfl⟩:=e;exact o i j t U s _ _ k ⟨.int (g i j),H,I.tok _,⟨_,rfl⟩,q⟩
theorem Ql{f:Value->Value->Sem Value}{g:Int->Int->Int}
  (o:∀(i j:Int) (t u:Tok) (s:Shared) (Q:Value->Shared->Prop) (E:Value->Shared->Prop),Q (.int (g i j) s.toks) {s with toks:=s.toks+1}->wpAny (model X.prog X.w) X.A (f (.int i t) (.int j u)) Q E s):
  OpR X f (rI0 fun i j=> .int (g i j)):=by
 intro C s Z H x y v u Q I U d h;obtain⟨i,j,rfl,rfl,q⟩:=h;obtain⟨t,rfl⟩:=U;obtain⟨J,rfl⟩:=d;exact o i j t J s _ _ ⟨.int (g i j),H,I.tok _,⟨_,rfl⟩,q⟩
theorem L6{f:Value->Value->Sem Value}{g:Int->Int->Bool}
  (o:∀(i j:Int) (t u:Tok) (s:Shared) (Q:Value->Shared->Prop) (E:Value->Shared->Prop),Q (.bool (g i j)) s->wpAny (model X.prog X.w) X.A (f (.int i t) (.int j u)) Q E s):
  OpR X f (rI0 fun i j=> .bl (g i j)):=by
 intro C s Z H x y v u Q I U d h;obtain⟨i,j,rfl,rfl,q⟩:=h;obtain⟨t,rfl⟩:=U;obtain⟨J,rfl⟩:=d;exact o i j t J s _ _ ⟨.bl (g i j),H,I,rfl,q⟩
def Ru(i j:Int):Prop:=0<=j/\j<=1000000/\i.natAbs<2^64
def AZ(i j:Int):Prop:=(-(2^64)<i/\i<2^64)\/(-(2^64)<j/\j<2^64)
theorem AZ.ok{i j:Int}(h:AZ i j):IntMulOk i j:=by
 rcases h with⟨C,o⟩|⟨C,o⟩
 .exact .of_left (intBits_le_64 C o)
 .exact .of_right (intBits_le_64 C o)
theorem aZ:OpR X (binaryOp .Add) (rI0 fun i j=> .int (i+j)):=Ql fun _ _ _ _ _ _ _ q=>add_int q
theorem iX:OpR X (binaryOp .Sub) (rI0 fun i j=> .int (i - j)):=Ql fun _ _ _ _ _ _ _ q=>sub_int q
theorem cK:OpR X (binaryOp .Mult) (rI AZ fun i j=> .int (i*j)):=opI fun _ _ _ _ _ _ _ o q=>mul_int q o.ok
theorem eU:OpR X (binaryOp .Mod) (rI (fun _ j=>0<j) fun i j=> .int (i %j)):=opI fun i j _ _ _ _ _ o q=>by
 have C:(0:Int)<j:=o;exact mod_int' (by lia) (by rw[Int.fmod_eq_emod_of_nonneg i (by lia)];exact q)
theorem N8:OpR X (binaryOp .Pow) (rI Ru fun i j=> .int (i^j.toNat)):=opI fun _ _ _ _ _ _ _ o q=>pow_int_small o.1 o.2.1 o.2.2 q
theorem unI{f:Value->Sem Value}{g:Int->Int}
  (o:∀(i:Int) (t:Tok) (s:Shared) (Q:Value->Shared->Prop) (E:Value->Shared->Prop),Q (.int (g i) s.toks) {s with toks:=s.toks+1}->wpAny (model X.prog X.w) X.A (f (.int i t)) Q E s):
  UnR X f (rU fun i=> .int (g i)):=by
 intro C s Z H x v Q I J h;obtain⟨i,rfl,q⟩:=h;obtain⟨t,rfl⟩:=J;exact o i t s _ _ ⟨.int (g i),H,I.tok _,⟨_,rfl⟩,q⟩
theorem GR:UnR X (unaryOp .USub) (rU fun i=> .int (-i)):=unI fun _ _ _ _ _ q=>neg_int q
end
noncomputable def QV:V->V->Bool
 | .non,.non=>true | .non,.int _=>true | .int _,.non=>true | .non,.bl _=>true | .bl _,.non=>true | .non,.str _=>true | .str _,.non=>true
 | .int _,.int _=>true | .bl _,.bl _=>true | .str _,.str _=>true | .byt _,.byt _=>true
 | .int _,.str _=>true | .str _,.int _=>true | .bl _,.str _=>true | .str _,.bl _=>true
 | _,_=>false
def rEq:R2:=fun x y H Q=>QV x y=true/\Q (.bl (decide (x=y))) H
def rNe:R2:=fun x y H Q=>QV x y=true/\Q (.bl (!decide (x=y))) H
theorem Hq{i j:Int}:decide (V.int i=V.int j)=(i==j):=by
 rw[Vz]
 simp
theorem JT{i j:Bool}:decide (V.bl i=V.bl j)=(i==j):=by
 rw[Vz]
 simp
theorem Hz{i j:Str}:decide (V.str i=V.str j)=(i==j):=by
 rw[Vz]
 simp
theorem Ih{i j:Array UInt8}:decide (V.byt i=V.byt j)=(i.toList==j.toList):=by
 rw[Vz]
 cases i
 cases j
 simp
section
variable {X : Cx} {a b c : Expr} {ta tb tc : TE} {pos : Pos}
theorem bM{o:List (Addr × Obj)}{Z:St}{H:Hp}{s:Shared}{Q:VK}{k C:Bool}(I:Inv X o Z H s)(q:Q (.bl k) H)(e:k=C):EP X o Z Q (.bool C) s:=by
 subst e;exact⟨.bl k,H,I,rfl,q⟩
theorem aK:OpR X (compareOp .Eq) rEq:=by
 intro U s Z H x y v u Q I J o h;obtain⟨hs,q⟩:=h
 cases x with
 | non=>
  cases J
  cases y with
  | non=>cases o;exact PySem.EqNone.eq_none_none (bM I q (by simp))
  | bl j=>cases o;exact PySem.EqNone.eq_none_bool (bM I q (by simp))
  | int j=>obtain⟨C,rfl⟩:=o;exact PySem.EqNone.eq_none_int (bM I q (by simp))
  | str j=>obtain⟨C,rfl⟩:=o;exact PySem.EqNone.eq_none_str (bM I q (by simp))
  | _=>exact absurd (show false=true from hs) Sm
 | bl i=>
  cases J
  cases y with
  | non=>cases o;exact PySem.EqNone.eq_bool_none (bM I q (by simp))
  | bl j=>cases o;exact eq_bool (bM I q JT)
  | str j=>obtain⟨C,rfl⟩:=o;exact PySem.EqMixed.eq_bool_str (bM I q (by simp))
  | _=>exact absurd (show false=true from hs) Sm
 | int i=>
  obtain⟨t,rfl⟩:=J
  cases y with
  | non=>cases o;exact PySem.EqNone.eq_int_none (bM I q (by simp))
  | int j=>obtain⟨C,rfl⟩:=o;exact eq_int (bM I q Hq)
  | str j=>obtain⟨C,rfl⟩:=o;exact PySem.EqMixed.eq_int_str (bM I q (by simp))
  | _=>exact absurd (show false=true from hs) Sm
 | str i=>
  obtain⟨t,rfl⟩:=J
  cases y with
  | non=>cases o;exact PySem.EqNone.eq_str_none (bM I q (by simp))
  | bl j=>cases o;exact PySem.EqMixed.eq_str_bool (bM I q (by simp))
  | int j=>obtain⟨C,rfl⟩:=o;exact PySem.EqMixed.eq_str_int (bM I q (by simp))
  | str j=>obtain⟨C,rfl⟩:=o;exact eq_str (bM I q Hz)
  | _=>exact absurd (show false=true from hs) Sm
 | byt i=>
  obtain⟨t,rfl⟩:=J
  cases y with
  | byt j=>obtain⟨C,rfl⟩:=o;exact W.eq_bytes (bM I q Ih)
  | _=>exact absurd (show false=true from hs) Sm
 | _=>cases y <;> exact absurd (show false=true from hs) Sm
theorem mQ:OpR X (compareOp .NotEq) rNe:=by
 intro U s Z H x y v u Q I J o h;obtain⟨hs,q⟩:=h
 cases x with
 | non=>
  cases J
  cases y with
  | non=>cases o;exact PySem.EqNone.ne_none_none (bM I q (by simp))
  | bl j=>cases o;exact PySem.EqNone.ne_none_bool (bM I q (by simp))
  | int j=>obtain⟨C,rfl⟩:=o;exact PySem.EqNone.ne_none_int (bM I q (by simp))
  | str j=>obtain⟨C,rfl⟩:=o;exact PySem.EqNone.ne_none_str (bM I q (by simp))
  | _=>exact absurd (show false=true from hs) Sm
 | bl i=>
  cases J
  cases y with
  | non=>cases o;exact PySem.EqNone.ne_bool_none (bM I q (by simp))
  | bl j=>cases o;exact ne_bool (bM I q (congrArg not JT))
  | str j=>obtain⟨C,rfl⟩:=o;exact PySem.EqMixed.ne_bool_str (bM I q (by simp))
  | _=>exact absurd (show false=true from hs) Sm
 | int i=>
  obtain⟨t,rfl⟩:=J
  cases y with
  | non=>cases o;exact PySem.EqNone.ne_int_none (bM I q (by simp))
  | int j=>obtain⟨C,rfl⟩:=o;exact ne_int (bM I q (congrArg not Hq))
  | str j=>obtain⟨C,rfl⟩:=o;exact PySem.EqMixed.ne_int_str (bM I q (by simp))
  | _=>exact absurd (show false=true from hs) Sm
 | str i=>
  obtain⟨t,rfl⟩:=J
  cases y with
  | non=>cases o;exact PySem.EqNone.ne_str_none (bM I q (by simp))
  | bl j=>cases o;exact PySem.EqMixed.ne_str_bool (bM I q (by simp))
  | int j=>obtain⟨C,rfl⟩:=o;exact PySem.EqMixed.ne_str_int (bM I q (by simp))
  | str j=>obtain⟨C,rfl⟩:=o;exact ne_str (bM I q (congrArg not Hz))
  | _=>exact absurd (show false=true from hs) Sm
 | byt i=>
  obtain⟨t,rfl⟩:=J
  cases y with
  | byt j=>obtain⟨C,rfl⟩:=o;exact W.ne_bytes (bM I q (congrArg not Ih))
  | _=>exact absurd (show false=true from hs) Sm
 | _=>cases y <;> exact absurd (show false=true from hs) Sm
theorem jC:OpR X (compareOp .Lt) (rI0 fun i j=> .bl (decide (i<j))):=L6 fun _ _ _ _ _ _ _ q=>lt_int q
theorem oR:OpR X (compareOp .LtE) (rI0 fun i j=> .bl (decide (i<=j))):=L6 fun _ _ _ _ _ _ _ q=>le_int q
theorem HF:OpR X (compareOp .Gt) (rI0 fun i j=> .bl (decide (j<i))):=L6 fun _ _ _ _ _ _ _ q=>gt_int q
theorem zZ:OpR X (compareOp .GtE) (rI0 fun i j=> .bl (decide (j<=i))):=L6 fun _ _ _ _ _ _ _ q=>ge_int q
theorem GA(b:Expr){o:CmpOp}(h:o≠ .In:=by decide)(C:o≠ .NotIn:=by decide):behindInMarks o b=false:=by
 have I:(o==CmpOp.In)=false:=by cases o <;> first | rfl | exact absurd rfl h
 have J:(o==CmpOp.NotIn)=false:=by cases o <;> first | rfl | exact absurd rfl C
 cases b <;> simp [behindInMarks,I,J]
theorem HB{C:CmpOp}{r:R2}(ho:OpR X (compareOp C) r)(j:PE X a ta)(e:PE X b tb)(hm:behindInMarks C b=false):PE X (.Compare a [C] [b] pos) (tOp r ta tb):=by
 intro o s Z H Q I h;exact wpAny_Compare1 (N5 j e I h fun v u i x y U d J f q=>ho o i Z U x y v u Q d J f q) hm
def NA(t:TE):TT:=fun Z H Q=>t Z H fun x o=>∃k,x= .bl k/\Q k o
theorem n9{C:CmpOp}{r:R2}(ho:OpR X (compareOp C) r)(E:PE X a ta)(i:PE X b tb)(hm:behindInMarks C b=false):PT X (.Compare a [C] [b] pos) (NA (tOp r ta tb)):=by
 intro o s Z H Q I h
 refine WH (cw (E o s Z H _ I h) fun v f x l D A q=>cw (i o f Z l _ D q) fun u w y U d B m=>
  thn (ho o w Z U x y v u _ d A B m) fun c F ⟨z,j,p,J,k,e,n⟩=> ?_) hm
 subst e
 cases J
 exact Ud ⟨j,p,n⟩
theorem wJ:(sizeLine:Nat)<2^63:=by rw[Ut];decide
theorem fA:OpR X (binaryOp .Add) (fun x y H Q=>∃i j,x= .str i/\y= .str j/\i.length+j.length<=sizeLine/\Q (.str (i++j)) H):=by
 intro o s Z H x y v u Q I J U h;obtain⟨i,j,rfl,rfl,d,q⟩:=h;obtain⟨t,rfl⟩:=J;obtain⟨C,rfl⟩:=U;exact add_str (fun C e=>⟨.str (i++j),H,I.tok _,⟨_,rfl⟩,q⟩) d
theorem iC{x:V}{us:List Value}(r:aY [x] us):∃u,us=[u]/\bC x u:=by
 cases r with
 | cons r1 r2=>cases r2;exact⟨_,rfl,r1⟩
theorem E2{x y:V}{us:List Value}(r:aY [x,y] us):∃u o,us=[u,o]/\bC x u/\bC y o:=by
 cases r with
 | cons r1 r2=>
  cases r2 with
  | cons r3 r4=>cases r4;exact⟨_,_,rfl,r1,r3⟩
theorem JH:fq X (.builtin "abs") (fun xs H Q=>∃i,xs=[.int i]/\Q (.int (if i<0 then -i else i)) H):=by
 intro o s Z H xs C Q I r h;obtain⟨i,rfl,q⟩:=h;obtain⟨u,rfl,t,rfl⟩:=iC r;exact call_abs_int fun u J=>⟨.int (if i<0 then -i else i),H,I.tok _,⟨_,rfl⟩,q⟩
theorem BG(J:X.calm=true):fq X (.builtin "min") (fun xs H Q=>∃i j,xs=[.int i,.int j]/\Q (.int (if j<i then j else i)) H):=by
 intro C s Z H xs l Q I r h;obtain⟨i,j,rfl,q⟩:=h;obtain⟨u,f,rfl,⟨t,rfl⟩,⟨U,rfl⟩⟩:=E2 r;refine min_two_ints (I.ok.hd J) fun d e k=>⟨_,H,I.kept k,?_,q⟩
 by_cases o:j<i
 .rw[R9 o,R9 o];exact⟨_,rfl⟩
 .rw[R6 o,R6 o];exact⟨_,rfl⟩
theorem IG:fq X (.type "int") (fun xs H Q=>(∃i,xs=[.int i]/\Q (.int i) H)\/∃k,xs=[.bl k]/\Q (.int (if k then 1 else 0)) H):=by
 intro o s Z H xs C Q I r h;rcases h with⟨i,rfl,q⟩|⟨k,rfl,q⟩
 .obtain⟨u,rfl,t,rfl⟩:=iC r;exact call_int_int ⟨.int i,H,I,⟨_,rfl⟩,q⟩
 .obtain⟨u,rfl,r1⟩:=iC r
  cases r1
  exact call_int_bool ⟨.int (if k then 1 else 0),H,I.tok _,⟨_,rfl⟩,q⟩
theorem Cg:fq X (.type "str") (fun xs H Q=>∃i,xs=[.int i]/\i.natAbs.log2<1920/\Q (.str (toString i)) H):=by
 intro o s Z H xs J Q I r h;obtain⟨i,rfl,C,q⟩:=h;obtain⟨u,rfl,t,rfl⟩:=iC r;exact PySem.P.str_of_int C ⟨.str _,H,I.tok _,⟨_,rfl⟩,q⟩
end
structure G2 (h:Heap) (x dx C:Addr) (mA:Str->Option Value):Prop where
 obj:h.get? x=some (W.instObj C dx)
 ns:h.Ns1 dx mA
 ne:dx≠x
theorem IR{h:Heap}{U:Addr}{J:Str->Option Value}(n:h.Ns1 U J):∃I,h.get? U=some I/\∀name,W.lookIn name I=some (J name):=by
 obtain⟨o,b,i,ho,hd,f,_,hm⟩:=n;refine⟨o,ho,fun name=> ?_⟩
 have e:=hm name;unfold nsFind findBy at e;rw[<- Array.find?_toList] at e;unfold W.lookIn;rw[hd];dsimp only
 split
 .rename_i y q
  rw[q] at e;exact congrArg some e
 .rename_i q
  rw[q] at e;have a:b.toList.any (·.refKey)=false:=by
   rw[List.any_eq_false];intro y c;obtain⟨z,t,C⟩:=f y (Array.mem_toList_iff.mp c)
   simp [DictEntry.refKey,C]
  have d:¬b.toList.any (·.refKey)=true:=by rw[a];exact Sm
  rw[R6 d];exact congrArg some e
theorem G2.look{h:Heap}{x J C:Addr}{U:Str->Option Value}(I:G2 h x J C U):∃o,PySem.W.InstAt h x (W.instObj C J) C (some o)/\∀name,W.lookIn name o=some (U name):=
 let ⟨o,ho,hl⟩:=IR I.ns
 ⟨o,⟨I.obj,rfl,rfl,ho⟩,hl⟩
section
variable {prog : Program} {w : World} {A : Around} {E : Value → Shared → Prop} {s : Shared} {K : Frag} {x dx C f : Addr} {mA : Str → Option Value} {name : Str} {v : Value}
theorem MI{o:Bool}{Q:Value->Shared->Prop}(X:K.In s.heap)(I:G2 s.heap x dx C mA)(a:W.plainGet K C name=true)(d:W.hasDictIn K C=true)
  (e:W.findIn K (.ref C) name=some none) (b:mA name=some v) (U:W.handedIn v=true) (h:Q v {s with toks:=s.toks+1}):
  wpAny (model prog w) A (getAttr (.ref x) name o) Q E s:=by
 obtain⟨i,J,c⟩:=I.look;exact W.get_value X J (W8 a).1 (W.findObj_own d e rfl (by rw[c,b])) U h
theorem J2{pl:Sem Bool}{Q:Value × List Value->Shared->Prop}(X:K.In s.heap)(I:G2 s.heap x dx C mA)(o:W.plainGet K C name=true)
  (U:W.findIn K (.ref C) name=some (some (.ref f))) (d:W.isFn K (.ref f)=true) (a:mA name=none) (h:Q (.ref f,[.ref x]) s):
  wpAny (model prog w) A (getMethod (.ref x) name pl) Q E s:=by
 obtain⟨b,J,c⟩:=I.look;exact W.method_fn X J (W8 o).1 (W8 o).2 U (Tc.mp d) (by show(W.lookIn name b).map (·.isSome)=some false;rw[c,a];rfl) h
theorem M7{ns:List Str}{Q:Unit->Shared->Prop}(X:K.In s.heap)(I:G2 s.heap x dx C mA)
  (hs:W.findIn K (.ref C) "__setattr__"=some (some (.builtin "object.__setattr__"))) (k:W.plainOver K C=true) (j:W.takerIn K C name=some none) (n:W.hasDictIn K C=true)
  (hw:PySem.Within mA ns) (hsz:ns.length<=sizeLine)
  (h:∀h',G2 h' x dx C (fun y=>if y=name then some v else mA y)->Heap.SameBut dx s.heap h'->Q () {s with heap:=h',toks:=s.toks+2}):
  wpAny (model prog w) A (setAttr (.ref x) name v) Q E s:=by
 obtain⟨z,J,u⟩:=I.look;refine W.set_plain X J hs (W.osa_open (s:={s with toks:=s.toks+1}) (r:=none) X J k j fun b=> ?_)
 obtain⟨cd,q,i⟩:=W.any_some n;have l:s.heap.get? x=some ⟨.ref C,some dx,.plain, #[]⟩:=I.obj;refine RV (Sf (RV (RV (wpAny_loadPart l (RV (PySem.W.Looks.here (s:={s with toks:=s.toks+1}) (W.looks_clsIn X q) ?_))))))
 rw[i];refine Sf (a:=some dx) (RV (Sf (RV ?_)))
 refine Xq (s:={s with toks:=s.toks+1}) I.ns fun h' U o=> ?_
 obtain⟨B,p,m,e,d,c⟩:=U.count (PySem.Within.cons name v hw);refine RV (Wd e (by rw[d];exact We (RY c (by rw[R4];lia))) ?_)
 exact Sf (h _ ⟨(o.2 _ (SD I.ne)).trans I.obj,U,I.ne⟩ o)
theorem Le{R:Result->Shared->Prop}{vs:List Value}{I:List (Str × Value)}(X:K.In s.heap)(hm:W.makesIn K C=true)
  (J:W.findIn K (.ref C) "__init__"=some (some (.ref f))) (U:W.typeIn K (.ref f)=some (.type "function"))
  (h:codeAny (model prog w) (A.under (.builtin "type.__call__" ⟨.ref C::vs,I⟩)) (.call (.ref f) ⟨.ref (s.heap.objs.size+1)::vs,I⟩) (PySem.W.InitBack (s.heap.objs.size+1) R)
   {s with heap:=(s.heap.push W.emptyDict).push (W.instObj C s.heap.objs.size)}):
  codeAny (model prog w) A (.call (.ref C) ⟨vs,I⟩) R s:=by
 obtain⟨a,g,d,t,b⟩:=s;exact W.make_core (W.makes_of X hm) (W.looks_findIn X J) (fun o=>W.bind_fn X o U) (.inl rfl) h
end
noncomputable def bP(f:Str)(v:V):List (Str × V)->List (Str × V)
 | []=>[(f,v)]
 | (g,x)::r=>if g=f then(g,v)::r else(g,x)::bP f v r
theorem qd(f g:Str)(v:V):∀fs:List (Str × V),(bP f v fs).lookup g=if g=f then some v else fs.lookup g
 | []=>by
  show List.lookup g [(f,v)]=_
  by_cases h:g=f
  .have hb:(g==f)=true:=Tc.mpr h
   simp only[List.lookup,hb,R9 h]
  .have hb:(g==f)=false:=Sy.mpr h
   simp only[List.lookup,hb,R6 h]
 | (k,x)::r=>by
  have ih:=qd f g v r;rw[show bP f v ((k,x)::r)=(if k=f then(k,v)::r else(k,x)::bP f v r) from rfl]
  by_cases o:k=f
  .rw[R9 o]
   by_cases h:g=k
   .have hb:(g==k)=true:=Tc.mpr h
    simp only[List.lookup,hb,R9 (h.trans o)]
   .have hb:(g==k)=false:=Sy.mpr h
    simp only[List.lookup,hb,R6 (fun e:g=f=>h (e.trans o.symm))]
  .rw[R6 o]
   by_cases h:g=k
   .have hb:(g==k)=true:=Tc.mpr h
    simp only[List.lookup,hb,R6 (fun e:g=f=>o (h.symm.trans e))]
   .have hb:(g==k)=false:=Sy.mpr h
    simp only[List.lookup,hb]
    exact ih
theorem m3(f:Str)(v:V):∀fs:List (Str × V),f∈(bP f v fs).map (·.1)/\∀g,g∈fs.map (·.1)->g∈(bP f v fs).map (·.1)
 | []=>⟨by simp [bP],fun g h=>by simp at h⟩
 | (k,x)::r=>by
  obtain⟨C,I⟩:=m3 f v r;rw[show bP f v ((k,x)::r)=(if k=f then(k,v)::r else(k,x)::bP f v r) from rfl]
  by_cases o:k=f
  .rw[R9 o];subst o;exact⟨by simp,fun g h=>by simpa using h⟩
  .rw[R6 o];refine⟨?_,fun g h=> ?_⟩
   .rw[Ss];exact R8 _ C
   .rw[Ss] at h ⊢;rcases Se.mp h with e | e
    .exact Se.mpr (.inl e)
    .exact R8 _ (I g e)
theorem xC(f:Str)(v:V):∀fs:List (Str × V),(bP f v fs).length<=fs.length+1
 | []=>by simp [bP]
 | (k,x)::r=>by
  have ih:=xC f v r;rw[show bP f v ((k,x)::r)=(if k=f then(k,v)::r else(k,x)::bP f v r) from rfl]
  by_cases o:k=f
  .rw[R9 o,R4,R4];lia
  .rw[R6 o,R4,R4];lia
theorem mJ.some_of{v:V}{o:Option Value}(r:mJ (some v) o):∃u,o=some u/\bC v u:=by
 cases o with
 | none=>exact(show False from r).elim
 | some u=>exact⟨u,rfl,r⟩
theorem mJ.none_of{o:Option Value}(r:mJ none o):o=none:=by
 cases o with
 | none=>rfl
 | some u=>exact(show False from r).elim
theorem Bw{v:V}{u:Value}(r:bC v u):W.handedIn u=true:=by
 cases v with
 | non=>cases(show u=Value.none from r);rfl
 | bl b=>cases(show u=Value.bool b from r);rfl
 | int i=>obtain⟨t,e⟩:=(show ∃t,u=Value.int i t from r);cases e;rfl
 | str x=>obtain⟨t,e⟩:=(show ∃t,u=Value.str x t from r);cases e;rfl
 | byt b=>obtain⟨t,e⟩:=(show ∃t,u=Value.bytes b t from r);cases e;rfl
 | flt b=>obtain⟨t,e⟩:=(show ∃t,u=Value.float b t from r);cases e;rfl
 | ref a=>cases(show u=Value.ref a from r);rfl
 | ty n=>cases(show u=Value.type n from r);rfl
section
variable {P : Program} {w : World} {H H' : Hp} {h h' : Heap} {a C dx : Addr} {fs fs' : List (Str × V)}
theorem yD(I:HOk P w H h)(e:H a=some (.ins C dx fs)):∃o,G2 h a dx C o/\(∀f,mJ (fs.lookup f) (o f))/\PySem.Within o (fs.map (·.1))/\fs.length<=1000/\H dx=some (.own a):=by
 obtain⟨d,z,ne,J,o,n,r,q⟩:=(show cy P w H h a (.ins C dx fs) from I a _ e);exact⟨o,⟨J,n,ne⟩,r,q,z,d⟩
end
structure Cls (K:Frag) (C:Addr):Prop where
 pg:W.plainGet K C Str.empty=true
 hd:W.hasDictIn K C=true
 po:W.plainOver K C=true
 sa:W.findIn K (.ref C) "__setattr__"=some (some (.builtin "object.__setattr__"))
theorem Cls.get{K:Frag}{C:Addr}(c:Cls K C)(f:Str):W.plainGet K C f=true:=c.pg
def wu(K:Frag)(C:Addr)(f:Str):Prop:=W.findIn K (.ref C) f=some none
theorem wu.taker{K:Frag}{C:Addr}{f:Str}(n:wu K C f):W.takerIn K C f=some none:=by
 unfold W.takerIn;rw[show W.findIn K (.ref C) f=some none from n]
 rfl
structure JM (K:Frag) (C:Addr) (m:Str) (f:Addr):Prop where
 at_:W.findIn K (.ref C) m=some (some (.ref f))
 fn:W.isFn K (.ref f)=true
 kp:W.keepIn K (.ref f)=true
section
variable {X : Cx} {pins : List (Addr × Obj)} {σ : St} {H : Hp} {s : Shared} {a C dx : Addr} {fs : List (Str × V)} {f : Str} {v : V} {A : Around} {E : Value → Shared → Prop}
theorem GV{b:Bool}{Q:Value->Shared->Prop}(I:Inv X pins Z H s)(e:H a=some (.ins C dx fs))(c:Cls X.K C)(n:wu X.K C f)(l:fs.lookup f=some v)
  (h:∀u s',Inv X pins Z H s'->bC v u->Q u s'):wpAny (model X.prog X.w) A (getAttr (.ref a) f b) Q E s:=by
 obtain⟨d,O,r,_,_,_⟩:=yD I.hok e;obtain⟨u,U,J⟩:=mJ.some_of (v:=v) (o:=d f) (by rw[<- l];exact r f)
 exact MI I.kIn O (c.get f) c.hd n U (Bw J) (h u _ (I.tok _) J)
theorem Ap{m:Str}{g:Addr}{pl:Sem Bool}{Q:Value × List Value->Shared->Prop}(I:Inv X pins Z H s)(e:H a=some (.ins C dx fs))(c:Cls X.K C)(k:JM X.K C m g)(l:fs.lookup m=none)
  (h:Q (.ref g,[.ref a]) s):wpAny (model X.prog X.w) A (getMethod (.ref a) m pl) Q E s:=by
 obtain⟨o,O,r,_,_,_⟩:=yD I.hok e;have J:o m=none:=mJ.none_of (by rw[<- l];exact r m)
 exact J2 I.kIn O (c.get m) k.at_ k.fn J h
theorem GG{y:V}{u:Value}{Q:Unit->Shared->Prop}(I:Inv X pins Z H s)(e:H a=some (.ins C dx fs))(c:Cls X.K C)(n:wu X.K C f)(B:fs.length<1000)(m:bC y u)
  (h:∀s',Inv X pins Z (upd H a (.ins C dx (bP f y fs))) s'->Q () s'):wpAny (model X.prog X.w) A (setAttr (.ref a) f u) Q E s:=by
 obtain⟨d,O,r,U,_,ho⟩:=yD I.hok e;have p:(fs.map (·.1)).length<=sizeLine:=by rw[be,Ut];lia
 refine M7 I.kIn O c.sa c.po n.taker c.hd U p fun j J l=>h _ ?_
 have hd:∃o,j.get? dx=some o:=let ⟨o,_,_,e',_⟩:=J.ns;⟨o,e'⟩
 refine I.write (x:=a) (e:=dx) (by rw[e];exact True.intro) (.inr ho) (fun b q k z=>(l.2 b k).trans z) hd ?_
 refine⟨by rw[aj O.ne];exact ho,?_,O.ne,J.obj,_,J.ns,fun g=> ?_,fun g i=> ?_⟩
 .have:=xC f y fs;lia
 .show mJ ((bP f y fs).lookup g) (if g=f then some u else d g)
  rw[qd]
  by_cases q:g=f
  .rw[R9 q,R9 q];exact m
  .rw[R6 q,R6 q];exact r g
 .by_cases q:g=f
  .rw[q];exact(m3 f y fs).1
  .refine(m3 f y fs).2 g (U g fun z=>i ?_)
   show(if g=f then some u else d g)=none
   rw[R6 q];exact z
theorem Inv.made(I:Inv X pins Z H s):Inv X pins Z (upd (upd H s.heap.objs.size (.own (s.heap.objs.size+1))) (s.heap.objs.size+1) (.ins C s.heap.objs.size []))
  {s with heap:=(s.heap.push W.emptyDict).push (W.instObj C s.heap.objs.size)}:=by
 have J:(s.heap.push W.emptyDict).get? s.heap.objs.size=some W.emptyDict:=Sh s.heap rfl;have d:((s.heap.push W.emptyDict).push (W.instObj C s.heap.objs.size)).get? (s.heap.objs.size+1)=some (W.instObj C s.heap.objs.size):=by
  have:=Sh (s.heap.push W.emptyDict) (o:=W.instObj C s.heap.objs.size) rfl
  rwa [Tp] at this
 have U:(s.heap.push W.emptyDict).Ns s.heap.objs.size (fun _=>none):=⟨W.emptyDict, #[],_,J,rfl,(fun e he=>absurd he (by simp)),fun _=>rfl⟩
 have c:=I.laid (a:=s.heap.objs.size) (o:= .own (s.heap.objs.size+1)) (h':=s.heap.push W.emptyDict) (t':=s.toks) (fun b u q=>gV _ q) (R3 _) ⟨_,J⟩
 refine c.laid (a:=s.heap.objs.size+1) (o:= .ins C s.heap.objs.size []) (t':=s.toks) (fun b u q=>gV _ q) (Nat.le_of_eq (Tp _ _)) ?_
 have ne:s.heap.objs.size≠s.heap.objs.size+1:=Sk (Wf _);refine⟨by rw[aj ne,ae],SK _,ne,d,fun _=>none,(Heap.Ns1.of_empty U).at fun o q=>gV _ q,fun _=>True.intro,fun y i=>absurd rfl i⟩
theorem HU{prog:Program}{w:World}{env:Env}{e:Expr}{f:Str}{J:Pos}{s:Shared}{Q:Value->Shared->Prop}(U:attributeBase e f env (eval e env)=eval e env)
  (h:wpAny (model prog w) A (eval e env) (fun o I=>wpAny (model prog w) A (getAttr o f true) Q E I) E s):wpAny (model prog w) A (eval (.Attribute e f J) env) Q E s:=
 Attribute_any_ h (by rw[arm_eval_Attribute,U])
end
def RL(K:Frag)(I:TE)(f:Str):TE:=fun Z H Q=>I Z H fun x o=>∃a C J fs v,x= .ref a/\o a=some (.ins C J fs)/\Cls K C/\wu K C f/\fs.lookup f=some v/\Q v o
def RS(K:Frag)(J b:TE)(f:Str):TS:=fun D Z H=>b Z H fun y U=>J Z U fun x o=>∃a C I fs,x= .ref a/\o a=some (.ins C I fs)/\Cls K C/\wu K C f/\fs.length<1000/\
 D.nx Z (upd o a (.ins C I (bP f y fs)))
section
variable {X : Cx} {o e value : Expr} {f : Str} {pos pos' tpos : Pos} {ta tv : TE}
theorem ce(he:PE X e ta)(j:attributeBase e f X.env (eval e X.env)=eval e X.env):PE X (.Attribute e f pos) (RL X.K ta f):=by
 intro J s Z H Q I h;refine HU j (cw (he J s Z H _ I h) fun u w x m r b U=> ?_)
 obtain⟨a,C,A,fs,v,p,k,c,n,l,q⟩:=U;subst p;obtain rfl:u=Value.ref a:=b;exact GV r k c n l fun z y d i=>⟨v,m,d,i,q⟩
theorem cG(B:PE X o ta)(A:PE X value tv)(hs:swapsWith value (some (.Attribute o f pos')) pos.line X.env=pure false):PS X (.Assign [.Attribute o f pos'] value pos) (RS X.K ta tv f):=by
 intro J s Z H D I h;refine Vl (cw (A J s Z H _ I h) fun u i y k z p q=>cw (B J i Z k _ z q) fun v G x E d b U=> ?_) hs
 obtain⟨a,C,L,fs,w,j,c,n,l,m⟩:=U;subst w;obtain rfl:v=Value.ref a:=b;exact GG d j c n l p fun F r=>⟨Z,_,r,m⟩
end
section
variable {X : Cx} {pins : List (Addr × Obj)} {σ : St} {H : Hp} {s : Shared} {A : Around} {E : Value → Shared → Prop} {Q : Value → Shared → Prop} {c : Value} {b : Bool}
inductive wF (K:Frag) (H:Hp):V->Value->Prop where
 | non:wF K H .non (.type "NoneType")
 | bl (x:Bool):wF K H (.bl x) (.type "bool")
 | int (i:Int):wF K H (.int i) (.type "int")
 | str (x:Str):wF K H (.str x) (.type "str")
 | flt (x:UInt64):wF K H (.flt x) (.type "float")
 | lst {a:Addr}{xs:List V}(e:H a=some (.lst xs)):wF K H (.ref a) (.type "list")
 | frz {a:Addr}{o:Obj}{xs:List V}(e:H a=some (.frz o (.lst xs))):wF K H (.ref a) (.type "list")
 | tup {a:Addr}{xs:List V}(e:H a=some (.tup xs)):wF K H (.ref a) (.type "tuple")
 | dK {a:Addr}{kvs:List (Key × V)}(e:H a=some (.dK kvs)):wF K H (.ref a) (.type "dict")
 | dT {a:Addr}{kvs:List (List Key × V)}(e:H a=some (.dT kvs)):wF K H (.ref a) (.type "dict")
 | ins {a C dx:Addr}{fs:List (Str × V)}(e:H a=some (.ins C dx fs)) (cl:Cls K C) (ha:W.findIn K (.ref C) "__class__"=some (some (.builtin "object.__class__")))
   (hn:W.specialIn K (.builtin "object.__class__") "__get__"=some (some (.builtin "getset_descriptor.__get__"))) (htk:W.takesIn K (.builtin "object.__class__")=some true)
   (hm:W.mroIn K C (.type "object")=some true):wF K H (.ref a) (.ref C)
theorem nA{x:V}{u t:Value}(I:Inv X pins Z H s)(U:bC x u)(ty:wF X.K H x t)(e:W.kitOne X.K t c=some b)(h:∀k,Q (.bool b) {s with toks:=k}):
  wpAny (model X.prog X.w) A (call (.builtin "isinstance") [u,c]) Q E s:=by
 cases ty with
 | non=>cases(show u=Value.none from U);exact TH W.kitx_none I.kIn True.intro e (fun z=>nomatch z) h
 | bl y=>cases(show u=Value.bool y from U);exact TH W.kitx_bool I.kIn True.intro e (fun z=>nomatch z) h
 | int i=>obtain⟨t,q⟩:=(show ∃t,u=Value.int i t from U);cases q;exact TH W.kitx_int I.kIn True.intro e (fun z=>nomatch z) h
 | str y=>obtain⟨t,q⟩:=(show ∃t,u=Value.str y t from U);cases q;exact TH W.kitx_str I.kIn True.intro e (fun z=>nomatch z) h
 | flt y=>obtain⟨t,q⟩:=(show ∃t,u=Value.float y t from U);cases q;exact TH W.kitx_float I.kIn True.intro e (fun z=>nomatch z) h
 | @lst a f ea=>
  cases(show u=Value.ref a from U)
  obtain⟨_,_,n,_,d⟩:=(show cy X.prog X.w H s.heap a (.lst f) from I.hok a _ ea);exact TH W.kitx_list I.kIn ⟨_,d,rfl⟩ e (fun z=>nomatch z) h
 | @frz a ob f ea=>
  cases(show u=Value.ref a from U)
  obtain⟨_,_,_,n,_,d⟩:=(show cy X.prog X.w H s.heap a (.frz ob (.lst f)) from I.hok a _ ea);exact TH W.kitx_list I.kIn ⟨_,d,rfl⟩ e (fun z=>nomatch z) h
 | @tup a f ea=>
  cases(show u=Value.ref a from U)
  obtain⟨_,_,_,p⟩:=(show cy X.prog X.w H s.heap a (.tup f) from I.hok a _ ea);obtain⟨o,d,j,_⟩:=p;exact TH W.kitx_tuple I.kIn ⟨o,d,j⟩ e (fun z=>nomatch z) h
 | @dK a kvs ea=>
  cases(show u=Value.ref a from U)
  obtain⟨_,_,vs,_,p⟩:=(show cy X.prog X.w H s.heap a (.dK kvs) from I.hok a _ ea);obtain⟨o,m,l,d,j,_⟩:=p;exact TH W.kitx_dict I.kIn ⟨o,d,j.1⟩ e (fun z=>nomatch z) h
 | @dT a kvs ea=>
  cases(show u=Value.ref a from U)
  obtain⟨_,_,f,_,o,m,l,d,j,_⟩:=(show cy X.prog X.w H s.heap a (.dT kvs) from I.hok a _ ea);exact TH W.kitx_dict I.kIn ⟨o,d,j.1⟩ e (fun z=>nomatch z) h
 | @ins a C dx fs ea cl ha hn htk hm=>
  cases(show u=Value.ref a from U)
  obtain⟨v,O,_⟩:=yD I.hok ea;obtain⟨r,J,_⟩:=O.look;exact TH (W.kitx_own (cl.get _) cl.hd ha hn htk hm) I.kIn J e (fun z=>nomatch z) h
end
structure Room (k:Nat) (A:Around):Prop where
 hd:A.handled=none
 dp:A.depth+3*k+5<recursionLimit
 un:A.units+16*k+200<cLine
theorem Room.mono{j k:Nat}{A:Around}(r:Room k A)(h:j<=k):Room j A:=⟨r.hd,by have:=r.dp;lia,by have:=r.un;lia⟩
theorem Room.deeper{k:Nat}{A:Around}(r:Room (k+1) A)(env:Env):Room k (A.deeper env):=
 ⟨r.hd,by have:=r.dp;show A.depth+1+3*k+5<_;lia,by have:=r.un;show A.units+3+16*k+200<_;lia⟩
theorem GP{A:Around}{C:Addr}{us:List Value}{o:List (Str × Value)}:(A.under (.builtin "type.__call__" ⟨.ref C::us,o⟩)).depth=A.depth+1:=by
 first | rfl | simp [Around.under,Code.weight,Code.isCreation,Code.isGuard,Code.isCaller,Code.frames,Code.isFrame,guardIds]
theorem F9{A:Around}{C:Addr}{us:List Value}{o:List (Str × Value)}:(A.under (.builtin "type.__call__" ⟨.ref C::us,o⟩)).units=A.units+1:=by
 first | rfl | simp [Around.under,Code.cUnits,Code.frames,Code.isFrame]
theorem Room.make{k:Nat}{A:Around}(r:Room (k+1) A)(C:Addr)(us:List Value)(o:List (Str × Value)):Room k (A.under (.builtin "type.__call__" ⟨.ref C::us,o⟩)):=
 ⟨r.hd,by have:=r.dp;rw[GP];lia,by have:=r.un;rw[F9];lia⟩
theorem Room.depth{k:Nat}{A:Around}(r:Room k A):A.depth<recursionLimit:=by have:=r.dp;lia
theorem Room.units{k:Nat}{A:Around}(r:Room k A):A.units+64<cLine:=by have:=r.un;lia
def y_:TA:=fun _ H Q=>Q [] H
def iD(C:TE)(U:TA):TA:=fun Z H Q=>C Z H fun x J=>U Z J fun o I=>Q (x::o) I
section
variable {X : Cx} {e : Expr} {es : List Expr} {te : TE} {t : TA} {pos : Pos}
theorem dJ:PA X [] y_:=fun _ _ _ _ H Q I h=>Calls.spliced_nil ⟨[],H,I,.nil,h⟩
theorem dD(l:PE X e te)(d:PA X es t)(hs:starEach (e::es) X.env=(false,eval e X.env)::starEach es X.env:=by rfl):PA X (e::es) (iD te t):=by
 intro pos o s Z H Q I h;rw[hs];show wpAny _ _ (spliced ((false,eval e X.env)::backTo pos (starEach es X.env))) _ _ s
 refine Calls.spliced_cons (cw (l o s Z H _ I h) fun u a x b k i f=> ?_)
 exact cw (d pos o a Z b _ k f) fun n m C J U j c=>⟨x::C,J,U,.cons i j,c⟩
def Rr(t:TA):TE:=fun Z H Q=>t Z H fun o C=>o.length<=sizeLine/\∀p,C p=none->Q (.ref p) (upd C p (.tup o))
def RA(t:TA):TE:=fun Z H Q=>t Z H fun o C=>o.length<=sizeLine/\∀p,C p=none->Q (.ref p) (upd C p (.lst o))
theorem az{x1}(h:PA X es t):PE X (.Tuple es x1 pos) (Rr t):=by
 intro o s Z H Q I d;refine wpAny_Tuple_spliced (thn (h pos o s Z H _ I d) fun f C ⟨c,J,U,r,z,q⟩=>⟨by rw[<- r.length];exact z,?_⟩)
 have a:J C.heap.objs.size=none:=U.hok.fresh (R3 _);refine⟨.ref C.heap.objs.size,upd J C.heap.objs.size (.tup c),U.laid (t':=C.toks) (fun b u e=>gV _ e) (R3 _) ?_,rfl,q _ a⟩
 exact⟨z,f,r,⟨_,Sh _ rfl,rfl,_,rfl⟩⟩
theorem a8(h:PA X es t):PE X (.List es pos) (RA t):=by
 intro o s Z H Q I d;refine wpAny_List_spliced (thn (h pos o s Z H _ I d) fun f C ⟨c,J,U,r,z,q⟩=>⟨by rw[<- r.length];exact z,?_⟩)
 have a:J C.heap.objs.size=none:=U.hok.fresh (R3 _);refine⟨.ref C.heap.objs.size,upd J C.heap.objs.size (.lst c),U.laid (t':=C.toks) (fun b u e=>gV _ e) (R3 _) ?_,rfl,q _ a⟩
 exact⟨z,f,0,r,Sh _ rfl⟩
end
abbrev Sp:=List V->Hp->VK->XK->Prop
abbrev CXT:=List Env->Hp->Shared->XK->Value->Shared->Prop
structure GQ (P:Program) (w:World) (K:Frag) (mg:Str->Option Value) (base:Heap) (A:Around) (outer:List Env) (s:Shared) (H:Hp):Prop where
 frames:A.frames=some outer
 mod:Mod K mg base
 bs:∀b o,base.get? b=some o->s.heap.get? b=some o/\H b=none
 bsz:base.objs.size<=s.heap.objs.size
 funs:s.heap.FunFrames base outer
 frf:∀b∈frs outer,H b=none
 hok:HOk P w H s.heap
 bare:AllBare s.gens
def CE(o:List Env)(P:Program)(w:World)(H:Hp)(s:Shared)(Q:VK)(u:Value)(s':Shared):Prop:=
 ∃v C,s'.os=s.os/\AllBare s'.gens/\Un (frs o) [] H C s.heap s'.heap/\HOk P w C s'.heap/\bC v u/\Q v C
def CR(CX:CXT)(o:List Env)(P:Program)(w:World)(H:Hp)(s:Shared)(Q:VK)(E:XK)(r:Result)(s':Shared):Prop:=
 match r with
 | .ok (.ret u)=>CE o P w H s Q u s'
 | .ok _=>False
 | .error e=>CX o H s E e s'
structure iW (P:Program) (w:World) (K:Frag) (mg:Str->Option Value) (base:Heap) (CX:CXT) (k:Nat) (f:Addr) (fd:FuncData) (ps:List Str) (sp:Sp):Prop where
 len:∀vs H Q E,sp vs H Q E->vs.length=ps.length
 run:∀(A:Around) (outer:List Env) (s:Shared) (H:Hp) (args:Args) (us:List Value) (vs:List V) (Q:VK) (E:XK),Room k A->GQ P w K mg base A outer s H->BindsTo s fd args (ps.zip us)->aY vs us->sp vs H Q E->
  codeAny (model P w) A (.call (.ref f) args) (CR CX outer P w H s Q E) s
theorem iW.mono{P:Program}{w:World}{K:Frag}{mg:Str->Option Value}{base:Heap}{CX:CXT}{j k:Nat}{f:Addr}{I:FuncData}{ps:List Str}{sp:Sp}(F:iW P w K mg base CX j f I ps sp)(h:j<=k):
  iW P w K mg base CX k f I ps sp:=⟨F.len,fun A o s H C U vs Q E J=>F.run A o s H C U vs Q E (J.mono h)⟩
theorem iW.imp{P:Program}{w:World}{K:Frag}{mg:Str->Option Value}{base:Heap}{CX:CXT}{k:Nat}{f:Addr}{J:FuncData}{ps:List Str}{sp I:Sp}(F:iW P w K mg base CX k f J ps sp)
  (h:∀vs H Q E,I vs H Q E->sp vs H Q E):iW P w K mg base CX k f J ps I:=
 ⟨fun vs H Q E q=>F.len vs H Q E (h _ _ _ _ q),fun A o s H C c vs Q E a he U b hs=>F.run A o s H C c vs Q E a he U b (h _ _ _ _ hs)⟩
theorem GQ.make{P:Program}{w:World}{K:Frag}{mg:Str->Option Value}{base:Heap}{A:Around}{o:List Env}{s:Shared}{H:Hp}(e:GQ P w K mg base A o s H)(C:Addr)(us:List Value)(I:List (Str × Value)):
  GQ P w K mg base (A.under (.builtin "type.__call__" ⟨.ref C::us,I⟩)) o s H:=⟨by first | exact e.frames | (simpa [Around.under,Code.envs,Code.isFrame,pushEnvs] using e.frames),e.mod,e.bs,e.bsz,e.funs,e.frf,e.hok,e.bare⟩
section
variable {X : Cx} {pins : List (Addr × Obj)} {σ : St} {H : Hp} {s s' : Shared}
theorem Inv.env0(I:Inv X pins Z H s):GQ X.prog X.w X.K X.mg X.base X.A X.stack s H:=
 ⟨I.ok.frames,I.ok.mod,I.bs,RY I.ok.bsz I.sz,I.stack,I.stkFree,I.hok,I.bare⟩
theorem Inv.after{Q:VK}{u:Value}(I:Inv X pins Z H s)(h:CE X.stack X.prog X.w H s Q u s'):EP X pins Z Q u s':=by
 obtain⟨v,c,a,o,un,C,r,q⟩:=h;obtain⟨U,g,d,t,J⟩:=s';obtain rfl:J=s.os:=a;exact⟨v,c,I.call (h':=U) (g':=g) (d':=d) (t':=t) (ch:=[]) un C o (fun b z=>absurd z (by simp)),r,q⟩
end
def HV(sp:Sp)(o:List V)(E:XK)(t:TA):TE:=fun Z H Q=>t Z H fun vs C=>sp (vs++o) C Q E
def H_(C:Addr)(m:Str)(sp:Sp)(o:List V)(E:XK)(J:TE)(t:TA):TE:=fun Z H Q=>J Z H fun x I=>∃a b fs,x= .ref a/\I a=some (.ins C b fs)/\fs.lookup m=none/\
 t Z I fun vs U=>sp (x::(vs++o)) U Q E
def Hy(C:Addr)(sp:Sp)(I:List V)(E:XK)(t:TA):TE:=fun Z H Q=>t Z H fun vs J=>∀x o,J x=none->J o=none->o≠x->
 sp (.ref x::(vs++I)) (upd (upd J o (.own x)) x (.ins C o [])) (fun v U=>v= .non/\Q (.ref x) U) E
def gp(K:Frag)(I:FuncData)(ps:List Str)(C:List Value):Prop:=
 ∀(s:Shared) (o:List Value),K.In s.heap->(o++C).length=ps.length->BindsTo s I ⟨o,[]⟩ (ps.zip (o++C))
theorem gp.all{K:Frag}{o:FuncData}{ps:List Str}(h:∀us:List Value,us.length=ps.length->bindArgs o ⟨us,[]⟩=pure (ps.zip us)):gp K o ps []:=fun s us _ C=>by
 rw[SJ] at C ⊢;exact .of_eq (h us C)
def oO(CX:CXT)(X:Cx)(E:XK):Prop:=∀(o:List (Addr × Obj)) (Z:St) (H:Hp) (s:Shared) (e:Value) (C:Shared),Inv X o Z H s->CX X.stack H s E e C->X.xe e C
section
variable {X : Cx} {CX : CXT} {k : Nat} {f C : Addr} {fd : FuncData} {ps : List Str} {sp : Sp} {dvs : List V} {ds : List Value} {E : XK} {x m : Str} {p pos apos : Pos} {e o : Expr} {es : List Expr} {ta : TE} {t : TA}
theorem CB{J:List (Addr × Obj)}{Z:St}{H:Hp}{s:Shared}{Q:VK}{us:List Value}{vs:List V}(F:iW X.prog X.w X.K X.mg X.base CX k f fd ps sp)(j:Room k X.A)(d:gp X.K fd ps ds)(hd:aY dvs ds)(i:oO CX X E)
  (I:Inv X J Z H s) (r:aY vs us) (h:sp (vs++dvs) H Q E):wpAny (model X.prog X.w) X.A (call (.ref f) us) (EP X J Z Q) X.xe s:=by
 have a:aY (vs++dvs) (us++ds):=r.append hd;have c:(us++ds).length=ps.length:=by rw[<- a.length];exact F.len _ _ _ _ h
 refine VQ (Uy (F.run X.A X.stack s H ⟨us,[]⟩ (us++ds) (vs++dvs) Q E j I.env0 (d s us I.kIn c) a h) fun r b U=> ?_)
 cases r with
 | error e=>exact i J Z H s e b I U
 | ok fl=>
  cases fl with
  | ret u=>exact I.after U
  | next=>exact False.elim U
  | brk=>exact False.elim U
  | cont=>exact False.elim U
theorem Ml(F:iW X.prog X.w X.K X.mg X.base CX k f fd ps sp)(l:Room k X.A)(c:Gl X x)(hm:X.mg x=some (.ref f))(i:W.keepIn X.K (.ref f)=true)(d:gp X.K fd ps ds)(hd:aY dvs ds)(j:oO CX X E)
  (n:PA X (e::es) t) (a:(x==("__debug__":Str))=false:=by decide) (he:starEach (e::es) X.env=(false,eval e X.env)::starEach es X.env:=by rfl) (U:(backTo pos (starEach es X.env)).any (·.1)=false:=by rfl):
  PE X (.Call (.Name x p) (e::es) [] pos) (HV sp dvs E t):=by
 intro J s Z H Q I h;refine Tn (jJ I c hm ?_ a)
 refine VM (h₀:=X.base) I.ok.mod.kin i (cw (n pos J s Z H _ I h) fun y u vs v b r q=>⟨b.kIn,?_⟩) he U
 exact CB F l d hd j b r q
theorem LF(F:iW X.prog X.w X.K X.mg X.base CX k f fd ps sp)(d:Room k X.A)(c:Gl X x)(hm:X.mg x=some (.ref f))(a:W.keepIn X.K (.ref f)=true)(i:gp X.K fd ps ds)(hd:aY dvs ds)(b:oO CX X E)
  (J:(x==("__debug__":Str))=false:=by decide):PE X (.Call (.Name x p) [] [] pos) (HV sp dvs E y_):=by
 intro U s Z H Q I h;refine Tn (jJ I c hm ?_ J)
 exact W9 I.kIn a (CB (us:=[]) F d i hd b I .nil h)
theorem MR{pl:Sem Bool}(he:PE X o ta)(c:Cls X.K C)(hm:JM X.K C m f)(F:iW X.prog X.w X.K X.mg X.base CX k f fd ps sp)(O:Room k X.A)(D:gp X.K fd ps ds)(hd:aY dvs ds)(N:oO CX X E)(R:PA X (e::es) t)
  (d:starEach (e::es) X.env=(false,eval e X.env)::starEach es X.env:=by rfl) (U:(backTo pos (starEach es X.env)).any (·.1)=false:=by rfl)
  (z:eval (.Call (.Attribute o m apos) (e::es) [] pos) X.env=(do
   let j <-eval o X.env
   standAt apos.atName
   let (f,first) <-holding [j] (getMethod j m pl)
   callWith pos f first (backTo pos (starEach (e::es) X.env)) (backToKw pos (keywordEach [] X.env))):=by rfl):
  PE X (.Call (.Attribute o m apos) (e::es) [] pos) (H_ C m sp dvs E ta t):=by
 intro J s Z H Q I h;refine W.methodCall_KW (pl:=pl) (cw (he J s Z H _ I h) fun u B x L n y b=> ?_) z
 obtain⟨a,dx,fs,P,G,l,q⟩:=b;subst P;obtain rfl:u=Value.ref a:=y;refine Ap n G c hm l ?_
 refine VM (first:=[.ref a]) (h₀:=X.base) I.ok.mod.kin hm.kp (cw (R pos J B Z L _ n q) fun v Y vs T i r M=>⟨i.kIn,?_⟩) d U
 exact CB (us:= .ref a::v) (vs:= .ref a::vs) F O D hd N i (.cons rfl r) M
theorem KA{pl:Sem Bool}(he:PE X o ta)(c:Cls X.K C)(hm:JM X.K C m f)(F:iW X.prog X.w X.K X.mg X.base CX k f fd ps sp)(y:Room k X.A)(n:gp X.K fd ps ds)(hd:aY dvs ds)(v:oO CX X E)
  (j:eval (.Call (.Attribute o m apos) [] [] pos) X.env=(do
   let d <-eval o X.env
   standAt apos.atName
   let (f,first) <-holding [d] (getMethod d m pl)
   callWith pos f first (backTo pos (starEach [] X.env)) (backToKw pos (keywordEach [] X.env))):=by rfl):
  PE X (.Call (.Attribute o m apos) [] [] pos) (H_ C m sp dvs E ta y_):=by
 intro J s Z H Q I h;refine W.methodCall_KW (pl:=pl) (cw (he J s Z H _ I h) fun u B x D b i U=> ?_) j
 obtain⟨a,G,fs,z,r,l,q⟩:=U;subst z;obtain rfl:u=Value.ref a:=i;refine Ap b r c hm l ?_
 exact W9 (first:=[.ref a]) b.kIn hm.kp (CB (us:=[.ref a]) (vs:=[.ref a]) F y n hd v b (.cons rfl .nil) q)
structure Mk (K:Frag) (C f:Addr):Prop where
 makes:W.makesIn K C=true
 init:W.findIn K (.ref C) "__init__"=some (some (.ref f))
 fn:W.isFn K (.ref f)=true
 kp:W.keepIn K (.ref C)=true
theorem Ff{J:List (Addr × Obj)}{Z:St}{H:Hp}{s:Shared}{Q:VK}{us:List Value}{vs:List V}(M:Mk X.K C f)(F:iW X.prog X.w X.K X.mg X.base CX k f fd ps sp)(B:Room (k+1) X.A)(q:gp X.K fd ps ds)(hd:aY dvs ds)
  (y:oO CX X E) (I:Inv X J Z H s) (r:aY vs us)
  (h:∀x b,H x=none->H b=none->b≠x->sp (.ref x::(vs++dvs)) (upd (upd H b (.own x)) x (.ins C b [])) (fun v n=>v= .non/\Q (.ref x) n) E):
  wpAny (model X.prog X.w) X.A (call (.ref C) us) (EP X J Z Q) X.xe s:=by
 have c:=h (s.heap.objs.size+1) s.heap.objs.size (I.hok.fresh (Nat.le_succ _)) (I.hok.fresh (R3 _)) (Sk (Wf _));have a:=Inv.made (C:=C) I;have d:aY (V.ref (s.heap.objs.size+1)::(vs++dvs)) (Value.ref (s.heap.objs.size+1)::(us++ds)):= .cons rfl (r.append hd);have j:(Value.ref (s.heap.objs.size+1)::us++ds).length=ps.length:=by
  have e:=d.length;rw[F.len _ _ _ _ c] at e;exact e.symm
 refine VQ (Le (f:=f) I.kIn M.makes M.init (Tc.mp M.fn) (Uy (F.run _ X.stack _ _ ⟨Value.ref (s.heap.objs.size+1)::us,[]⟩ (Value.ref (s.heap.objs.size+1)::(us++ds)) _ _ E (B.make C us [])
  (a.env0.make C us []) (q _ (Value.ref (s.heap.objs.size+1)::us) a.kIn j) d c) fun r i U=> ?_))
 cases r with
 | error e=>exact y J Z _ _ e i a U
 | ok fl=>
  cases fl with
  | ret u=>
   obtain⟨v,G,D,l,L,z⟩:=a.after U;subst L;exact⟨l,⟨V.ref (s.heap.objs.size+1),G,D,rfl,z⟩⟩
  | next=>exact False.elim U
  | brk=>exact False.elim U
  | cont=>exact False.elim U
theorem Mm(M:Mk X.K C f)(F:iW X.prog X.w X.K X.mg X.base CX k f fd ps sp)(j:Room (k+1) X.A)(c:Gl X x)(hm:X.mg x=some (.ref C))(d:gp X.K fd ps ds)(hd:aY dvs ds)(i:oO CX X E)
  (l:PA X (e::es) t) (a:(x==("__debug__":Str))=false:=by decide) (he:starEach (e::es) X.env=(false,eval e X.env)::starEach es X.env:=by rfl) (U:(backTo pos (starEach es X.env)).any (·.1)=false:=by rfl):
  PE X (.Call (.Name x p) (e::es) [] pos) (Hy C sp dvs E t):=by
 intro J s Z H Q I h;refine Tn (jJ I c hm ?_ a)
 refine VM (h₀:=X.base) I.ok.mod.kin M.kp (cw (l pos J s Z H _ I h) fun v n vs u b r q=>⟨b.kIn,?_⟩) he U
 exact Ff M F j d hd i b r q
theorem KY(M:Mk X.K C f)(F:iW X.prog X.w X.K X.mg X.base CX k f fd ps sp)(c:Room (k+1) X.A)(b:Gl X x)(hm:X.mg x=some (.ref C))(d:gp X.K fd ps ds)(hd:aY dvs ds)(a:oO CX X E)
  (J:(x==("__debug__":Str))=false:=by decide):PE X (.Call (.Name x p) [] [] pos) (Hy C sp dvs E y_):=by
 intro U s Z H Q I h;refine Tn (jJ I b hm ?_ J)
 exact W9 I.kIn M.kp (Ff (us:=[]) M F c d hd a I .nil h)
end
structure ak (N P:List Str) (sc:Scope):Prop where
 kind:sc.kind= .function
 co:sc.isCoroutine=false
 gen:sc.isGenerator=false
 nd:N.Nodup
 pre:N.take P.length=P
 par:∀x∈P,sc.names.lookup x=some .local\/sc.names.lookup x=some .cell
 nofree:∀y∈sc.names,y.2≠ .free
theorem Bv{o:Str->Option NameKind}{x:Str}:∀{binds:List (Str × Value)}{m:Str->Option Value},(∀v,(x,v) ∉ binds)->bindL o binds m x=m x
 | [],_,_=>rfl
 | (n,v)::r,m,h=>by
  unfold bindL;rw[Bv fun w hw=>h w (R8 _ hw)]
  split
  .have:x≠n:=by rintro rfl;exact h v Sn
   simp [this]
  .rfl
theorem BJ{o:Str->Option NameKind}{x:Str}:∀{binds:List (Str × Value)}{m:Str->Option Value},(∀v,(x,v) ∉ binds)->bindC o binds m x=m x
 | [],_,_=>rfl
 | (n,v)::r,m,h=>by
  unfold bindC;rw[BJ fun w hw=>h w (R8 _ hw)]
  split
  .rfl
  .have:x≠n:=by rintro rfl;exact h v Sn
   simp [this]
theorem Bu{o:Str->Option NameKind}{x:Str}{v:Value}:∀{P:List Str}{vs:List Value}{i:Nat}{m:Str->Option Value},P.Nodup->P[i]? =some x->vs[i]? =some v->o x=some .local->
  bindL o (P.zip vs) m x=some v
 | [],_,_,_,_,h,_,_=>by simp at h
 | _::_,[],_,_,_,_,h,_=>by simp at h
 | p::P,w::vs,0,m,nd,h1,h2,hk=>by
  simp at h1 h2;subst h1;subst h2
  show bindL o ((p,w)::P.zip vs) m p=_
  unfold bindL;rw[Bv fun v C=>(VA.mp nd).1 (WA C).1,R9 hk]
  simp
 | p::P,w::vs,i+1,m,nd,h1,h2,hk=>by
  show bindL o ((p,w)::P.zip vs) m x=_
  unfold bindL;exact Bu (i:=i) (VA.mp nd).2 (by simpa using h1) (by simpa using h2) hk
theorem BB{o:Str->Option NameKind}{x:Str}{v:Value}:∀{P:List Str}{vs:List Value}{i:Nat}{m:Str->Option Value},P.Nodup->P[i]? =some x->vs[i]? =some v->o x≠some .local->
  bindC o (P.zip vs) m x=some v
 | [],_,_,_,_,h,_,_=>by simp at h
 | _::_,[],_,_,_,_,h,_=>by simp at h
 | p::P,w::vs,0,m,nd,h1,h2,hk=>by
  simp at h1 h2;subst h1;subst h2
  show bindC o ((p,w)::P.zip vs) m p=_
  unfold bindC;rw[BJ fun v C=>(VA.mp nd).1 (WA C).1,R6 hk]
  simp
 | p::P,w::vs,i+1,m,nd,h1,h2,hk=>by
  show bindC o ((p,w)::P.zip vs) m x=_
  unfold bindC;exact BB (i:=i) (VA.mp nd).2 (by simpa using h1) (by simpa using h2) hk
noncomputable def start(N:List Str)(vs:List V):St:=vs.map some++List.replicate (N.length - vs.length) none
noncomputable def eE(CX:CXT)(P:Program)(w:World)(K:Frag)(mg:Str->Option Value)(base:Heap)(N:List Str)(I:Str)(C:Scope)(f:Addr)(cd:Value)(A:Around)(o:List Env)(s:Shared)(H:Hp)(E:XK):Cx where
 prog:=P
 w:=w
 K:=K
 mg:=mg
 base:=base
 A:=A.deeper (envOfC I C s.heap.objs.size f cd)
 N:=N
 s₀:=s
 H₀:=H
 env:=envOfC I C s.heap.objs.size f cd
 outer:=o
 stack:=envOfC I C s.heap.objs.size f cd::o
 ex:=[]
 calm:=true
 fn:=fun _=>true
 pn:=[]
 xe:=fun e U=>wpAny (model P w) (A.deeper (envOfC I C s.heap.objs.size f cd)) (leaving (envOfC I C s.heap.objs.size f cd) e) (fun _ J=>CX o H s E e J) (fun a J=>CX o H s E a J) U
theorem ES{o:Scope}{n:Nat}{x:Str}(h:o.names.lookup x=some .cell):∃c,(cellsFrom n o.names []).lookup x=some c:=by
 have q:=W.cellsFrom_some o.names n [] (.inl h);exact Option.isSome_iff_exists.mp q
theorem IZ{CX:CXT}{P:Program}{w:World}{K:Frag}{mg:Str->Option Value}{base:Heap}{N ps:List Str}{I:Str}{o:Scope}{f:Addr}{cd:Value}{A:Around}{C:List Env}{s s1:Shared}{H:Hp}{E:XK}{us:List Value}{vs:List V}
  (S:ak N ps o) (hd:A.handled=none) (U:GQ P w K mg base A C s H) (Q:vs.length=ps.length) (r:aY vs us)
  (x:InCallC s s.heap.objs.size (bindL (envOfC I o s.heap.objs.size f cd).kindOf (ps.zip us) fun _=>none) (cellsFrom (s.heap.objs.size+1) o.names []) (bindC (envOfC I o s.heap.objs.size f cd).kindOf (ps.zip us) fun _=>none) s1):
  Inv (eE CX P w K mg base N I o f cd A C s H E) [] (start N vs) H s1:=by
 have M:ps.length<=N.length:=by have:=congrArg List.length S.pre;rw[Sg] at this;lia
 obtain⟨D,R,rfl,F⟩:=x.done;have j:∀b:Addr,b ∉ (eE CX P w K mg base N I o f cd A C s H E).ex:=fun b z=>absurd (show b∈([]:List Addr) from z) (by simp)
 refine⟨⟨U.mod,S.kind,rfl,rfl,R3 _,fun y z c D J=> ?_,fun y d=> ?_,fun y c _ h=> ?_,fun _=>hd,Around.frames_deeper U.frames,.inr ⟨rfl,rfl⟩,fun b z=>absurd z (j b),U.bs,U.bsz,fun b _ _=>j b,fun b z=>absurd z (j b),U.funs,U.frf⟩,
  rfl,U.bare,Un.kept F,⟨_,x.toInCall.ns,fun i y v D J T=> ?_⟩,fun y c h=>⟨_,x.cell y c h⟩,U.hok.fresh (R3 _),fun y c h=> ?_,fun p l=>absurd (show p∈([]:List (Addr × Obj)) from l) (by simp),U.hok.kept F,?_⟩
 .exact name_of_addr x.apart (Tv D) (Tv J)
 .have d:o.names.lookup y=some .cell\/o.names.lookup y=some .free:=d;rcases d with d | d
  .exact ES d
  .exact absurd rfl (S.nofree _ (Tv d))
 .exact Uu (x.above y c (Tv h))
 .have B:i<vs.length:=by
   unfold start at J
   by_cases B:i<vs.length
   .exact B
   .rw[SU (by simpa using B)] at J
    rw[Wg] at J
    split at J <;> cases J
  have O:vs[i]? =some v:=by
   unfold start at J;rw[SW (by simpa using B),Sx] at J
   cases e:vs[i]? with
   | none=>rw[e] at J;cases J
   | some a=>rw[e] at J;cases J;rfl
  obtain⟨u,G,L⟩:=r.get O;have l:ps[i]? =some y:=by
   rw[<- S.pre,List.getElem?_take_of_lt (by lia)];exact D
  have m:ps.Nodup:=by rw[<- S.pre];exact S.nd.sublist (List.take_sublist _ _)
  refine⟨u,L,?_⟩
  rcases S.par y (Sa l) with k | k
  .exact .inl ⟨k,Bu m l G k⟩
  .obtain⟨c,e⟩:=ES (n:=s.heap.objs.size+1) k;refine .inr ⟨.inl k,c,e,?_⟩
   have q:=x.cell y c e;rw[BB m l G (by show o.names.lookup y≠_;rw[k];decide)] at q
   exact q
 .exact U.hok.fresh (Uu (x.above y c (Tv h)))
 .unfold start;show _=N.length
  rw[RZ,be,SO]
  lia
theorem LC{CX:CXT}{P:Program}{w:World}{K:Frag}{mg:Str->Option Value}{base:Heap}{k:Nat}{f:Addr}{name a:Str}{d:Arguments}{i:List Stmt}{C:Scope}{dV kV p T c ct oc:Value}{Y od:Option Addr}
  {R:Array (Option Value)}{N ps:List Str}{sp:Sp}(lk:K.lookup f=some ⟨oc,od,.func (W.fnOf name a d i C dV kV p T Y c ct),R⟩) (G:W.codeIn K c a=true) (S:ak N ps C)
  (len:∀vs H Q E,sp vs H Q E->vs.length=ps.length)
  (l:∀(A:Around) (U:List Env) (s:Shared) (H:Hp) (vs:List V) (Q:VK) (E:XK),Room k (A.deeper (envOfC a C s.heap.objs.size f c))->sp vs H Q E->
   ∃t,PSs (eE CX P w K mg base N a C f c A U s H E) i t/\t {nx:=fun _ j=>Q .non j,rt:=Q} (start N vs) H):
  iW P w K mg base CX (k+1) f (W.fnOf name a d i C dV kV p T Y c ct) ps sp:=by
 refine⟨len,fun A U s H ab us vs Q E M z hb r B=> ?_⟩
 have hl:=len _ _ _ _ B;have X:K.In s.heap:=z.mod.kin.keeps fun b o e=>(z.bs b o e).1
 have O:s.heap.NoLimit:=z.mod.nolimit.keeps fun b o e=>(z.bs b o e).1
 have m:∀y∈ps.zip us,C.names.lookup y.1=some .local\/(C.names.lookup y.1=some .cell/\((cellsFrom (s.heap.objs.size+1) C.names []).lookup y.1).isSome=true):=fun⟨n,v⟩ hy=>by
  rcases S.par n (WA hy).1 with q | q
  .exact .inl q
  .exact .inr ⟨q,W.cellsFrom_some _ _ _ (.inl q)⟩
 refine codeAny_call_function M.depth (X _ _ lk) rfl S.co S.gen rfl (W.codeRec_of X G) (hb _ _ _ _ ?_)
 refine wpAny_newFunctionEnv_cells S.kind m fun ar he Z x=> ?_
 subst he;refine⟨O.keeps x.toInCall.keep,codeAny_func ?_⟩
 obtain⟨t,ht,hq⟩:=l A U s H vs Q E (M.deeper _) B;have I:Inv (eE CX P w K mg base N a C f c A U s H E) [] (start N vs) H Z:=IZ S M.hd z hl r x;refine S8 (ht [] Z (start N vs) H _ I hq) (fun fl F hs=> ?_) fun e F hs=>hs
 have fin:∀{D:St}{j:Hp}{v:V}{u:Value},Inv (eE CX P w K mg base N a C f c A U s H E) [] D j F->bC v u->Q v j->CE U P w H s Q u F:=
  fun {D j v u} J L q=>⟨v,j,J.os,J.bare,J.base,J.hok,L,q⟩
 cases fl with
 | ret u=>
  obtain⟨v,D,j,J,L,q⟩:=hs;exact fin J L q
 | next=>
  obtain⟨D,j,J,q⟩:=hs;exact fin (v:=V.non) (u:=Value.none) J rfl q
 | brk=>
  obtain⟨_,_,_,q⟩:=hs;exact False.elim q
 | cont=>
  obtain⟨_,_,_,q⟩:=hs;exact False.elim q
section
variable {X : Cx} {x : Str} {p pos : Pos} {e : Expr} {es : List Expr} {t : TA} {id T : String} {r : List V → Hp → VK → Prop}
def tCB(r:List V->Hp->VK->Prop)(t:TA):TE:=fun Z H Q=>t Z H fun vs o=>r vs o Q
theorem aI(l:fq X (.builtin id) r)(U:Gl X x)(hm:X.mg x=none)(j:bootBuiltins x=some (.builtin id))(m:PA X (e::es) t)(b:x≠"__name__":=by decide)(J:(x==("__debug__":Str))=false:=by decide)
  (he:starEach (e::es) X.env=(false,eval e X.env)::starEach es X.env:=by rfl) (C:(backTo pos (starEach es X.env)).any (·.1)=false:=by rfl):PE X (.Call (.Name x p) (e::es) [] pos) (tCB r t):=by
 intro o s Z H Q I h;refine Tn (lL I U hm j ?_ b J)
 exact PyProof.Rows.callWith_builtin1 (cw (m pos o s Z H _ I h) fun k a vs c i f d=>l o a Z c vs k Q i f d) he C
theorem cj(l:fq X (.type T) r)(U:Gl X x)(hm:X.mg x=none)(j:bootBuiltins x=some (.type T))(m:PA X (e::es) t)(b:x≠"__name__":=by decide)(J:(x==("__debug__":Str))=false:=by decide)
  (he:starEach (e::es) X.env=(false,eval e X.env)::starEach es X.env:=by rfl) (C:(backTo pos (starEach es X.env)).any (·.1)=false:=by rfl):PE X (.Call (.Name x p) (e::es) [] pos) (tCB r t):=by
 intro o s Z H Q I h;refine Tn (lL I U hm j ?_ b J)
 exact SZ (cw (m pos o s Z H _ I h) fun k a vs c i f d=>l o a Z c vs k Q i f d) he C
end
end L2
namespace HT
open PySem PyProof.Rows
section
variable {prog : Program} {w : World} {A : Around} {E : Value → Shared → Prop} {s : Shared}
theorem cat_tup{t b:Addr}{vs o:List Value}{Q:Value->Shared->Prop}(l:IsTup s.heap t vs.toArray)(m:IsTup s.heap b o.toArray)(j:vs≠[])
  (q:o=[]->Q (.ref t) s) (p:o≠[]->Q (.ref s.heap.objs.size) {s with heap:=s.heap.push {cls:= .type "tuple",data:= .seq (vs++o).toArray}})
  (hsz:vs.length+o.length<=sizeLine):wpAny (model prog w) A (binaryOp .Add (.ref t) (.ref b)) Q E s:=by
 obtain⟨⟨f,dd,U,sl⟩,ho,k,n,hd⟩:=id l;obtain⟨⟨i,I,d,J⟩,C,a,n2,c⟩:=id m
 simp only at k hd a c
 subst k hd a c;have e:vs.toArray++o.toArray=(vs++o).toArray:=by simp
 by_cases hw:o=[]
 .exact Xs ⟨_,ho,rfl⟩ ⟨_,C,rfl⟩ Wh W_ U7 U5 (UU _ _)
   (tuple_addW1 t b vs.toArray o.toArray n n2 dd I sl J (by simpa using j) (by simp [hw])) ⟨ho,C,q hw⟩
 .refine Xs ⟨_,ho,rfl⟩ ⟨_,C,rfl⟩ Wh W_ U7 U5 (UU _ _)
   (tuple_addW2 t b vs.toArray o.toArray n n2 dd I sl J (by simpa using j) (by simpa using hw) (by rw[R7,R7];exact hsz)) ⟨ho,C,?_⟩
  rw[e];exact p hw
noncomputable def sIx(n d:Nat):Option Int->Nat
 | none=>d
 | some v=>if v<0 then(v+(n:Int)).toNat else min v.toNat n
theorem sIx_nat(n d k:Nat):sIx n d (some (k:Int))=min k n:=by
 show(if (k:Int)<0 then((k:Int)+(n:Int)).toNat else min (k:Int).toNat n)=min k n
 rw[R6 (by lia),Tg]
theorem OK(n d:Nat)(hd:d<=n)(o:Option Int):sIx n d o<=n:=by
 cases o with
 | none=>exact hd
 | some v=>
  show(if v<0 then(v+(n:Int)).toNat else min v.toNat n)<=n
  by_cases C:v<0
  .rw[R9 C];lia
  .rw[R6 C];exact Wi _ _
theorem HS(v:Int)(n d:Nat):(if v<0 then max (v+(n:Int)) 0 else min v (n:Int))=((sIx n d (some v):Nat):Int):=by
 show(if v<0 then max (v+(n:Int)) 0 else min v (n:Int))=(((if v<0 then(v+(n:Int)).toNat else min v.toNat n):Nat):Int)
 by_cases o:v<0
 .simp only[R9 o];lia
 .simp only[R6 o];lia
theorem Gi(lo o:Option Int)(n:Nat):Builtin.Slice.sliceAdjust lo o 1 (n:Int)=(((sIx n 0 lo:Nat):Int),((sIx n n o:Nat):Int)):=by
 have C:¬((1:Int)<0):=by lia
 unfold Builtin.Slice.sliceAdjust
 simp only[C,Wj]
 refine Prod.ext ?_ ?_
 .cases lo with
  | none=>rfl
  | some v=>exact HS v n 0
 .cases o with
  | none=>rfl
  | some v=>exact HS v n n
theorem F_(i j:Nat):Builtin.Slice.slicePlaces (i:Int) (j:Int) 1=j - i:=by
 unfold Builtin.Slice.slicePlaces;have o:(1:Int) >0:=by lia
 simp only[o,UW,Int.ediv_one]
 split <;> lia
theorem zv{v:Value}{o:Option Int}{Q:Option Int->Shared->Prop}(p:IsPart v o)(h:Q o s):wpAny (model prog w) A (Builtin.Slice.slicePartIndex v) Q E s:=by
 cases p with
 | none=>exact slicePart_none h
 | int i t=>exact slicePart_int h
theorem wC{sl:Addr}{U J:Value}{lo C:Option Int}{n:Nat}{Q:Int × Int × Nat->Shared->Prop}(hs:s.heap.IsSliceOf sl U J .none)(pl:IsPart U lo)(b:IsPart J C)
  (h:Q (((sIx n 0 lo:Nat):Int),1,sIx n n C - sIx n 0 lo) s):wpAny (model prog w) A (Builtin.Slice.sliceApplied (.ref sl) (pure (n:Int))) Q E s:=by
 obtain⟨c,I,a,o⟩:=id hs;unfold Builtin.Slice.sliceApplied Builtin.Slice.sliceFields;refine RV (RV (SX I o (x:=U) rfl (RV (SX I o (x:=J) rfl (RV (SX I o (x:= .none) rfl (Sf ?_)))))))
 refine RV (slicePart_none ?_)
 show wpAny _ _ (if ((1:Int)==0)=true then _ else _) _ _ s
 rw[R6 (by decide)]
 refine RV (zv pl (RV (zv b (RV (Sf ?_)))))
 show wpAny _ _ (match Builtin.Slice.sliceAdjust lo C 1 (n:Int) with | (lo,C)=>pure (lo,(1:Int),Builtin.Slice.slicePlaces lo C 1)) _ _ s
 rw[Gi lo C n];show wpAny _ _ (pure (((sIx n 0 lo:Nat):Int),(1:Int),Builtin.Slice.slicePlaces ((sIx n 0 lo:Nat):Int) ((sIx n n C:Nat):Int) 1)) _ _ s
 rw[F_];exact Sf h
theorem LS(xs:Array Value)(i k:Nat):((List.range k).filterMap fun(m:Nat)=>xs[((i:Int)+(m:Int)*1).toNat]?).toArray=((xs.toList.drop i).take k).toArray:=by
 have e:(fun(m:Nat)=>xs[((i:Int)+(m:Int)*1).toNat]?)=fun m=>xs[i+m]? :=by
  funext m
  have:((i:Int)+(m:Int)*1).toNat=i+m:=by lia
  rw[this]
 rw[e];have:=pick_run xs i k;rw[List.filterMap_map] at this;have o:((fun x=>xs[x]?) ∘ fun x=>i+x)=fun m=>xs[i+m]? :=rfl
 rw[o] at this;rw[this]
theorem getItem_tuple_cut{t sl:Addr}{o:Array Value}{e d:Value}{lo I:Option Int}{Q:Value->Shared->Prop}(J:IsTup s.heap t o)(hs:s.heap.IsSliceOf sl e d .none)(pl:IsPart e lo)(i:IsPart d I)
  (hw:¬(sIx o.size 0 lo=0/\sIx o.size o.size I=o.size))
  (h:Q (.ref s.heap.objs.size) {s with heap:=s.heap.push {cls:= .type "tuple",data:= .seq ((o.toList.drop (sIx o.size 0 lo)).take (sIx o.size o.size I - sIx o.size 0 lo)).toArray}})
  (hsz:o.size<=sizeLine):wpAny (model prog w) A (getItem (.ref t) (.ref sl)) Q E s:=by
 have C:sizeOk (.seq ((o.toList.drop (sIx o.size 0 lo)).take (sIx o.size o.size I - sIx o.size 0 lo)).toArray):=by
  show((o.toList.drop (sIx o.size 0 lo)).take (sIx o.size o.size I - sIx o.size 0 lo)).toArray.size<=sizeLine
  rw[R7,Sg,SH,VG]
  lia
 have k:sIx o.size o.size I<=o.size:=OK _ _ (R3 _) I;obtain⟨j,U,a,f⟩:=id hs;have b:s.TypeIs (.ref sl) "slice":=⟨j,U,a⟩;unfold getItem
 try with_reducible refine UB ?_
 first | refine RV (Sf ?_) | skip
 refine RV (wpAny_sequenceKey J.typeIs (by decide) ?_)
 refine RV (TJ (name:=Str.ofString "__getitem__") J.typeIs Up
  (UQ Up J.typeIs entry_tuple_getitem ?_ (args_tuple_getitem _ _)))
 show wpAny _ _ (Builtin.Tuple.tupleItemsOf (.ref t) >>= _) _ _ s
 refine RV (tupleItemsOf_ J ?_)
 refine RV (wpAny_typeOf b ?_)
 rw[R9 (by decide)]
 refine RV (wC hs pl i ?_)
 have c:¬((((sIx o.size 0 lo:Nat):Int)==0 && (1:Int)==1 && (sIx o.size o.size I - sIx o.size 0 lo)==o.size)=true):=by
  intro q;rw[Su,Su] at q;have n:((sIx o.size 0 lo:Nat):Int)=0:=eq_of_beq q.1.1;have l:sIx o.size o.size I - sIx o.size 0 lo=o.size:=eq_of_beq q.2;exact hw ⟨by lia,by lia⟩
 show wpAny _ _ (if (((sIx o.size 0 lo:Nat):Int)==0 && (1:Int)==1 && (sIx o.size o.size I - sIx o.size 0 lo)==o.size)=true then _ else _) _ _ s
 rw[R6 c,LS]
 first
  | exact RV (m:=Builtin.Tuple.tupleExact _) (Tq (Sf ⟨_,rfl,Sf h⟩) C)
  | exact RV (m:=Builtin.Tuple.tupleExact _) (Tq (RV (Sf (Sf ⟨_,rfl,Sf h⟩))) C)
  | exact RV (RV (m:=Builtin.Tuple.tupleExact _) (Tq (Sf (Sf ⟨_,rfl,Sf h⟩)) C))
  | exact RV (RV (m:=Builtin.Tuple.tupleExact _) (Tq (Sf ⟨_,rfl,Sf h⟩) C))
end
end HT
namespace L2
open PySem PySem.Spec PyProof.Rows
abbrev TO:=St->Hp->(Option Int->Hp->Prop)->Prop
@[irreducible] def PO(X:Cx)(e:Option Expr)(t:TO):Prop:=
 ∀(C:List (Addr × Obj)) (s:Shared) (Z:St) (H:Hp) (Q:Option Int->Hp->Prop),Inv X C Z H s->t Z H Q->
  wpAny (model X.prog X.w) X.A (evalPart e X.env) (fun u J=>∃o I,Inv X C Z I J/\IsPart u o/\Q o I) X.xe s
def MH:TO:=fun _ H Q=>Q none H
def QA(t:TE):TO:=fun Z H Q=>t Z H fun x o=>∃i,x= .int i/\Q (some i) o
theorem uc{ns:List Int}:∀{us:List Value},aY (ns.map V.int) us->IntsAre us ns:=by
 induction ns with
 | nil=>intro us r;rw[Xt] at r;cases r;exact .nil
 | cons n ns ih=>
  intro us r;rw[Ss] at r
  cases r with
  | cons r1 r2=>
   obtain⟨t,e⟩:=r1;subst e;exact .cons n t (ih r2)
section
variable {X : Cx} {e : Expr} {te : TE} {lo hi : Option Expr} {tl th : TO} {pos p2 : Pos}
theorem cQ:PO X none MH:=by
 intro o s Z H Q I h;rw[evalPart_none];exact Sf ⟨none,H,I,.none,h⟩
theorem cq(h:PE X e te):PO X (some e) (QA te):=by
 intro o s Z H Q I hw;rw[evalPart_some];refine cw (h o s Z H _ I hw) fun u b x C a U J=> ?_
 obtain⟨i,rfl,q⟩:=J;obtain⟨t,rfl⟩:=U;exact⟨some i,C,a,.int i t,q⟩
def SlR(X:Cx)(r:V->Option Int->Option Int->Hp->VK->Prop):Prop:=
 ∀(o:List (Addr × Obj)) (s:Shared) (Z:St) (H:Hp) (x:V) (v I C:Value) (lo hi:Option Int) (sl:Addr) (Q:VK),Inv X o Z H s->bC x v->s.heap.IsSliceOf sl I C .none->IsPart I lo->IsPart C hi->r x lo hi H Q->
  ∃T id,typeLookup (.type T) "__getitem__"=pure (some (.builtin id))/\s.TypeIs v T/\wpAny (model X.prog X.w) X.A (getItem v (.ref sl)) (EP X o Z Q) X.xe s
def tSl(r:V->Option Int->Option Int->Hp->VK->Prop)(te:TE)(tl th:TO):TE:=fun Z H Q=>te Z H fun x I=>tl Z I fun l C=>th Z C fun u o=>r x l u o Q
theorem bK{r:V->Option Int->Option Int->Hp->VK->Prop}(D:SlR X r)(he:PE X e te)(d:PO X lo tl)(z:PO X hi th):PE X (.Subscript e (.Slice lo hi none p2) pos) (tSl r te tl th):=by
 intro o s Z H Q I h;refine Subscript_ (cw (he o s Z H _ I h) fun v m x p M L F=> ?_)
 refine wpAny_Slice (cw (d o m Z p _ M F) fun U G l i k pl y=>cw (z o G Z i _ k y) fun J C u a E K B=> ?_)
 rw[evalPart_none];refine Sf ?_
 have n:Inv X o Z a {C with heap:=C.heap.push {cls:= .type "slice",data:= .fields #[U,J,.none]}}:=E.kept (t':=C.toks) fun b N q=>gV _ q
 obtain⟨T,id,f,j,c⟩:=D o {C with heap:=C.heap.push {cls:= .type "slice",data:= .fields #[U,J,.none]}} Z a x v U J l u C.heap.objs.size Q n L (Heap.IsSliceOf.new ..) pl K B
 show wpAny (model X.prog X.w) X.A (subscriptTail e (.Slice lo hi none p2) v (.ref C.heap.objs.size)) (EP X o Z Q) X.xe {C with heap:=C.heap.push {cls:= .type "slice",data:= .fields #[U,J,.none]}}
 exact tail_any (ops:=[.ref C.heap.objs.size,v]) j f c (by with_unfolding_all rfl)
noncomputable def fC(xs:List V)(lo hi:Option Int):List V:=(xs.drop (HT.sIx xs.length 0 lo)).take (HT.sIx xs.length xs.length hi - HT.sIx xs.length 0 lo)
theorem xz(xs:List V)(lo hi:Option Int):(fC xs lo hi).length<=xs.length:=by
 unfold fC;rw[Sg,SH]
 lia
def RJ(K:Frag):V->Option Int->Option Int->Hp->VK->Prop:=fun x lo hi H Q=>∃a o,x= .ref a/\SqT K H a o/\
 ¬(HT.sIx o.length 0 lo=0/\HT.sIx o.length o.length hi=o.length)/\∀p,H p=none->Q (.ref p) (upd H p (.tup (fC o lo hi)))
theorem uK:SlR X (RJ X.K):=by
 intro c s Z H x v m l lo hi sl Q I i hs pl k h;obtain⟨a,J,rfl,j,hw,q⟩:=h
 cases i
 obtain⟨U,r,d,f⟩:=I.tuple j;have C:U.toArray.size=J.length:=by rw[R7];exact r.length.symm
 refine⟨"tuple",_,Up.lookup,d.typeIs,?_⟩
 refine HT.getItem_tuple_cut d hs pl k (by rw[C];exact hw) ?_ (by rw[C];exact f)
 rw[C];refine⟨.ref s.heap.objs.size,_,I.laid (t':=s.toks) (o:= .tup (fC J lo hi)) (fun b n q=>gV _ q) (R3 _) ?_,rfl,q _ (I.hok.fresh (R3 _))⟩
 exact⟨RY (xz J lo hi) f,_,(r.drop (HT.sIx J.length 0 lo)).take (HT.sIx J.length J.length hi - HT.sIx J.length 0 lo),XJ _ _⟩
def Q3(K:Frag):R2:=fun x y H Q=>∃a b C o,x= .ref a/\y= .ref b/\SqT K H a C/\SqT K H b o/\C≠[]/\C.length+o.length<=sizeLine/\
 (o=[]->Q (.ref a) H)/\(o≠[]->∀p,H p=none->Q (.ref p) (upd H p (.tup (C++o))))
theorem aY.nil_iff{xs:List V}{us:List Value}(r:aY xs us):us=[]↔xs=[]:=by
 cases r with
 | nil=>simp
 | cons _ _=>simp
theorem yB:OpR X (binaryOp .Add) (Q3 X.K):=by
 intro U s Z H x y v u Q I j r h;obtain⟨a,b,i,n,rfl,rfl,B,k,m,c,A,l⟩:=h
 cases j
 cases r
 obtain⟨p,J,f,_⟩:=I.tuple B;obtain⟨d,C,p2,_⟩:=I.tuple k;refine HT.cat_tup f p2 (fun z=>m (J.nil_iff.mp z)) (fun z=>⟨.ref a,H,I,rfl,A (C.nil_iff.mp z)⟩) (fun z=> ?_) (by rw[<- J.length, <-C.length];exact c)
 refine⟨.ref s.heap.objs.size,_,I.laid (t':=s.toks) (o:= .tup (i++n)) (fun b D q=>gV _ q) (R3 _) ?_,rfl,l (fun w=>z (C.nil_iff.mpr w)) _ (I.hok.fresh (R3 _))⟩
 exact⟨by rw[RZ];exact c,_,J.append C,XJ _ _⟩
end
noncomputable def ixN(n:Nat)(i:Int):Option Nat:=if 0<=i then(if i<n then some i.toNat else none) else if -(n:Int)<=i then some (i+n).toNat else none
noncomputable def atI{o:Type}(xs:List o)(i:Int):Option o:=(ixN xs.length i).bind fun j=>xs[j]?
theorem Ii{n:Nat}{i:Int}{j:Nat}(h:ixN n i=some j):seqIndex? i n=some j/\j<n/\ -(n:Int)<=i/\i<n:=by
 unfold ixN at h
 by_cases C:0<=i
 .rw[R9 C] at h
  by_cases o:i<n
  .rw[R9 o] at h;have e:i.toNat=j:=Sj h;exact⟨by rw[seqIndex_of C o,e],by lia,by lia,o⟩
  .rw[R6 o] at h;cases h
 .rw[R6 C] at h
  by_cases o: -(n:Int)<=i
  .rw[R9 o] at h;have e:(i+n).toNat=j:=Sj h;exact⟨by rw[Xu (by lia) o,e],by lia,o,by lia⟩
  .rw[R6 o] at h;cases h
theorem CZ{o:Type}{xs:List o}{i:Int}{v:o}(h:atI xs i=some v):∃j,seqIndex? i xs.length=some j/\xs[j]? =some v/\j<xs.length/\ -(xs.length:Int)<=i/\i<xs.length:=by
 unfold atI at h
 cases e:ixN xs.length i with
 | none=>rw[e] at h;cases h
 | some j=>
  rw[e] at h;obtain⟨J,C,I,U⟩:=Ii e;exact⟨j,J,h,C,I,U⟩
theorem bq{o:Type}{xs:List o}{j:Nat}{v:o}(h:xs[j]? =some v):atI xs (j:Int)=some v:=by
 have C:j<xs.length:=(RX.mp h).1;have e:ixN xs.length (j:Int)=some j:=by
  unfold ixN;rw[R9 (by lia),R9 (by lia)];simp
 unfold atI;rw[e];exact h
theorem KH{o:Type}(xs:List o)(v:o):atI (xs++[v]) (-1)=some v:=by
 have C:(xs++[v]).length=xs.length+1:=by simp
 have e:ixN (xs++[v]).length (-1)=some xs.length:=by
  unfold ixN;rw[C,R6 (by decide),R9 (by lia)]
  congr 1
  lia
 unfold atI;rw[e];show(xs++[v])[xs.length]? =some v
 simp
def Im(b:Expr):Prop:=∀o i,subscripted b false o i=operate [o,i] (getItem o i)
def IxR(X:Cx)(r:R2):Prop:=
 ∀(I o:Expr) (C:List (Addr × Obj)) (s:Shared) (Z:St) (H:Hp) (x y:V) (v u:Value) (Q:VK),Inv X C Z H s->bC x v->bC y u->r x y H Q->
  subscripted o false v u=operate [v,u] (getItem v u)->wpAny (model X.prog X.w) X.A (subscriptTail I o v u) (EP X C Z Q) X.xe s
def MtR(X:Cx)(id:String)(r:V->List V->Hp->VK->Prop):Prop:=
 ∀(o:List (Addr × Obj)) (s:Shared) (Z:St) (H:Hp) (x:V) (C:List V) (v:Value) (I:List Value) (Q:VK),Inv X o Z H s->bC x v->aY C I->r x C H Q->
  wpAny (model X.prog X.w) X.A (call (.builtin id) (v::I)) (EP X o Z Q) X.xe s
section
variable {X : Cx} {a b : Expr} {ta tb : TE} {pos : Pos}
theorem D_{r:R2}(e:IxR X r)(i:PE X a ta)(c:PE X b tb)(hs:Im b):PE X (.Subscript a b pos) (tOp r ta tb):=by
 intro o s Z H Q I h;exact Subscript_ (N5 i c I h fun v u f x y J U C d q=>e a b o f Z J x y v u Q U C d q (hs _ _))
def RH(K:Frag):R2:=fun x y H Q=>∃p o i v,x= .ref p/\y= .int i/\SqL K H p o/\atI o i=some v/\Q v H
def PP(K:Frag):R2:=fun x y H Q=>∃p o i v,x= .ref p/\y= .int i/\SqT K H p o/\atI o i=some v/\Q v H
def Rk:R2:=fun x y H Q=>∃z i c,x= .str z/\y= .int i/\z.length<=sizeLine/\atI z.cps.toList i=some c/\Q (.str ⟨#[c]⟩) H
theorem bA:IxR X (RH X.K):=by
 intro U c o s Z H x y v u Q I m B h hs;obtain⟨p,F,i,z,rfl,rfl,n,he,q⟩:=h
 cases m
 obtain⟨t,rfl⟩:=B;obtain⟨d,r,pl,L⟩:=I.list n;obtain⟨j,C,A,M,E,D⟩:=CZ he;obtain⟨w,e,J⟩:=r.get A;have l:=r.length;have G:=wJ;have fin:EP X o Z Q w s:=⟨z,H,I,J,q⟩
 by_cases f:0<=i
 .have hj:i.toNat=j:=by
   rw[seqIndex_of f D] at C;exact Sj C
  exact item_listR pl.isList f (by lia) (by rw[hj];simpa using e) fin hs
 .have hj:(i+(d.toArray.size:Int)).toNat=j:=by
   rw[Xu (by lia) E] at C
   rw[R7, <-l];exact Sj C
  exact U8 (x:=w) pl.isList.typeIs slot_list_getitem.lookup
   (wpAny_getItem_list_neg (Q:=fun r k=>r=w/\EP X o Z Q r k) pl.isList (by lia) (by rw[R7] <;> lia) (by lia) (by rw[hj];simpa using e) ⟨rfl,fin⟩) hs
theorem ay:IxR X (PP X.K):=by
 intro J U o s Z H x y v u Q I e n h hs;obtain⟨p,B,i,z,rfl,rfl,k,he,q⟩:=h
 cases e
 obtain⟨t,rfl⟩:=n;obtain⟨m,r,pl,E⟩:=I.tuple k;obtain⟨j,A,l,G,L,F⟩:=CZ he;obtain⟨w,f,C⟩:=r.get l;have d:=r.length;have D:=wJ;have fin:EP X o Z Q w s:=⟨z,H,I,C,q⟩;exact U8 (x:=w) pl.typeIs slot_tuple_getitem.lookup
  (getItem_tuple (j:=j) (Q:=fun r c=>r=w/\EP X o Z Q r c) pl (by lia) (by lia) (by rw[R7, <-d];exact A) (by simpa using f) ⟨rfl,fin⟩) hs
theorem O8:IxR X Rk:=by
 intro o C J s Z H x y v u Q I e m h hs;obtain⟨z,i,c,rfl,rfl,A,he,q⟩:=h;obtain⟨t,rfl⟩:=e;obtain⟨r,rfl⟩:=m;obtain⟨j,U,f,B,p,n⟩:=CZ he;have d:z.cps.toList.length=z.length:=by simp [Str.length]
 rw[d] at U p n;have w:=wJ
 exact tail_any (Vn s z t) slot_str_getitem.lookup (getItem_str (c:=c) (by
  have k:decide (i < -(2^63:Int))=false:=RW (by lia)
  have l:decide (i>=2^63)=false:=RW (by lia)
  rw[k,l,Xa]) (by rw[U];simpa using f) ⟨.str ⟨#[c]⟩,H,I.tok _,⟨_,rfl⟩,q⟩) hs
theorem Gh(o:List Value)(n j:Nat)(u:Value):Obj.mapSeq (·.setIfInBounds j u) {cls:= .type "list",data:= .seq o.toArray n}={cls:= .type "list",data:= .seq (o.set j u).toArray n}:=by
 simp [Obj.mapSeq]
theorem Inv.lst{C:List (Addr × Obj)}{Z:St}{H:Hp}{s:Shared}{p:Addr}{xs:List V}(I:Inv X C Z H s)(h:H p=some (.lst xs)):
  ∃(o:List Value) (n:Nat),aY xs o/\s.heap.get? p=some {cls:= .type "list",data:= .seq o.toArray n}/\xs.length<=sizeLine:=by
 obtain⟨z,o,n,r,e⟩:=I.hok p _ h;exact⟨o,n,r,e,z⟩
theorem Inv.lstUpd{o:List (Addr × Obj)}{Z:St}{H:Hp}{s:Shared}{p:Addr}{xs ys:List V}{C its':List Value}{n J:Nat}{f:Obj->Obj}(I:Inv X o Z H s)(h:H p=some (.lst xs))
  (ho:s.heap.get? p=some {cls:= .type "list",data:= .seq C.toArray n}) (U:f {cls:= .type "list",data:= .seq C.toArray n}={cls:= .type "list",data:= .seq its'.toArray J}) (r:aY ys its') (d:ys.length<=sizeLine) (t:Nat):
  Inv X o Z (upd H p (.lst ys)) {s with heap:=s.heap.update p f,toks:=t}:=by
 have e:(s.heap.update p f).get? p=some {cls:= .type "list",data:= .seq its'.toArray J}:=by
  rw[UC f ho (by rw[U] <;> rfl),U]
 refine I.write (x:=p) (e:=p) (by rw[h];trivial) (.inl rfl) (fun b u c q=>(Uz _ _ (SD c)).trans q) ⟨_,e⟩ ?_
 exact⟨d,its',J,r,e⟩
def P_:V->V->V->Hp->(Hp->Prop)->Prop:=fun o i v H Q=>∃p C k j,o= .ref p/\i= .int k/\H p=some (.lst C)/\ixN C.length k=some j/\Q (upd H p (.lst (C.set j v)))
theorem rC:Qc X P_:=by
 intro C s Z H o i v G F u Q I A y x h;obtain⟨p,w,k,j,rfl,rfl,d,z,q⟩:=h
 cases A
 obtain⟨t,rfl⟩:=y;obtain⟨J,n,r,ho,B⟩:=I.lst d;obtain⟨U,E,l,m⟩:=Ii z;have c:=r.length;have D:=wJ;have e:Inv X C Z (upd H p (.lst (w.set j v))) {s with heap:=s.heap.update p (Obj.mapSeq (·.setIfInBounds j u))}:=
  I.lstUpd d ho (Gh J n j u) (r.set x j) (by rw[VB];exact B) s.toks
 by_cases f:0<=k
 .have hk:k.toNat=j:=by
   rw[seqIndex_of f m] at U;exact Sj U
  exact W.ki_setAt ho f (by lia) (by rw[R7, <-c];exact m) (by rw[hk];exact⟨_,e,q⟩)
 .have hk:(k+(J.toArray.size:Int)).toNat=j:=by
   rw[Xu (by lia) l] at U
   rw[R7, <-c];exact Sj U
  exact W.ki_setBack ho (by lia) (by rw[R7, <-c];exact l) (by lia) (by rw[hk];exact⟨_,e,q⟩)
theorem B4(lo o:Option Int)(n:Nat):(sliceBounds lo o none n).1=((HT.sIx n 0 lo:Nat):Int)/\(sliceBounds lo o none n).2.1=((HT.sIx n n o:Nat):Int)/\(sliceBounds lo o none n).2.2=1:=by
 refine⟨?_,?_,rfl⟩
 .cases lo with
  | none=>simp [sliceBounds,HT.sIx]
  | some i=>
   simp only[sliceBounds,HT.sIx,Option.getD_none,show(1:Int) >0 by decide,UW]
   by_cases h:i<0
   .simp only[h,UW] <;> lia
   .simp only[h,Wj] <;> lia
 .cases o with
  | none=>simp [sliceBounds,HT.sIx]
  | some i=>
   simp only[sliceBounds,HT.sIx,Option.getD_none,show(1:Int) >0 by decide,UW]
   by_cases h:i<0
   .simp only[h,UW] <;> lia
   .simp only[h,Wj] <;> lia
theorem AV(o:List Value)(lo C:Option Int):slicePick o.toArray lo C none=((o.drop (HT.sIx o.length 0 lo)).take (HT.sIx o.length o.length C - HT.sIx o.length 0 lo)).toArray:=by
 obtain⟨U,I,J⟩:=B4 lo C o.toArray.size;unfold slicePick;rw[U,I,J]
 simp only[sliceRange_one,pick_run,R7] <;> rfl
def P7(K:Frag):V->Option Int->Option Int->Hp->VK->Prop:=fun x I C H Q=>∃a o,x= .ref a/\SqL K H a o/\∀p,H p=none->Q (.ref p) (upd H p (.lst (fC o I C)))
theorem iq:SlR X (P7 X.K):=by
 intro d s Z H x v n m U c sl Q I f hs pl l h;obtain⟨a,C,rfl,i,q⟩:=h
 cases f
 obtain⟨j,r,e,k⟩:=I.list i;have J:=r.length;refine⟨"list",_,slot_list_getitem.lookup,e.isList.typeIs,?_⟩
 refine wpAny_getItem_list_slice e.isList hs pl l .none (by simp) ?_ (by rw[R7] <;> lia)
 rw[AV, <-J];refine⟨.ref s.heap.objs.size,_,I.laid (t':=s.toks) (o:= .lst (fC C U c)) (fun b p q=>gV _ q) (R3 _) ?_,rfl,q _ (I.hok.fresh (R3 _))⟩
 exact⟨RY (xz C U c) k,_,0,(r.drop (HT.sIx C.length 0 U)).take (HT.sIx C.length C.length c - HT.sIx C.length 0 U),Sh _ rfl⟩
noncomputable def fY:V->Bool
 | .non=>true
 | .bl _=>true
 | .int _=>true
 | .str _=>true
 | _=>false
noncomputable def eqV:V->V->Bool
 | .non,.non=>true
 | .bl a,.bl b=>a==b
 | .bl a,.int b=>(if a then 1 else 0)==b
 | .int a,.bl b=>a==(if b then 1 else 0)
 | .int a,.int b=>a==b
 | .str a,.str b=>a==b
 | _,_=>false
theorem KR{A:Around}{s:Shared}{y x:V}{u v:Value}(J:bC y u)(o:bC x v)(U:fY y=true)(I:fY x=true):SeqAt.EqAt A s u v (eqV y x):=by
 cases y with
 | non=>
  cases J
  cases x with
  | non=>cases o;exact SeqAt.EqAt.same _
  | bl b=>cases o;exact SeqAt.EqAt.none_bool b
  | int b=>obtain⟨t,rfl⟩:=o;exact SeqAt.EqAt.none_int b t
  | str b=>obtain⟨t,rfl⟩:=o;exact SeqAt.EqAt.none_str b t
  | _=>exact absurd (show false=true from I) Sm
 | bl a=>
  cases J
  cases x with
  | non=>cases o;exact SeqAt.EqAt.bool_none a
  | bl b=>cases o;exact SeqAt.EqAt.bool_bool a b
  | int b=>obtain⟨t,rfl⟩:=o;exact SeqAt.EqAt.bool_int a b t
  | str b=>obtain⟨t,rfl⟩:=o;exact SeqAt.EqAt.bool_str a b t
  | _=>exact absurd (show false=true from I) Sm
 | int a=>
  obtain⟨C,rfl⟩:=J
  cases x with
  | non=>cases o;exact SeqAt.EqAt.int_none a C
  | bl b=>cases o;exact SeqAt.EqAt.int_bool a C b
  | int b=>obtain⟨t,rfl⟩:=o;exact SeqAt.EqAt.int_int a C b t
  | str b=>obtain⟨t,rfl⟩:=o;exact SeqAt.EqAt.int_str a C b t
  | _=>exact absurd (show false=true from I) Sm
 | str a=>
  obtain⟨C,rfl⟩:=J
  cases x with
  | non=>cases o;exact SeqAt.EqAt.str_none a C
  | bl b=>cases o;exact SeqAt.EqAt.str_bool a C b
  | int b=>obtain⟨t,rfl⟩:=o;exact SeqAt.EqAt.str_int a C b t
  | str b=>obtain⟨t,rfl⟩:=o;exact SeqAt.EqAt.str_str a C b t
  | _=>exact absurd (show false=true from I) Sm
 | _=>exact absurd (show false=true from U) Sm
noncomputable def eqU(x:V)(u:Value):Bool:=match u with
 | .none=>eqV .non x
 | .bool b=>eqV (.bl b) x
 | .int i _=>eqV (.int i) x
 | .str z _=>eqV (.str z) x
 | _=>false
theorem zq{x y:V}{u:Value}(r:bC y u)(f:fY y=true):eqU x u=eqV y x:=by
 cases y with
 | non=>cases r;rfl
 | bl b=>cases r;rfl
 | int i=>obtain⟨t,rfl⟩:=r;rfl
 | str z=>obtain⟨t,rfl⟩:=r;rfl
 | _=>exact absurd (show false=true from f) Sm
theorem vD{x:V}:∀{xs:List V}{us:List Value},aY xs us->xs.all fY=true->us.any (eqU x)=xs.any fun y=>eqV y x
 | _,_,.nil,_=>rfl
 | y::xs,u::us,.cons r t,f=>by
  rw[V5,Su] at f;rw[Vq,Vq,zq r f.1,vD t f.2]
theorem kE{A:Around}{s:Shared}{x:V}{v:Value}(I:bC x v)(C:fY x=true):∀{xs:List V}{us:List Value},aY xs us->xs.all fY=true->∀u∈us,SeqAt.EqAt A s u v (eqU x u)
 | _,_,.nil,_=>fun u o=>by cases o
 | y::xs,u::us,.cons r t,f=>fun J o=>by
  rw[V5,Su] at f;rcases Se.mp o with rfl | o
  .rw[zq r f.1];exact KR r I f.1 C
  .exact kE I C t f.2 J o
noncomputable def inV(x:V)(xs:List V):Bool:=xs.any fun y=>eqV y x
def rIn(K:Frag)(C:Bool):R2:=fun x y H Q=>∃p o,y= .ref p/\(SqL K H p o\/SqT K H p o)/\fY x=true/\o.all fY=true/\Q (.bl (if C then !inV x o else inV x o)) H
theorem rY:OpR X (compareOp .In) (rIn X.K false):=by
 intro C s Z H x y v u Q I J c h;obtain⟨p,d,rfl,o,U,fs,q⟩:=h
 cases c
 rcases o with o | o
 .obtain⟨its,r,pl,hz⟩:=I.list o;refine SeqAt.in_listAt (eqU x) pl.isList (fun w hw=>kE J U r fs w (by simpa using hw)) ⟨.bl _,H,I,rfl,?_⟩
  rw[show its.toArray.any (eqU x)=its.any (eqU x) by simp,vD r fs]
  exact q
 .obtain⟨its,r,pl,hz⟩:=I.tuple o;refine SeqAt.in_tupleAt (eqU x) pl (fun w hw=>kE J U r fs w (by simpa using hw)) ⟨.bl _,H,I,rfl,?_⟩
  rw[show its.toArray.any (eqU x)=its.any (eqU x) by simp,vD r fs]
  exact q
theorem vS:OpR X (compareOp .NotIn) (rIn X.K true):=by
 intro C s Z H x y v u Q I J c h;obtain⟨p,d,rfl,o,U,fs,q⟩:=h
 cases c
 rcases o with o | o
 .obtain⟨its,r,pl,hz⟩:=I.list o;refine SeqAt.notIn_listAt (eqU x) pl.isList (fun w hw=>kE J U r fs w (by simpa using hw)) ⟨.bl _,H,I,rfl,?_⟩
  rw[show its.toArray.any (eqU x)=its.any (eqU x) by simp,vD r fs]
  exact q
 .obtain⟨its,r,pl,hz⟩:=I.tuple o;refine SeqAt.notIn_tupleAt (eqU x) pl (fun w hw=>kE J U r fs w (by simpa using hw)) ⟨.bl _,H,I,rfl,?_⟩
  rw[show its.toArray.any (eqU x)=its.any (eqU x) by simp,vD r fs]
  exact q
theorem Ci:OpR X (compareOp .NotIn) (fun x y H Q=>∃i j,x= .str i/\y= .str j/\Q (.bl (!(!(Builtin.Str.occurrences j i 0 j.length 1).isEmpty))) H):=by
 intro o s Z H x y v u Q I C J h;obtain⟨i,j,rfl,rfl,q⟩:=h;obtain⟨t,rfl⟩:=C;obtain⟨U,rfl⟩:=J;exact notIn_str ⟨.bl _,H,I,rfl,q⟩
theorem aH:fq X (.builtin "len") (fun xs H Q=>∃p ys,xs=[.ref p]/\(SqL X.K H p ys\/SqT X.K H p ys)/\Q (.int ys.length) H):=by
 intro J s Z H xs d Q I r h;obtain⟨p,ys,rfl,C,q⟩:=h;obtain⟨u,rfl,U⟩:=iC r
 cases U
 have c:=wJ;rcases C with C | C
 .obtain⟨its,r',pl,hz⟩:=I.list C;have o:=r'.length;exact Calls.call_len_list pl.isList (by simp only[R7] <;> lia) ⟨.int ys.length,H,I.tok _,⟨s.toks+1,by rw[R7,o]⟩,q⟩
 .obtain⟨its,r',pl,hz⟩:=I.tuple C;have o:=r'.length;exact len_tuple pl (by simp only[R7] <;> lia) ⟨.int ys.length,H,I.tok _,⟨s.toks+1,by rw[R7,o]⟩,q⟩
theorem ol:fq X (.builtin "len") (fun xs H Q=>∃z,xs=[.str z]/\z.length<=sizeLine/\Q (.int z.length) H):=by
 intro o s Z H xs C Q I r h;obtain⟨z,rfl,J,q⟩:=h;obtain⟨u,rfl,t,rfl⟩:=iC r;have U:=wJ;exact len_str (by lia) ⟨.int z.length,H,I.tok _,⟨_,rfl⟩,q⟩
theorem Ck:fq X (.type "list") (fun xs H Q=>∃p ys,xs=[.ref p]/\(SqL X.K H p ys\/SqT X.K H p ys)/\∀l,H l=none->Q (.ref l) (upd H l (.lst ys))):=by
 intro d s Z H xs x Q I r h;obtain⟨p,ys,rfl,f,q⟩:=h;obtain⟨u,rfl,v⟩:=iC r
 cases v
 have fin:∀(C:List Value),aY ys C->ys.length<=sizeLine->∀(J:Heap) (c:Nat),(∀b m,s.heap.get? b=some m->J.get? b=some m)->
   J.get? s.heap.objs.size=some {cls:= .type "list",dict:=none,data:= .seq C.toArray c,slots:= #[]}->EP X d Z Q (.ref s.heap.objs.size) {s with heap:=J}:=fun C U i J c kp e=>
  ⟨.ref s.heap.objs.size,_,I.laid (t':=s.toks) kp (R3 _) (show cy X.prog X.w _ J _ (.lst ys) from⟨i,C,c,U,e⟩),rfl,q _ (I.hok.fresh (R3 _))⟩
 rcases f with f | f
 .obtain⟨C,U,pl,i⟩:=I.list f;have j:=U.length;obtain⟨o,ho,k,n,hd⟩:=pl.isList;exact call_list_seq p (.inl rfl) ho k hd (fun J c kp e=>fin C U i J c kp e) (by simp only[R7] <;> lia)
 .obtain⟨C,U,pl,i⟩:=I.tuple f;have j:=U.length;obtain⟨o,ho,k,n,hd⟩:=pl;exact call_list_seq p (.inr rfl) ho k hd (fun J c kp e=>fin C U i J c kp e) (by simp only[R7] <;> lia)
theorem gv:fq X (.type "tuple") (fun xs H Q=>∃p ys,xs=[.ref p]/\((SqL X.K H p ys/\∀l,H l=none->Q (.ref l) (upd H l (.tup ys)))\/(SqT X.K H p ys/\Q (.ref p) H))):=by
 intro C s Z H xs j Q I r h;obtain⟨p,ys,rfl,h⟩:=h;obtain⟨u,rfl,f⟩:=iC r
 cases f
 rcases h with⟨U,q⟩|⟨U,q⟩
 .obtain⟨its,r',pl,hz⟩:=I.list U;have d:=r'.length;refine call_tuple_list pl.isList (fun J kp=> ?_) (by simp only[R7] <;> lia)
  have c:Inv X C Z H {s with heap:=J}:=I.kept (t':=s.toks) kp
  have i:Inv X C Z (upd H J.objs.size (.tup ys)) {s with heap:=J.push {cls:= .type "tuple",data:= .seq its.toArray}}:=
   c.laid (t':=s.toks) (fun b o e=>gV _ e) (R3 _) (show cy X.prog X.w _ _ _ (.tup ys) from⟨hz,its,r',XJ _ _⟩)
  exact⟨.ref J.objs.size,_,i,rfl,q _ (c.hok.fresh (R3 _))⟩
 .obtain⟨its,r',pl,hz⟩:=I.tuple U;exact call_tuple_same pl ⟨.ref p,H,I,rfl,q⟩
def tyV(K:Frag)(T:String)(x:V)(H:Hp):Prop:=match x with
 | .str _=>T="str"
 | .int _=>T="int"
 | .ref p=>(T="list"/\∃I,SqL K H p I)\/(T="tuple"/\∃o,K.lookup p=some o/\o.cls= .type "tuple"/\o.dict=none)\/
   (T="dict"/\((∃C,H p=some (.dK C))\/∃C,H p=some (.dT C)))\/(T="set"/\∃S n,H p=some (.set S n))
 | _=>False
theorem OW{U:List (Addr × Obj)}{Z:St}{H:Hp}{s:Shared}{T:String}{x:V}{v:Value}(I:Inv X U Z H s)(r:bC x v)(ty:tyV X.K T x H):
  s.TypeIs v T/\∀a,v= .ref a->∃j,s.heap.get? a=some j/\j.dict=none:=by
 cases x with
 | str z=>
  obtain⟨t,rfl⟩:=r
  cases(show T="str" from ty)
  exact⟨Vn s z t,fun _ e=>nomatch e⟩
 | int i=>
  obtain⟨t,rfl⟩:=r
  cases(show T="int" from ty)
  exact⟨Wu s i t,fun _ e=>nomatch e⟩
 | ref p=>
  cases r
  rcases ty with⟨rfl,m,k⟩|⟨rfl,o,C,l,hd⟩|⟨rfl,C⟩|⟨rfl,S,n,C⟩
  .obtain⟨its,_,pl,_⟩:=I.list k;refine⟨pl.isList.typeIs,fun a e=> ?_⟩
   cases e
   obtain⟨o,n,e,c,hd,_⟩:=pl;exact⟨o,e,hd⟩
  .refine⟨⟨o,I.kIn p o C,l⟩,fun a e=> ?_⟩
   cases e
   exact⟨o,I.kIn _ o C,hd⟩
  .have z:∃o,s.heap.get? p=some o/\o.ExactDict:=by
    rcases C with⟨d,C⟩|⟨d,C⟩
    .obtain⟨_,_,_,_,o,_,_,e,J,_⟩:=I.hok p _ C;exact⟨o,e,J⟩
    .obtain⟨_,_,_,_,o,_,_,e,J,_⟩:=I.hok p _ C;exact⟨o,e,J⟩
   obtain⟨o,e,J⟩:=z;refine⟨⟨o,e,J.1⟩,fun a f=> ?_⟩
   cases f
   exact⟨o,e,J.2.1⟩
  .obtain⟨o,_,_,_,e,J,_⟩:=I.hok p _ C;refine⟨⟨o,e,J.1⟩,fun a f=> ?_⟩
   cases f
   exact⟨o,e,J.2.1⟩
 | _=>exact False.elim ty
def tBM(K:Frag)(T:String)(r:V->List V->Hp->VK->Prop)(I:TE)(t:TA):TE:=fun Z H Q=>I Z H fun x o=>tyV K T x o/\t Z o fun C J=>r x C J Q
variable {o e : Expr} {es : List Expr} {to : TE} {t : TA} {name : Str} {apos cpos : Pos} {T id : String} {r : V → List V → Hp → VK → Prop}
theorem bU(pa:PlainAttrs T)(d:Slot T name id)(j:typeOf (.builtin id)=pure (.type "method_descriptor"))(hm:MtR X id r)(ho:PE X o to)(F:PA X (e::es) t)
  (c:attributeBase o name X.env (eval o X.env)=eval o X.env:=by rfl)
  (f:((backTo cpos (starEach (e::es) X.env)).all (fun x=> !x.1) && (backToKw cpos (keywordEach [] X.env)).all (fun x=>x.1.isSome)
   && decide ((e::es).length+([]:List Keyword).length+(if ([]:List Keyword).isEmpty then 0 else 1)<30))=true:=by rfl)
  (U:(apos.endLine==cpos.line)=true:=by rfl) (hs:starEach (e::es) X.env=(false,eval e X.env)::starEach es X.env:=by rfl) (J:(backTo cpos (starEach es X.env)).any (·.1)=false:=by rfl):
  PE X (.Call (.Attribute o name apos) (e::es) [] cpos) (tBM X.K T r to t):=by
 intro C s Z H Q I h;refine wpAny_Call_method_late c f U rfl (cw (ho C s Z H _ I h) fun v q x w m l i=> ?_)
 obtain⟨ty,A⟩:=i;obtain⟨E,u⟩:=OW m l ty;refine⟨T,id,pa,d,j,E,u,?_⟩
 have k:=F cpos C q Z w _ m A;rw[hs] at k ⊢;refine Calls.callWith_builtin (by show(false || (backTo cpos (starEach es X.env)).any (·.1))=false;rw[J] <;> rfl) (Calls.evalArgs_plain ?_)
 exact thn k fun D z ⟨vs,n,p,B,y⟩=>hm C z Z n x vs v D Q p l B y
end
def MtM(X:Cx)(id:String)(r:V->List V->Hp->VK->Prop):Prop:=
 ∀(o:List (Addr × Obj)) (s:Shared) (Z:St) (H:Hp) (x:V) (C:List V) (v:Value) (I:List Value) (Q:VK),Inv X o Z H s->bC x v->aY C I->r x C H Q->
  wpAny (model X.prog X.w) X.A (call (.builtin id) (v::I)) (EP X o Z Q) X.xe s
theorem aY.one:∀{x:V}{us:List Value},aY [x] us->∃u,us=[u]/\bC x u
 | _,_,.cons r .nil=>⟨_,rfl,r⟩
theorem aY.rep{xs:List V}{us:List Value}(h:aY xs us):∀k:Nat,aY (List.replicate k xs).flatten (List.replicate k us).flatten
 | 0=> .nil
 | k+1=>by
  rw[S0,S0,UG,UG];exact aY.append h (aY.rep h k)
theorem ww(o:List Value):∀(k:Nat) (acc:List Value),
  List.foldl (fun I C=>I++C) acc.toArray (List.replicate k o.toArray)=(acc++(List.replicate k o).flatten).toArray
 | 0,acc=>by simp
 | k+1,acc=>by
  have e:acc.toArray++o.toArray=(acc++o).toArray:=by simp
  have J:(acc++o)++(List.replicate k o).flatten=acc++(List.replicate (k+1) o).flatten:=by
   rw[S0,UG,SQ]
  rw[<- J, <-ww o k (acc++o), <-e,S0,VC]
section
variable {X : Cx} {pins : List (Addr × Obj)} {σ : St} {H : Hp} {s : Shared} {l b : Addr} {xs ys zs : List V}
theorem Inv.lset{o its':List Value}{n:Nat}{f:Array Value->Array Value}{t':Nat}(I:Inv X pins Z H s)(c:H l=some (.lst xs))
  (e:s.heap.get? l=some {cls:= .type "list",data:= .seq o.toArray n}) (J:f o.toArray=its'.toArray) (U:aY ys its') (a:ys.length<=sizeLine):
  Inv X pins Z (upd H l (.lst ys)) {s with heap:=s.heap.update l (Obj.mapSeq f),toks:=t'}:=by
 have q:=PySem.IsL.update e f;rw[J] at q;refine I.write (x:=l) (e:=l) (by rw[c];exact trivial) (.inl rfl) (fun i u d C=>(Uz s.heap (Obj.mapSeq f) (SD d)).trans C) ⟨_,q⟩ ?_
 exact⟨a,its',_,U,q⟩
theorem Inv.lnew{o:List Value}{t':Nat}(I:Inv X pins Z H s)(C:aY ys o)(J:ys.length<=sizeLine):
  Inv X pins Z (upd H s.heap.objs.size (.lst ys)) {s with heap:=s.heap.push {cls:= .type "list",data:= .seq o.toArray},toks:=t'}:=
 I.laid (fun _ _ q=>gV _ q) (R3 _) ⟨J,o,0,C,Sh _ rfl⟩
theorem Inv.fresh(I:Inv X pins Z H s):H s.heap.objs.size=none:=I.hok.fresh (R3 _)
theorem Inv.lstM(I:Inv X pins Z H s)(C:H l=some (.lst xs)):xs.length<=sizeLine/\∃(o:List Value) (n:Nat),aY xs o/\xs.length=o.length/\s.heap.get? l=some {cls:= .type "list",data:= .seq o.toArray n}:=by
 obtain⟨z,o,n,r,e⟩:=I.hok l _ C;exact⟨z,o,n,r,r.length,e⟩
theorem D7{n:Nat}(h:n<=sizeLine):Builtin.List.listTooLong n=false:=by
 unfold Builtin.List.listTooLong;exact RW (by lia)
end
section
variable {X : Cx}
def MS:V->List V->Hp->VK->Prop:=fun x vs H Q=>∃l o y,x= .ref l/\vs=[y]/\H l=some (.lst o)/\o.length<sizeLine/\Q .non (upd H l (.lst (o++[y])))
theorem da:MtM X "list.append" MS:=by
 intro C s Z H x vs v i Q I U a h;obtain⟨l,c,y,rfl,rfl,J,f,q⟩:=h
 cases U
 obtain⟨u,rfl,b⟩:=a.one;obtain⟨z,o,n,r,d,e⟩:=I.lstM J;refine TM F.slot_list_append ⟨_,e,rfl⟩ F.entry_list_append (F.args_list_append_2 _ _) (PySem.list_append l o.toArray n u (by rw[R7];lia)) ⟨e,?_⟩
 refine⟨.non,_,I.lset (its':=o++[u]) J e (by simp) (r.append (.cons b .nil)) ?_,rfl,q⟩
 rw[RZ,WI]
 lia
def Ng:V->List V->Hp->VK->Prop:=fun x vs H Q=>∃l b o C,x= .ref l/\vs=[.ref b]/\H l=some (.lst o)/\H b=some (.lst C)/\o.length+C.length<=sizeLine/\Q .non (upd H l (.lst (o++C)))
theorem rZ:MtM X "list.extend" Ng:=by
 intro a s Z H x vs v D Q I d f h;obtain⟨l,b,w,A,rfl,rfl,c,i,B,q⟩:=h
 cases d
 obtain⟨u,rfl,j⟩:=f.one
 cases j
 obtain⟨z,C,n,r,y,e⟩:=I.lstM c;obtain⟨z2,o,n2,m,p,k⟩:=I.lstM i;have U:C.toArray.size+o.toArray.size<=sizeLine:=by rw[R7,R7];lia
 have J:¬(!C.toArray.isEmpty && Builtin.List.listTooLong (C.toArray.size+o.toArray.size))=true:=by
  rw[D7 U,Bool.and_false];exact Sm
 refine TM F.slot_list_extend ⟨_,e,rfl⟩ F.entry_list_extend (F.args_list_extend_2 _ _)
  (AutoSeq1.list_extend_list_list_0 l C.toArray n b o.toArray n2 J (by rw[R7];lia) (by lia)) ⟨e,k,?_⟩
 refine⟨.non,_,I.lset (its':=C++o) c e (by simp) (r.append m) ?_,rfl,q⟩
 rw[RZ]
 lia
def RF:R2:=fun x y H Q=>∃l b o C,x= .ref l/\y= .ref b/\H l=some (.lst o)/\H b=some (.lst C)/\o.length+C.length<=sizeLine/\∀p,H p=none->Q (.ref p) (upd H p (.lst (o++C)))
theorem dL:OpR X (binaryOp .Add) RF:=by
 intro J s Z H x y v u Q I U f h;obtain⟨l,b,m,w,rfl,rfl,j,a,A,q⟩:=h
 cases U
 cases f
 obtain⟨z,C,n,r,p,e⟩:=I.lstM j;obtain⟨z2,o,n2,i,k,d⟩:=I.lstM a;refine PySem.P.add_list e d ?_ (by rw[R7,R7];lia)
 have c:C.toArray++o.toArray=(C++o).toArray:=by simp
 rw[c];exact⟨.ref _,_,I.lnew (t':=s.toks) (r.append i) (by rw[RZ];lia),rfl,q _ I.fresh⟩
def Q9:R2:=fun x y H Q=>∃l k o,x= .ref l/\y= .int k/\H l=some (.lst o)/\ -(2^63)<=k/\k<2^63/\o.length*k.toNat<=sizeLine/\
 ∀p,H p=none->Q (.ref p) (upd H p (.lst (List.replicate k.toNat o).flatten))
theorem CF{o:Type}(xs:List o)(k:Nat):(List.replicate k xs).flatten.length=k*xs.length:=by
 induction k with
 | zero=>simp
 | succ k ih=>rw[S0,UG,RZ,ih,Wv,Nat.add_comm]
theorem yR:OpR X (binaryOp .Mult) Q9:=by
 intro j s Z H x y v u Q I B E h;obtain⟨l,k,L,rfl,rfl,K,G,D,p,q⟩:=h
 cases B
 obtain⟨t,rfl⟩:=E;obtain⟨z,o,n,r,A,e⟩:=I.lstM K;have c:o.toArray.size*k.toNat<=sizeLine:=by rw[R7, <-A];exact p
 have J:¬o.toArray.size*k.toNat >(2^63 - 1) / 8:=by
  have:(sizeLine:Nat)<=(2^63 - 1) / 8:=by decide
  lia
 have b:¬(!Builtin.List.listFitsIndex k)=true:=by
  rw[fitsIndex_both G D];exact Sm
 have C:¬Builtin.List.listTooLong (o.toArray.size*k.toNat)=true:=by
  rw[D7 c];exact Sm
 have d:List.foldl (fun i f=>i++f) #[] (List.replicate (if o.toArray.isEmpty=true then 0 else k.toNat) o.toArray)=(List.replicate k.toNat o).flatten.toArray:=by
  have f0:∀m:Nat,List.foldl (fun i f=>i++f) #[] (List.replicate m o.toArray)=(List.replicate m o).flatten.toArray:=fun m=>by
   have:=ww o m [];rw[List.nil_append] at this;exact this
  rw[f0]
  cases o with
  | nil=>simp
  | cons a r'=>rw[R6 (by simp)]
 refine VY (T:="list") (U:="int") (by decide) ⟨_,e,rfl⟩ (fun w=>Wu w k t) noFill_list_mul F.fills_int_mul F.slot_int_rmul repeat_list F.slot_int_index.lookup
  (TM F.slot_int_rmul (Wu s k t) F.entry_int_rmul (F.args_int_rmul_2 _ _) (int___rmul___int_list k t l o.toArray n)
   ⟨e,rfl,⟨_,e,rfl⟩,TM F.slot_list_mul ⟨_,e,rfl⟩ F.entry_list_mul (F.args_list_mul_2 _ _) (AutoListH.list___mul___list_int_3 l o.toArray n k t b J C) ⟨e,?_⟩⟩)
 rw[d];exact⟨.ref _,_,I.lnew (t':=s.toks) (r.rep k.toNat) (by rw[CF,U9];exact p),rfl,q _ I.fresh⟩
end
section
variable {κ : Type} [DecidableEq κ]
noncomputable def E6(kvs:List (κ × V))(k:κ):Option V:=(kvs.find? fun o=>decide (o.1=k)).map (·.2)
noncomputable def nr(kvs:List (κ × V))(k:κ)(v:V):List (κ × V):=
 if (kvs.any fun o=>decide (o.1=k))=true then kvs.map (fun o=>if o.1=k then(o.1,v) else o) else kvs++[(k,v)]
theorem FE{p:κ × V}{r:List (κ × V)}{k:κ}(e:p.1=k):E6 (p::r) k=some p.2:=by simp [E6,UA,e]
theorem Ez{p:κ × V}{r:List (κ × V)}{k:κ}(e:¬p.1=k):E6 (p::r) k=E6 r k:=by simp [E6,UA,e]
theorem EQ(k:κ):∀kvs:List (κ × V),(kvs.any fun o=>decide (o.1=k))=(E6 kvs k).isSome
 | []=>rfl
 | p::r=>by
  rw[Vq]
  by_cases e:p.1=k
  .simp only[FE e,R0 e,Bool.true_or,Option.isSome_some]
  .rw[Ez e,RW e,V6];exact EQ k r
theorem rJ(kvs:List (κ × V))(k:κ)(v:V):(nr kvs k v).length<=kvs.length+1:=by
 unfold nr
 split
 .rw[be];lia
 .rw[RZ,R4,UX];lia
theorem mJ.isSome_eq{o:Option V}{u:Option Value}(r:mJ o u):o.isSome=u.isSome:=by
 cases o with
 | none=>cases u with
  | none=>rfl
  | some _=>exact(show False from r).elim
 | some _=>cases u with
  | none=>exact(show False from r).elim
  | some _=>rfl
theorem KV.any{kvs:List (κ × V)}{vs:List (κ × Value)}(r:KV kvs vs)(k:κ):(kvs.any fun o=>decide (o.1=k))=vs.any fun o=>decide (o.1=k):=by
 unfold KV at r
 induction r with
 | nil=>rfl
 | cons h t ih=>rw[Vq,Vq,ih,h.1]
theorem KV.repl{kvs:List (κ × V)}{vs:List (κ × Value)}(r:KV kvs vs)(k:κ){y:V}{u:Value}(J:bC y u):
  KV (kvs.map fun o=>if o.1=k then(o.1,y) else o) (vs.map fun o=>if o.1=k then(o.1,u) else o):=by
 unfold KV at r ⊢
 induction r with
 | nil=>exact .nil
 | @cons p q ps qs h t ih=>
  rw[Ss,Ss];refine .cons ?_ ih
  obtain⟨C,I⟩:=h
  by_cases e:p.1=k
  .rw[R9 e,R9 (C.symm.trans e)];exact⟨C,J⟩
  .rw[R6 e,R6 (fun z=>e (C.trans z))];exact⟨C,I⟩
theorem KV.put{kvs:List (κ × V)}{vs:List (κ × Value)}(r:KV kvs vs)(k:κ){y:V}{u:Value}(o:bC y u):KV (nr kvs k y) (stored vs k u):=by
 unfold nr stored;rw[r.any k]
 by_cases e:(vs.any fun C=>decide (C.1=k))=true
 .rw[R9 e,R9 e];exact r.repl k o
 .rw[R6 e,R6 e];exact Paired.snoc r ⟨rfl,o⟩
theorem KV.length{kvs:List (κ × V)}{vs:List (κ × Value)}(r:KV kvs vs):kvs.length=vs.length:=W6 r
end
theorem NR{P:Program}{w:World}{k:Key}{u:Value}(r:bC (kV k) u):(eC P w).is k u=true:=by
 cases k with
 | inl i=>obtain⟨t,e⟩:=(show ∃t,u=Value.int i t from r);subst e;exact Ep P w i t
 | inr x=>obtain⟨t,e⟩:=(show ∃t,u=Value.str x t from r);subst e;exact qT P w x t
theorem BL{P:Program}{w:World}:∀{o:List Key}{us:List Value},aY (o.map kV) us->ItemsAre (eC P w) o us
 | [],_,r=>by rw[Xt] at r;cases r;exact .nil
 | k::o,_,r=>by
  rw[Ss] at r
  cases r with
  | cons h t=>exact .cons (NR h) (BL t)
abbrev KT(H:Hp):List (List Key × V)->List (List Key × Addr × Value)->Prop:=Paired fun p q=>p.1=q.1/\H q.2.1=some (.tup (p.1.map kV))/\bC p.2 q.2.2
theorem KT.val{H:Hp}{kvs:List (List Key × V)}{xs:List (List Key × Addr × Value)}(r:KT H kvs xs)(k:List Key):mJ (E6 kvs k) ((atKey xs k).map (·.2)):=by
 induction r with
 | nil=>exact True.intro
 | @cons p q ps qs h t ih=>
  obtain⟨o,_,C⟩:=h
  by_cases e:p.1=k
  .have e':q.1=k:=o.symm.trans e;have b:atKey (q::qs) k=some q.2:=by simp [atKey,UA,e']
   rw[FE e,b];exact C
  .have e':¬q.1=k:=fun z=>e (o.trans z)
   have b:atKey (q::qs) k=atKey qs k:=by simp [atKey,UA,e']
   rw[Ez e,b];exact ih
theorem KT.repl{H:Hp}{kvs:List (List Key × V)}{xs:List (List Key × Addr × Value)}(r:KT H kvs xs)(k:List Key){y:V}{u:Value}(J:bC y u):
  KT H (kvs.map fun C=>if C.1=k then(C.1,y) else C) (xs.map (putAt k u)):=by
 induction r with
 | nil=>exact .nil
 | @cons p q ps qs h t ih=>
  rw[Ss,Ss];refine .cons ?_ ih
  obtain⟨o,I,U⟩:=h;unfold putAt
  by_cases e:p.1=k
  .rw[R9 e,R9 (o.symm.trans e)];exact⟨o,I,J⟩
  .rw[R6 e,R6 (fun z=>e (o.trans z))];exact⟨o,I,U⟩
theorem KT.put{H:Hp}{kvs:List (List Key × V)}{xs:List (List Key × Addr × Value)}(r:KT H kvs xs)(k:List Key){b:Addr}{y:V}{u:Value}(I:H b=some (.tup (k.map kV)))(o:bC y u):
  KT H (nr kvs k y) (storedH xs k b u):=by
 have e:(kvs.any fun C=>decide (C.1=k))=(atKey xs k).isSome:=by
  rw[EQ,(r.val k).isSome_eq,Option.isSome_map]
 unfold nr storedH;rw[e]
 by_cases q:(atKey xs k).isSome=true
 .rw[R9 q,R9 q];exact r.repl k o
 .rw[R6 q,R6 q];exact Paired.snoc r ⟨rfl,I,o⟩
theorem KT.keeps{H o:Hp}{kvs:List (List Key × V)}{xs:List (List Key × Addr × Value)}(r:KT H kvs xs)(C:∀b ys,H b=some (.tup ys)->o b=some (.tup ys)):KT o kvs xs:=
 Paired.mapP r fun _ _ z=>⟨z.1,C _ _ z.2.1,z.2.2⟩
section
variable {P : Program} {w : World} {H : Hp} {h : Heap} {a : Addr}
theorem NL{u:HO}(ok:HOk P w H h)(e:Rd H a u):cy P w H h a u:=e.ok ok
theorem NJ{kvs:List (Key × V)}(ok:HOk P w H h)(e:Rd H a (.dK kvs)):kvs.length<=sizeLine/\(a==sysModules)=false/\∃vs,KV kvs vs/\h.DictOf (eC P w) a vs:=
 show cy P w H h a (.dK kvs) from NL ok e
theorem QY{kvs:List (Key × V)}(ok:HOk P w H h)(e:H a=some (.dK kvs)):kvs.length<=sizeLine/\(a==sysModules)=false/\∃vs,KV kvs vs/\h.DictOf (eC P w) a vs:=NJ ok (.inl e)
theorem Ld{C:List Key}(ok:HOk P w H h)(e:H a=some (.tup (C.map kV))):(tupleKind (eC P w)).is h C a:=by
 obtain⟨_,I,r,o,b,J,n,U⟩:=(show cy P w H h a (.tup (C.map kV)) from ok a _ e);exact⟨o,I.toArray,n,b,J,U,by simpa using BL r⟩
theorem QI{kvs:List (List Key × V)}(ok:HOk P w H h)(e:Rd H a (.dT kvs)):kvs.length<=sizeLine/\(a==sysModules)=false/\
  ∃xs,KT H kvs xs/\h.DictOfH (tupleKind (eC P w)) a xs:=by
 obtain⟨z,y,xs,r,o,d,c,b,I,U,f,J⟩:=(show cy P w H h a (.dT kvs) from NL ok e);refine⟨z,y,xs,r,o,d,c,b,I,U,f,fun x C=> ?_,J⟩
 have all:∀{l:List (List Key × V)}{m:List (List Key × Addr × Value)},KT H l m->∀x∈m,(tupleKind (eC P w)).is h x.1 x.2.1:=by
  intro l m q
  induction q with
  | nil=>intro x C;exact nomatch C
  | @cons p q ps qs hq t ih=>
   intro x C;rcases Se.mp C with e | C
   .subst e;exact Ld ok (by rw[<- hq.1];exact hq.2.1)
   .exact ih x C
 exact all r x C
theorem Qx{kvs:List (List Key × V)}(ok:HOk P w H h)(e:H a=some (.dT kvs)):kvs.length<=sizeLine/\(a==sysModules)=false/\
  ∃xs,KT H kvs xs/\h.DictOfH (tupleKind (eC P w)) a xs:=QI ok (.inl e)
end
def Jb(H:Hp)(a:Addr)(y v:V)(C:Hp):Prop:=
 (∃o k,H a=some (.dK o)/\y=kV k/\o.length<sizeLine/\C=upd H a (.dK (nr o k v)))\/
 ∃o k b,H a=some (.dT o)/\y= .ref b/\H b=some (.tup (k.map kV))/\o.length<sizeLine/\C=upd H a (.dT (nr o k v))
theorem Jb.t{H:Hp}{a b:Addr}{kvs:List (List Key × V)}{k:List Key}{v:V}(e:H a=some (.dT kvs))(o:H b=some (.tup (k.map kV)))(C:kvs.length<sizeLine):
  Jb H a (.ref b) v (upd H a (.dT (nr kvs k v))):= .inr ⟨kvs,k,b,e,rfl,o,C,rfl⟩
section
variable {X : Cx} {pins : List (Addr × Obj)} {σ : St} {H : Hp} {s : Shared} {a : Addr} {y v : V} {u r : Value} {o : Option V} {A : Around} {E : Value → Shared → Prop}
theorem Inv.big(I:Inv X pins Z H s):sysModules<s.heap.objs.size:=by
 have h:mainGlobals<s.heap.objs.size:=(I.mod.glob.keeps I.bk).lt;exact Nat.lt_trans (by decide) h
theorem HX{h':Heap}{t':Nat}{C:HO}(I:Inv X pins Z H s)(J:Mut (H a))(hs:Heap.SameBut a s.heap h')(he:∃q,h'.get? a=some q)(new:cy X.prog X.w (upd H a C) h' a C):
  Inv X pins Z (upd H a C) {s with heap:=h',toks:=t'}:=
 I.write (x:=a) (e:=a) J (.inl rfl) (fun b q U z=>(hs.2 b U).trans z) he new
theorem Ly{P:Program}{w:World}{I:Hp}{h':Heap}{kvs:List (Key × V)}{vs:List (Key × Value)}(z:kvs.length<=sizeLine)(hd:(a==sysModules)=false)(C:KV kvs vs)(dd:h'.DictOf (eC P w) a vs):
  cy P w I h' a (.dK kvs):=⟨z,hd,vs,C,dd⟩
theorem Iw{F:Hp}{Q:Unit->Shared->Prop}(M:A.units+1<cLine)(I:Inv X pins Z H s)(g:Jb H a y v F)(D:bC y u)(n:bC v r)(h:∀s',Inv X pins Z F s'->Q () s'):
  wpAny (model X.prog X.w) A (setItem (.ref a) u r) Q E s:=by
 rcases g with⟨C,k,e,i,l,m⟩|⟨C,k,b,e,i,B,l,m⟩
 .subst i m;obtain⟨z,hd,vs,J,dd⟩:=QY I.hok e;have j:vs.length<=sizeLine:=by rw[<- J.length];exact z
  have f:(nr C k v).length<=sizeLine:=by have:=rJ C k v;lia
  refine wpAny_setItem_pairs (hsz:=j) (NR D) dd fun p U hs=>h _ ?_
  have he:∃q,p.get? a=some q:=let ⟨q,_,_,d,_⟩:=U;⟨q,d⟩
  exact HX I (by rw[e];exact True.intro) hs he (Ly f hd (J.put k n) U)
 .subst i m
  cases(show u=Value.ref b from D)
  obtain⟨z,hd,G,J,dd⟩:=Qx I.hok e;have j:G.length<=sizeLine:=by rw[<- W6 J];exact z
  have f:(nr C k v).length<=sizeLine:=by have:=rJ C k v;lia
  refine wpAny_setItem_heap (hsz:=j) (tupleKind_room_in1 M) (Ld I.hok B) dd fun p U hs=>h _ ?_
  obtain⟨q,R,P,d,L,O,K,_,N⟩:=U;refine HX I (by rw[e];exact True.intro) hs ⟨q,d⟩ ⟨f,hd,_,(J.put k B n).keeps fun c T x=> ?_,q,R,P,d,L,O,K,N⟩
  rw[aj (dj x e (fun z=>nomatch z))]
  exact x
end
def QR(td ty J:TE):TS:=fun D Z H=>J Z H fun v U=>td Z U fun x I=>ty Z I fun y C=>∃a o,x= .ref a/\Jb C a y v o/\D.nx Z o
section
variable {X : Cx} {o i e value : Expr} {pos pos' tpos : Pos} {td ty tv : TE}
theorem M1(p:X.A.units+1<cLine)(ho:PE X o td)(U:PE X i ty)(K:PE X value tv)(hs:swapsWith value (some (.Subscript o i pos')) pos.line X.env=pure false):
  PS X (.Assign [.Subscript o i pos'] value pos) (QR td ty tv):=by
 intro C s Z H D I h;refine wpAny_Assign_Subscript (cw (K C s Z H _ I h) fun r j v l G b B=>cw (ho C j Z l _ G B) fun u E x c f d n=>cw (U C E Z c _ f n) fun O M y L z w J=> ?_) hs
 obtain⟨a,m,F,g,q⟩:=J;subst F;obtain rfl:u=Value.ref a:=d;exact Iw p z g w b fun N k=>⟨Z,m,k,q⟩
end
theorem Lc{P:Program}{w:World}{H:Hp}(h:Heap)(o:sysModules<h.objs.size):cy P w H (h.push {cls:= .type "dict",data:= .dict #[]}) h.objs.size (.dK []):=
 ⟨SK _,Sy.mpr (SD (Sk o)),[],.nil,Heap.DictOf.new h⟩
theorem Ks{P:Program}{w:World}{H:Hp}(h:Heap)(o:sysModules<h.objs.size):cy P w H (h.push {cls:= .type "dict",data:= .dict #[]}) h.objs.size (.dT []):=
 ⟨SK _,Sy.mpr (SD (Sk o)),[],.nil,_, #[],0,Sh _ rfl,⟨rfl,rfl,rfl⟩,rfl,rfl,WR⟩
def Ot:TE:=fun _ H Q=>∀p,H p=none->Q (.ref p) (upd H p (.dK []))
def Pk:TE:=fun _ H Q=>∀p,H p=none->Q (.ref p) (upd H p (.dT []))
section
variable {X : Cx} {pos : Pos}
theorem Lp:PE X (.Dict [] [] pos) Ot:=fun C s Z H Q I h=>
 wpAny_Dict_empty ⟨.ref s.heap.objs.size,_,I.laid (a:=s.heap.objs.size) (o:= .dK []) (t':=s.toks) (fun _ _ q=>gV _ q) (R3 _) (Lc s.heap I.big),rfl,h _ (I.hok.fresh (R3 _))⟩
theorem LW:PE X (.Dict [] [] pos) Pk:=fun C s Z H Q I h=>
 wpAny_Dict_empty ⟨.ref s.heap.objs.size,_,I.laid (a:=s.heap.objs.size) (o:= .dT []) (t':=s.toks) (fun _ _ q=>gV _ q) (R3 _) (Ks s.heap I.big),rfl,h _ (I.hok.fresh (R3 _))⟩
end
noncomputable def Du(kvs more:List (Key × V)):List (Key × V):=more.foldl (fun acc o=>nr acc o.1 o.2) kvs
theorem tO:∀(more kvs:List (Key × V)),(Du kvs more).length<=kvs.length+more.length
 | [],kvs=>by show kvs.length<=kvs.length+0;lia
 | p::r,kvs=>by
  have C:=tO r (nr kvs p.1 p.2);have o:=rJ kvs p.1 p.2;show(Du (nr kvs p.1 p.2) r).length<=_
  rw[R4];lia
section
variable {X : Cx} {pins : List (Addr × Obj)} {σ : St} {H : Hp} {s : Shared} {a : Addr} {kvs : List (Key × V)} {A : Around} {E : Value → Shared → Prop}
theorem JW{Q:Value->Shared->Prop}(I:Inv X pins Z H s)(e:Rd H a (.dK kvs))(h:∀p s',H p=none->Inv X pins Z (upd H p (.dK kvs)) s'->Q (.ref p) s'):wpAny (model X.prog X.w) A (call (.type "dict") [.ref a]) Q E s:=by
 obtain⟨z,hd,vs,C,dd⟩:=NJ I.hok e;refine kt_call_dict hd dd (by rw[<- C.length];exact z) fun c J hs=> ?_
 refine h _ _ (I.hok.fresh (R3 _)) (I.laid (a:=s.heap.objs.size) (o:= .dK kvs) (t':=s.toks) (fun b q U=> ?_) (R3 _) (Ly z (Sy.mpr (SD (Sk I.big))) C J))
 exact(hs.2 b (Sk (R_ U))).trans (gV _ U)
end
end L2
namespace Att
open PySem PySem.W PySem.Calls PyProof.Rows
theorem xN{P:Params}{h:Heap}:∀(ns:List Int) (vs:List Value),WellAll P h vs (ns.map WData.int)->IntsAre vs ns:=by
 intro ns
 induction ns with
 | nil=>
  intro vs w;rw[Xt] at w
  cases w
  exact .nil
 | cons n ns ih=>
  intro vs w;rw[Ss] at w
  cases w with
  | cons a b=>
   cases a
   exact .cons _ _ (ih _ b)
theorem Ix{l:OpenLaw}{n:Nat}(f:l.most=some n){P:Params}{h:Heap}{args:List WData}{C:List Value}
  (o:l.row.toRowW.claim.pre args=true) (b:WellAll P h C args):
  ∃a vs ns,C=[Value.ref a]/\args=[WData.list (ns.map WData.int)]/\h.get? a=some {cls:= .type "list",data:= .seq vs.toArray}/\IntsAre vs ns/\ns.length<=n:=by
 have c:WShape.hasAll [] args [.list .int]=true:=(pre_splitW o).1;have e:l.pre.holds [] {args:=args}=true:=(pre_splitW o).2;obtain⟨d,r,rfl,k,i⟩:=hasAllW_cons c;obtain rfl:=hasAllW_nil i;obtain⟨p,rfl,j⟩:=hasW_list k;obtain⟨ns,rfl⟩:=items_int j;have I:ns.length<=n:=by
  unfold OpenLaw.pre at e;have U:(WTm.not (.lt (.lit (.int (n:Int))) (.len (.arg 0)))).holds [] {args:=[.list (ns.map .int)]}=true:=by
   have U:=(holds_andW e).1;rw[f] at U;exact U
  have J:=condW_of U (w_not (w_lt w_lit (w_len_list (w_arg rfl))));rw[be] at J;refine Nat.le_of_not_lt fun q=> ?_
  have m:(n:Int)<((ns.length:Nat):Int):=by lia
  first
   | (rw[R0 m] at J;exact absurd J (by decide))
   | (simp at J;lia)
 cases b with
 | cons w1 w2=>
  cases w2
  cases w1 with
  | list ho hall=>exact⟨_,_,ns,rfl,rfl,ho,xN ns _ hall,I⟩
theorem IC(l:OpenLaw)(args:List WData):l.row.toRowW.claim.post args (.bool true) args=true:=
 postW_of (r:=l.row.toRowW) (X:=(true==true))
  (show WShape.has [] (.bool true) .bool=true by first | rfl | decide | simp [WShape.has,WShape.arms,WShape.armsAll])
  (show(WTm.eq .res (.lit (.bool true))).value [] {args:=args,res:=some (.bool true),after:=args}=some (.bool (true==true)) from w_eq_bool (w_res rfl) w_lit) rfl
theorem attach_call{l:OpenLaw}{n:Nat}{q:Program}{I:List Str}{z:(Str->Option Value)->Heap->Prop}{A:World->Heap->Prop}{d:DefRec}
  (L:l.most=some n) (s:d.params.defaults=[])
  (call:∀(w:World) (J C:Shared) (mg v:Str->Option Value) (e:Addr) (o:Obj) (k cd U:Value) (a:Addr) (vs:List Value) (ns:List Int),
   Ground q I [] z w J mg v C.heap->A w C.heap->
   C.heap.get? e=some o->o.data= .func (docDef d.name d.params d.body d.scope k cd U)->C.heap.CodeRec cd d.name->mg d.name=some (.ref e)->
   C.heap.get? a=some {cls:= .type "list",data:= .seq vs.toArray}->IntsAre vs ns->ns.length<=n->C.gens= #[]->
   codeAny (model l.prog w) callerA (.call (.ref e) ⟨[.ref a],[]⟩) (fun r s'=>r= .ok (.ret (.bool true))/\OldK C.heap s'.heap/\s'.os=C.os/\AllBare s'.gens) C):
  WalkO q I z A l.row.toRowW d [] (fun f vs=>PySem.call f vs):=by
 intro w J C mg v G Y e o k cd U N kV ho hd m D p E x y Q c B P u H;obtain rfl:N= .none:=Dflts.none D s;obtain rfl:kV= .none:=Dflts.noKw D;obtain⟨a,vs,ns,rfl,rfl,i,b,j⟩:=Ix L c u;refine enter_call (Uy (call w J C mg v e o k cd U a vs ns G Y ho (fd_plain hd) m p i b j E) fun r s' K=> ?_)
 obtain⟨rfl,M,O,F⟩:=K;exact⟨.inl ⟨.bool true,.bool true,[],rfl,fun _=>rfl,.bool true,IC l _,fun _=>⟨List.Pairwise.nil,fun _ hm=>(nomatch hm)⟩⟩,M,O,F⟩
end Att
namespace L2
open PySem PySem.Spec PyProof.Rows
theorem A_:∀{vs:List Value}{ns:List Int},IntsAre vs ns->aY (ns.map V.int) vs
 | _,_,.nil=> .nil
 | _,_,.cons n t h=> .cons ⟨t,rfl⟩ (A_ h)
def MW(H:Hp):Prop:=∀b,H b=none\/∃o C,H b=some (.frz o (.lst C))
theorem JJ{P:Program}{w:World}{K:Frag}{mg T:Str->Option Value}{CX:CXT}{k:Nat}{O a:Addr}{fd:FuncData}{x:Str}{sp:Sp}{C:Shared}{vs:List Value}{ns:List Int}
  (Y:K.In C.heap) (B:C.heap.Ns mainGlobals mg) (J:C.heap.Ns builtinsNs T) (M:∀x:Str,x≠"__name__"->T x=bootBuiltins x) (l:C.heap.NoLimit) (hg:C.gens= #[])
  (L:C.heap.get? a=some {cls:= .type "list",data:= .seq vs.toArray}) (X:IntsAre vs ns) (Z:ns.length<=sizeLine) (hr:Room k callerA)
  (F:∀base:Heap,K.In base->base.Ns mainGlobals mg->iW P w K mg base CX k O fd [x] sp) (f:∀(s:Shared) (u:Value),BindsTo s fd ⟨[u],[]⟩ [(x,u)])
  (N:∀H:Hp,MW H->SqL K H a (ns.map V.int)->sp [.ref a] H (fun v _=>v= .bl true) fun _ _ _=>False)
  (Q:∀H e s',CX [] H C (fun _ _ _=>False) e s'->False):
  codeAny (model P w) callerA (.call (.ref O) ⟨[.ref a],[]⟩) (fun r s'=>r= .ok (.ret (.bool true))/\OldK C.heap s'.heap/\s'.os=C.os/\AllBare s'.gens) C:=by
 have rv:=A_ X;have y:=X.length;have c:∀H:Hp,MW H->SqL K H a (ns.map V.int)->HOk P w H C.heap->(∀b,H b≠none->b=a)->(H a≠none->K.lookup a=none)->
   codeAny (model P w) callerA (.call (.ref O) ⟨[.ref a],[]⟩) (fun r s'=>r= .ok (.ret (.bool true))/\OldK C.heap s'.heap/\s'.os=C.os/\AllBare s'.gens) C:=by
  intro H hO hS A hA hK;have I:∀{b:Addr}{o:Obj},C.heap.get? b=some o->H b=none->(CV C.heap H).get? b=some o:=fun e n=>Lf e n
  have R:∀{b:Addr}{o:Obj}{E:Array DictEntry}{D:Nat},C.heap.get? b=some o->o.data= .dict E D->H b=none:=fun {b o E D} e d=>by
   cases q:H b with
   | none=>rfl
   | some u=>
    have W:b=a:=hA b (by rw[q];simp)
    subst W;rw[L] at e;cases e;have d':Data.seq vs.toArray _=Data.dict E D:=d
    cases d'
  have U:∀{b:Addr}{m:Str->Option Value},C.heap.Ns b m->(CV C.heap H).Ns b m:=fun {b m} ⟨o,E,D,e,d,r⟩=>⟨o,E,D,I e (R e d),d,r⟩
  have i:K.In (CV C.heap H):=fun b o e=>I (Y b o e) (by
   cases q:H b with
   | none=>rfl
   | some u=>
    have W:b=a:=hA b (by rw[q];simp)
    subst W
    rw[hK (by rw[q];simp)] at e;cases e)
  have hM:Mod K mg (CV C.heap H):=⟨i,U B,⟨T,U J,M⟩,let ⟨mc,h1,h2⟩:=l;⟨mc,U h1,h2⟩⟩
  have e0:GQ P w K mg (CV C.heap H) callerA [] C H:=⟨rfl,hM,fun b o e=>Mn e,Nat.le_of_eq (IY _ _),trivial,fun b J=>absurd (show b∈([]:List Addr) from J) (by simp),A,.of_eq hg⟩
  refine Uy ((F _ i (U B)).run callerA [] C H ⟨[.ref a],[]⟩ [.ref a] [.ref a] _ _ hr e0 (f C (.ref a)) (.cons rfl .nil) (N H hO hS)) fun r s' h=> ?_
  cases r with
  | error e=>exact(Q H e s' h).elim
  | ok fl=>
   cases fl with
   | next=>exact False.elim h
   | brk=>exact False.elim h
   | cont=>exact False.elim h
   | ret u=>
    obtain⟨v,H',os,p,un,G,r',q⟩:=h;have q':v= .bl true:=q;subst q';obtain rfl:u=Value.bool true:=r';refine⟨rfl,OldK.of_keep fun b o e=> ?_,os,p⟩
    cases q:H b with
    | none=>exact un.keep b o e q (by intro z;exact absurd (show b∈([]:List Addr) from z) (by simp)) (by simp)
    | some u=>
     rcases hO b with z | ⟨ob,xs,z⟩
     .rw[q] at z;cases z
     .have z2:=un.frzs b ob _ z;obtain⟨e1,_⟩:=A b _ z;obtain⟨e2,_⟩:=G b _ z2;rw[e] at e1;cases e1;exact e2
 cases hk:K.lookup a with
 | some o=>
  have e:=Y a o hk;rw[L] at e
  cases e
  refine c (fun _=>none) (fun _=> .inl rfl) (.inr ⟨_,vs.toArray,_,hk,rfl,rfl,rfl,by rw[R7,y];exact Z,by simpa using rv⟩) (fun b u z=>by have j:(none:Option HO)=some u:=z;cases j) (fun b z=>absurd rfl z) fun z=>absurd rfl z
 | none=>
  refine c (fun b=>if b=a then some (.frz {cls:= .type "list",data:= .seq vs.toArray} (.lst (ns.map V.int))) else none) (fun b=> ?_) (.inl (.inr ⟨{cls:= .type "list",data:= .seq vs.toArray},R9 rfl⟩)) (fun b u z=> ?_) (fun b z=> ?_) fun _=>hk
  .by_cases J:b=a
   .exact .inr ⟨_,_,R9 J⟩
   .exact .inl (R6 J)
  .by_cases J:b=a
   .have j:=(R9 J).symm.trans z
    cases j
    subst J;exact⟨L,by rw[be];exact Z,vs,_,rv,L⟩
   .have j:=(R6 J).symm.trans z
    cases j
  .by_cases J:b=a
   .exact J
   .exact absurd (R6 J) z
noncomputable abbrev KOf{K:Frag}{h:Heap}(_:K.In h):Frag:=K
theorem Nh{l:PySem.W.OpenLaw}{n k:Nat}{q:Program}{I:List Str}{R:(Str->Option Value)->Heap->Prop}{B:World->Heap->Prop}{d:DefRec}{K:Params->Frag}{CX:World->CXT}{sp:World->Sp}{x:Str}
  (P:l.most=some n) (z:n<=sizeLine) (m:d.params.defaults=[]) (Z:Room k callerA)
  (O:∀(w:World) (h:Heap),B w h->(K w.params).In h)
  (F:∀(w:World) (mg:Str->Option Value) (i:Addr) (h:Heap),(K w.params).In h->h.Ns mainGlobals mg->mg d.name=some (.ref i)->
   ∃p:FuncData,(∀(s:Shared) (u:Value),BindsTo s p ⟨[u],[]⟩ [(x,u)])/\
    ∀base:Heap,(K w.params).In base->base.Ns mainGlobals mg->iW l.prog w (K w.params) mg base (CX w) k i p [x] (sp w))
  (r:∀(w:World) (H:Hp) (a:Addr) (ns:List Int),ns.length<=n->MW H->SqL (K w.params) H a (ns.map V.int)->sp w [.ref a] H (fun v _=>v= .bl true) fun _ _ _=>False)
  (y:∀(w:World) (H:Hp) (s:Shared) (e:Value) (s':Shared),CX w [] H s (fun _ _ _=>False) e s'->False):
  PySem.W.WalkO q I R B l.row.toRowW d [] (fun f vs=>PySem.call f vs):=by
 refine Att.attach_call P m fun w D U mg mb i o pm cd L a vs ns G Y ho hd M j c J C E=> ?_
 have A:=O w _ Y;obtain⟨p,Q,hF⟩:=F w mg i _ A G.T.g j;exact JJ A G.T.g G.T.b G.T.builtins G.T.nolimit E c J (RY C z) Z hF Q (fun H N X=>r w H a ns C N X) fun H e s'=>y w H U e s'
noncomputable def cr(s:Stmt)(j:Nat):Stmt:=match s with
 | .ClassDef _ _ _ body _ _ _ _ _ _ _=>body.getD j (.Pass ⟨0,0,0,0⟩)
 | _=> .Pass ⟨0,0,0,0⟩
noncomputable def cA(s:Stmt):Arguments:=match s with
 | .FunctionDef _ a _ _ _ _ _ _ _ _=>a
 | _=>{posonlyargs:=[],args:=[],vararg:=none,kwonlyargs:=[],kw_defaults:=[],kwarg:=none,defaults:=[]}
noncomputable def bF(s:Stmt):List Stmt:=match s with
 | .FunctionDef _ _ b _ _ _ _ _ _ _=>b
 | _=>[]
noncomputable def af(s:Stmt):Scope:=match s with
 | .FunctionDef _ _ _ _ _ _ sc _ _ _=>sc
 | _=>{kind:= .function,names:=[],isGenerator:=false,isCoroutine:=false}
abbrev CX0:CXT:=fun _ _ _ _ _ _=>False
abbrev E0:XK:=fun _ _ _=>False
theorem Ba{X:Cx}:oO CX0 X E0:=fun _ _ _ _ _ _ _ h=>h.elim
structure Fun (K:Frag) (x qual:Str) (st:Stmt) (f:Addr) (fd:FuncData):Prop where
 ex:∃(oc:Value) (od:Option Addr) (kV doc pm:Value) (an:Option Addr) (cdv ct:Value) (osl:Array (Option Value)),
  fd=W.fnOf x qual (cA st) (bF st) (af st) .none kV doc pm an cdv ct/\K.lookup f=some ⟨oc,od,.func fd,osl⟩/\W.codeIn K cdv qual=true
 kp:W.keepIn K (.ref f)=true
section
variable {P : Program} {w : World} {K : Frag} {mg : Str → Option Value} {base : Heap}
theorem Fun.ok{x C:Str}{st:Stmt}{f:Addr}{b:FuncData}{N ps:List Str}{k:Nat}{sp:Sp}(F:Fun K x C st f b)(S:ak N ps (af st))(len:∀vs H Q E,sp vs H Q E->vs.length=ps.length)
  (J:∀(I:Value) (A:Around) (o:List Env) (s:Shared) (H:Hp) (vs:List V) (Q:VK) (E:XK),Room k (A.deeper (envOfC C (af st) s.heap.objs.size f I))->sp vs H Q E->
   ∃t,PSs (eE CX0 P w K mg base N C (af st) f I A o s H E).nox (bF st) t/\t {nx:=fun _ j=>Q .non j,rt:=Q} (start N vs) H):iW P w K mg base CX0 (k+1) f b ps sp:=by
 obtain⟨r,p,kV,c,l,m,I,n,i,rfl,d,U⟩:=F.ex;refine LC d U S len fun A o s H vs Q E e a=> ?_
 obtain⟨t,h,q⟩:=J I A o s H vs Q E e a;exact⟨t,h.nox,q⟩
theorem Fun.binds{x o:Str}{st:Stmt}{f:Addr}{a:FuncData}{ps:List Str}(F:Fun K x o st f a)
  (h:∀(kV C J:Value) (U:Option Addr) (I ct:Value) (us:List Value),us.length=ps.length->bindArgs (W.fnOf x o (cA st) (bF st) (af st) .none kV C J U I ct) ⟨us,[]⟩=pure (ps.zip us)):gp K a ps []:=by
 obtain⟨i,d,kV,C,J,U,I,ct,c,rfl,e,b⟩:=F.ex;exact .all (h kV C J U I ct)
theorem Cb{x o:Str}{st:Stmt}{f:Addr}{d:Value}{b a:Option Addr}{J:Array (Option Value)}{kV I U C ct:Value}(l:K.lookup f=some ⟨d,b,.func (W.fnOf x o (cA st) (bF st) (af st) .none kV I U a C ct),J⟩)
  (c:W.codeIn K C o=true) (k:W.keepIn K (.ref f)=true):Fun K x o st f (W.fnOf x o (cA st) (bF st) (af st) .none kV I U a C ct):=⟨⟨d,b,kV,I,U,a,C,ct,J,rfl,l,c⟩,k⟩
end
theorem QF{A:Around}{k:Nat}(o:Room k A):A.units+1<cLine:=SB (Nat.add_le_add_left (by decide:1<=64) _) o.units
section
variable {X : Cx}
theorem pv(i:Nat){x:Str}{C:Pos}(J:X.N[i]? =some x:=by rfl)(I:Vis X.env.scope x:=by first | exact Or.inl rfl | exact Or.inr (Or.inl rfl) | exact Or.inr (Or.inr rfl))(hd:(x==("__debug__":Str))=false:=by decide)
  (o:(x==("__classdict__":Str))=false:=by decide):PE X (.Name x C) (O5 i):=Op J I hd o
end
theorem Iy{A B:Prop}(h:B):if false=true then A else B:=by
 rw[R6 Sm];exact h
theorem D3{A B:Prop}(h:A):if true=true then A else B:=by
 rw[R9 rfl];exact h
theorem Po{c A B:Prop}[Decidable c](C:c->A)(o:¬c->B):if c then A else B:=by
 by_cases h:c
 .rw[R9 h];exact C h
 .rw[R6 h];exact o h
theorem KE{c A B:Prop}[Decidable c](o:c)(h:B):if (!decide c)=true then A else B:=by
 rw[R0 o];exact Iy h
def aA(H C:Hp):Prop:=∀b o,H b=some o->C b=some o
theorem aA.refl(H:Hp):aA H H:=fun _ _ h=>h
theorem aA.trans{H I C:Hp}(a:aA H I)(b:aA I C):aA H C:=fun c o h=>b c o (a c o h)
theorem aA.free{H C:Hp}(e:aA H C){l:Addr}(h:C l=Option.none):H l=Option.none:=by
 cases q:H l with
 | none=>rfl
 | some o=>
  rw[e l o q] at h
  cases h
theorem aA.seq{K:Frag}{H C:Hp}{a:Addr}{xs:List V}(e:aA H C)(h:SqL K H a xs):SqL K C a xs:=by
 rcases h with(h | ⟨o,h⟩) | h
 .exact .inl (.inl (e _ _ h))
 .exact .inl (.inr ⟨o,e _ _ h⟩)
 .exact .inr h
end L2
set_option maxHeartbeats 4000000
namespace L2
open PySem PySem.Spec PyProof.Rows
theorem Gd:bootBuiltins "int"=some (.type "int"):=by decide +kernel
theorem F3:bootBuiltins "str"=some (.type "str"):=by decide +kernel
theorem MX:bootBuiltins "list"=some (.type "list"):=by decide +kernel
theorem ji:bootBuiltins "tuple"=some (.type "tuple"):=by decide +kernel
theorem M0:bootBuiltins "dict"=some (.type "dict"):=by decide +kernel
theorem O0:bootBuiltins "zip"=some (.type "zip"):=by decide +kernel
theorem Pi:bootBuiltins "sum"=some (.builtin "sum"):=by decide +kernel
theorem oQ:bootBuiltins "enumerate"=some (.type "enumerate"):=by decide +kernel
theorem eO:bootBuiltins "isinstance"=some (.builtin "isinstance"):=by decide +kernel
theorem OE:bootBuiltins "max"=some (.builtin "max"):=by decide +kernel
theorem Gz:bootBuiltins "min"=some (.builtin "min"):=by decide +kernel
theorem Ph:bootBuiltins "abs"=some (.builtin "abs"):=by decide +kernel
theorem bD:bootBuiltins "len"=some (.builtin "len"):=by decide +kernel
structure Bi (mg:Str->Option Value):Prop where
 len:mg "len"=none
 range:mg "range"=none
 isinstance:mg "isinstance"=none
 max:mg "max"=none
 min:mg "min"=none
 abs:mg "abs"=none
 all:mg "all"=none
 int:mg "int"=none
 bool:mg "bool"=none
 str:mg "str"=none
 list:mg "list"=none
 tuple:mg "tuple"=none
 dict:mg "dict"=none
 zip:mg "zip"=none
 enumerate:mg "enumerate"=none
 sum:mg "sum"=none
section
variable {X : Cx} {a b c : Expr} {ta tb tc : TE} {pos : Pos}
def Hw(i j:Int):Prop:=0<j/\j<=2^100
theorem jn:OpR X (binaryOp .FloorDiv) (rI Hw fun i j=> .int (i / j)):=opI fun i j _ _ _ _ _ o q=>by
 have U:(0:Int)<j:=o.1;have J:j<=2^100:=o.2;refine floordiv_int (by lia) (by rw[Int.fdiv_eq_ediv_of_nonneg i (by lia)];exact q) (.inl (PyProof.noPylong_of_log2 ?_))
 have C:j.natAbs<=2^100:=by lia
 have I:j.natAbs≠0:=by lia
 exact Sb ((Nat.log2_lt I).mpr (SB C (by decide:2^100<2^101))) (by decide)
def Rt(t:TS):TS:=fun D Z H=>∃M:St->Hp->Prop,t {D with nx:=M} Z H/\∀C o,M C o->D.nx C o
theorem bz{st:Stmt}{t:TS}(h:PS X st t):PS X st (Rt t):=by
 intro o s Z H D I C;obtain⟨M,e,J⟩:=C;refine thn (h o s Z H _ I e) fun f k q=> ?_
 cases f with
 | next=>obtain⟨i,d,U,j⟩:=q;exact⟨i,d,U,J _ _ j⟩
 | brk=>exact q
 | cont=>exact q
 | ret u=>exact q
noncomputable def Ov(t T:String):Option Bool:=
 if t=T then(if T∈["int","bool","str","list","tuple","dict"] then some true else none)
 else if t∈["int","bool","str","list","tuple","dict","NoneType"]/\T∈["int","bool","str","list","tuple","dict"] then some (t="bool"/\T="int") else none
theorem oA(K:Frag){t T:String}{v:Bool}(e:Ov t T=some v):W.kitOne K (.type t) (.type T)=some v:=by
 unfold Ov at e
 split at e
 .rename_i h
  subst h
  split at e
  .cases e
   unfold W.kitOne;rw[R9 (by simp)]
  .cases e
 .split at e
  .rename_i h1 h
   obtain⟨C,o⟩:=h
   simp only[Se,List.mem_nil_iff,Ue] at C o
   rcases C with rfl | rfl | rfl | rfl | rfl | rfl | rfl <;> rcases o with rfl | rfl | rfl | rfl | rfl | rfl <;> first
    | exact absurd rfl h1
    | (cases e;kernel_rfl)
  .cases e
structure Has (P:Program) (w:World) (K:Frag) (mg:Str->Option Value) (base:Heap) (k:Nat) (x:Str) (ps:List Str) (sp:Sp):Prop where
 ex:∃(f:Addr) (fd:FuncData),mg x=some (.ref f)/\W.keepIn K (.ref f)=true/\gp K fd ps []/\iW P w K mg base CX0 k f fd ps sp
theorem Has.mono{P:Program}{w:World}{K:Frag}{mg:Str->Option Value}{base:Heap}{j k:Nat}{x:Str}{ps:List Str}{sp:Sp}(h:Has P w K mg base j x ps sp)(d:j<=k):Has P w K mg base k x ps sp:=by
 obtain⟨f,o,J,C,I,U⟩:=h.ex;exact⟨f,o,J,C,I,U.mono d⟩
theorem Has.imp{P:Program}{w:World}{K:Frag}{mg:Str->Option Value}{base:Heap}{k:Nat}{x:Str}{ps:List Str}{sp o:Sp}(h:Has P w K mg base k x ps sp)(C:∀vs H Q E,o vs H Q E->sp vs H Q E):Has P w K mg base k x ps o:=by
 obtain⟨f,I,d,J,U,e⟩:=h.ex;exact⟨f,I,d,J,U,e.imp C⟩
theorem KO{k:Nat}{x:Str}{ps:List Str}{sp:Sp}{e:Expr}{o:List Expr}{t:TA}{p pos:Pos}(h:Has X.prog X.w X.K X.mg X.base k x ps sp)(i:Room k X.A)(J:Gl X x)
  (j:PA X (e::o) t) (I:(x==("__debug__":Str))=false:=by decide) (he:starEach (e::o) X.env=(false,eval e X.env)::starEach o X.env:=by rfl) (C:(backTo pos (starEach o X.env)).any (·.1)=false:=by rfl):
  PE X (.Call (.Name x p) (e::o) [] pos) (HV sp [] E0 t):=by
 obtain⟨f,l,hm,d,U,F⟩:=h.ex;exact Ml F i J hm d U .nil Ba j I he C
structure Def (K:Frag) (mg:Str->Option Value) (x:Str) (st:Stmt) (ps:List Str):Prop where
 ex:∃(f:Addr) (fd:FuncData),Fun K x x st f fd/\mg x=some (.ref f)/\gp K fd ps []
theorem Def.has{P:Program}{w:World}{K:Frag}{mg:Str->Option Value}{base:Heap}{k:Nat}{x:Str}{st:Stmt}{N ps:List Str}{sp:Sp}(D:Def K mg x st ps)(S:ak N ps (af st))(len:∀vs H Q E,sp vs H Q E->vs.length=ps.length)
  (I:∀(f:Addr) (C:Value) (A:Around) (o:List Env) (s:Shared) (H:Hp) (vs:List V) (Q:VK) (E:XK),Room k (A.deeper (envOfC x (af st) s.heap.objs.size f C))->sp vs H Q E->
   ∃t,PSs (eE CX0 P w K mg base N x (af st) f C A o s H E).nox (bF st) t/\t {nx:=fun _ e=>Q .non e,rt:=Q} (start N vs) H):Has P w K mg base (k+1) x ps sp:=by
 obtain⟨f,U,F,hm,J⟩:=D.ex;exact⟨f,U,hm,F.kp,J,F.ok S len fun C A o s H vs Q E d h=>I f C A o s H vs Q E d h⟩
end
theorem Hl{c A B:Prop}[Decidable c](o:c)(h:A):if decide c=true then A else B:=by
 rw[R0 o];exact D3 h
theorem vK{c A B:Prop}[Decidable c](o:¬c)(h:B):if decide c=true then A else B:=by
 rw[RW o];exact Iy h
theorem bO{c A B:Prop}[Decidable c](C:c->A)(o:¬c->B):if decide c=true then A else B:=by
 by_cases h:c
 .exact Hl h (C h)
 .exact vK h (o h)
def But(d:Addr)(H C:Hp):Prop:=∀b o,b≠d->H b=some o->C b=some o
theorem But.refl(d:Addr)(H:Hp):But d H H:=fun _ _ _ h=>h
theorem But.trans{d:Addr}{H J C:Hp}(a:But d H J)(b:But d J C):But d H C:=fun c o I h=>b c o I (a c o I h)
theorem aA.but{d:Addr}{H C:Hp}(a:aA H C):But d H C:=fun c o _ h=>a c o h
theorem But.upd{d:Addr}{H:Hp}{o:HO}:But d H (upd H d o):=fun c u C h=>by rw[aj C];exact h
theorem But.same{d:Addr}{H I C:Hp}(a:aA H I)(hd:H d=none)(b:But d I C):aA H C:=fun c o h=>b c o (aq h hd) (a c o h)
theorem ag{H:Hp}{p:Addr}(h:H p=none)(o:HO):aA H (upd H p o):=fun b u q=>by rw[aj (aq q h)];exact q
def Bd(x:Str)(st:Stmt)(ps:List Str):Prop:=∀(kV o J:Value) (U:Option Addr) (I a:Value) (C:List Value),C.length=ps.length->
 bindArgs (W.fnOf x x (cA st) (bF st) (af st) .none kV o J U I a) ⟨C,[]⟩=pure (ps.zip C)
theorem JY{K:Frag}{h:Heap}{mg:Str->Option Value}{x:Str}{st:Stmt}{ps:List Str}{f:Addr}{I C:Option Addr}{sl:Array (Option Value)}{U kV J o cd ct:Value}(b:Bd x st ps)(X:K.In h)(G:h.Ns mainGlobals mg)
  (a:W.nsIn K mainGlobals x=some (some (.ref f))) (l:K.lookup f=some ⟨U,I,.func (W.fnOf x x (cA st) (bF st) (af st) .none kV J o C cd ct),sl⟩) (c:W.codeIn K cd x=true) (k:W.keepIn K (.ref f)=true):
  Def K mg x st ps:=by
 have F:=Cb (st:=st) l c k;exact⟨f,_,F,Vr X G a,F.binds b⟩
theorem Qe{K:Frag}{h:Heap}{mg:Str->Option Value}(X:K.In h)(G:h.Ns mainGlobals mg)
  (z0:W.nsIn K mainGlobals "len"=some none) (z1:W.nsIn K mainGlobals "range"=some none) (z2:W.nsIn K mainGlobals "isinstance"=some none) (z3:W.nsIn K mainGlobals "max"=some none) (z4:W.nsIn K mainGlobals "min"=some none)
  (z5:W.nsIn K mainGlobals "abs"=some none) (z6:W.nsIn K mainGlobals "all"=some none) (z7:W.nsIn K mainGlobals "int"=some none) (z8:W.nsIn K mainGlobals "bool"=some none) (z9:W.nsIn K mainGlobals "str"=some none)
  (z10:W.nsIn K mainGlobals "list"=some none) (z11:W.nsIn K mainGlobals "tuple"=some none) (z12:W.nsIn K mainGlobals "dict"=some none) (z13:W.nsIn K mainGlobals "zip"=some none) (z14:W.nsIn K mainGlobals "enumerate"=some none) (z15:W.nsIn K mainGlobals "sum"=some none):Bi mg:=
 ⟨S9 X G z0,S9 X G z1,S9 X G z2,S9 X G z3,S9 X G z4,S9 X G z5,S9 X G z6,S9 X G z7,S9 X G z8,
  S9 X G z9,S9 X G z10,S9 X G z11,S9 X G z12,S9 X G z13,S9 X G z14,S9 X G z15⟩
def BK(K:Frag):Sp:=fun vs H Q _=>∃(a:Addr) (o:List Int),vs=[.ref a]/\SqL K H a (o.map V.int)/\o.length<=63/\MW H/\∀C,Q (.bl true) C
theorem Oi{P:Program}{w:World}{K:Frag}{h:Heap}{mg:Str->Option Value}{x:Str}{st:Stmt}{U f:Addr}{i J:Option Addr}{sl:Array (Option Value)}{j kV d I cd ct:Value}{k:Nat}(b:Bd "law" st [x])(X:K.In h)(G:h.Ns mainGlobals mg)(C:mg "law"=some (.ref U))
  (a:W.nsIn K mainGlobals "law"=some (some (.ref f))) (l:K.lookup f=some ⟨j,i,.func (W.fnOf "law" "law" (cA st) (bF st) (af st) .none kV d I J cd ct),sl⟩) (c:W.codeIn K cd "law"=true) (kp:W.keepIn K (.ref f)=true)
  (ok:∀(f:Addr) (o:FuncData),Fun K "law" "law" st f o->∀base:Heap,iW P w K mg base CX0 k f o [x] (BK K)):
  ∃o:FuncData,(∀(s:Shared) (u:Value),BindsTo s o ⟨[u],[]⟩ [(x,u)])/\∀base:Heap,K.In base->base.Ns mainGlobals mg->iW P w K mg base CX0 k U o [x] (BK K):=by
 have e:=C.symm.trans (Vr X G a)
 cases e
 have F:=Cb (st:=st) l c kp;exact⟨_,fun s u=> .of_eq (b kV d I J cd ct [u] rfl),fun base _ _=>ok _ _ F base⟩
theorem KM{l:PySem.W.OpenLaw}{k:Nat}{x:Str}{q:Program}{o:List Str}{m:(Str->Option Value)->Heap->Prop}{U:World->Heap->Prop}{d:DefRec}{K:Params->Frag}(j:l.most=some 63)(C:d.params.defaults=[])
  (r:Room k callerA) (i:∀(w:World) (h:Heap),U w h->(K w.params).In h)
  (F:∀(w:World) (mg:Str->Option Value) (J:Addr) (h:Heap),(K w.params).In h->h.Ns mainGlobals mg->mg d.name=some (.ref J)->
   ∃I:FuncData,(∀(s:Shared) (u:Value),BindsTo s I ⟨[u],[]⟩ [(x,u)])/\∀base:Heap,(K w.params).In base->base.Ns mainGlobals mg->iW l.prog w (K w.params) mg base CX0 k J I [x] (BK (K w.params))):
  PySem.W.WalkO q o m U l.row.toRowW d [] (fun f vs=>PySem.call f vs):=
 L2.Nh (n:=63) (k:=k) (x:=x) (CX:=fun _=>CX0) (sp:=fun w=>BK (K w.params)) j (by decide) C r i F (fun _ _ a b c e p=>⟨a,b,rfl,p,c,e,fun _=>rfl⟩) fun _ _ _ _ _ z=>z
noncomputable def wv:List (Str × NameKind)->Env->List (Str × Addr)->List (Str × Addr)
 | [],_,acc=>acc
 | (n,k)::r,env,acc=>wv r env (if (k==NameKind.free)=true then(n,(env.cells.lookup n).getD 0)::acc else acc)
theorem s_{o:Scope}{env:Env}(h:∀y∈o.names,y.2=NameKind.free->∃c,env.cells.lookup y.1=some c):closureFor o env=pure (wv o.names env []):=by
 have J:∀(l:List (Str × NameKind)) (acc:List (Str × Addr)),(∀y∈l,y.2=NameKind.free->∃c,env.cells.lookup y.1=some c)->
   (forIn l acc fun(x:Str × NameKind) (r:List (Str × Addr))=>(if (x.2==NameKind.free)=true then do let a <-cellOf env x.1;pure (ForInStep.yield ((x.1,a)::r)) else pure (ForInStep.yield r):Sem (ForInStep (List (Str × Addr)))))=pure (wv l env acc):=by
  intro l
  induction l with
  | nil=>intro acc _;rfl
  | cons y r ih=>
   intro acc U;obtain⟨n,k⟩:=y;rw[WB];have b:∀z∈r,z.2=NameKind.free->∃c,env.cells.lookup z.1=some c:=fun z d=>U z (R8 _ d)
   by_cases I:(k==NameKind.free)=true
   .have hk':k=NameKind.free:=by simpa using I
    obtain⟨c,f⟩:=U (n,k) Sn hk';have C:env.cells.lookup n=some c:=f;have e:cellOf env n=pure c:=by unfold cellOf;rw[C]
    simp only[I,UW,e,pure_bind]
    rw[ih _ b]
    simp only[wv,I,UW,C,Option.getD_some]
   .have hk2:(k==NameKind.free)=false:=by simpa using I
    simp only[hk2,U0,Wj,pure_bind]
    rw[ih _ b]
    simp only[wv,hk2,U0,Wj]
 have k:=J o.names [] h;unfold closureFor;refine Eq.trans ?_ k
 simp only[bind_pure_comp,bind_pure]
theorem Ei{env:Env}{x:Str}{c:Addr}:∀{names:List (Str × NameKind)}{acc:List (Str × Addr)},(∀y∈names,y.2=NameKind.free->∃c,env.cells.lookup y.1=some c)->(∀d,acc.lookup x=some d->env.cells.lookup x=some d)->
  (wv names env acc).lookup x=some c->env.cells.lookup x=some c
 | [],_,_,ha,h=>ha c h
 | (n,k)::r,acc,hl,ha,h=>by
  unfold wv at h;refine Ei (names:=r) (fun z U=>hl z (R8 _ U)) (fun d hd=> ?_) h
  split at hd
  .rename_i hk
   have C:k=NameKind.free:=by simpa using hk
   obtain⟨J,o⟩:=hl (n,k) Sn C;have o:env.cells.lookup n=some J:=o;rw[o,Option.getD_some,Tw] at hd
   by_cases I:x=n
   .subst I
    simp only[Tf] at hd
    rw[<- hd];exact o
   .have hb:(x==n)=false:=by simpa using I
    rw[hb] at hd;exact ha d hd
  .exact ha d hd
theorem An{env:Env}{x:Str}:∀{names:List (Str × NameKind)}{acc:List (Str × Addr)},((x,NameKind.free)∈names\/∃d,acc.lookup x=some d)->∃c,(wv names env acc).lookup x=some c
 | [],acc,h=>by
  rcases h with h | h
  .simp at h
  .exact h
 | (n,k)::r,acc,h=>by
  unfold wv;apply An (names:=r)
  rcases h with h | ⟨d,h⟩
  .rcases Se.mp h with e | e
   .cases e
    refine .inr ⟨(env.cells.lookup x).getD 0,?_⟩
    rw[R9 (by simp),Tw]
    simp only[Tf]
   .exact .inl e
  .refine .inr ?_
   split
   .rw[Tw]
    cases(x==n) with
    | true=>exact⟨_,rfl⟩
    | false=>exact⟨d,h⟩
   .exact⟨d,h⟩
structure rV (sc0 scope:Scope) (N0 N:List Str) (t:Nat) (js:List Nat):Prop where
 kind:scope.kind= .function
 cell:∀y∈scope.names,y.2≠NameKind.cell
 names:∀y∈scope.names,y.2=NameKind.local->scope.names.lookup y.1=some NameKind.local
 free:∀y∈scope.names,y.2=NameKind.free->sc0.names.lookup y.1=some NameKind.cell
 frs:∀x∈N.drop t,scope.names.lookup x=some NameKind.free
 js:(N.drop t).map some=js.map fun j=>N0[j]?
 len:t<=N.length
 nd:N.Nodup
noncomputable def blk(t:Nat)(o:List Nat)(Z:St):St:=List.replicate t none++o.map fun j=>(Z[j]?).join
noncomputable def cxB(X:Cx)(o:Scope)(N:List Str)(C:Addr)(s:Shared)(H:Hp)(I:List Addr):Cx where
 prog:=X.prog
 w:=X.w
 K:=X.K
 mg:=X.mg
 base:=X.base
 A:=X.A
 N:=N
 s₀:=s
 H₀:=H
 env:=compEnvC o (wv o.names X.env []) C X.env
 outer:=X.stack
 stack:=X.stack
 ex:=I
 fn:=fun _=>false
 calm:=X.calm
 pn:=[]
 xe:=fun _ _=>False
theorem o8{f:Str->NameKind->NameKind}{x:Str}:∀(names:List (Str × NameKind)),(names.map fun y=>(y.1,f y.1 y.2)).lookup x=(names.lookup x).map (f x)
 | []=>rfl
 | (n,k)::r=>by
  rw[Ss,Tw,Tw,o8 r]
  by_cases o:x=n
  .subst o
   simp
  .have hb:(x==n)=false:=by simpa using o
   rw[hb]
theorem AR(o:Scope)(env:Env):(relabel o env).names=o.names.map fun y=>(y.1,if (y.2==NameKind.free && env.scope.kind == .function && env.kindOf y.1==some NameKind.cell)=true then NameKind.cell else y.2):=by
 unfold relabel;refine VH fun y _=> ?_
 obtain⟨n,k⟩:=y;dsimp only
 split <;> rfl
theorem pH(o:Scope)(env:Env)(x:Str):(relabel o env).names.lookup x=(o.names.lookup x).map fun k=>if (k==NameKind.free && env.scope.kind == .function && env.kindOf x==some NameKind.cell)=true then NameKind.cell else k:=by
 rw[AR];exact o8 (f:=fun n k=>if (k==NameKind.free && env.scope.kind == .function && env.kindOf n==some NameKind.cell)=true then NameKind.cell else k) o.names
section
variable {X : Cx} {pins : List (Addr × Obj)} {σ : St} {H H' : Hp} {s s' : Shared} {sc0 scope : Scope} {N0 N : List Str} {t : Nat} {js : List Nat} {fp : List Addr}
theorem zt(I:Inv X pins Z H s)(o:X.env.scope=sc0)(B:rV sc0 scope N0 N t js):∀y∈scope.names,y.2=NameKind.free->∃c,X.env.cells.lookup y.1=some c:=fun y J C=>
 I.ok.has y.1 (.inl (by show X.env.scope.names.lookup y.1=_;rw[o];exact B.free y J C))
theorem JC{m:Str->Option Value}{ob:Obj}{J:Heap}{tk:Nat}(I:Inv X pins Z H s)(E:X.env.scope=sc0)(L:X.N=N0)(B:rV sc0 scope N0 N t js)(f:∀b∈fp,vj X pins H b)(K:∀b∈fp,b<s.heap.objs.size)
  (M:J.Ns s.heap.objs.size m) (O:Heap.SameBut s.heap.objs.size (s.heap.push ob) J):Inv (cxB X scope N s.heap.objs.size s H fp) [] (blk t js Z) H {s with heap:=J,toks:=tk}:=by
 have T:=zt I E B;have sub:∀{x c},(wv scope.names X.env []).lookup x=some c->X.env.cells.lookup x=some c:=fun {x c} h=>Ei T (fun d hd=>by simp at hd) h
 have a:∀b o,s.heap.get? b=some o->J.get? b=some o:=fun b o e=>(O.2 b (Sk (R_ e))).trans (gV _ e)
 refine⟨⟨I.ok.mod,B.kind,I.ok.glob,I.ok.blt,R3 _,fun x y c h1 h2=>I.ok.inj x y c (sub h1) (sub h2),fun x hx=> ?_,fun x c h=>absurd (show false=true from h) (by decide),I.ok.hd,I.ok.frames,.inl rfl,fun b U=>⟨Sk (K b U),fun x c h=>(f b U).2.2.2.2.1 x c (sub h)⟩,
  I.bs,RY I.ok.bsz I.sz,fun b o e U=> ?_,fun b U z=> ?_,I.stack,I.stkFree⟩,rfl,I.bare,Un.kept a,⟨m,M,fun i x v e1 C e3=> ?_⟩,fun x c h=> ?_,I.hok.fresh (R3 _),fun x c h=>I.freeC x c (sub h),fun p Y=>absurd (show p∈([]:List (Addr × Obj)) from Y) (by simp),I.hok.kept a,?_⟩
 .apply An
  left
  have q:(relabel scope X.env).names.lookup x=some NameKind.cell\/(relabel scope X.env).names.lookup x=some NameKind.free:=hx;rw[pH] at q
  cases e:scope.names.lookup x with
  | none=>rw[e] at q;simp at q
  | some k=>
   have hm:=Tv e
   by_cases n:k=NameKind.free
   .rw[<- n];exact hm
   .rw[e] at q;have U:(k==NameKind.free)=false:=by simpa using n
    simp only[WC,U,To,U0,Wj,Option.some.injEq] at q
    rcases q with q | q
    .exact absurd q (B.cell _ hm)
    .exact absurd q n
 .rcases(f b U).2.2.2.1 with z | z
  .exact I.ok.noex b o e z
  .exact absurd (Sb (R_ e) (RY I.ok.bsz z)) (TY _)
 .rcases Se.mp (I.stkSub b z) with q | q
  .exact(f b U).2.1 q
  .exact(f b U).2.2.1 q
 .unfold blk at C
  by_cases P:i<t
  .rw[SW (by simpa using P),Wg] at C
   split at C <;> cases C
  .rw[SU (by simpa using Nat.not_lt.mp P),SO,Sx] at C
   cases ej:js[i - t]? with
   | none=>rw[ej] at C;cases C
   | some j=>
    rw[ej] at C;have C:(Z[j]?).join=some v:=by simpa using C
    have eZ:Z[j]? =some (some v):=by
     cases q:Z[j]? with
     | none=>rw[q] at C;cases C
     | some o=>rw[q] at C;exact congrArg some C
    have R:(N.drop t)[i - t]? =some x:=by rw[List.getElem?_drop,show t+(i - t)=i by lia];exact e1
    have eX:X.N[j]? =some x:=by
     have q:=congrArg (fun l=>l[i - t]?) B.js
     simp only[Sx,R,ej,WC] at q
     rw[L];exact(Sj q).symm
    have F:scope.names.lookup x=some NameKind.free:=B.frs x (Sa R);have D:=Tv F;have A:X.env.scope.names.lookup x=some NameKind.cell:=by rw[E];exact B.free _ D rfl
    obtain⟨m0,W,G⟩:=I.loc;obtain⟨u,r,l⟩:=G j x v eX eZ (.inr (.inl A));refine⟨u,r,?_⟩
    rcases l with⟨n,_⟩|⟨_,c,hc,w⟩
    .have n:X.env.scope.names.lookup x=some NameKind.local:=n;rw[A] at n
     cases n
    .obtain⟨c',hc'⟩:=An (env:=X.env) (names:=scope.names) (acc:=[]) (.inl D);have Q:=sub hc';rw[hc] at Q
     cases Q
     refine .inr ⟨?_,c,hc',?_⟩
     .have q:=pH scope X.env x;rw[F] at q;show(relabel scope X.env).names.lookup x=_\/(relabel scope X.env).names.lookup x=_
      rw[q]
      simp only[WC]
      split
      .exact .inl rfl
      .exact .inr rfl
     .obtain⟨o,ho,hd⟩:=w;exact⟨o,a c o ho,hd⟩
 .obtain⟨v,o,ho,hd⟩:=I.cell x c (sub h);exact⟨v,o,a c o ho,hd⟩
 .show(blk t js Z).length=N.length
  unfold blk;have q:=congrArg List.length B.js
  simp only[be,SH] at q
  rw[RZ,SO,be];have:=B.len
  lia
theorem Ja{C:List (Addr × Obj)}{a:St}(I:Inv X pins Z H s)(o:∀b∈fp,vj X pins H b)(J:Inv (cxB X scope N s.heap.objs.size s H fp) C a H' s'):Inv X pins Z H' s':=
 I.call' (ch:=fp) J.os J.base J.hok J.bare fun b U=>⟨(o b U).2.2.2.1,(o b U).2.1,(o b U).2.2.2.2.1,(o b U).2.2.2.2.2⟩
theorem FP{h':Heap}{C:Addr}{a:St}(I:Inv X pins Z H s){J:Shared}(U:Inv X pins a H' J)(f:C=s.heap.objs.size)(i:H' C=none)(hs:Heap.SameBut C J.heap h'):Inv X pins a H' {J with heap:=h'}:=by
 subst f;refine U.turned (t':=J.toks) (it:=s.heap.objs.size) (fun b o j e=>(hs.2 b j).trans e) i (Tz I.lt) (.inr I.sz) (fun x c e z=> ?_) fun p d z=> ?_
 .obtain⟨v,q⟩:=I.cell x c e;exact absurd q.lt (by rw[z];exact TY _)
 .exact absurd (R_ (I.pin p d).1) (by rw[z];exact TY _)
end
def Wk(Z o:St):Prop:=∀(k:Nat) v,Z[k]? =some (some v)->o[k]? =some (some v)
theorem Wk.none{r C:St}{o:Option V}(h:Wk r C):Wk (none::r) (o::C)
 | 0,v,q=>by simp at q
 | k+1,v,q=>by
  rw[Wl] at q ⊢;exact h k v q
theorem Wk.refl{Z:St}:Wk Z Z:=fun _ _ h=>h
structure rM (J:It) (g:TG) (te:TE) (t:Nat) (js:List Nat) (Z:St) (p:Addr) (H1:Hp) (Q:VK):Prop where
 out:∃W:Nat->Nat->List V->Hp->Prop,(∃m,W 0 m [] (upd H1 p (.lst [])))/\∀i m ys H,W i m ys H->
  (J.stop i H/\Q (.ref p) H)\/(J.go i H/\∀x H',J.yld i H x H'->g x (blk t js Z) H' fun Z2 H2=>Wk (blk t js Z) Z2/\te Z2 H2 fun y H3=>H3 p=some (.lst ys)/\ys.length<sizeLine/\∃m',m' < m/\W (i+1) m' (ys++[y]) (upd H3 p (.lst (ys++[y]))))
def Nu(C:TI)(g:TG)(I:TE)(t:Nat)(U:List Nat):TE:=fun Z H Q=>C Z H fun J o=>∀p,o p=none->rM J g I t U Z p o Q
theorem CA{prog:Program}{w:World}{A:Around}{R:Result->Shared->Prop}{s:Shared}{j o c:Expr}{J:Scope}{p:Pos}{it acc:Value}{env:Env}(I:Nat->Shared->Prop)
  (turn:∀n s,I n s->wpAny (model prog w) A (pyNext it) (fun r C=>match r with
   | none=>R (.ok .next) C
   | some v=>wpAny (model prog w) A (letOwnedTupleGo o it v) (fun _ U=>wpAny (model prog w) A (assign o env v) (fun _ e=>wpAny (model prog w) A (eval j env) (fun x d=>
     wpAny (model prog w) A (call (.builtin "list.append") [acc,x]) (fun _ b=>∃m,m<n/\I m b) (fun _ _=>False) d)
     (fun _ _=>False) e) (fun _ _=>False) U) (fun _ _=>False) C) (fun _ _=>False) s)
  (n:Nat) (h:I n s):
  codeAny (model prog w) A (.compLoop (.ListComp j [⟨o,c,[],0⟩] J p) 0 it acc env) R s:=by
 refine codeAny_loop rfl I (fun n s u=> ?_) n h
 show wpAny _ _ ((compTurn (.ListComp j [⟨o,c,[],0⟩] J p) 0 it acc env).onRaise (fun x=>do noteFrame x env;theTreesLotGoes x)) _ _ s
 refine wpAny_noted ?_
 rw[compTurn_list1];refine RV (TZ (RV (S8 (turn n s u) (fun r C f=> ?_) fun _ _ a=>a.elim)))
 cases r with
 | none=>exact Sf f
 | some v=>
  exact RV (S8 f (fun _ U i=>RV (S8 i (fun _ e k=>RV (RV (S8 k (fun x d q=>RV (S8 q
   (fun _ b l=>Sf (Sf ⟨rfl,l⟩)) fun _ _ a=>a.elim)) fun _ _ a=>a.elim))) fun _ _ a=>a.elim)) fun _ _ a=>a.elim)
section
variable {X : Cx}
theorem ET{f:List (Addr × Obj)}{Z:St}{L:Shared}{sc0 I:Scope}{N0 N:List Str}{t:Nat}{js:List Nat}{Y M tg:Expr}{aG:Pos}{g:TG}{te:TE}{J:It}{l:Hp}{it:Addr}{j:List Addr}{tn:Nat->Heap->Prop}
  {RR:Value->Addr->Result->Shared->Prop}{Q:V->Hp->Prop}{E:Value->Shared->Prop}(hc:X.calm=true) (bb:X.env.scope=sc0) (bo:X.N=N0) (B:rV sc0 I N0 N t js)
  (hg:∀(C:Addr) (s:Shared) (H:Hp) (j:List Addr),PG (cxB X I N C s H j) tg g) (he:∀(C:Addr) (s:Shared) (H:Hp) (j:List Addr),PE (cxB X I N C s H j) Y te)
  (I2:Inv X f Z l L) (T:yK X.prog X.w X.K tg J j it tn) (au:tn 0 L.heap) (f2:∀b∈j,vj X f l b)
  (h:∀p,l p=none->rM J g te t js Z p l Q)
  (bB:∀(U:Shared) (H3:Hp) (p:Addr) (z:Hp) (s':Shared) (m:Str->Option Value),Inv X f Z H3 U->Inv X f Z z s'->s'.heap.Ns U.heap.objs.size m->z U.heap.objs.size=none->Q (.ref p) z->RR (.ref p) U.heap.objs.size (.ok .next) s'):
  wpAny (model X.prog X.w) X.A (newList []) (fun acc aL=>wpAny (model X.prog X.w) X.A (newFunctionEnv I X.env.globals (wv I.names X.env []) [] X.env.qual none .none (some X.env)) (fun P aw=>
   codeAny (model X.prog X.w) X.A (.compStart (.ListComp Y [⟨tg,M,[],0⟩] I aG) 0 (.ref it) acc {P with scope:=relabel I X.env}) (RR acc P.locals) aw) E aL) E L:=by
 refine Tq ?_ (by show 0<=sizeLine;decide)
 generalize hp:L.heap.objs.size=p;have ab:l p=none:=by rw[<- hp];exact I2.fresh
 generalize aS:({L with heap:=L.heap.push {cls:= .type "list",data:= .seq ([]:List Value).toArray}}:Shared)=U
 have I3:Inv X f Z (upd l p (.lst [])) U:=by
  rw[<- aS, <-hp];exact I2.laid (t':=L.toks) (fun b u e=>gV _ e) (R3 _) ⟨by show 0<=sizeLine;decide,[],0,.nil,Sh _ rfl⟩
 have O:∀b o,L.heap.get? b=some o->U.heap.get? b=some o:=by
  rw[<- aS];exact fun b o e=>gV _ e
 have bx:∀b∈j,b<L.heap.objs.size:=fun b a=>by
  obtain⟨o,e,_⟩:=T.obj 0 _ au b a;exact R_ e
 have f3:∀b∈j,vj X f (upd l p (.lst [])) b:=fun b a=>⟨by rw[aj (by rw[<- hp];exact Sk (bx b a))];exact(f2 b a).1,(f2 b a).2⟩
 have aF:∀b∈j,b<U.heap.objs.size:=fun b a=>by
  obtain⟨o,e,_⟩:=T.obj 0 _ au b a;exact R_ (O b o e)
 have a':tn 0 U.heap:=T.keep _ _ _ au fun b _ o e=>O b o e
 obtain⟨W,⟨m0,w0⟩,turn⟩:=(h p ab).out;refine wpAny_newFunctionEnv B.cell (by intro y hy;simp at hy) (fun aR F k=> ?_) B.kind
 generalize aT:({U with heap:=aR,toks:=U.toks+([]:List (Str × Value)).length}:Shared)=s4
 have I4:Inv (cxB X I N U.heap.objs.size U (upd l p (.lst [])) j) [] (blk t js Z) (upd l p (.lst [])) s4:=by
  rw[<- aT];exact JC I3 bb bo B f3 aF F k
 have aW:tn 0 s4.heap:=by
  rw[<- aT];exact T.keep _ _ _ a' fun b a o e=>(k.2 b (Sk (aF b a))).trans (gV _ e)
 have v:∀{z:Hp},(∀b∈j,z b=none)->∀b∈j,vj (cxB X I N U.heap.objs.size U (upd l p (.lst [])) j) [] z b:=fun {z} hn b a=>by
  refine⟨hn b a,(I4.ok.exf b a).1,I4.ok.exfs b a,.inl a,fun x c e=>(I4.ok.exf b a).2 x c e,fun q hq=>absurd (show q∈([]:List (Addr × Obj)) from hq) (by simp)⟩
 have R:∀D:Shared,D=s4->codeAny (model X.prog X.w) X.A (.compLoop (.ListComp Y [⟨tg,M,[],0⟩] I aG) 0 (.ref it) (.ref p) (compEnvC I (wv I.names X.env []) U.heap.objs.size X.env)) (RR (.ref p) U.heap.objs.size) D:=by
  rintro D rfl
  refine CA (fun n s'=>∃i ys z,Inv (cxB X I N U.heap.objs.size U (upd l p (.lst [])) j) [] (blk t js Z) z s'/\tn i s'.heap/\(∀b∈j,z b=none)/\W i n ys z) ?_ m0 ⟨0,[],_,I4,aW,fun b a=>(f3 b a).1,w0⟩
  rintro n s5 ⟨i,ys,H5,I5,a7,a6,w5⟩
  rcases turn i n ys H5 w5 with⟨aN,qn⟩|⟨go,step⟩
  .refine thn (T.done (cxB X I N U.heap.objs.size U (upd l p (.lst [])) j) rfl rfl rfl hc i [] s5 _ H5 _ I5 (v a6) a7 aN) fun r s6 ⟨hr,I6⟩=> ?_
   subst hr;obtain⟨m6,ba,_⟩:=I6.loc;exact bB U _ p H5 s6 m6 I3 (Ja I3 f3 I6) ba I6.free qn
  .refine Eo (T.item (cxB X I N U.heap.objs.size U (upd l p (.lst [])) j) rfl rfl rfl hc i [] s5 _ H5 _ I5 (v a6) a7 go) fun r s6 u hr h6=> ?_
   subst hr;refine thn h6 fun _ s7 ⟨x,H7,I7,r7,y7,ar,bl⟩=> ?_
   have bc:=I7.pinned (v bl) (T.obj _ _ ar);refine thn (hg _ _ _ _ _ s7 _ H7 x u _ bc r7 (step x H7 y7)) fun _ s8 ⟨Z8,H8,I8,bg,q8⟩=> ?_
   refine thn (he _ _ _ _ _ s8 Z8 H8 _ I8 q8) fun v9 s9 ⟨y,H9,I9,r9,bw,hz,m',hm,w9⟩=> ?_
   refine cw (da _ s9 Z8 H9 (.ref p) [y] (.ref p) [v9] (fun _ aX=>aX=upd H9 p (.lst (ys++[y]))) I9 rfl (.cons r9 .nil) ⟨p,ys,y,rfl,rfl,bw,hz,rfl⟩) fun _ bG _ aX G _ bt=> ?_
   subst bt;refine⟨m',hm,i+1,ys++[y],_,?_,T.keep _ _ _ ar fun b a o e=>(G.pin (b,o) (SV _ (SV _ (nO a e)))).1,fun b a=> ?_,w9⟩
   .exact G.unpinned.weak (by rw[I5.len];exact G.len.symm) bg
   .obtain⟨o,e,d⟩:=T.obj _ _ ar b a;exact(G.pin (b,o) (SV _ (SV _ (nO a e)))).2.1
 exact codeAny_compStart_list (R _ rfl) (T.self _ 0 _ _ _ aW (R _ rfl))
variable {sc0 scope : Scope} {N0 N : List Str} {t : Nat} {js : List Nat} {elt iter tg : Expr} {pos : Pos} {wi : TI} {g : TG} {te : TE}
theorem ly(E:X.calm=true)(a:X.env.scope=sc0)(d:X.N=N0)(B:rV sc0 scope N0 N t js)(j:PI X tg iter wi)(i:∀(C:Addr) (s:Shared) (H:Hp) (b:List Addr),PG (cxB X scope N C s H b) tg g)
  (he:∀(C:Addr) (s:Shared) (H:Hp) (b:List Addr),PE (cxB X scope N C s H b) elt te) (hs:∀x,foldedSetIterable iter X.env x=pure x:=by intro _;rfl):PE X (.ListComp elt [⟨tg,iter,[],0⟩] scope pos) (Nu wi g te t js):=by
 intro o s Z H Q I h;rw[eval_ListComp];refine V7 (use:=none) rfl hs (s_ (zt I a B)) B.kind B.names (thn (j o s Z H _ I h) fun v O F=>thn F fun l Y r=> ?_)
 obtain⟨K,b,W,J,M,e,k,T,c,f2,u⟩:=r;subst e;refine ET (RR:=fun acc C=>compPost (model X.prog X.w) X.A X.xe none (EP X o Z Q) acc C) (Q:=Q) E a d B i he k T c f2 u ?_
 intro R P p D G m y z n U q;exact⟨m,n,fun L f=>⟨.ref p,D,FP y z rfl U f,rfl,q⟩⟩
theorem Il{i:Nat}{y:Str}{f U:Pos}(hc:X.calm=true)(d:X.env.scope=sc0)(u:X.N=N0)(B:rV sc0 scope N0 N t js)(hN:X.N.Nodup)(n:X.N[i]? =some y)(hy:Loc X.env.scope y)(M:PI X tg iter wi)
  (L:∀(C:Addr) (s:Shared) (H:Hp) (k:List Addr),PG (cxB X scope N C s H k) tg g) (he:∀(C:Addr) (s:Shared) (H:Hp) (k:List Addr),PE (cxB X scope N C s H k) elt te)
  (hs:∀x,foldedSetIterable iter X.env x=pure x:=by intro _;rfl)
  (F:swapsWith (.ListComp elt [⟨tg,iter,[],0⟩] scope pos) (some (.Name y f)) U.line X.env=pure true:=by rfl)
  (O:X.fn y=true\/X.env.scope.names.lookup y=some .local:=by first | exact .inl rfl | exact .inr rfl | assumption):
  PS X (.Assign [.Name y f] (.ListComp elt [⟨tg,iter,[],0⟩] scope pos) U) (MQ (Nu wi g te t js) (yM i)):=by
 intro o s Z H D I h;rw[exec_Assign_Name_used _ _ _ _ F];refine RV (TZ (RV ?_))
 show wpAny _ X.A (do let _ <-comprehension (.ListComp elt [⟨tg,iter,[],0⟩] scope pos) scope X.env _ (newList []) false (eval iter X.env) (some (assign (.Name y f) X.env))) _ _ s
 refine RV (S8 (V7 (use:=some (assign (.Name y f) X.env)) (Q:=fun _ c=>SP X o D .next c) rfl hs (s_ (zt I d B)) B.kind B.names
  (thn (M o s Z H _ I h) fun v s1 h1=>thn h1 fun R s2 h2=> ?_)) (fun _ c P=>Sf (Sf P)) fun _ _ e=>e)
 obtain⟨it,k,tn,J,H2,e,W,T,r,f2,hJ⟩:=h2;subst e;refine ET (RR:=fun acc C=>compPost (model X.prog X.w) X.A X.xe (some (assign (.Name y f) X.env)) (fun _ c=>SP X o D .next c) acc C) (Q:=fun x H1=>yM i x Z H1 D.nx) hc d u B L he W T r f2 hJ ?_
 intro s3 H3 p H' c m E I' Y b q;refine wpAny_assign_Name (A9 (v:=V.ref p) I' hN n hy (show bC (.ref p) (.ref p) from rfl) (fun ab G ⟨a,l,j⟩=>⟨m,Y.sameBut l ?_,fun h' K=>⟨_,H',FP E G rfl b K,q⟩⟩) O)
 rcases j with j | j
 .rw[j];exact Tz E.lt
 .obtain⟨v,z⟩:=E.cell y a j;exact Tz z.lt
end
section
variable {X : Cx}
def yx(x:V)(xs:List V)(j:Nat):Prop:=(∃y,xs[j]? =some y/\eqV y x=true)/\∀m y,m<j->xs[m]? =some y->eqV y x=false
theorem Iq{x:V}{xs:List V}{o:List Value}{j:Nat}(r:aY xs o)(fs:xs.all fY=true)(d:yx x xs j):
  ∃c:j<o.toArray.size,eqU x o.toArray[j]=true/\∀m (hm:m<o.toArray.size),m<j->eqU x o.toArray[m]=false:=by
 obtain⟨⟨y,b,he⟩,a⟩:=d;have fl:∀(m:Nat) (z:V),xs[m]? =some z->fY z=true:=fun m z i=>S7.mp fs z (Sa i)
 obtain⟨u,f,e⟩:=r.get b;obtain⟨c,l⟩:=RX.mp f;refine⟨by simpa using c,?_,fun m hm I=> ?_⟩
 .rw[List.getElem_toArray,l,zq e (fl _ _ b)];exact he
 .have hm':m<o.length:=by simpa using hm
  have C:m<xs.length:=by rw[r.length];exact hm'
  obtain⟨n,U,J⟩:=r.get (R1 C);obtain⟨_,k⟩:=RX.mp U;rw[List.getElem_toArray,k,zq J (fl _ _ (R1 C))];exact a m _ I (R1 C)
theorem ye{M:Model}{A:Around}{E:Value->Shared->Prop}{s:Shared}{U:Type}(n:Nat)(f:Nat->U->Sem (ForInStep U))(I:Nat->U->Shared->Prop)(Q:U->Shared->Prop)
  (turn:∀i b s,i<n->I i b s->wpAny M A (f i b) (fun r s'=>match r with | .yield b'=>I (i+1) b' s' | .done b'=>Q b' s') E s)
  (fin:∀b s,I n b s->Q b s) (b:U) (h:I 0 b s):wpAny M A (forIn [:n] b f) Q E s:=by
 rw[Std.Legacy.Range.forIn_eq_forIn_range'];have c:List.range' [:n].start [:n].size [:n].step=(List.range n):=by simp [Std.Legacy.Range.size,List.range_eq_range']
 rw[c];refine wpAny_forIn_list f (fun rest b s=>∃i,rest=(List.range n).drop i/\i<=n/\I i b s) Q (fun x rest b s J=> ?_) (fun b s J=> ?_) _ b ⟨0,rfl,SK _,h⟩
 .obtain⟨i,o,hi,J⟩:=J;have C:i<n:=by
   rcases U_ i n with h' | h'
   .exact h'
   .rw[Va (by simpa using h')] at o;cases o
  rw[SG (by simpa using C)] at o
  injection o with a h2
  have a:x=i:=by simpa using a
  subst a;refine S8 (turn x b s C J) (fun r s' o=> ?_) fun _ _ e=>e
  cases r with
  | done b'=>exact o
  | yield b'=>exact⟨x+1,h2,C,o⟩
 .obtain⟨i,o,hi,J⟩:=J;have:i=n:=by
   rcases U_ i n with h' | h'
   .rw[SG (by simpa using h')] at o;cases o
   .lia
  subst this;exact fin b s J
theorem Ax(l:Addr)(o:Array Value)(n:Nat)(dd:Option Addr)(sl:Array (Option Value))(x:Value)(e:Value->Bool)(j:Nat)(v:j<o.size)(U:e o[j]=true)(c:∀m (hm:m<o.size),m<j->e o[m]=false):
  Meets (Builtin.«tuple.index» ⟨[.ref l,x],[]⟩)
   (fun A R s=>s.heap.get? l=some {cls:= .type "tuple",dict:=dd,data:= .seq o n,slots:=sl}/\(∀y,y∈o->SeqAt.EqAt A.in1 s y x (e y))/\R (.ok (.ret (.int j s.toks))) {s with toks:=s.toks+1}):=
 .of_wp fun I w A R s h=>by
  obtain⟨k,g,d,q,r⟩:=s;obtain⟨f,he,h⟩:=h
  wp_walk using AutoSeq1.wpAny_loadPart' f,ye _ _ (fun i b J=>b.1=none/\J=⟨k,g,d,q,r⟩/\i<=j) _
  case turn=>
   rintro i ⟨z,B⟩ J u ⟨p,rfl,a⟩
   have C:i<o.size:=by lia
   rw[Array.getElem?_eq_getElem C];refine RV (he _ (Array.getElem_mem C) I w _ _ ?_)
   rcases U_ i j with hlt | hge
   .rw[c i C hlt]
    wp_walk
    exact⟨rfl,rfl,hlt⟩
   .have hij2:i=j:=by lia
    subst hij2;rw[U]
    wp_walk
    exact⟨_,rfl,h⟩
  case fin=>
   rintro b J ⟨p,rfl,a⟩
   lia
  case h=>exact⟨rfl,rfl,SK _⟩
theorem Ju:MtM X "tuple.index" (fun x vs H Q=>∃p xs y j,x= .ref p/\vs=[y]/\SqT X.K H p xs/\fY y=true/\xs.all fY=true/\yx y xs j/\Q (.int j) H):=by
 intro b s Z H x vs v G Q I k l h;obtain⟨p,xs,y,j,rfl,rfl,m,A,fs,i,q⟩:=h
 cases k
 obtain⟨u,rfl,w⟩:=l.one;obtain⟨C,r,⟨o,e,d,n,hs⟩,c⟩:=I.tuple m;obtain⟨B,J,a⟩:=Iq r fs i;obtain⟨E,D,f,U⟩:=o
 simp only at d hs
 subst d hs;refine TM F.slot_tuple_index ⟨_,e,rfl⟩ F.entry_tuple_index (F.args_tuple_index_2 _ _) (Ax p C.toArray n D U u (eqU y) j B J a) ⟨e,fun z c=>kE w A r fs z (by simpa using c),?_⟩
 exact⟨.int j,H,I.tok _,⟨_,rfl⟩,q⟩
noncomputable def uf(o:Params)(L:List (Str × Tok × Value)):Array DictEntry:=(L.map fun p=>(⟨PyData.keyHash o p.1,.str p.1 p.2.1,p.2.2⟩:DictEntry)).toArray
def SqD(o:Params)(K:Frag)(a:Addr)(kvs:List (Str × V)):Prop:=
 ∃(L:List (Str × Tok × Value)) (n:Nat),K.lookup a=some {cls:= .type "dict",data:= .dict (uf o L) n}/\Paired (fun(p:Str × V) (q:Str × Tok × Value)=>p.1=q.1/\bC p.2 q.2.2) kvs L
theorem yT{x:Str}:∀{kvs:List (Str × V)}{L:List (Str × Tok × Value)}{v:V}(o:Params),Paired (fun(p:Str × V) (q:Str × Tok × Value)=>p.1=q.1/\bC p.2 q.2.2) kvs L->kvs.lookup x=some v->
  ∃u,bC v u/\findBy ir (uf o L) (Sum.inr x:Key)=some u
 | _,_,_,_,.nil,h=>by simp at h
 | p::kvs,q::L,v,o,.cons hpq r,h=>by
  obtain⟨a,U⟩:=hpq;obtain⟨C,pv⟩:=p;obtain⟨f,J,qv⟩:=q
  simp only at a U
  subst a;rw[Tw] at h;have b:findBy ir (uf o ((C,J,qv)::L)) (Sum.inr x:Key)=if (x==C)=true then some qv else findBy ir (uf o L) (Sum.inr x:Key):=by
   unfold findBy uf;rw[Ss];show((⟨PyData.keyHash o C,.str C J,qv⟩::L.map fun p=>(⟨PyData.keyHash o p.1,.str p.1 p.2.1,p.2.2⟩:DictEntry)).toArray.find? fun e=>ir (Sum.inr x) e.key).map (·.val)=_
   rw[U1,UA,U1];have c:ir (Sum.inr x:Key) (.str C J)=(x==C):=by
    show Value.isStrOf x (.str C J)=_
    show(C==x)=(x==C)
    by_cases I:C=x
    .subst I
     rfl
    .have h1:(C==x)=false:=Sy.mpr I;have d:(x==C)=false:=Sy.mpr (SD I);rw[h1,d]
   dsimp only;rw[c]
   cases(x==C) <;> rfl
  rw[b]
  cases hx:(x==C) with
  | true=>
   rw[hx] at h
   cases h
   exact⟨qv,U,R9 rfl⟩
  | false=>
   rw[hx] at h;rw[R6 (by simp)]
   exact yT o r h
theorem Ib:IxR X (fun x y H Q=>∃a kvs k v,x= .ref a/\y= .str k/\SqD X.w.params X.K a kvs/\kvs.lookup k=some v/\Q v H):=by
 intro J U C s Z H x y v u Q I d m h hs;obtain⟨a,kvs,k,z,rfl,rfl,⟨L,n,j,f⟩,c,q⟩:=h
 cases d
 obtain⟨t,rfl⟩:=m;have e:=I.kIn a _ j;obtain⟨u,i,l⟩:=yT X.w.params f c;have hm:s.heap.MapOf (eC X.prog X.w) a (fun k=>findBy ir (uf X.w.params L) k):=by
  refine⟨_,_,_,e,⟨rfl,rfl,rfl⟩,rfl,fun en o=> ?_,fun k=>rfl⟩
  have o:en∈(L.map fun p=>(⟨PyData.keyHash X.w.params p.1,.str p.1 p.2.1,p.2.2⟩:DictEntry)):=by simpa [uf] using o
  obtain⟨p,_,rfl⟩:=SY.mp o;exact⟨Sum.inr p.1,wY p.1 p.2.1,rfl⟩
 exact U8 (x:=u) hm.typeIs slot_dict_getitem.lookup (wpAny_getItem_of (Q:=fun r b=>r=u/\EP X C Z Q r b) (qT X.prog X.w k t) hm l ⟨rfl,⟨z,H,I.tok _,i,q⟩⟩) hs
end
section
variable {prog : Program} {w : World} {A : Around} {E : Value → Shared → Prop} {s : Shared}
theorem GU{q t:Addr}{k:Nat}{C:Array Value}{v:Value}{Q:Value->Shared->Prop}(J:s.heap.IsTupleIter q t k)(b:s.heap.IsTuple t C)(c:C[k]? =some v)
  (a:∀h',h'.IsTupleIter q t (k+1)->Heap.SameBut q s.heap h'->Q v {s with heap:=h'}):wpAny (model prog w) A (Builtin.SmallTypes.nextOf (.ref q)) Q E s:=by
 obtain⟨o,ho,d,hd⟩:=id J;obtain⟨e,U,_,f,I⟩:=b;unfold Builtin.SmallTypes.nextOf;refine RV (TJ (name:=Str.ofString "__next__") J.typeIs T4 (UQ T4 J.typeIs VN ?_ (VD _)))
 show wpAny _ _ (field (.ref q) 0 >>= _) _ _ s
 refine RV (SX ho hd (x:= .ref t) rfl ?_)
 show wpAny _ _ (if (Value.ref t==Value.none)=true then _ else _) _ _ s
 rw[R6 (show ¬((Value.ref t==Value.none)=true) from Sm)];show wpAny _ _ (field (.ref q) 1 >>= _) _ _ s
 refine RV (SX ho hd (x:= .int k 0) rfl ?_)
 show wpAny _ _ (seqItems? (.ref t) >>= _) _ _ s
 refine RV (T5 U I ?_)
 simp only[Tg,c]
 refine RV (Vb ho hd (by simp) (Sf ⟨v,rfl,Sf (a _ ?_ (Heap.SameBut.update ..))⟩))
 exact⟨_,UC _ ho (WJ (VR hd _)),(Obj.cls_mapFields ..).trans d,by rw[VR hd];simp [rawInt]⟩
theorem JB{q t:Addr}{k:Nat}{C:Array Value}{Q:Value->Shared->Prop}(b:A.handled=none)(J:s.heap.IsTupleIter q t k)(c:s.heap.IsTuple t C)(f:C[k]? =none)
  (d:∀h' e,Heap.ExtBut q s.heap h'->(∃o,h'.get? e=some o/\o.cls= .type "StopIteration")->E (.ref e) {s with heap:=h'}):wpAny (model prog w) A (Builtin.SmallTypes.nextOf (.ref q)) Q E s:=by
 obtain⟨o,ho,j,hd⟩:=id J;obtain⟨i,U,_,l,I⟩:=c;unfold Builtin.SmallTypes.nextOf;refine RV (TJ (name:=Str.ofString "__next__") J.typeIs T4 (UQ T4 J.typeIs VN ?_ (VD _)))
 show wpAny _ _ (field (.ref q) 0 >>= _) _ _ s
 refine RV (SX ho hd (x:= .ref t) rfl ?_)
 show wpAny _ _ (if (Value.ref t==Value.none)=true then _ else _) _ _ s
 rw[R6 (show ¬((Value.ref t==Value.none)=true) from Sm)];show wpAny _ _ (field (.ref q) 1 >>= _) _ _ s
 refine RV (SX ho hd (x:= .int k 0) rfl ?_)
 show wpAny _ _ (seqItems? (.ref t) >>= _) _ _ s
 refine RV (T5 U I ?_)
 simp only[Tg,f]
 refine RV (wpAny_rule (RV (Vb ho hd (by simp) ?_)))
 show wpAny _ _ (newExc (.type "StopIteration") [] >>= _) _ _ _
 refine RV ?_
 simp only[newExc,newTuple]
 refine RV (Tq ?_ (by size_fits))
 refine RV (m:=firstArgMember _ _) (wpAny_of_eq (a:=Value.none) (by first | rfl | (simp only[firstArgMember];rfl)) ?_)
 refine Tq ?_ (by size_fits)
 simp only[raiseNew]
 refine RV (wpAny_handled ?_)
 first | rw[show A.in1.handled=none from b] | rw[b]
 refine RV (Sf (wpAny_throw ?_))
 exact d _ _ (((Heap.SameBut.update ..).extBut.push _).push _) ⟨_,Sh _ rfl,rfl⟩
end
theorem qZ{prog:Program}{w:World}{A:Around}(f:A.handled=none)(q t:Addr)(I:t≠q)(C:Array Value):
  Draws prog w A q [q,t] C.size (fun i v=>C[i]? =some v) (fun i h=>h.IsTupleIter q t i/\h.IsTuple t C) where
 live:=fun _ _ st=>let ⟨o,ho,_⟩:=st.1;⟨o,ho⟩
 frame:=fun _ _ _ st U=>⟨st.1.at fun o e=>U q (by simp) o e,st.2.at fun o e=>U t (by simp) o e⟩
 item:=fun i s Q E J st a=>by
  refine GU st.1 st.2 (v:=C[i]) (by simp [J]) fun b c hs=> ?_
  exact a _ b s.toks (by simp [J]) ⟨c,st.2.extBut hs.extBut I⟩ hs
 done:=fun s Q E st d=>JB f st.1 st.2 (by simp) d
structure ZA (z TI TO i1 i2:Addr) (fp1 fp2:List Addr):Prop where
 TIz:TI≠z
 TOz:TO≠z
 i1z:i1≠z
 i2z:i2≠z
 TITO:TI≠TO
 TIi1:TI≠i1
 TIi2:TI≠i2
 TOi1:TO≠i1
 TOi2:TO≠i2
 i12:i1≠i2
 z1:z ∉ fp1
 z2:z ∉ fp2
 o1:TO ∉ fp1
 o2:TO ∉ fp2
 a2:i1 ∉ fp2
 a1:i2 ∉ fp1
section
variable {prog : Program} {w : World} {A : Around} {E : Value → Shared → Prop} {s : Shared} {z TI TO i1 i2 : Addr} {fp1 fp2 : List Addr} {n1 n2 : Nat} {P1 P2 : Nat → Value → Prop} {S1 S2 : Nat → Heap → Prop}
def ZK(z TO i1 i2:Addr)(h h':Heap):Prop:=∀c o,c≠z->c≠TO->c≠i1->c≠i2->h.get? c=some o->h'.get? c=some o
theorem pd{D1:Draws prog w A i1 fp1 n1 P1 S1}{k:Nat}{h h':Heap}{b:Addr}(st:S1 k h)(hs:Heap.SameBut b h h')(C:b ∉ fp1):S1 k h':=D1.frame _ _ _ st fun c I o e=>hs.extBut c o (fun q=>C (q ▸ I)) e
theorem IW{k:Nat}{a b:Value}{Q:Value->Shared->Prop}(D1:Draws prog w A i1 fp1 n1 P1 S1)(u:Draws prog w A i2 fp2 n2 P2 S2)(D:ZA z TI TO i1 i2 fp1 fp2)
  (L:IsZip s.heap z TI TO .none) (aw:IsPair s.heap TI (.ref i1) (.ref i2)) (ar:IsPair s.heap TO a b) (h1:S1 k s.heap) (h2:S2 k s.heap) (l1:k<n1) (l2:k<n2)
  (hQ:∀x y h' tk,P1 k x->P2 k y->IsZip h' z TI TO (rawInt s.heap.objs.size)->IsPair h' TO x y->S1 (k+1) h'->S2 (k+1) h'->IsPair h' s.heap.objs.size x y->ZK z TO i1 i2 s.heap h'->Q (.ref s.heap.objs.size) {s with heap:=h',toks:=tk}):
  wpAny (model prog w) A (Builtin.«zip.__next__» ⟨[.ref z],[]⟩) (fun fin s'=>∃v,fin= .done (.ret v)/\Q v s') E s:=by
 obtain⟨Y,g,d,aG,os⟩:=s;show wpAny _ _ (field (.ref z) 2 >>= _) _ _ _
 refine RV (SX L rfl (x:= .bool false) rfl ?_)
 show wpAny _ _ (field (.ref z) 3 >>= _) _ _ _
 refine RV (SX L rfl (x:= .ref TI) rfl ?_)
 refine RV (T5 aw rfl ?_)
 show wpAny _ _ (Builtin.SmallTypes.ownedTupleIsFree (.ref z) >>= _) _ _ _
 refine RV ?_
 unfold Builtin.SmallTypes.ownedTupleIsFree;refine RV (SX L rfl (x:= .none) rfl (Sf ?_))
 simp only[UW]
 refine RV (wpAny_rule ?_)
 refine RV (SX L rfl (x:= .ref TO) rfl ?_)
 refine RV (T7 L (by simp) fun g1 i r=> ?_)
 replace i:IsZip g1 z TI TO .ellipsis:=i
 replace r:Heap.SameBut z Y g1:=r
 refine RV ?_
 simp only[List.zipIdx_cons,List.zipIdx_nil,WB,List.forIn_nil]
 refine RV (RV (Vs ?_))
 show wpAny _ _ (Builtin.SmallTypes.nextOf (.ref i1) >>= _) _ _ _
 have R:S1 k g1:=pd (D1:=D1) h1 r D.z1;have aF:S2 k g1:=pd (D1:=u) h2 r D.z2;refine RV (D1.item k _ _ _ l1 R fun x g2 t2 hx W l=>Sf ?_)
 replace l:Heap.SameBut i1 g1 g2:=l
 have ab:S2 k g2:=pd (D1:=u) aF l D.a2;have K:IsPair g2 TO a b:=l.extBut _ _ D.TOi1 (r.extBut _ _ D.TOz ar);refine RV (T5 K rfl ?_)
 refine RV (Vx K fun B n f=> ?_)
 replace n:IsPair B TO x b:=n
 replace f:Heap.SameBut TO g2 B:=f
 refine RV (wpAny_letGo (Sf ?_))
 have aN:S1 (k+1) B:=pd (D1:=D1) W f D.o1;have T:S2 k B:=pd (D1:=u) ab f D.o2;refine RV (RV (Vs ?_))
 show wpAny _ _ (Builtin.SmallTypes.nextOf (.ref i2) >>= _) _ _ _
 refine RV (u.item k _ _ _ l2 T fun y P t4 hy au m=>Sf ?_)
 replace m:Heap.SameBut i2 B P:=m
 have aL:S1 (k+1) P:=pd (D1:=D1) aN m D.a1;have M:IsPair P TO x b:=m.extBut _ _ D.TOi2 n;refine RV (T5 M rfl ?_)
 refine RV (Vx M fun C I p=> ?_)
 replace I:IsPair C TO x y:=I
 replace p:Heap.SameBut TO P C:=p
 refine RV (wpAny_letGo (Sf (Sf ?_)))
 have aS:S1 (k+1) C:=pd (D1:=D1) aL p D.o1;have Z:S2 (k+1) C:=pd (D1:=u) au p D.o2;refine RV (T5 I rfl ?_)
 refine RV (wpAny_newTuple ?_)
 have H:C.objs.size=Y.objs.size:=by rw[p.1,m.1,f.1,l.1,r.1]
 have F:IsZip C z TI TO .ellipsis:=p.extBut _ _ D.TOz.symm (m.extBut _ _ D.i2z.symm (f.extBut _ _ D.TOz.symm (l.extBut _ _ D.i1z.symm i)));have aT:ZK z TO i1 i2 Y C:=fun c o c1 c2 c3 c4 e=>p.extBut _ _ c2 (m.extBut _ _ c4 (f.extBut _ _ c2 (l.extBut _ _ c3 (r.extBut _ _ c1 e))))
 have U:z<C.objs.size:=R_ F;show wpAny _ _ (Builtin.SmallTypes.ownedTupleHandOut (.ref z) (.ref C.objs.size) >>= _) _ _ _
 refine RV ?_
 unfold Builtin.SmallTypes.ownedTupleHandOut;have aR:IsZip (C.push {cls:= .type "tuple",data:= .seq #[x,y]}) z TI TO .ellipsis:=gV _ F;refine RV (T7 aR (by simp) fun g7 j e7=> ?_)
 replace j:IsZip g7 z TI TO (rawInt C.objs.size):=j
 refine T7 j (by simp) fun O J e8=> ?_
 replace J:IsZip O z TI TO (rawInt C.objs.size):=J
 have N:∀c o,c≠z->C.get? c=some o->O.get? c=some o:=fun c o c1 e=>e8.extBut _ _ c1 (e7.extBut _ _ c1 (gV _ e))
 have G:IsPair O C.objs.size x y:=e8.extBut _ _ (Tz U) (e7.extBut _ _ (Tz U) (Sh _ rfl));rw[H] at J G;refine Sf ⟨_,rfl,?_⟩
 show Q (.ref C.objs.size) _
 rw[H];exact hQ x y O _ hx hy J (N _ _ D.TOz I) (D1.frame _ _ _ aS fun c X o e=>N c o (fun q=>D.z1 (q ▸ X)) e) (u.frame _ _ _ Z fun c X o e=>N c o (fun q=>D.z2 (q ▸ X)) e) G fun c o c1 c2 c3 c4 e=>N c o c1 (aT c o c1 c2 c3 c4 e)
theorem K8{k:Nat}{a b:Value}{Q:PySem.Fin->Shared->Prop}(D1:Draws prog w A i1 fp1 n1 P1 S1)(v:Draws prog w A i2 fp2 n2 P2 S2)(D:ZA z TI TO i1 i2 fp1 fp2)
  (u:IsZip s.heap z TI TO .none) (F:IsPair s.heap TI (.ref i1) (.ref i2)) (M:IsPair s.heap TO a b) (h1:S1 k s.heap) (T:S2 k s.heap) (q:k=n1\/(k<n1/\k=n2))
  (O:∀h' e W,ZK z TO i1 i2 s.heap h'->(∃o,h'.get? e=some o/\o.cls= .type "StopIteration")->E (.ref e) {s with heap:=h',toks:=W}):
  wpAny (model prog w) A (Builtin.«zip.__next__» ⟨[.ref z],[]⟩) Q E s:=by
 obtain⟨R,g,d,H,os⟩:=s;show wpAny _ _ (field (.ref z) 2 >>= _) _ _ _
 refine RV (SX u rfl (x:= .bool false) rfl ?_)
 show wpAny _ _ (field (.ref z) 3 >>= _) _ _ _
 refine RV (SX u rfl (x:= .ref TI) rfl ?_)
 refine RV (T5 F rfl ?_)
 show wpAny _ _ (Builtin.SmallTypes.ownedTupleIsFree (.ref z) >>= _) _ _ _
 refine RV ?_
 unfold Builtin.SmallTypes.ownedTupleIsFree;refine RV (SX u rfl (x:= .none) rfl (Sf ?_))
 simp only[UW]
 refine RV (wpAny_rule ?_)
 refine RV (SX u rfl (x:= .ref TO) rfl ?_)
 refine RV (T7 u (by simp) fun g1 U i=> ?_)
 replace U:IsZip g1 z TI TO .ellipsis:=U
 replace i:Heap.SameBut z R g1:=i
 refine RV ?_
 simp only[List.zipIdx_cons,List.zipIdx_nil,WB,List.forIn_nil]
 refine RV (RV (Vs ?_))
 show wpAny _ _ (Builtin.SmallTypes.nextOf (.ref i1) >>= _) _ _ _
 have r:S1 k g1:=pd (D1:=D1) h1 i D.z1;have G:S2 k g1:=pd (D1:=v) T i D.z2;rcases q with rfl | ⟨l1,rfl⟩
 .refine RV (D1.done _ _ _ r fun g2 e J he=> ?_)
  replace J:Heap.ExtBut i1 g1 g2:=J
  obtain⟨B,C,I⟩:=he;have n:IsZip g2 z TI TO .ellipsis:=J _ _ D.i1z.symm U;have j:e≠z:=fun x=>by subst x;rw[n] at C;cases C;simp at I
  exact T7 n (by simp) fun l _ f=>O l e _ (fun c o c1 _ c3 _ x=>f.extBut _ _ c1 (J _ _ c3 (i.extBut _ _ c1 x))) ⟨B,f.extBut _ _ j C,I⟩
 .refine RV (D1.item k _ _ _ l1 r fun x g2 t2 hx Z J=>Sf ?_)
  replace J:Heap.SameBut i1 g1 g2:=J
  have L:S2 k g2:=pd (D1:=v) G J D.a2;have p:IsPair g2 TO a b:=J.extBut _ _ D.TOi1 (i.extBut _ _ D.TOz M);refine RV (T5 p rfl ?_)
  refine RV (Vx p fun l Y f=> ?_)
  replace f:Heap.SameBut TO g2 l:=f
  refine RV (wpAny_letGo (Sf ?_))
  have K:S2 k l:=pd (D1:=v) L f D.o2;refine RV (RV (Vs ?_))
  show wpAny _ _ (Builtin.SmallTypes.nextOf (.ref i2) >>= _) _ _ _
  refine RV (v.done _ _ _ K fun P e y he=> ?_)
  replace y:Heap.ExtBut i2 l P:=y
  obtain⟨B,C,I⟩:=he;have m:IsZip P z TI TO .ellipsis:=y _ _ D.i2z.symm (f.extBut _ _ D.TOz.symm (J.extBut _ _ D.i1z.symm U));have j:e≠z:=fun x=>by subst x;rw[m] at C;cases C;simp at I
  exact T7 m (by simp) fun X _ N=>O X e _ (fun c o c1 c2 c3 c4 x=>N.extBut _ _ c1 (y _ _ c4 (f.extBut _ _ c2 (J.extBut _ _ c3 (i.extBut _ _ c1 x))))) ⟨B,N.extBut _ _ j C,I⟩
end
section
variable {X : Cx} {pins : List (Addr × Obj)} {σ : St} {H : Hp} {s : Shared} {h' : Heap}
theorem Inv.turnedN{t':Nat}{ch:List Addr}{p:Addr}{o:HO}(I:Inv X pins Z H s)(k:∀b u,b ∉ ch->s.heap.get? b=some u->h'.get? b=some u)(J:∀b∈ch,vj X pins H b)(f:s.heap.objs.size<=p)
  (new:cy X.prog X.w (upd H p o) h' p o):Inv X pins Z (upd H p o) {s with heap:=h',toks:=t'}:=by
 have U:=I.hok.fresh f;have a:∀b u,H b=some u->b ∉ ch:=fun b u e z=>by rw[(J b z).1] at e;cases e
 refine I.step (g':=s.gens) (d':=s.drawn) (ch:=ch) (fun b C=>⟨(J b C).2.2.2.1,(J b C).2.1,(J b C).2.2.2.2.1,(J b C).2.2.2.2.2⟩) (fun b u _ _ C e _=>k b u C e) (fun b u _ _ C e _=>⟨u.slots,k b u C e⟩)
  (fun b u C e n=>by rw[aj (Sk (Sb (R_ e) f))];exact n) (fun b u C e=>⟨u,k b u C e⟩) (fun b i e=>by rw[aj (aq e U)];exact e) (fun b u v e=>by rw[aj (aq e U)];exact e)
  (fun b j e=>⟨#[],by rw[aj (aq e U),e];simp⟩) (fun m hm=> ?_) (fun b u e=> ?_) I.bare
 .obtain⟨v,es,ep,ho,r⟩:=hm;exact⟨v,es,ep,k _ v (fun z=>(J _ z).2.1 rfl) ho,r⟩
 .by_cases C:b=p
  .subst C;rw[ae] at e
   cases e
   exact new
  .rw[aj C] at e;refine(I.hok b u e).stay (fun c v d q=>k c v ?_ q) (fun c q=>by rw[aj (aq q U)];exact q) fun c i q=>by rw[aj (aq q U)];exact q
   rcases d with z | z
   .rw[z];exact a b u e
   .exact a c _ z
theorem Inv.turnedL{t':Nat}{ch:List Addr}(I:Inv X pins Z H s)(k:∀b u,b ∉ ch->s.heap.get? b=some u->h'.get? b=some u)(C:∀b∈ch,vj X pins H b):Inv X pins Z H {s with heap:=h',toks:=t'}:=by
 have J:∀b u,H b=some u->b ∉ ch:=fun b u e z=>by rw[(C b z).1] at e;cases e
 refine I.step (g':=s.gens) (d':=s.drawn) (ch:=ch) (fun b o=>⟨(C b o).2.2.2.1,(C b o).2.1,(C b o).2.2.2.2.1,(C b o).2.2.2.2.2⟩) (fun b u _ _ o e _=>k b u o e) (fun b u _ _ o e _=>⟨u.slots,k b u o e⟩)
  (fun b u o e n=>n) (fun b u o e=>⟨u,k b u o e⟩) (fun b a e=>e) (fun b u v e=>e) (fun b d e=>⟨#[],by rw[e];simp⟩) (fun m hm=> ?_) (fun b u e=> ?_) I.bare
 .obtain⟨v,es,ep,ho,r⟩:=hm;exact⟨v,es,ep,k _ v (fun z=>(C _ z).2.1 rfl) ho,r⟩
 .refine(I.hok b u e).stay (fun c v U q=>k c v ?_ q) (fun c q=>q) fun c a q=>q
  rcases U with z | z
  .rw[z];exact J b u e
  .exact J c _ z
end
def Sq(K:Frag)(H:Hp)(b:Bool)(a:Addr)(xs:List V):Prop:=if b=true then SqL K H a xs else SqT K H a xs
def uM(h:Heap)(b:Bool)(a:Addr)(o:Array Value):Prop:=if b=true then h.IsList a o else h.IsTuple a o
def vJ(h:Heap)(b:Bool)(q a:Addr)(i:Nat):Prop:=if b=true then h.IsListIter q a i else h.IsTupleIter q a i
noncomputable def HH(b:Bool):String:=if b=true then "list_iterator" else "tuple_iterator"
theorem uM.at{h h':Heap}{b:Bool}{a:Addr}{C:Array Value}(x:uM h b a C)(k:∀o,h.get? a=some o->h'.get? a=some o):uM h' b a C:=by
 cases b with
 | true=>exact Heap.IsList.at (show h.IsList a C from x) k
 | false=>exact Heap.IsTuple.at (show h.IsTuple a C from x) k
theorem vJ.at{h h':Heap}{b:Bool}{q a:Addr}{i:Nat}(x:vJ h b q a i)(k:∀o,h.get? q=some o->h'.get? q=some o):vJ h' b q a i:=by
 cases b with
 | true=>exact Heap.IsListIter.at (show h.IsListIter q a i from x) k
 | false=>exact Heap.IsTupleIter.at (show h.IsTupleIter q a i from x) k
theorem vJ.obj{h:Heap}{b:Bool}{q a:Addr}{i:Nat}(x:vJ h b q a i):∃o,h.get? q=some o/\∀v,o.data≠ .cell v:=by
 cases b with
 | true=>obtain⟨o,e,c,d⟩:=(show h.IsListIter q a i from x);exact⟨o,e,fun v z=>by rw[d] at z;cases z⟩
 | false=>obtain⟨o,e,c,d⟩:=(show h.IsTupleIter q a i from x);exact⟨o,e,fun v z=>by rw[d] at z;cases z⟩
theorem vJ.mk{h:Heap}{b:Bool}{q a:Addr}(e:h.get? q=some {cls:= .type (HH b),data:= .fields #[.ref a,.int 0 0]}):vJ h b q a 0:=by
 cases b with
 | true=>exact⟨_,e,rfl,rfl⟩
 | false=>exact⟨_,e,rfl,rfl⟩
theorem uM.lt{h:Heap}{b:Bool}{a:Addr}{C:Array Value}(x:uM h b a C):a<h.objs.size:=by
 cases b with
 | true=>obtain⟨o,e,_⟩:=(show h.IsList a C from x);exact R_ e
 | false=>obtain⟨o,e,_⟩:=(show h.IsTuple a C from x);exact R_ e
theorem uU{prog:Program}{w:World}{A:Around}(I:A.handled=none)(b:Bool)(q a:Addr)(C:a≠q)(o:Array Value):
  Draws prog w A q [q,a] o.size (fun i v=>o[i]? =some v) (fun i h=>vJ h b q a i/\uM h b a o):=by
 cases b with
 | true=>exact Ww I q a C o
 | false=>exact qZ I q a C o
section
variable {X : Cx} {pins : List (Addr × Obj)} {σ : St} {H : Hp} {s : Shared}
theorem Inv.sq{b:Bool}{a:Addr}{xs:List V}(I:Inv X pins Z H s)(h:Sq X.K H b a xs):∃o:List Value,aY xs o/\uM s.heap b a o.toArray:=by
 cases b with
 | true=>obtain⟨o,r,p,_⟩:=I.list (show SqL X.K H a xs from h);exact⟨o,r,p.isList⟩
 | false=>obtain⟨o,r,p,_⟩:=I.tuple (show SqT X.K H a xs from h);exact⟨o,r,p⟩
theorem Inv.sq_inj{b:Bool}{a:Addr}{xs ys:List V}(I:Inv X pins Z H s)(h:Sq X.K H b a xs)(h':Sq X.K H b a ys):xs=ys:=by
 cases b with
 | true=>exact I.list_inj (show SqL X.K H a xs from h) h'
 | false=>exact I.tuple_inj (show SqT X.K H a xs from h) h'
end
section
variable {prog : Program} {w : World} {A : Around} {E : Value → Shared → Prop} {s : Shared}
theorem Bh{b:Bool}{a:Addr}{o:Array Value}{Q:Value->Shared->Prop}(h:uM s.heap b a o)
  (C:Q (.ref s.heap.objs.size) {s with heap:=s.heap.push {cls:= .type (HH b),data:= .fields #[.ref a,.int 0 0]}}):wpAny (model prog w) A (pyIter (.ref a)) Q E s:=by
 cases b with
 | true=>exact UF (show s.heap.IsList a o from h) C
 | false=>exact Uw (show s.heap.IsTuple a o from h) C
end
noncomputable abbrev zh1(b:Bool)(h:Heap)(a:Addr):Heap:=h.push {cls:= .type (HH b),data:= .fields #[.ref a,.int 0 0]}
noncomputable abbrev zh2(b c:Bool)(h:Heap)(a d:Addr):Heap:=(zh1 b h a).push {cls:= .type (HH c),data:= .fields #[.ref d,.int 0 0]}
noncomputable abbrev zh3(b c:Bool)(h:Heap)(a d:Addr):Heap:=(zh2 b c h a d).push {cls:= .type "tuple",data:= .seq #[.ref h.objs.size,.ref (zh1 b h a).objs.size]}
noncomputable abbrev zh4(b c:Bool)(h:Heap)(a d:Addr):Heap:=(zh3 b c h a d).push {cls:= .type "tuple",data:= .seq #[.none,.none]}
noncomputable abbrev zh5(b c:Bool)(h:Heap)(a d:Addr):Heap:=(zh4 b c h a d).push {cls:= .type "zip",data:= .fields #[.none,.bool false,.bool false,.ref (zh2 b c h a d).objs.size,.ref (zh3 b c h a d).objs.size]}
theorem Ko(b c:Bool)(a d:Addr)(xs ys:Array Value):Meets (Builtin.«zip.__new__» ⟨[.type "zip",.ref a,.ref d],[]⟩) (fun _ R s=>uM s.heap b a xs/\uM s.heap c d ys/\R (.ok (.ret (.ref (zh4 b c s.heap a d).objs.size))) {s with heap:=zh5 b c s.heap a d}):=
 .of_wp fun k w A R s h=>by
  obtain⟨f,g,i,j,l⟩:=s;obtain⟨C,U,h⟩:=h;have m:=sub_zip;have J:uM (Shared.heap ⟨f,g,i,j,l⟩) b a xs:=C;have I:uM (Shared.heap ⟨zh1 b f a,g,i,j,l⟩) c d ys:=uM.at U fun o e=>gV _ e
  wp_walk using Bh J,Bh I
  exact⟨_,rfl,h⟩
theorem Jd{prog:Program}{w:World}{A:Around}{E:Value->Shared->Prop}{s:Shared}{b c:Bool}{a d:Addr}{xs ys:Array Value}{Q:Value->Shared->Prop}(I:uM s.heap b a xs)(J:uM s.heap c d ys)
  (h:∀h',IsZip h' (s.heap.objs.size+4) (s.heap.objs.size+2) (s.heap.objs.size+3) .none->IsPair h' (s.heap.objs.size+2) (.ref s.heap.objs.size) (.ref (s.heap.objs.size+1))->
   IsPair h' (s.heap.objs.size+3) .none .none->vJ h' b s.heap.objs.size a 0->vJ h' c (s.heap.objs.size+1) d 0->(∀e o,s.heap.get? e=some o->h'.get? e=some o)->Q (.ref (s.heap.objs.size+4)) {s with heap:=h'}):
  wpAny (model prog w) A (call (.type "zip") [.ref a,.ref d]) Q E s:=by
 refine callType_new F.called_zip (by decide) (F.typeCall_zip_2 _ _) (F.newCall_zip_2 _ _) (fun obj=>F.args_object_init_3 obj _ _) F.entry_zip_new (Ko b c a d xs ys) ⟨I,J,?_⟩
 have z1:(zh1 b s.heap a).objs.size=s.heap.objs.size+1:=Tp ..;have z2:(zh2 b c s.heap a d).objs.size=s.heap.objs.size+2:=by rw[Tp,z1]
 have z3:(zh3 b c s.heap a d).objs.size=s.heap.objs.size+3:=by rw[Tp,z2]
 have z4:(zh4 b c s.heap a d).objs.size=s.heap.objs.size+4:=by rw[Tp,z3]
 have C:(zh5 b c s.heap a d).get? (zh4 b c s.heap a d).objs.size=some _:=Sh _ rfl;have U:(zh5 b c s.heap a d).get? (zh3 b c s.heap a d).objs.size=some _:=gV _ (Sh _ rfl);have f:(zh5 b c s.heap a d).get? (zh2 b c s.heap a d).objs.size=some _:=gV _ (gV _ (Sh _ rfl));have i:(zh5 b c s.heap a d).get? (zh1 b s.heap a).objs.size=some _:=gV _ (gV _ (gV _ (Sh _ rfl)));have j:(zh5 b c s.heap a d).get? s.heap.objs.size=some _:=gV _ (gV _ (gV _ (gV _ (Sh _ rfl))));show _/\_
 rw[z2,z3,z4] at C;rw[z1,z2] at f;rw[z3] at U;rw[z1] at i;rw[z4];exact⟨⟨_,C,rfl⟩,h _ C f U (vJ.mk j) (vJ.mk i) fun e o x=>gV _ (gV _ (gV _ (gV _ (gV _ x))))⟩
noncomputable def Itz(K : Frag)(b c : Bool)(a d : Addr) : It :=
  ⟨fun i H => ∃o C x y, Sq K H b a o ∧ Sq K H c d C ∧ o[i]? = some x ∧ C[i]? = some y,
   fun i H v I => ∃p x y, H p = none ∧ v = .ref p ∧ I = upd H p (.tup [x, y]) ∧ (∀o, Sq K H b a o → o[i]? = some x) ∧ ∀C, Sq K H c d C → C[i]? = some y,
   fun i H => ∃o C, Sq K H b a o ∧ Sq K H c d C ∧ (o.length = i ∨ (i<o.length ∧ C.length = i))⟩
def ZAt(z TI TO o C:Addr)(b c:Bool)(a d:Addr)(i:Nat)(h:Heap):Prop:=IsZip h z TI TO .none/\IsPair h TI (.ref o) (.ref C)/\(∃x y,IsPair h TO x y)/\vJ h b o a i/\vJ h c C d i
theorem KW{P:Program}{w:World}{K:Frag}{au:List Expr}{tk:Nat}{tp:Pos}{b c:Bool}{a d z TI TO J U:Addr}(D:ZA z TI TO J U [J,a] [U,d])(ab:a≠J)(R:d≠U):
  yK P w K (.Tuple au tk tp) (Itz K b c a d) [z,TI,TO,J,U] z (ZAt z TI TO J U b c a d) where
 mem:=by simp
 obj:=fun i h st x l=>by
  obtain⟨j,m,⟨_,_,r⟩,B,p⟩:=st;have aw:x=z\/x=TI\/x=TO\/x=J\/x=U:=by simpa using l
  rcases aw with rfl | rfl | rfl | rfl | rfl
  .exact⟨_,j,fun v q=>by simp at q⟩
  .exact⟨_,m,fun v q=>by simp at q⟩
  .exact⟨_,r,fun v q=>by simp at q⟩
  .exact B.obj
  .exact p.obj
 keep:=fun i h h' st k=>by
  obtain⟨j,m,⟨u,v,r⟩,B,p⟩:=st;exact⟨k z (by simp) _ j,k TI (by simp) _ m,⟨u,v,k TO (by simp) _ r⟩,B.at fun o e=>k J (by simp) o e,p.at fun o e=>k U (by simp) o e⟩
 item:=by
  intro X hP hw hK hc i W s Z H E I hf st hg;subst hP hw hK;obtain⟨xs,ys,x,y,q1,q2,e1,e2⟩:=hg;obtain⟨j,m,⟨u,v,r⟩,B,p⟩:=st;obtain⟨l1,r1,p1⟩:=I.sq q1;obtain⟨l2,r2,p2⟩:=I.sq q2;have hh:X.A.in1.handled=none:=I.ok.hd hc;have D1:=uU (prog:=X.prog) (w:=X.w) hh b J a ab l1.toArray;have D2:=uU (prog:=X.prog) (w:=X.w) hh c U d R l2.toArray;obtain⟨u1,g1,w1⟩:=r1.get e1;obtain⟨u2,g2,w2⟩:=r2.get e2;have aL:i<l1.toArray.size:=by have:=(RX.mp g1).1;simpa using this
  have aG:i<l2.toArray.size:=by have:=(RX.mp g2).1;simpa using this
  have O:s.TypeIs (.ref z) "zip":=⟨_,j,rfl⟩;unfold pyNext
  refine RV (wpAny_attempt (TJ (name:=Str.ofString "__next__") O VE (UQ VE O F.entry_zip_next
   (IW D1 D2 D j m r ⟨B,p1⟩ ⟨p,p2⟩ aL aG fun x' y' h' G l N a1 a2 a3 a4 a5 kz=>Sf ?_) (F.args_zip_next_1 _))))
  have l:u1=x':=by have l:l1.toArray[i]? =some x':=l;rw[T9,g1] at l;exact Sj l
  have N:u2=y':=by have N:l2.toArray[i]? =some y':=N;rw[T9,g2] at N;exact Sj N
  subst l N;refine⟨_,rfl,wpAny_letOwnedTupleGo_zip a1 fun L Y f=> ?_⟩
  have f:Heap.SameBut z h' L:=f;have ar:z<s.heap.objs.size:=R_ j;have M:∀b o,b≠z->h'.get? b=some o->L.get? b=some o:=fun b o n e=>f.extBut _ _ n e
  have kept:∀b o,b ∉ [z,TI,TO,J,U]->s.heap.get? b=some o->L.get? b=some o:=fun b o n e=>by
   have C:b≠z/\b≠TI/\b≠TO/\b≠J/\b≠U:=by simpa using n
   exact M b o C.1 (kz b o C.1 C.2.2.1 C.2.2.2.1 C.2.2.2.2 e)
  refine⟨.ref s.heap.objs.size,upd H s.heap.objs.size (.tup [x,y]),?_,rfl,⟨_,x,y,I.fresh,rfl,rfl,fun zs hz=>by rw[I.sq_inj hz q1];exact e1,fun zs hz=>by rw[I.sq_inj hz q2];exact e2⟩,?_,fun b n=> ?_⟩
  .refine I.turnedN (t':=G) (ch:=[z,TI,TO,J,U]) kept hf (R3 _) ⟨by show 2<=sizeLine;decide,[u1,u2],.cons w1 (.cons w2 .nil),⟨_,M _ _ (Tz ar) a5,rfl,_,rfl⟩⟩
  .exact⟨Y,M _ _ D.TIz (kz _ _ D.TIz D.TITO D.TIi1 D.TIi2 m),⟨_,_,M _ _ D.TOz a2⟩,a3.1.at fun o e=>M _ _ D.i1z e,a4.1.at fun o e=>M _ _ D.i2z e⟩
  .have h0:=(hf b n).1;rw[aj]
   .exact h0
   .have C:b=z\/b=TI\/b=TO\/b=J\/b=U:=by simpa using n
    rcases C with rfl | rfl | rfl | rfl | rfl
    .exact Sk ar
    .exact Sk (R_ m)
    .exact Sk (R_ r)
    .obtain⟨o,e,_⟩:=B.obj;exact Sk (R_ e)
    .obtain⟨o,e,_⟩:=p.obj;exact Sk (R_ e)
 done:=by
  intro X hP hw hK hc i W s Z H E I hf st hg;subst hP hw hK;obtain⟨xs,ys,q1,q2,aN⟩:=hg;obtain⟨j,m,⟨u,v,r⟩,B,p⟩:=st;obtain⟨l1,r1,p1⟩:=I.sq q1;obtain⟨l2,r2,p2⟩:=I.sq q2;have hh:X.A.in1.handled=none:=I.ok.hd hc;have D1:=uU (prog:=X.prog) (w:=X.w) hh b J a ab l1.toArray;have D2:=uU (prog:=X.prog) (w:=X.w) hh c U d R l2.toArray;have z1:=r1.length;have z2:=r2.length;have he:i=l1.toArray.size\/(i<l1.toArray.size/\i=l2.toArray.size):=by simp only[R7];lia
  have O:s.TypeIs (.ref z) "zip":=⟨_,j,rfl⟩;unfold pyNext
  refine RV (wpAny_attempt (TJ (name:=Str.ofString "__next__") O VE (UQ VE O F.entry_zip_next
   (K8 D1 D2 D j m r ⟨B,p1⟩ ⟨p,p2⟩ he fun h' e G kz l=> ?_) (F.args_zip_next_1 _))))
  obtain⟨o,ho,aF⟩:=l;refine RV (wpAny_isInstance (T:="StopIteration") (b:=true) ⟨o,ho,aF⟩ isSubtype_stop ?_)
  refine Sf ⟨rfl,I.turnedL (t':=G) (ch:=[z,TI,TO,J,U]) (fun b o n e=> ?_) hf⟩
  have C:b≠z/\b≠TI/\b≠TO/\b≠J/\b≠U:=by simpa using n
  exact kz b o C.1 C.2.2.1 C.2.2.2.1 C.2.2.2.2 e
 self:=fun A i s Q E st h=>wpAny_pyIter_zip st.1 h
section
variable {X : Cx}
def Rq(K:Frag)(J:TA):TI:=fun Z H R=>J Z H fun vs o=>∃b c a d,vs=[.ref a,.ref d]/\(∃I,Sq K o b a I)/\(∃C,Sq K o c d C)/\R (Itz K b c a d) o
theorem Hf{k C:Expr}{x:TA}{p f A:Pos}{j:List Expr}{L:Nat}(y:Gl X "zip")(hm:X.mg "zip"=none)(Q:PA X [k,C] x)(hs:starEach [k,C] X.env=[(false,eval k X.env),(false,eval C X.env)]:=by rfl)(U:starEach [C] X.env=[(false,eval C X.env)]:=by rfl):
  PI X (.Tuple j L A) (.Call (.Name "zip" p) [k,C] [] f) (Rq X.K x):=by
 intro J s Z H R I h;refine Call_ (lL I y hm O0 (SZ (cw (Q f J s Z H _ I h) fun us u vs E i O N=> ?_) (by rw[hs,U]) (by rw[U];rfl)))
 obtain⟨b,c,a,d,e,⟨Y,M⟩,⟨ys,B⟩,q⟩:=N;subst e;obtain⟨u1,W,rfl,m,l⟩:=E2 O
 cases m
 cases l
 obtain⟨l1,G,r⟩:=i.sq M;obtain⟨l2,P,w⟩:=i.sq B;have la:=r.lt;have z:=w.lt;refine Jd r w fun h' z1 z2 z3 z4 z5 F=>wpAny_pyIter_zip z1 ?_
 generalize v:u.heap.objs.size=n at*;have T:ZA (n+4) (n+2) (n+3) n (n+1) [n,a] [n+1,d]:=by
  refine⟨?_,?_,?_,?_,?_,?_,?_,?_,?_,?_,?_,?_,?_,?_,?_,?_⟩ <;> (try simp only[Se,SS,Ue]) <;> (unfold Addr at *;lia)
 refine⟨n+4,[n+4,n+2,n+3,n,n+1],_,_,E,rfl,i.kept (t':=u.toks) F,KW T (Sk la) (Sk (Vc z)),⟨z1,z2,⟨_,_,z3⟩,z4,z5⟩,fun b D=> ?_,q⟩
 have o:n<=b:=by
  have o:b=n+4\/b=n+2\/b=n+3\/b=n\/b=n+1:=by simpa using D
  unfold Addr at*
  lia
 exact i.fpOk (by rw[v];exact o) (i.hok.fresh (by rw[v];exact o))
end
theorem BR{K:Frag}{b c:Bool}{a d:Addr}{xs ys:List V}{g:TG}{n:TS}{D:pD}{Z:St}{H:Hp}(o:Nat->St->Hp->Prop)(u:o 0 Z H)(w:∀i Z H,o i Z H->Sq K H b a xs/\Sq K H c d ys)
  (hs:∀i x y p Z H,xs[i]? =some x->ys[i]? =some y->o i Z H->H p=none->g (.ref p) Z (upd H p (.tup [x,y])) fun f I=>n {D with nx:=o (i+1),ct:=o (i+1),bk:=D.nx} f I) (hd:∀Z H,o (min xs.length ys.length) Z H->D.nx Z H):
  ∃W:Nat->Nat->St->Hp->Prop,(∃m,W 0 m Z H)/\∀i m Z H,W i m Z H->
   ((Itz K b c a d).stop i H/\D.nx Z H)\/((Itz K b c a d).go i H/\∃N:St->Hp->Prop,(∀k C,N k C->∃l,l<m/\W (i+1) l k C)/\∀x C,(Itz K b c a d).yld i H x C->g x Z C fun f I=>n {D with nx:=N,ct:=N,bk:=D.nx} f I):=by
 refine⟨fun i m Z H=>m=min xs.length ys.length - i/\i<=min xs.length ys.length/\o i Z H,⟨_,rfl,SK _,u⟩,?_⟩
 rintro i m Z H ⟨rfl,z,p⟩
 obtain⟨j,U⟩:=w i Z H p
 by_cases J:i<min xs.length ys.length
 .have hx:i<xs.length:=by lia
  have q:i<ys.length:=by lia
  refine .inr ⟨⟨xs,ys,xs[i],ys[i],j,U,by simp [hx],by simp [q]⟩,o (i+1),fun k C s=>⟨_,?_,rfl,J,s⟩,fun v C y=> ?_⟩
  .lia
  .obtain⟨r,x,y,hr,rfl,rfl,e1,e2⟩:=y;exact hs i x y r Z H (e1 xs j) (e2 ys U) p hr
 .have e:i=min xs.length ys.length:=by lia
  refine .inl ⟨⟨xs,ys,j,U,by lia⟩,?_⟩
  subst e;exact hd Z H p
inductive Dt where
 | non | bl (b:Bool) | int (i:Int) | str (x:Str) | tup (l:List Dt) | lst (l:List Dt)
mutual
def Is(K:Frag)(H:Hp):Dt->V->Prop
 | .non,v=>v= .non
 | .bl b,v=>v= .bl b
 | .int i,v=>v= .int i
 | .str x,v=>v= .str x
 | .tup l,v=>∃a o,v= .ref a/\SqT K H a o/\Iss K H l o
 | .lst l,v=>∃a o,v= .ref a/\SqL K H a o/\Iss K H l o
def Iss(K:Frag)(H:Hp):List Dt->List V->Prop
 | [],xs=>xs=[]
 | d::r,xs=>∃x t,xs=x::t/\Is K H d x/\Iss K H r t
end
mutual
noncomputable def Dt.flat:Dt->Bool
 | .tup l=>Dt.flats l
 | .lst _=>false
 | _=>true
noncomputable def Dt.flats:List Dt->Bool
 | []=>true
 | d::r=>d.flat && Dt.flats r
end
theorem aA.tup{K:Frag}{H C:Hp}{a:Addr}{xs:List V}(e:aA H C)(h:SqT K H a xs):SqT K C a xs:=by
 rcases h with(h | ⟨o,h⟩) | h
 .exact .inl (.inl (e _ _ h))
 .exact .inl (.inr ⟨o,e _ _ h⟩)
 .exact .inr h
theorem But.tup{K:Frag}{H C:Hp}{a d:Addr}{xs ys:List V}(e:But d H C)(hd:H d=some (.lst ys))(h:SqT K H a xs):SqT K C a xs:=by
 rcases h with(h | ⟨o,h⟩) | h
 .exact .inl (.inl (e _ _ (dj h hd (by intro z;cases z)) h))
 .exact .inl (.inr ⟨o,e _ _ (dj h hd (by intro z;cases z)) h⟩)
 .exact .inr h
section
variable {K : Frag} {g : TG} {te : TE} {t : Nat} {js : List Nat} {σ : St} {H : Hp} {Q : VK} {p : Addr}
theorem qV{a:Addr}{xs:List V}(C:Nat->List V->Hp->Prop)(j:C 0 [] (upd H p (.lst [])))(d:∀i ys H,C i ys H->SqT K H a xs)
  (hs:∀i x ys H (F:List V->Hp->Prop),(∀o I,C (i+1) o I->F o I)->xs[i]? =some x->C i ys H->g x (blk t js Z) H fun c f=>Wk (blk t js Z) c/\te c f fun y b=>b p=some (.lst ys)/\ys.length<sizeLine/\F (ys++[y]) (upd b p (.lst (ys++[y]))))
  (hd:∀ys H,C xs.length ys H->Q (.ref p) H):
  rM (Itt K a) g te t js Z p H Q:=by
 refine⟨fun i m ys H=>m=xs.length - i/\i<=xs.length/\C i ys H,⟨xs.length,by simp,SK _,j⟩,?_⟩
 rintro i m ys H ⟨rfl,k,pv⟩
 have q:=d i ys H pv
 by_cases J:i<xs.length
 .refine .inr ⟨⟨xs,xs[i],q,by simp [J]⟩,fun x I y=> ?_⟩
  obtain⟨e,y⟩:=y;subst e;exact hs i x ys _ (fun o I=>∃U,U<xs.length - i/\U=xs.length - (i+1)/\i+1<=xs.length/\C (i+1) o I) (fun o I z=>⟨_,by lia,rfl,J,z⟩) (y xs q) pv
 .have e:i=xs.length:=by lia
  subst e;exact .inl ⟨⟨xs,q,R3 _⟩,hd ys H pv⟩
theorem r_{a:Addr}{xs:List V}(C:Nat->List V->Hp->Prop)(j:C 0 [] (upd H p (.lst [])))(d:∀i ys H,C i ys H->SqL K H a xs)
  (hs:∀i x ys H (F:List V->Hp->Prop),(∀o I,C (i+1) o I->F o I)->xs[i]? =some x->C i ys H->g x (blk t js Z) H fun c f=>Wk (blk t js Z) c/\te c f fun y b=>b p=some (.lst ys)/\ys.length<sizeLine/\F (ys++[y]) (upd b p (.lst (ys++[y]))))
  (hd:∀ys H,C xs.length ys H->Q (.ref p) H):
  rM (Itl K a) g te t js Z p H Q:=by
 refine⟨fun i m ys H=>m=xs.length - i/\i<=xs.length/\C i ys H,⟨xs.length,by simp,SK _,j⟩,?_⟩
 rintro i m ys H ⟨rfl,k,pv⟩
 have q:=d i ys H pv
 by_cases J:i<xs.length
 .refine .inr ⟨⟨xs,xs[i],q,by simp [J]⟩,fun x I y=> ?_⟩
  obtain⟨e,y⟩:=y;subst e;exact hs i x ys _ (fun o I=>∃U,U<xs.length - i/\U=xs.length - (i+1)/\i+1<=xs.length/\C (i+1) o I) (fun o I z=>⟨_,by lia,rfl,J,z⟩) (y xs q) pv
 .have e:i=xs.length:=by lia
  subst e;exact .inl ⟨⟨xs,q,R3 _⟩,hd ys H pv⟩
end
theorem bk{sc0 o:Scope}{N0:List Str}(N:List Str)(t:Nat)(C:List Nat)(b:o.kind= .function:=by rfl)(J:∀y∈o.names,y.2≠NameKind.cell:=by decide +kernel)(a:∀y∈o.names,y.2=NameKind.local->o.names.lookup y.1=some NameKind.local:=by decide +kernel)
  (e:∀y∈o.names,y.2=NameKind.free->sc0.names.lookup y.1=some NameKind.cell:=by decide +kernel) (I:∀x∈N.drop t,o.names.lookup x=some NameKind.free:=by decide +kernel) (d:(N.drop t).map some=C.map fun j=>N0[j]? :=by rfl)
  (c:t<=N.length:=by decide) (U:N.Nodup:=by decide +kernel):rV sc0 o N0 N t C:=⟨b,J,a,e,I,d,c,U⟩
theorem iN{X:Cx}{k:Nat}{x:Str}{sp:Sp}{p o:Pos}(h:Has X.prog X.w X.K X.mg X.base k x [] sp)(a:Room k X.A)(I:Gl X x)(C:(x==("__debug__":Str))=false:=by decide):
  PE X (.Call (.Name x p) [] [] o) (fun Z H Q=>sp [] H Q E0):=by
 obtain⟨f,b,hm,U,J,F⟩:=h.ex;exact LF F a I hm U J .nil Ba C
section
variable {X : Cx}
theorem dG{a b v:Int}{j U:Nat}{p J C:Pos}(e:a^b.toNat=v)(c:0<=b/\b<=1000000/\a.natAbs<2^64:=by decide):PE X (.BinOp (.Constant (.int a) j p) .Pow (.Constant (.int b) U J) C) (tC (.int v)):=fun o s Z H Q I h=>
 ax N8 ac ac o s Z H Q I ⟨a,b,rfl,rfl,c,by dsimp only;rw[e];exact h⟩
theorem lj{a v:Int}{j:Nat}{p C:Pos}(e: -a=v):PE X (.UnaryOp .USub (.Constant (.int a) j p) C) (tC (.int v)):=fun o s Z H Q I h=>Lg GR ac o s Z H Q I ⟨a,rfl,by dsimp only;rw[e];exact h⟩
structure aD (p:Prop):Prop where
 out:p
theorem aP{st:Stmt}{t:TS}(h:PS X st t):PS X st (fun D Z H=>aD (t D Z H)):=fun o s Z H D I C=>h o s Z H D I C.out
end
def e9(K:Frag)(a:Addr)(xs:List V):Prop:=∃(o:Obj) (C:Array Value) (n:Nat),K.lookup a=some o/\o.cls= .type "tuple"/\o.dict=none/\o.data= .seq C n/\C.size<=sizeLine/\aY xs C.toList
theorem e9.sq{K:Frag}{H:Hp}{a:Addr}{xs:List V}(h:e9 K a xs):SqT K H a xs:=by
 obtain⟨o,C,n,U,I,_,J,b,c⟩:=h;exact .inr ⟨o,C,n,U,I,J,b,c⟩
theorem e9.ty{K:Frag}{H:Hp}{a:Addr}{xs:List V}(h:e9 K a xs):tyV K "tuple" (.ref a) H:=by
 obtain⟨o,I,n,J,C,hd,_⟩:=h;exact .inr (.inl ⟨rfl,o,J,C,hd⟩)
theorem fM{K:Frag}{a:Addr}{xs:List V}{o:Array Value}{n:Nat}{sl:Array (Option Value)}(l:K.lookup a=some ⟨.type "tuple",none,.seq o n,sl⟩)(z:o.size<=sizeLine)(v:aY xs o.toList):e9 K a xs:=⟨_,o,n,l,rfl,rfl,rfl,z,v⟩
theorem nj{o:Type}{x:o}{xs:List o}:atI (x::xs) 0=some x:=bq (j:=0) rfl
theorem LG{o:Type}{x y:o}{xs:List o}:atI (x::y::xs) 1=some y:=bq (j:=1) rfl
theorem Ga{o:Type}{x y z:o}{xs:List o}:atI (x::y::z::xs) 2=some z:=bq (j:=2) rfl
theorem Pd{o:Type}{x y z u:o}{xs:List o}:atI (x::y::z::u::xs) 3=some u:=bq (j:=3) rfl
section
variable {K : Frag} {H H' : Hp} {a p : Addr} {o o' : HO} {xs : List V} {d : Dt} {v : V}
theorem gw(C:H p=none)(h:H a=some o'):upd H p o a=some o':=by rw[aj (aq h C)];exact h
theorem Rb(C:H p=none)(h:SqT K H a xs):SqT K (upd H p o) a xs:=(ag C o).tup h
theorem dE{C:Hp}(I:H p=none)(h:aA C H):aA C (upd H p o):=h.trans (ag I o)
theorem fO{C:Hp}(I:C p=none)(h:aA C H):aA C (upd H p o):=fun b u e=>by rw[aj (aq e I)];exact h b u e
end
noncomputable def E9(x:V):List V->Nat->Option Nat
 | [],_=>none
 | y::r,k=>if eqV y x=true then some k else E9 x r (k+1)
theorem Fa{x:V}:∀{xs:List V}{k j:Nat},E9 x xs k=some j->k<=j/\yx x xs (j - k)
 | [],_,_,h=>by cases h
 | y::r,k,j,h=>by
  unfold E9 at h
  by_cases e:eqV y x=true
  .rw[R9 e] at h
   cases h
   refine⟨R3 _,⟨y,by simp,e⟩,fun m z hm=>absurd hm (by lia)⟩
  .rw[R6 e] at h;obtain⟨a,⟨z,C,I⟩,J⟩:=Fa h;have U:j - k=(j - (k+1))+1:=by lia
   refine⟨by lia,⟨z,by rw[U,Wl];exact C,I⟩,fun m z hm o=> ?_⟩
   cases m with
   | zero=>cases o;simpa using e
   | succ m=>exact J m z (by lia) (by simpa using o)
theorem JS{x:V}{xs:List V}{j:Nat}(h:E9 x xs 0=some j):yx x xs j:=by
 have q:=(Fa h).2
 rwa [Xy] at q
end L2
namespace L2
open PySem
theorem GX{A:Around}{k:Nat}(o:Room k A):A.units+64<cLine:=o.units
end L2
namespace L2
open PySem PySem.Spec PyProof.Rows
@[irreducible] noncomputable def isTy(t T : String) : Option Bool := Ov t T
theorem GH:isTy "str" "str"=some true:=by unfold isTy;decide
inductive TyS (K:Frag) (H:Hp):V->String->Prop where
 | non:TyS K H .non "NoneType"
 | bl (x:Bool):TyS K H (.bl x) "bool"
 | int (i:Int):TyS K H (.int i) "int"
 | str (x:Str):TyS K H (.str x) "str"
 | tup {a:Addr}{xs:List V}(e:SqT K H a xs):TyS K H (.ref a) "tuple"
 | lst {a:Addr}{xs:List V}(e:SqL K H a xs):TyS K H (.ref a) "list"
 | dic {a:Addr}(e:wF K H (.ref a) (.type "dict")):TyS K H (.ref a) "dict"
section
variable {X : Cx}
theorem B5:fq X (.builtin "isinstance") (fun xs H Q=>∃x T t v,xs=[x,.ty T]/\TyS X.K H x t/\isTy t T=some v/\Q (.bl v) H):=by
 intro f s Z H xs k Q I r h;obtain⟨x,T,t,v,rfl,ty,e,q⟩:=h;unfold isTy at e;obtain⟨u,j,rfl,C,U⟩:=E2 r;obtain rfl:j=Value.type T:=U
 cases ty with
 | non=>exact nA I C .non (oA X.K e) fun J=>⟨.bl v,H,I.tok _,rfl,q⟩
 | bl y=>exact nA I C (.bl y) (oA X.K e) fun J=>⟨.bl v,H,I.tok _,rfl,q⟩
 | int i=>exact nA I C (.int i) (oA X.K e) fun J=>⟨.bl v,H,I.tok _,rfl,q⟩
 | str y=>exact nA I C (.str y) (oA X.K e) fun J=>⟨.bl v,H,I.tok _,rfl,q⟩
 | @tup a xs ea=>
  cases(show u=Value.ref a from C)
  obtain⟨c,_,⟨o,d,b,_⟩,_⟩:=I.tuple ea;exact TH W.kitx_tuple I.kIn ⟨o,d,b⟩ (oA X.K e) (fun z=>nomatch z) fun J=>⟨.bl v,H,I.tok _,rfl,q⟩
 | @lst a xs ea=>
  cases(show u=Value.ref a from C)
  obtain⟨c,_,⟨o,n,d,b,_⟩,_⟩:=I.list ea;exact TH W.kitx_list I.kIn ⟨o,d,b⟩ (oA X.K e) (fun z=>nomatch z) fun J=>⟨.bl v,H,I.tok _,rfl,q⟩
 | dic ea=>exact nA I C ea (oA X.K e) fun J=>⟨.bl v,H,I.tok _,rfl,q⟩
end
def Dt.lv:Nat->Dt->Prop
 | 0,_=>False
 | n+1,.tup l=>l.length<=4096/\∀e∈l,Dt.lv n e
 | _+1,.non=>True
 | _+1,.int _=>True
 | _+1,.str _=>True
 | _+1,_=>False
section
variable {X : Cx} {K : Frag}
theorem HE(e:X.K=K):IxR X (PP K):=by subst e;exact ay
theorem J1(e:X.K=K):SlR X (P7 K):=by subst e;exact iq
end
theorem Pw{b:Bool}{A B:Prop}(h:b=false)(q:B):if b=true then A else B:=by
 rw[h];exact Iy q
theorem NP{b:Bool}{A B:Prop}(h:b=true)(q:A):if b=true then A else B:=by
 rw[h];exact D3 q
theorem N9{b:Bool}{A B:Prop}(C:b=true->A)(o:b=false->B):if b=true then A else B:=by
 cases b with
 | true=>exact D3 (C rfl)
 | false=>exact Iy (o rfl)
noncomputable def Cu:Expr->Option V
 | .Constant (.int i) _ _=>some (.int i)
 | .Constant (.str x) _ _=>some (.str x)
 | .Constant .none _ _=>some .non
 | .Constant (.bool b) _ _=>some (.bl b)
 | _=>none
noncomputable def yC:List Expr->Option (List V)
 | []=>some []
 | e::r=>match Cu e,yC r with
  | some v,some vs=>some (v::vs)
  | _,_=>none
theorem aU{X:Cx}:∀{J:List Expr}{vs:List V},yC J=some vs->PA X J (fun _ H Q=>Q vs H)
 | [],vs,h=>by
  cases h
  exact dJ
 | e::r,vs,h=>by
  unfold yC at h
  cases hv:Cu e with
  | none=>rw[hv] at h;cases h
  | some v=>
   cases hr:yC r with
   | none=>rw[hv,hr] at h;cases h
   | some ws=>
    rw[hv,hr] at h;have h:v::ws=vs:=Sj h;subst h;have ih:=aU (X:=X) hr;have U:PE X e (tC v):=by
     unfold Cu at hv
     split at hv
     .cases hv;exact ac
     .cases hv;exact av
     .cases hv;exact cO
     .cases hv;exact tI
     .cases hv
    have hs:starEach (e::r) X.env=(false,eval e X.env)::starEach r X.env:=by
     unfold Cu at hv
     split at hv <;> first | rfl | cases hv
    exact dD U ih hs
open PySem PySem.Spec PyProof.Rows
noncomputable def Its(z:Str):It:=⟨fun i _=>i<z.cps.size,fun i H v o=>o=H/\∃c,z.cps[i]? =some c/\v= .str ⟨#[c]⟩,fun i _=>z.cps.size=i⟩
theorem FJ{P:Program}{w:World}{K:Frag}{F:Expr}(q:Addr)(z:Str)(t:Tok)(ty:String)(D:["enumerate","zip","dict_itemiterator","dict_reverseitemiterator","odict_iterator","itertools.zip_longest","itertools.pairwise"].contains ty=false)
  (hw:∀A:Around,A.handled=none->Walks P w A q [q] [q] z.cps.size (SignAt z) (fun i h=>h.IsStrIter q ty z t i))
  (hs:∀(A:Around) (i:Nat) (s:Shared) (Q:Value->Shared->Prop) (E:Value->Shared->Prop),s.heap.IsStrIter q ty z t i->Q (.ref q) s->wpAny (model P w) A (pyIter (.ref q)) Q E s):yK P w K F (Its z) [q] q (fun i h=>h.IsStrIter q ty z t i) where
 mem:=by simp
 obj:=fun i h st b J=>by
  have e:b=q:=by simpa using J
  subst e;obtain⟨o,e,c,d⟩:=st;exact⟨o,e,fun v z=>by rw[d] at z;cases z⟩
 keep:=fun i h j st k=>let ⟨o,e,c,d⟩:=st;⟨o,k q (by simp) o e,c,d⟩
 item:=by
  intro X B U r y i C s Z H E I f st m;subst B U r;obtain⟨f0,f1,f2,f3,f4,f5⟩:=f q (by simp)
  refine(hw X.A (I.ok.hd y)).item i s _ _ m st fun v j l L a p=> ?_
  obtain⟨c,u,n,rfl⟩:=L;have M:Inv X C Z H {s with heap:=j,toks:=l}:=I.turned (fun b o J e=>p b o (by simpa using J) e) f0 f1 f3 f4 f5
  obtain⟨o,e,N,G⟩:=id a;exact⟨_,rfl,DO (s:={s with heap:=j,toks:=l}) e N G D ⟨.str ⟨#[c]⟩,H,M,⟨u,rfl⟩,⟨rfl,c,n,rfl⟩,a,fun b J=>(f b J).1⟩⟩
 done:=by
  intro X B U r y i C s Z H E I f st m;subst B U r;obtain⟨f0,f1,f2,f3,f4,f5⟩:=f q (by simp)
  have x:z.cps.size=i:=m;subst x;exact(hw X.A (I.ok.hd y)).done s _ _ st fun j l p=>⟨rfl,I.turned (t':=l) (fun b o J e=>p b o (by simpa using J) e) f0 f1 f3 f4 f5⟩
 self:=fun A i s Q E st h=>hs A i s Q E st h
section
variable {X : Cx} {tg : Expr}
def RD(o:TE):TI:=fun Z H R=>o Z H fun x C=>∃z,x= .str z/\R (Its z) C
theorem K1{l:Expr}{f:TE}(j:PE X l f):PI X tg l (RD f):=by
 intro C s Z H R I h;refine cw (j C s Z H _ I h) fun v J x a U n m=> ?_
 obtain⟨z,e,q⟩:=m;subst e;obtain⟨t,rfl⟩:=n;have d:∀b∈[J.heap.objs.size],vj X C a b:=fun b k=>by
  have e:b=J.heap.objs.size:=by simpa using k
  subst e;exact U.fpOk (R3 _) (U.hok.fresh (R3 _))
 cases ha:z.cps.all (· < 128) with
 | true=>
  refine wpAny_pyIter_ascii ha ?_
  exact⟨J.heap.objs.size,[J.heap.objs.size],_,_,a,rfl,U.kept (t':=J.toks) fun b o e=>gV _ e,FJ _ z t "str_ascii_iterator" (by decide) (fun A c=>Walks.strAscii c _ z t) (fun A i s Q E st h=>wpAny_pyIter_striter_ascii st h),⟨_,Sh _ rfl,rfl,rfl⟩,d,q⟩
 | false=>
  refine wpAny_pyIter_wide ha ?_
  exact⟨J.heap.objs.size,[J.heap.objs.size],_,_,a,rfl,U.kept (t':=J.toks) fun b o e=>gV _ e,FJ _ z t "str_iterator" (by decide) (fun A c=>Walks.strWide c _ z t) (fun A i s Q E st h=>wpAny_pyIter_striter_wide st h),⟨_,Sh _ rfl,rfl,rfl⟩,d,q⟩
theorem LY:MtM X "str.find" (fun x vs H Q=>∃z y,x= .str z/\vs=[.str y]/\Q (.int (Txt.find z y)) H):=by
 intro o s Z H x vs v a Q I C J h;obtain⟨z,y,rfl,rfl,q⟩:=h;obtain⟨t,rfl⟩:=C;obtain⟨u,rfl,U,rfl⟩:=J.one;exact SC.find ⟨.int _,H,I.tok _,⟨_,rfl⟩,q⟩
theorem Ik:∀{ys:List Str}{o:List Value},aY (ys.map V.str) o->PyProof.Rows.StrsAre o ys
 | [],_,.nil=> .nil
 | y::r,_,.cons ⟨t,e⟩ q=>by subst e;exact .cons y t (Ik q)
theorem nF:MtM X "str.join" (fun x vs H Q=>∃z p ys,x= .str z/\vs=[.ref p]/\SqL X.K H p (ys.map V.str)/\(ys.map (·.length)).sum+ys.length*z.length<=16777216/\Q (.str (Txt.join z ys)) H):=by
 intro C s Z H x vs v e Q I J U h;obtain⟨z,p,ys,rfl,rfl,a,o,q⟩:=h;obtain⟨t,rfl⟩:=J;obtain⟨u,rfl,b⟩:=U.one
 cases b
 obtain⟨c,r,pl,_⟩:=I.list a;exact PyProof.Rows.join_list pl.isList (by simpa using Ik r) o fun d k=>⟨.str _,H,I.tok _,⟨_,rfl⟩,q⟩
theorem Bt:∀l:List (Str × Tok),aY ((l.map (·.1)).map V.str) (strValues l)
 | []=> .nil
 | (x,t)::r=> .cons ⟨t,rfl⟩ (Bt r)
theorem q_:MtM X "str.split" (fun x vs H Q=>∃z y,x= .str z/\vs=[.str y]/\(y.length==0)=false/\z.length<=sizeLine/\(Txt.split z y).length<=sizeLine/\∀p,H p=none->Q (.ref p) (upd H p (.lst ((Txt.split z y).map V.str)))):=by
 intro C s Z H x vs v j Q I d f h;obtain⟨z,y,rfl,rfl,c,i,U,q⟩:=h;obtain⟨t,rfl⟩:=d;obtain⟨u,rfl,J,rfl⟩:=f.one;have fin:∀(l:List (Str × Tok)) (k:Nat),l.map (·.1)=Txt.split z y->EP X C Z Q (.ref s.heap.objs.size) {s with heap:=s.heap.push {cls:= .type "list",data:= .seq (strValues l).toArray},toks:=k}:=fun l k e=>by
  refine⟨.ref s.heap.objs.size,_,I.laid (a:=s.heap.objs.size) (o:= .lst ((Txt.split z y).map V.str)) (t':=k) (fun b o e=>gV _ e) (R3 _) ⟨?_,strValues l,0,?_,Sh _ rfl⟩,rfl,q _ I.fresh⟩
  .rw[be];exact U
  .rw[<- e];exact Bt l
 cases h1:(decide (z.length<y.length) || decide (Builtin.Str.strKind z<Builtin.Str.strKind y))
 .cases hf:(Builtin.Str.occurrences z y 0 z.length (z.length+1)).isEmpty
  .have es:Builtin.Str.partsBetween z (Builtin.Str.occurrences z y 0 z.length (z.length+1)) y.length=Txt.split z y:=((R6 (VJ h1)).trans (R6 (VJ hf))).symm;refine TM Wm (Vn _ _ _) V1 (VS _ _) (meets_str_split_sep z y t J h1 c hf i (by rw[es];exact U)) ?_
   show wants _ _ _ {s with toks:=_,heap:=s.heap.push {cls:= .type "list",data:= .seq (strsFrom s.toks (Builtin.Str.partsBetween z (Builtin.Str.occurrences z y 0 z.length (z.length+1)) y.length)).toArray}}
   rw[strsFrom_eq];exact fin (numbered s.toks _) _ ((numbered_texts _ _).trans es)
  .exact TM Wm (Vn _ _ _) V1 (VS _ _) (meets_str_split_not_found z y t J h1 c hf) (fin [(z,t)] s.toks ((R6 (VJ h1)).trans (R9 hf)).symm)
 .exact TM Wm (Vn _ _ _) V1 (VS _ _) (meets_str_split_cannot_occur z y t J h1) (fin [(z,t)] s.toks (R9 h1).symm)
end
end L2
namespace SpM
open PySem PyProof.Rows
noncomputable def tz:Nat->Nat->Nat
 | 0,_=>0
 | f+1,n=>if n %2=0 then tz f (n / 2)+1 else 0
theorem DR:∀f n:Nat,n<=f->0<n->∃u,n=(2*u+1)*2^tz f n
 | 0,_,h1,h2=>absurd h2 (Nat.not_lt.mpr h1)
 | f+1,n,h1,h2=>by
  rw[tz]
  by_cases h:n %2=0
  .obtain⟨u,e⟩:=DR f (n / 2) (by lia) (by lia)
   rw[R9 h];refine⟨u,?_⟩
   rw[Wx, <-V8, <-e]
   lia
  .rw[R6 h];exact⟨n / 2,by lia⟩
noncomputable def Zn(v:Int):Nat:=if v=0 then 32 else tz v.natAbs v.natAbs
theorem Ie:Zn 0=32:=rfl
theorem Mr{v:Int}(h:v≠0):∃u,v.natAbs=(2*u+1)*2^Zn v:=by
 unfold Zn;rw[R6 h];exact DR _ _ (R3 _) (by lia)
theorem Zn_case(v:Int):(v=0/\Zn v=32)\/∃u,v.natAbs=(2*u+1)*2^Zn v:=by
 by_cases h:v=0
 .subst h;exact .inl ⟨rfl,Ie⟩
 .exact .inr (Mr h)
theorem pp(z:Nat):(0:Int)<2^z:=Int.pow_pos (by decide)
theorem Nc{a b:Nat}(h:a<=b):(2:Int)^a∣2^b:=by
 obtain⟨c,rfl⟩:=Nat.exists_eq_add_of_le h;rw[Int.pow_add];exact Int.dvd_mul_right _ _
theorem ple{a b:Nat}(h:a<=b):(2:Int)^a<=2^b:=Int.le_of_dvd (pp b) (Nc h)
theorem plt{a b:Nat}(h:a<b):(2:Int)^a<2^b:=by
 have:=ple (show a+1<=b from h);have e:(2:Int)^(a+1)=2^a*2:=Xz _ _;have:=pp a
 lia
theorem p32:(2:Int)^32=4294967296:=by decide
theorem RU{z:Nat}(h:z<=32):(2:Int)^z<=4294967296:=ple h
theorem Qj{z:Nat}(h:z<=32):(2:Int)^z∣4294967296:=Nc h
theorem Rz{z:Nat}(h:z<=32)(e:(2:Int)^z=4294967296):z=32:=by
 rcases U_ z 32 with c | c
 .have:=plt c;rw[p32] at this
  lia
 .lia
theorem Aa(v:Int):(2:Int)^Zn v∣v:=by
 rcases Zn_case v with⟨rfl,_⟩|⟨u,e⟩
 .exact⟨0,by lia⟩
 .have:(2:Int)^Zn v∣(v.natAbs:Int):=by
   rw[e];refine⟨2*(u:Int)+1,?_⟩
   push_cast
   rw[XA]
  exact Int.dvd_natAbs.mp this
theorem QE{v:Int}(h:v.natAbs<2^33):Zn v<=32:=by
 rcases Zn_case v with⟨_,e⟩|⟨u,e⟩
 .lia
 .rcases U_ 32 (Zn v) with c | c
  .exfalso
   have:=TC (show 2 >0 by decide) (show 33<=Zn v from c)
   have o:1*2^Zn v<=(2*u+1)*2^Zn v:=Ug _ (by lia)
   lia
  .exact c
structure Span where
 lo:Int
 hi:Int
 z:Nat
structure Sv (s:Span):Prop where
 l0:0<=s.lo
 lh:s.lo<=s.hi
 hW:s.hi<4294967296
 zz:s.z<=32
 dl:(2:Int)^s.z∣s.lo
 dh:(2:Int)^s.z∣s.hi
 one:s.lo=s.hi->s.z=Zn s.lo
structure In (v:Int) (s:Span):Prop where
 lo:s.lo<=v
 hi:v<=s.hi
 dv:(2:Int)^s.z∣v
noncomputable def single(v:Int):Span:=⟨v,v,Zn v⟩
noncomputable def settled(lo o:Int)(z:Nat):Span:=if lo=o then single lo else⟨lo,o,z⟩
noncomputable def whole:Span:=⟨0,4294967295,0⟩
noncomputable def all(z:Nat):Span:=⟨0,4294967296 - 2^z,z⟩
noncomputable def kept(lo o:Int)(z:Nat):Span:=if lo<0\/4294967296<=o then all z else settled lo o z
noncomputable def Rm(l r:Span):Span:=kept (l.lo+r.lo) (l.hi+r.hi) (min l.z r.z)
noncomputable def RO(l r:Span):Span:=kept (l.lo - r.hi) (l.hi - r.lo) (min l.z r.z)
noncomputable def moreS(s:Span)(n:Int):Span:=kept (s.lo+n) (s.hi+n) (min s.z (Zn n))
noncomputable def Rw(l r:Span):Span:=settled 0 (min l.hi r.hi - min l.hi r.hi %2^max l.z r.z) (max l.z r.z)
noncomputable def jst(C o:Int):Nat->Nat->Nat
 | 0,j=>j
 | k+1,j=>if (2:Int)^j<=C\/(2:Int)^j<=o then jst C o k (j+1) else j
noncomputable def jf(C o:Int)(z:Nat):Nat:=jst C o 33 z
noncomputable def orS(l r:Span)(lo:Int):Span:=settled lo (2^jf l.hi r.hi (min l.z r.z) - 2^min l.z r.z) (min l.z r.z)
noncomputable def P6(l r:Span):Span:=if l.hi<r.lo then single 1 else if r.hi<=l.lo then single 0 else⟨0,1,0⟩
noncomputable def P5(l r:Span):Span:=if r.lo=r.hi then kept (l.lo*2^(r.lo %32).toNat) (l.hi*2^(r.lo %32).toNat) (min 32 (l.z+(r.lo %32).toNat)) else whole
noncomputable def O3(l r:Span):Span:=if r.lo=r.hi then settled (l.lo / 2^(r.lo %32).toNat) (l.hi / 2^(r.lo %32).toNat) (l.z - (r.lo %32).toNat) else settled 0 l.hi 0
noncomputable def fitS(k:Nat)(base:Int)(s:Span):Span:=
 if base<=s.lo/\s.hi<base+2^k then s else settled base (base+2^k - 1 - (2^k - 1) %2^min s.z (Zn base)) (min s.z (Zn base))
noncomputable def aimV(m s:Nat)(v:Int):Int:=v %2^m*8*2^s
noncomputable def aimS(m s:Nat)(x:Span):Span:=if x.lo=x.hi then single (aimV m s x.lo) else settled 0 (aimV m s (2^m - 1)) (s+3)
theorem Bs{a b:Nat}{v:Int}(h:(2:Int)^a∣v):(2:Int)^min a b∣v:=Int.dvd_trans (Nc (Nat.min_le_left _ _)) h
theorem wM{a b:Nat}{v:Int}(h:(2:Int)^b∣v):(2:Int)^min a b∣v:=Int.dvd_trans (Nc (Wi _ _)) h
theorem Sv_single{v:Int}(C:0<=v)(o:v<4294967296):Sv (single v):=
 ⟨C,V2 _,o,QE (by lia),Aa v,Aa v,fun _=>rfl⟩
theorem Sv_whole:Sv whole:=⟨by decide,by decide,by decide,by decide,⟨0,by decide⟩,⟨4294967295,by decide⟩,fun h=>by exact absurd h (by decide)⟩
theorem ud{lo o:Int}{z:Nat}(l0:0<=lo)(J:lo<=o)(U:o<4294967296)(zz:z<=32)(C:(2:Int)^z∣lo)(I:(2:Int)^z∣o):Sv (settled lo o z):=by
 unfold settled
 split
 .exact Sv_single l0 (by lia)
 .rename_i c
  exact⟨l0,J,U,zz,C,I,fun e=>absurd e c⟩
theorem O7{z:Nat}(zz:z<=32):Sv (all z):=by
 have C:=pp z;have o:=RU zz;refine⟨V2 _,?_,?_,zz,⟨0,by show(0:Int)=_;lia⟩,Int.dvd_sub (Qj zz) (Int.dvd_refl _),fun e=> ?_⟩
 .show(0:Int)<=4294967296 - 2^z;lia
 .show(4294967296:Int) - 2^z<_;lia
 .have e':(0:Int)=4294967296 - 2^z:=e;show z=Zn 0
  rw[Ie];exact Rz zz (by lia)
theorem MY{z:Nat}{a b:Int}(C:(2:Int)^z∣a)(h:a<=b):a<=b - b %2^z:=by
 obtain⟨k,rfl⟩:=C;have o:=Int.ediv_le_ediv (pp z) h;rw[Int.mul_ediv_cancel_left _ (by have:=pp z;lia)] at o
 have I:=Int.mul_le_mul_of_nonneg_left o (Int.le_of_lt (pp z));have J:=WK b (2^z)
 lia
theorem Lj(z:Nat)(b:Int):(2:Int)^z∣b - b %2^z:=by
 have o:=WK b (2^z);exact⟨b / 2^z,by lia⟩
theorem Nl{lo o:Int}{z:Nat}(J:lo<=o)(zz:z<=32)(C:(2:Int)^z∣lo)(I:(2:Int)^z∣o):Sv (kept lo o z):=by
 unfold kept
 split
 .exact O7 zz
 .exact ud (by lia) J (by lia) zz C I
section
variable {l r : Span} {v w : Int} (hl : Sv l) (hr : Sv r) (iv : In v l) (iw : In w r)
include hl
theorem Sv_more(n:Int):Sv (moreS l n):=
 Nl (by have:=hl.lh;lia) (by have:=hl.zz;lia) (Int.dvd_add (Bs hl.dl) (wM (Aa n))) (Int.dvd_add (Bs hl.dh) (wM (Aa n)))
include iv
end
section
variable {l r : Span} {v w : Int} (hl : Sv l) (hr : Sv r)
include hl hr
end
structure Room (k:Nat) (base:Int):Prop where
 k20:k<=20
 b0:0<=base
 bd:(2:Int)^k∣base
 bW:base+2^k<=4294967296
theorem Sv_fit{k:Nat}{base:Int}{s:Span}(R:Room k base)(h:Sv s):Sv (fitS k base s):=by
 unfold fitS
 split
 .exact h
 .have h1:=R.b0;have I:=R.bW;have J:=pp k;have c:=h.zz;have C:=Lj (min s.z (Zn base)) (2^k - 1);have b:(0:Int)<=(2^k - 1) - (2^k - 1) %2^min s.z (Zn base):=MY (z:=min s.z (Zn base)) (a:=0) ⟨0,by lia⟩ (by lia)
  have U:=UY ((2:Int)^k - 1) (show(2:Int)^min s.z (Zn base)≠0 by have:=pp (min s.z (Zn base));lia)
  have o:(2:Int)^min s.z (Zn base)∣base:=wM (Aa base);have e:base+2^k - 1 - (2^k - 1) %2^min s.z (Zn base)=base+((2^k - 1) - (2^k - 1) %2^min s.z (Zn base)):=by lia
  rw[e];exact ud h1 (by lia) (by lia) (by lia) o (Int.dvd_add o C)
theorem KQ{m s:Nat}(h:m+s<=7)(v:Int):0<=aimV m s v/\aimV m s v<=aimV m s (2^m - 1)/\aimV m s v<1024:=by
 have C:=UY v (show(2:Int)^m≠0 by have:=pp m;lia)
 have o:=U2 v (pp m);have e:((2:Int)^m - 1) %2^m=2^m - 1:=Int.emod_eq_of_lt (by have:=pp m;lia) (by lia)
 have I:(2:Int)^m*2^s<=128:=by rw[<- Int.pow_add];exact ple h
 unfold aimV;rw[e];have hs:=pp s;refine⟨?_,?_,?_⟩
 .exact Int.mul_nonneg (by lia) (by lia)
 .exact Vo (by lia) (by lia)
 .have h3:v %2^m*8*2^s<=(2^m - 1)*8*2^s:=Vo (by lia) (by lia)
  have J:((2:Int)^m - 1)*8*2^s=8*(2^m*2^s) - 8*2^s:=by
   rw[XA (2^m - 1) 8,V9,Int.sub_mul,Int.mul_sub]
   lia
  lia
theorem Mb(m s:Nat)(v:Int):(2:Int)^(s+3)∣aimV m s v:=by
 refine⟨v %2^m,?_⟩
 unfold aimV;rw[Int.pow_add];show _=2^s*8*_
 simp only[V9,XA,Int.mul_left_comm]
theorem Sv_aim{m s:Nat}(h:m+s<=7)(x:Span):Sv (aimS m s x):=by
 obtain⟨a1,a2,a3⟩:=KQ h x.lo;obtain⟨o,C,b3⟩:=KQ h (2^m - 1);unfold aimS
 split
 .exact Sv_single a1 (by lia)
 .exact ud (V2 _) o (by lia) (by lia) ⟨0,by lia⟩ (Mb _ _ _)
inductive Op8 where
 | add | sub | and | or | xor | less | left | right
 deriving DecidableEq
noncomputable def jv:Op8->Int->Int->Int
 | .add,v,w=>(v+w) %4294967296
 | .sub,v,w=>(v - w) %4294967296
 | .and,v,w=>Builtin.bitAnd v w
 | .or,v,w=>Builtin.bitOr v w
 | .xor,v,w=>Builtin.bitXor v w
 | .less,v,w=>if v<w then 1 else 0
 | .left,v,w=>v*2^(w %32).toNat %4294967296
 | .right,v,w=>v / 2^(w %32).toNat
noncomputable def jS0:Op8->Span->Span->Span
 | .add,l,r=>Rm l r
 | .sub,l,r=>RO l r
 | .and,l,r=>Rw l r
 | .or,l,r=>orS l r (max l.lo r.lo)
 | .xor,l,r=>orS l r 0
 | .less,l,r=>P6 l r
 | .left,l,r=>P5 l r
 | .right,l,r=>O3 l r
noncomputable def jS(o:Op8)(l r:Span):Span:=
 if o≠ .add/\o≠ .sub/\l.lo=l.hi/\r.lo=r.hi then single (jv o l.lo r.lo) else jS0 o l r
end SpM
namespace L2
open PySem PySem.Spec PyProof.Rows PyProof PySem.SeqAt
section
variable {X : Cx}
def NC(K:Frag)(I:Bool):R2:=fun x y H Q=>∃(a b:Addr) (C o:List Int),x= .ref a/\y= .ref b/\SqT K H a (C.map V.int)/\SqT K H b (o.map V.int)/\Q (.bl (if I then !decide (C=o) else decide (C=o))) H
theorem n8(ns:List Int):shaped (.tuple (ns.map PyData.int))=true:=by
 have C:=W.depthAll_ints ns;have o:PyData.depth (.tuple (ns.map PyData.int))<=64:=by simp only[PyData.depth];lia
 show(PyData.canLay0 (.tuple (ns.map PyData.int)) && decide (PyData.depth (.tuple (ns.map PyData.int))<=64))=true
 rw[Su];exact⟨by simp only[PyData.canLay0];exact W.canLayAll0_ints ns,R0 o⟩
theorem qH{h:Heap}{a:Addr}{vs:List Value}{ns:List Int}(I:h.IsTuple a vs.toArray)(C:IntsAre vs ns):Reads h (.ref a) (.tuple (ns.map PyData.int)) []:=by
 obtain⟨o,ho,J,n,hd⟩:=I;exact Reads.tuple ho J hd (by simpa using W.readsAll_of_ints C)
theorem DQ(f:X.A.units+64<cLine):OpR X (compareOp .Eq) (NC X.K false):=by
 intro C s Z H x y v u Q I d j h;obtain⟨a,b,J,U,rfl,rfl,l,e,q⟩:=h
 cases d
 cases j
 obtain⟨i,r,pl,_⟩:=I.tuple l;obtain⟨c,k,o,_⟩:=I.tuple e;exact eq_dataH_same (qH pl (uc r)) (qH o (uc k)) (n8 J) (n8 U) f (by simp only[noMix];exact W.noMix_ints J U) (by simp only[PySem.Spec.same];rw[W.same_ints];exact⟨.bl _,H,I,rfl,q⟩)
theorem ER:fq X (.type "int") (fun xs H Q=>∃k,xs=[.bl k]/\Q (.int (if k then 1 else 0)) H):=by
 intro o s Z H xs C Q I r h;exact IG o s Z H xs C Q I r (Or.inr h)
def P8(o:TI):TI:=fun Z H R=>o Z H fun J C=>aD (R J C)
theorem bY{a o:Expr}{b:TI}(h:PI X a o b):PI X a o (P8 b):=by
 intro C s Z H R I hw;refine thn (h C s Z H _ I hw) fun v q m=>thn m fun p u e=> ?_
 obtain⟨U,n,j,J,k,f,l,d,i,c,r⟩:=e;exact⟨U,n,j,J,k,f,l,d,i,c,r.out⟩
end
end L2
namespace L2
open PySem PySem.Spec PyProof.Rows
section
variable {X : Cx}
structure cV (P:Program) (w:World) (K:Frag) (mg:Str->Option Value) (base:Heap) (k:Nat) (C:Addr) (m:Str) (ps:List Str) (sp:Sp):Prop where
 ex:∃(f:Addr) (fd:FuncData),Cls K C/\JM K C m f/\gp K fd ps []/\iW P w K mg base CX0 k f fd ps sp
theorem cV.mono{P:Program}{w:World}{K:Frag}{mg:Str->Option Value}{base:Heap}{j k:Nat}{C:Addr}{m:Str}{ps:List Str}{sp:Sp}(h:cV P w K mg base j C m ps sp)(o:j<=k):cV P w K mg base k C m ps sp:=by
 obtain⟨f,I,a,J,U,b⟩:=h.ex;exact⟨f,I,a,J,U,b.mono o⟩
theorem dq{k:Nat}{C:Addr}{m:Str}{ps:List Str}{sp:Sp}{o e:Expr}{U:List Expr}{i:TE}{t:TA}{J I:Pos}{pl:Sem Bool}(h:cV X.prog X.w X.K X.mg X.base k C m ps sp)(n:Room k X.A)(he:PE X o i)(p:PA X (e::U) t)
  (b:starEach (e::U) X.env=(false,eval e X.env)::starEach U X.env:=by rfl) (a:(backTo I (starEach U X.env)).any (·.1)=false:=by rfl)
  (j:eval (.Call (.Attribute o m J) (e::U) [] I) X.env=(do
   let d <-eval o X.env
   standAt J.atName
   let (f,first) <-holding [d] (getMethod d m pl)
   callWith I f first (backTo I (starEach (e::U) X.env)) (backToKw I (keywordEach [] X.env))):=by rfl):
  PE X (.Call (.Attribute o m J) (e::U) [] I) (H_ C m sp [] E0 i t):=by
 obtain⟨f,q,c,hm,l,F⟩:=h.ex;exact MR (pl:=pl) he c hm F n l .nil Ba p b a j
theorem mP{k:Nat}{C:Addr}{m:Str}{ps:List Str}{sp:Sp}{o:Expr}{a:TE}{J I:Pos}{pl:Sem Bool}(h:cV X.prog X.w X.K X.mg X.base k C m ps sp)(e:Room k X.A)(he:PE X o a)
  (b:eval (.Call (.Attribute o m J) [] [] I) X.env=(do
   let U <-eval o X.env
   standAt J.atName
   let (f,first) <-holding [U] (getMethod U m pl)
   callWith I f first (backTo I (starEach [] X.env)) (backToKw I (keywordEach [] X.env))):=by rfl):
  PE X (.Call (.Attribute o m J) [] [] I) (H_ C m sp [] E0 a y_):=by
 obtain⟨f,i,c,hm,d,F⟩:=h.ex;exact KA (pl:=pl) he c hm F e d .nil Ba b
structure eV (K:Frag) (mg:Str->Option Value) (x:Str) (C:Addr):Prop where
 mg:mg x=some (.ref C)
 cl:Cls K C
 mks:W.makesIn K C=true
 kp:W.keepIn K (.ref C)=true
theorem yP{k:Nat}{C:Addr}{x:Str}{ps:List Str}{sp:Sp}{e:Expr}{I:List Expr}{t:TA}{p o:Pos}(c:eV X.K X.mg x C)(h:cV X.prog X.w X.K X.mg X.base k C "__init__" ps sp)(d:Room (k+1) X.A)(a:Gl X x)
  (i:PA X (e::I) t) (U:(x==("__debug__":Str))=false:=by decide) (he:starEach (e::I) X.env=(false,eval e X.env)::starEach I X.env:=by rfl) (J:(backTo o (starEach I X.env)).any (·.1)=false:=by rfl):
  PE X (.Call (.Name x p) (e::I) [] o) (Hy C sp [] E0 t):=by
 obtain⟨f,j,_,hm,b,F⟩:=h.ex;exact Mm ⟨c.mks,hm.at_,hm.fn,c.kp⟩ F d a c.mg b .nil Ba i U he J
structure kQ (K:Frag) (C:Addr) (m qual:Str) (st:Stmt) (ps:List Str):Prop where
 ex:∃(f:Addr) (fd:FuncData),Fun K m qual st f fd/\JM K C m f/\gp K fd ps []
theorem kQ.has{P:Program}{w:World}{K:Frag}{mg:Str->Option Value}{base:Heap}{k:Nat}{C:Addr}{m I:Str}{st:Stmt}{N ps:List Str}{sp:Sp}(D:kQ K C m I st ps)(c:Cls K C)(S:ak N ps (af st))(len:∀vs H Q E,sp vs H Q E->vs.length=ps.length)
  (U:∀(f:Addr) (J:Value) (A:Around) (o:List Env) (s:Shared) (H:Hp) (vs:List V) (Q:VK) (E:XK),Room k (A.deeper (envOfC I (af st) s.heap.objs.size f J))->sp vs H Q E->
   ∃t,PSs (eE CX0 P w K mg base N I (af st) f J A o s H E).nox (bF st) t/\t {nx:=fun _ e=>Q .non e,rt:=Q} (start N vs) H):cV P w K mg base (k+1) C m ps sp:=by
 obtain⟨f,b,F,hm,a⟩:=D.ex;exact⟨f,b,c,hm,a,F.ok S len fun J A o s H vs Q E d h=>U f J A o s H vs Q E d h⟩
def BdM(x o:Str)(st:Stmt)(ps:List Str):Prop:=∀(kV C U:Value) (a:Option Addr) (J b:Value) (I:List Value),I.length=ps.length->
 bindArgs (W.fnOf x o (cA st) (bF st) (af st) .none kV C U a J b) ⟨I,[]⟩=pure (ps.zip I)
theorem cJ{K:Frag}{x o:Str}{st:Stmt}{ps:List Str}{C f:Addr}{d J:Option Addr}{sl:Array (Option Value)}{i kV e I cd ct:Value}(b:BdM x o st ps)
  (a:W.findIn K (.ref C) x=some (some (.ref f))) (l:K.lookup f=some ⟨i,d,.func (W.fnOf x o (cA st) (bF st) (af st) .none kV e I J cd ct),sl⟩) (c:W.codeIn K cd o=true) (U:W.isFn K (.ref f)=true) (k:W.keepIn K (.ref f)=true):
  kQ K C x o st ps:=by
 have F:=Cb (st:=st) l c k;exact⟨f,_,F,⟨a,U,k⟩,F.binds b⟩
theorem yz{K:Frag}{h:Heap}{mg:Str->Option Value}{x:Str}{C:Addr}(X:K.In h)(G:h.Ns mainGlobals mg)(a:W.nsIn K mainGlobals x=some (some (.ref C)))
  (pg:W.plainGet K C Str.empty=true) (hd:W.hasDictIn K C=true) (po:W.plainOver K C=true) (sa:W.findIn K (.ref C) "__setattr__"=some (some (.builtin "object.__setattr__")))
  (mk:W.makesIn K C=true) (kp:W.keepIn K (.ref C)=true):eV K mg x C:=⟨Vr X G a,⟨pg,hd,po,sa⟩,mk,kp⟩
theorem BP:fq X (.type "dict") (fun xs H Q=>∃a kvs,xs=[V.ref a]/\H a=some (.dK kvs)/\∀p,H p=none->Q (.ref p) (upd H p (.dK kvs))):=by
 intro o s Z H xs d Q I r h;obtain⟨a,kvs,rfl,b,q⟩:=h;obtain⟨u,rfl,U⟩:=iC r
 cases U
 exact JW I (.inl b) fun p c C J=>⟨.ref p,_,J,rfl,q p C⟩
theorem ig:fq X (.type "tuple") (fun xs H Q=>∃p ys,xs=[V.ref p]/\SqL X.K H p ys/\∀l,H l=none->Q (.ref l) (upd H l (.tup ys))):=by
 intro o s Z H xs C Q I r h;obtain⟨p,ys,e,J,q⟩:=h;exact gv o s Z H xs C Q I r ⟨p,ys,e,.inl ⟨J,q⟩⟩
end
end L2
namespace L2
open PySem PySem.Spec PyProof.Rows
theorem cy.there{P:Program}{w:World}{H:Hp}{h:Heap}{a:Addr}{o:HO}(x:cy P w H h a o):∃I,h.get? a=some I:=by
 cases o with
 | lst xs=>obtain⟨_,_,_,_,q⟩:=x;exact⟨_,q⟩
 | tup xs=>obtain⟨_,_,_,_,q,_⟩:=x;exact⟨_,q⟩
 | dK kvs=>obtain⟨_,_,_,_,_,_,_,q,_⟩:=x;exact⟨_,q⟩
 | dT kvs=>obtain⟨_,_,_,_,_,_,_,q,_⟩:=x;exact⟨_,q⟩
 | set S n=>obtain⟨_,_,_,_,q,_⟩:=x;exact⟨_,q⟩
 | ins C dx fs=>obtain⟨_,_,_,q,_⟩:=x;exact⟨_,q⟩
 | own y=>exact x
 | xd fs=>obtain⟨_,⟨_,_,_,q,_⟩,_⟩:=x;exact⟨_,q⟩
 | rng lo hi=>obtain⟨_,_,_,q⟩:=x;exact⟨_,q⟩
 | frz I u=>obtain⟨q,_⟩:=x;exact⟨_,q⟩
 | tbl ps=>exact⟨_,(show h.get? a=some _ from x)⟩
 | met f y=>exact⟨_,(show h.get? a=some _ from x)⟩
 | ext φ=>obtain⟨_,q,_⟩:=x;exact q
structure AD (P:Program) (w:World) (l:List Env) (H:Hp) (s:Shared) (H':Hp) (B h':Heap):Prop where
 un:Un (frs l) [] H H' s.heap h'
 hok:HOk P w H' h'
 st:B.StaysIn h'
 kb:∀b o,s.heap.get? b=some o->H b=none->b ∉ frs l->B.get? b=some o
 hb:∀a u,H' a=some u->∃o,B.get? a=some o
 ab:∀b o,s.heap.get? b=some o->b ∉ frs l->∃o',B.get? b=some o'
 nf:∀b∈frs l, ∃o,h'.get? b=some o/\∀vs,o.data≠ .fields vs
theorem AD.next{P:Program}{w:World}{l:List Env}{H i:Hp}{s:Shared}{B k f:Heap}(F:AD P w l H s i B k)(st:B.StaysIn f)(us:k.UpToSlots f):AD P w l H s i B f where
 un:=by
  refine⟨fun b o q n C _=>st _ _ (F.kb b o q n C),fun b o q n C j=> ?_,F.un.free,fun b o q j=> ?_,F.un.tups,F.un.frzs,F.un.tbls⟩
  .obtain⟨sl,e⟩:=F.un.slot b o q n C j;obtain⟨c,I,d⟩:=F.nf b C;rw[e] at I
   cases I
   obtain⟨U,J⟩:=us b _ e d;exact⟨U,J⟩
  .by_cases C:b∈frs l
   .obtain⟨c,I,d⟩:=F.nf b C;obtain⟨U,J⟩:=us b _ I d;exact⟨_,J⟩
   .obtain⟨c,I⟩:=F.ab b o q C;exact⟨c,st _ _ I⟩
 hok:=fun a u e=>(F.hok a u e).stay (fun b p C q=>by
  have:∃v,i b=some v:=by
   rcases C with rfl | C
   .exact⟨_,e⟩
   .exact⟨_,C⟩
  obtain⟨v,m⟩:=this;obtain⟨c,I⟩:=F.hb b v m;have J:=F.st _ _ I;rw[q] at J
  cases J
  exact st _ _ I) (fun _ q=>q) fun _ _ q=>q
 st:=st
 kb:=F.kb
 hb:=F.hb
 ab:=F.ab
 nf:=fun b C=>by
  obtain⟨c,I,d⟩:=F.nf b C;obtain⟨U,J⟩:=us b _ I d;exact⟨_,J,d⟩
section
variable {X : Cx} {pins : List (Addr × Obj)} {σ : St} {H H' : Hp} {s : Shared} {B h' : Heap}
theorem AD.pop(F:AD X.prog X.w X.stack H s H' B h')(I:Inv X pins Z H s)(hs:X.stack=X.env::X.outer)(a:X.ex=[]):AD X.prog X.w X.outer X.H₀ X.s₀ H' B h':=by
 have J:Inv X pins Z H' {s with heap:=h',gens:=s.gens,drawn:=s.drawn,toks:=s.toks}:=I.call (ch:=[]) F.un F.hok I.bare (fun b z=>absurd z (by simp))
 have U:∀b:Addr,b ∉ X.ex:=fun b z=>by rw[a] at z;exact absurd z (by simp)
 have c:∀b o,X.s₀.heap.get? b=some o->b ∉ frs X.outer->b ∉ frs X.stack:=fun b o q C z=>by
  rcases Se.mp (I.stkSub b z) with e | e
  .have h1:=R_ q;have f:=I.ok.above;rw[e] at h1;exact absurd (Sb h1 f) (TY _)
  .exact C e
 refine⟨?_,F.hok,F.st,fun b o q n C=> ?_,F.hb,fun b o q C=> ?_,fun b C=> ?_⟩
 .have u:=J.base;rw[a] at u;exact u
 .exact F.kb b o (I.base.keep b o q n C (U b)) (I.base.free b o q n (U b)) (c b o q C)
 .obtain⟨o2,e2⟩:=I.base.there b o q (U b);exact F.ab b o2 e2 (c b o q C)
 .refine F.nf b ?_
  rw[hs];obtain⟨e,he,d⟩:=Ux.mp C;exact Ux.mpr ⟨e,R8 _ he,d⟩
end
abbrev vbm:List Value:=[.type "ValueError",.type "Exception",.type "BaseException",.type "object"]
structure GW (K:Frag) (C:Addr):Prop where
 ex:W.excIn K C vbm "ValueError.__new__"=true
theorem GW.obj{K:Frag}{C:Addr}{h:Heap}(c:GW K C)(X:K.In h):∃bm N nm q bs hdct sn sub ab col dd k0 k1 k2 k3 k5 mN,
  h.get? C=some (excClassObj nm q C N bs bm hdct sn sub ab col dd k0 k1 k2 k3 k5 "ValueError.__new__")/\h.Ns N mN/\mN "__init__"=none/\OwnTail h vbm bm:=by
 have q:=c.ex;unfold W.excIn at q
 split at q
 case h_2=>cases q
 case h_1 dd cd sl ho=>
  split at q
  case h_2=>cases q
  case h_1 C' bm k0 k1 k2 k3 n k5 hm hs=>
   rw[Su,Su,Su,Su,Su] at q;obtain⟨⟨⟨⟨⟨k,d⟩,f⟩,i⟩,I⟩,p⟩:=q;have a:=Tc.mp k;have b:=Tc.mp d;have j:=Tc.mp p;subst a b;obtain⟨nm,bs,o,J,e,hd,sn,sub,ab,col,del⟩:=cd;have m:del=false:=by simpa using f
   have l:o= .ref C'::bm:=hm;subst m l;have U:sl= #[k0,k1,k2,k3,some (.builtin "ValueError.__new__"),k5]:=by
    apply Array.ext'
    exact hs
   subst U;exact⟨bm,J,nm,e,bs,hd,sn,sub,ab,col,dd,k0,k1,k2,k3,k5,_,X _ _ ho,WD (XB X I),W.nsMap_none_of_in X I j,W.tail_of_in X i⟩
section
variable {P : Program} {w : World} {K : Frag} {mg : Str → Option Value} {base : Heap} {N : List Str} {qual : Str} {scope : Scope} {f : Addr} {cd : Value} {A : Around} {outer : List Env} {s₀ : Shared} {H₀ : Hp} {E : XK}
def ON(E:XK)(C:Addr):TS:=fun _ _ H=>E (.ref C) none H
end
def Et(CX:CXT)(X:Cx)(I:St->XK):Prop:=∀(o:List (Addr × Obj)) (Z:St) (H:Hp) (s:Shared) (e:Value) (C:Shared),Inv X o Z H s->CX X.stack H s (I Z) e C->X.xe e C
theorem bE{X:Cx}{st:Stmt}{t:TS}(h:PS X.nox st t):PS X st t:=fun o s Z H D I hw=>
 S8 (h o s Z H D (I.wish _) hw) (fun _ _ q=>q.unwish) fun _ _ z=>False.elim z
def O2(sp:Sp)(C:St->XK)(t:TA):TE:=fun Z H Q=>t Z H fun vs o=>sp vs o Q (C Z)
section
variable {X : Cx}
noncomputable abbrev Cx.inTry(X:Cx)(C:Value->Shared->Prop)(o:List (Addr × Obj)):Cx:={X with xe:=C,pn:=X.pn++o}
noncomputable abbrev Cx.inExc(X:Cx)(e:Addr):Cx:={X with A:=X.A.mark (some (.ref e)),calm:=false,xe:=fun _ _=>False}
variable {pins : List (Addr × Obj)} {σ : St} {H : Hp} {s : Shared}
theorem Inv.inTry(I:Inv X pins Z H s)(o:Value->Shared->Prop):Inv (X.inTry o pins) [] Z H s:=
 ⟨⟨I.ok.mod,I.ok.kind,I.ok.glob,I.ok.blt,I.ok.above,I.ok.inj,I.ok.has,I.ok.cab,I.ok.hd,I.ok.frames,I.ok.stk,I.ok.exf,I.ok.bs,I.ok.bsz,I.ok.noex,I.ok.exfs,I.ok.funs,I.ok.frf⟩,I.os,I.bare,I.base,I.loc,I.cell,I.free,I.freeC,
  fun p C=>I.pin p (by simpa using C),I.hok,I.len⟩
theorem Inv.outTry{C:Value->Shared->Prop}{o:List (Addr × Obj)}(I:Inv (X.inTry C pins) o Z H s):Inv X pins Z H s:=
 ⟨⟨I.ok.mod,I.ok.kind,I.ok.glob,I.ok.blt,I.ok.above,I.ok.inj,I.ok.has,I.ok.cab,I.ok.hd,I.ok.frames,I.ok.stk,I.ok.exf,I.ok.bs,I.ok.bsz,I.ok.noex,I.ok.exfs,I.ok.funs,I.ok.frf⟩,I.os,I.bare,I.base,I.loc,I.cell,I.free,I.freeC,
  fun p J=>I.pin p (Vv _ J),I.hok,I.len⟩
theorem Inv.inExc(I:Inv X pins Z H s)(e:Addr):Inv (X.inExc e) pins Z H s:=
 ⟨⟨I.ok.mod,I.ok.kind,I.ok.glob,I.ok.blt,I.ok.above,I.ok.inj,I.ok.has,I.ok.cab,(fun z=>by cases z),I.ok.frames,I.ok.stk,I.ok.exf,I.ok.bs,I.ok.bsz,I.ok.noex,I.ok.exfs,I.ok.funs,I.ok.frf⟩,I.os,I.bare,I.base,I.loc,I.cell,I.free,I.freeC,
  I.pin,I.hok,I.len⟩
theorem Inv.outExc{e:Addr}(o:X.Ok)(I:Inv (X.inExc e) pins Z H s):Inv X pins Z H s:=
 ⟨o,I.os,I.bare,I.base,I.loc,I.cell,I.free,I.freeC,I.pin,I.hok,I.len⟩
end
end L2
namespace L2
open PySem PySem.Spec PyProof.Rows PyProof PySem.SeqAt
theorem yG:∀{ns:List Int}{o:List Value},aY (ns.map V.int) o->∃ps:List (Int × Tok),o=ps.map (fun p=>Value.int p.1 p.2)/\ps.map (·.1)=ns
 | [],o,r=>by
  cases r
  exact⟨[],rfl,rfl⟩
 | n::ns,o,r=>by
  cases r with
  | cons q r=>
   obtain⟨ps,I,C⟩:=yG r;obtain⟨t,e⟩:=q;exact⟨(n,t)::ps,by rw[e,I];rfl,by rw[<- C];rfl⟩
theorem rP(ps:List (Int × Tok)):(ps.map (fun p=>Value.int p.1 p.2)).toArray=intItems ps.toArray:=by
 simp [intItems]
section
variable {X : Cx}
theorem KP(w:X.calm=true):fq X (.builtin "sum") (fun xs H Q=>∃(p:Addr) (ns:List Int),xs=[.ref p]/\SqL X.K H p (ns.map V.int)/\(∀j,j<ns.length->InLong (ns.getD j 0)/\InLong (ns.take (j+1)).sum)/\Q (.int ns.sum) H):=by
 intro U s Z H xs z Q I r h;obtain⟨p,ns,rfl,f,c,q⟩:=h;obtain⟨u,rfl,i⟩:=iC r
 cases i
 obtain⟨v,d,pl,y⟩:=I.list f;obtain⟨C,m,J⟩:=yG d;have a:=pl.isList;rw[m,rP] at a;have o:C.length=ns.length:=by rw[<- J,be]
 refine sum_intList (I.ok.hd w) a (fun j l=> ?_) fun x n b k=> ?_
 .have hj':j<ns.length:=by simpa [o] using l
  rw[numAt_eq,preSum_eq];have:=c j hj'
  simp only[J]
  exact this
 .rw[preSum_eq];have e:((C.toArray.toList.map (·.1)).take C.toArray.size).sum=ns.sum:=by
   show((C.map (·.1)).take C.length).sum=ns.sum
   rw[J,o,Sl]
  rw[e];exact⟨.int ns.sum,H,I.kept (t':=n) k,⟨_,rfl⟩,q⟩
theorem Iz(E:X.calm=true):fq X (.builtin "max") (fun xs H Q=>∃(p:Addr) (ns:List Int),xs=[.ref p]/\SqL X.K H p (ns.map V.int)/\ns≠[]/\∀m,m∈ns->(∀n∈ns,n<=m)->Q (.int m) H):=by
 intro b s Z H xs N Q I r h;obtain⟨p,ns,rfl,w,U,q⟩:=h;obtain⟨u,rfl,x⟩:=iC r
 cases x
 obtain⟨D,l,pl,L⟩:=I.list w;obtain⟨o,A,d⟩:=yG l;have c:=pl.isList;rw[A,rP] at c;have C:o.length=ns.length:=by rw[<- d,be]
 have M:0<ns.length:=List.length_pos_iff.mpr U;refine max_intList (I.ok.hd E) c (by show 0<o.length;lia) fun v F B e k=> ?_
 have z:o.toArray.size=ns.length:=by show o.length=_;exact C
 rw[z] at e;obtain⟨G,f⟩:=argBest_gt (numAt o.toArray) (ns.length - 1);obtain⟨t,rfl⟩:=intItems_at e;have a:∀j,numAt o.toArray j=ns.getD j 0:=fun j=>by rw[numAt_eq];show(o.map (·.1)).getD j 0=_;rw[d]
 rw[a];rw[a] at f;generalize argBest (fun i j=>decide (numAt o.toArray i >numAt o.toArray j)) (ns.length - 1)=k0 at*
 have J:k0<ns.length:=by lia
 refine⟨.int (ns.getD k0 0),H,I.kept (t':=B) k,⟨_,rfl⟩,q _ ?_ fun n y=> ?_⟩
 .simp [List.getD,R1 J]
 .obtain⟨j,hj,rfl⟩:=List.mem_iff_getElem.mp y;have:=f j (by lia)
  rw[a] at this
  simpa [List.getD,R1 hj] using this
end
theorem By{X:Cx}{k:Nat}{C:Addr}{x:Str}{ps:List Str}{sp:Sp}{p o:Pos}(c:eV X.K X.mg x C)(h:cV X.prog X.w X.K X.mg X.base k C "__init__" ps sp)(a:Room (k+1) X.A)(J:Gl X x)
  (I:(x==("__debug__":Str))=false:=by decide):PE X (.Call (.Name x p) [] [] o) (Hy C sp [] E0 y_):=by
 obtain⟨f,b,_,hm,U,F⟩:=h.ex;exact KY ⟨c.mks,hm.at_,hm.fn,c.kp⟩ F a J c.mg U .nil Ba I
noncomputable def Ite(K : Frag)(a : Addr) : It :=
  ⟨fun i H => ∃o x, SqL K H a o ∧ o[i]? = some x,
   fun i H v C => ∃p x, H p = none ∧ v = .ref p ∧ C = upd H p (.tup [.int i, x]) ∧ ∀o, SqL K H a o → o[i]? = some x,
   fun i H => ∃o, SqL K H a o ∧ o.length = i⟩
def EAt(e it a:Addr)(i:Nat)(h:Heap):Prop:=(∃o,IsEnum h e it i o)/\h.IsListIter it a i
theorem IV{P:Program}{w:World}{K:Frag}{F:List Expr}{tk:Nat}{tp:Pos}{a e it:Addr}(m:e≠it)(u:a≠it)(Y:a≠e):
  yK P w K (.Tuple F tk tp) (Ite K a) [e,it] e (EAt e it a) where
 mem:=by simp
 obj:=fun i h st x p=>by
  obtain⟨⟨U,c⟩,n⟩:=st;have j:x=e\/x=it:=by simpa using p
  rcases j with rfl | rfl
  .exact⟨_,c,fun v q=>by cases q⟩
  .obtain⟨o,ho,L,hd⟩:=n;exact⟨o,ho,fun v q=>by rw[hd] at q;cases q⟩
 keep:=fun i h N st k=>by
  obtain⟨⟨U,c⟩,⟨o,ho,hr⟩⟩:=st;exact⟨⟨U,k e (by simp) _ c⟩,⟨o,k it (by simp) _ ho,hr⟩⟩
 item:=by
  intro X hP hw hK L i y s Z H E I M st W;subst hP hw hK;obtain⟨xs,x,G,e1⟩:=W;obtain⟨⟨U,c⟩,n⟩:=st;obtain⟨l1,r1,pl,_⟩:=I.list G;have hh:X.A.in1.handled=none:=I.ok.hd L;have R:=Ww (prog:=X.prog) (w:=X.w) hh it a u l1.toArray;obtain⟨u1,g1,w1⟩:=r1.get e1;have ab:i<l1.toArray.size:=by have:=(RX.mp g1).1;simpa using this
  have d:e<s.heap.objs.size:=R_ c;have D:it<s.heap.objs.size:=by obtain⟨o,ho,_⟩:=n;exact R_ ho
  refine U6 R c ⟨n,pl.isList⟩ ab m (by simp [m,SD Y]) fun x' N r p ho hs hT au kk=> ?_
  have j:u1=x':=by
   have p:l1.toArray[i]? =some x':=p;rw[T9,g1] at p;exact Sj p
  subst j;refine⟨_,rfl,UN ho fun l B J=> ?_⟩
  have J:Heap.SameBut e N l:=J;have O:∀b o,b≠e->N.get? b=some o->l.get? b=some o:=fun b o f z=>J.extBut _ _ f z
  have kept:∀b o,b ∉ [e,it]->s.heap.get? b=some o->l.get? b=some o:=fun b o f z=>by
   have C:b≠e/\b≠it:=by simpa using f
   exact O b o C.1 (kk b o C.1 C.2 z)
  refine⟨.ref s.heap.objs.size,upd H s.heap.objs.size (.tup [.int i,x]),?_,rfl,⟨_,x,I.fresh,rfl,rfl,fun zs hz=>by rw[I.list_inj hz G];exact e1⟩,?_,fun b f=> ?_⟩
  .refine I.turnedN (t':=r+1) (ch:=[e,it]) kept M (R3 _) ⟨by show 2<=sizeLine;decide,[.int i r,u1],.cons ⟨_,rfl⟩ (.cons w1 .nil),⟨_,O _ _ (Tz d) hT,rfl,_,rfl⟩⟩
  .refine⟨⟨_,by simpa using B⟩,?_⟩
   obtain⟨o,T,hr⟩:=hs.1;exact⟨o,O _ _ (SD m) T,hr⟩
  .have h0:=(M b f).1;rw[aj]
   .exact h0
   .have C:b=e\/b=it:=by simpa using f
    rcases C with rfl | rfl
    .exact Sk d
    .exact Sk D
 done:=by
  intro X hP hw hK L i y s Z H E I M st W;subst hP hw hK;obtain⟨xs,G,ar⟩:=W;obtain⟨⟨U,c⟩,n⟩:=st;obtain⟨l1,r1,pl,_⟩:=I.list G;have hh:X.A.in1.handled=none:=I.ok.hd L;have R:=Ww (prog:=X.prog) (w:=X.w) hh it a u l1.toArray;have z1:=r1.length;have hi:i=l1.toArray.size:=by simp only[R7];lia
  subst hi;refine Vd R c ⟨n,pl.isList⟩ fun N ke=>⟨rfl,I.turnedL (t':=s.toks) (ch:=[e,it]) (fun b o f z=> ?_) M⟩
  have C:b≠e/\b≠it:=by simpa using f
  exact ke _ _ C.2 z
 self:=fun A i s Q E st h=>by
  obtain⟨⟨U,c⟩,_⟩:=st;exact Uh c h
section
variable {X : Cx}
def Qo(K:Frag)(I:TA):TI:=fun Z H R=>I Z H fun vs o=>∃a,vs=[.ref a]/\(∃C,SqL K o a C)/\R (Ite K a) o
theorem Hn{d:Expr}{l:TA}{p U r:Pos}{c:List Expr}{y:Nat}(m:Gl X "enumerate")(hm:X.mg "enumerate"=none)(E:PA X [d] l)(hs:starEach [d] X.env=[(false,eval d X.env)]:=by rfl):
  PI X (.Tuple c y r) (.Call (.Name "enumerate" p) [d] [] U) (Qo X.K l):=by
 intro J s Z H R I h;refine Call_ (lL I m hm oQ (SZ (cw (E U J s Z H _ I h) fun M i vs v f D B=> ?_) (by rw[hs];rfl) (by rfl)))
 obtain⟨a,e,⟨F,A⟩,q⟩:=B;subst e;obtain⟨L,rfl,j⟩:=iC D
 cases j
 obtain⟨l1,x,pl,_⟩:=f.list A;have la:a<i.heap.objs.size:=by obtain⟨o,n,z,_⟩:=pl;exact R_ z
 refine call_enumerate_list pl.isList fun G z1 z2 _ w=>Uh z1 ?_
 generalize k:i.heap.objs.size=n at*;refine⟨n+1,[n+1,n],_,_,v,rfl,f.kept (t':=i.toks) w,IV (Wn n) (Sk la) (Sk (Vc la)),⟨⟨_,z1⟩,z2⟩,fun b u=> ?_,q⟩
 have C:n<=b:=by
  have C:b=n+1\/b=n:=by simpa using u
  unfold Addr at*
  lia
 exact f.fpOk (by rw[k];exact C) (f.hok.fresh (by rw[k];exact C))
end
theorem D8{K:Frag}{a:Addr}{xs:List V}{g:TG}{f:TS}{D:pD}{Z:St}{H:Hp}(o:Nat->St->Hp->Prop)(k:o 0 Z H)(l:∀i Z H,o i Z H->SqL K H a xs)
  (hs:∀i x p Z H,xs[i]? =some x->o i Z H->H p=none->g (.ref p) Z (upd H p (.tup [.int i,x])) fun U J=>f {D with nx:=o (i+1),ct:=o (i+1),bk:=D.nx} U J) (hd:∀Z H,o xs.length Z H->D.nx Z H):
  ∃W:Nat->Nat->St->Hp->Prop,(∃m,W 0 m Z H)/\∀i m Z H,W i m Z H->
   ((Ite K a).stop i H/\D.nx Z H)\/((Ite K a).go i H/\∃N:St->Hp->Prop,(∀c C,N c C->∃d,d<m/\W (i+1) d c C)/\∀x C,(Ite K a).yld i H x C->g x Z C fun U J=>f {D with nx:=N,ct:=N,bk:=D.nx} U J):=by
 refine⟨fun i m Z H=>m=xs.length - i/\i<=xs.length/\o i Z H,⟨_,rfl,SK _,k⟩,?_⟩
 rintro i m Z H ⟨rfl,n,p⟩
 have b:=l i Z H p
 by_cases I:i<xs.length
 .refine .inr ⟨⟨xs,xs[i],b,by simp [I]⟩,o (i+1),fun c C j=>⟨_,?_,rfl,I,j⟩,fun v C y=> ?_⟩
  .lia
  .obtain⟨r,x,hr,rfl,rfl,e1⟩:=y;exact hs i x r Z H (e1 xs b) p hr
 .have e:i=xs.length:=by lia
  refine .inl ⟨⟨xs,b,e.symm⟩,?_⟩
  subst e;exact hd Z H p
open PySem PySem.Spec PyProof.Rows PyProof PySem.SeqAt
open PySem PySem.Spec PyProof.Rows PyProof PySem.SeqAt
open PySem PySem.Spec PyProof.Rows PyProof PySem.SeqAt
theorem Dl:fillsNumberSlot (.type "tuple") "mul"=pure false:=PyProof.Rows.fillsNumberSlot_seq (id:="tuple.__mul__") (r:=some (.builtin "tuple.__rmul__")) Ve.lookup (by decide +kernel) Wo.lookup (by decide +kernel)
theorem Jk:seqRepeat? (.type "tuple")=pure (some (.builtin "tuple.__mul__")):=by
 unfold seqRepeat?;rw[Wp (T:="tuple") (name:="__mul__") (id:="tuple.__mul__") Ve.lookup (by decide +kernel),Wp (T:="tuple") (name:="__rmul__") (id:="tuple.__rmul__") Wo.lookup (by decide +kernel)]
 rfl
theorem Gr(k:Int)(t:Tok)(l:Addr)(C:Array Value)(n:Nat)(dd:Option Addr)(sl:Array (Option Value)):
  Meets (Builtin.«int.__rmul__» ⟨[.int k t,.ref l],[]⟩) (fun _ R s=>s.heap.get? l=some {cls:= .type "tuple",dict:=dd,data:= .seq C n,slots:=sl}/\R (.ok (.ret Value.notImplemented)) s):=
 .of_wp fun a i b e I o=>by obtain⟨U,g,d,c,f⟩:=I;obtain⟨J,o⟩:=o;wp_walk;exact⟨_,rfl,o⟩
theorem I_(l:Addr)(o:Array Value)(n:Nat)(dd:Option Addr)(sl:Array (Option Value))(k:Int)(t:Tok)(q:o.isEmpty=false)(x:¬(k==1)=true)(j:¬(k<=0))(a:¬k < -(2^63))(b:¬k>=2^63)(c:¬((o.size:Int)*k >(2^63 - 1) / 8))(hm:Builtin.Tuple.tupleTooMany (o.size*k)=false)(u:¬(List.foldl (fun U I=>U++I) #[] (List.replicate k.toNat o)).size >sizeLine):
  Meets (Builtin.«tuple.__mul__» ⟨[.ref l,.int k t],[]⟩) (fun _ R s=>s.heap.get? l=some {cls:= .type "tuple",dict:=dd,data:= .seq o n,slots:=sl}/\R (.ok (.ret (.ref s.heap.objs.size))) {s with heap:=s.heap.push {cls:= .type "tuple",data:= .seq ((List.replicate k.toNat o).foldl (· ++ ·) #[])}}):=
 .of_wp fun i w m r J C=>by
  obtain⟨f,g,d,p,v⟩:=J;obtain⟨e,C⟩:=C
  wp_walk
  have c1:¬(decide (k < -2^63) || decide (k>=2^63))=true:=by
   rw[RW a,RW b]
   decide
  rw[R6 c1]
  wp_walk
  rw[R6 c]
  wp_walk
  exact⟨_,rfl,C⟩
section
variable {X : Cx}
def Qs(K:Frag):R2:=fun x y H Q=>∃a k o,x= .ref a/\y= .int k/\SqT K H a o/\o≠[]/\2<=k/\k<2^63/\o.length*k.toNat<=sizeLine/\
 ∀p,H p=none->Q (.ref p) (upd H p (.tup (List.replicate k.toNat o).flatten))
theorem Mc:OpR X (binaryOp .Mult) (Qs X.K):=by
 intro f s Z H x y v u Q I D N h;obtain⟨a,k,B,rfl,rfl,O,L,Y,R,j,q⟩:=h
 cases D
 obtain⟨t,rfl⟩:=N;obtain⟨C,r,p,_⟩:=I.tuple O;obtain⟨⟨P,dd,i,sl⟩,ho,w,n,hd⟩:=id p
 simp only at w hd
 subst w hd;have e:C≠[]:=fun z=>L (r.nil_iff.mp z)
 have m:C.length*k.toNat<=sizeLine:=by rw[<- r.length];exact j
 have l:(C.toArray.size:Int)*k=((C.length*k.toNat:Nat):Int):=by
  rw[R7,Int.natCast_mul]
  congr 1
  lia
 have E:(sizeLine:Nat)<=(2^63 - 1) / 8:=by decide
 have d:¬((C.toArray.size:Int)*k >(2^63 - 1) / 8):=by
  rw[l];have:((2:Int)^63 - 1) / 8=(((2^63 - 1) / 8:Nat):Int):=by decide
  rw[this]
  lia
 have c:Builtin.Tuple.tupleTooMany (C.toArray.size*k)=false:=by
  rw[l];unfold Builtin.Tuple.tupleTooMany;exact RW (by lia)
 have J:List.foldl (fun M G=>M++G) #[] (List.replicate k.toNat C.toArray)=(List.replicate k.toNat C).flatten.toArray:=by
  have:=ww C k.toNat [];rw[List.nil_append] at this;exact this
 refine VY (T:="tuple") (U:="int") (by decide) ⟨_,ho,rfl⟩ (fun A=>Wu A k t) Dl PySem.F.fills_int_mul WL Jk PySem.F.slot_int_index.lookup
  (TM WL (Wu s k t) PySem.F.entry_int_rmul (PySem.F.args_int_rmul_2 _ _) (Gr k t a C.toArray n dd sl)
   ⟨ho,rfl,⟨_,ho,rfl⟩,TM Ve ⟨_,ho,rfl⟩ PySem.F.entry_tuple_mul (PySem.F.args_tuple_mul_2 _ _) (I_ a C.toArray n dd sl k t (by simpa using e) (by simp;lia) (by lia) (by lia) (by lia) d c (by rw[J,R7,CF,U9];lia)) ⟨ho,?_⟩⟩)
 rw[J];refine⟨.ref s.heap.objs.size,_,I.laid (t':=s.toks) (o:= .tup (List.replicate k.toNat B).flatten) (fun b W q=>gV _ q) (R3 _) ?_,rfl,q _ (I.hok.fresh (R3 _))⟩
 exact⟨by rw[CF,U9];exact j,_,r.rep k.toNat,XJ _ _⟩
end
open PySem PySem.Spec PyProof.Rows PyProof PySem.SeqAt
theorem Gc(l b:Addr)(o C:Array Value)(n n2:Nat)(dd U:Option Addr)(sl J:Array (Option Value))(r:o.isEmpty=true):
  Meets (Builtin.«tuple.__add__» ⟨[.ref l,.ref b],[]⟩) (fun _ R s=>s.heap.get? l=some {cls:= .type "tuple",dict:=dd,data:= .seq o n,slots:=sl}/\s.heap.get? b=some {cls:= .type "tuple",dict:=U,data:= .seq C n2,slots:=J}/\R (.ok (.ret (Value.ref b))) s):=
 .of_wp fun f p j m e I=>by
  obtain⟨i,g,d,k,q⟩:=e;obtain⟨a,c,I⟩:=I;have f2:=AutoSeq1.sub_tuple_tuple
  wp_walk using Tj a,Tj c
  exact⟨_,rfl,I⟩
section
variable {X : Cx}
def Qk(K:Frag):R2:=fun x y H Q=>∃a b I C,x= .ref a/\y= .ref b/\SqT K H a I/\SqT K H b C/\I.length+C.length<=sizeLine/\∀t o,aA H o->SqT K o t (I++C)->Q (.ref t) o
theorem Ho:OpR X (binaryOp .Add) (Qk X.K):=by
 intro o s Z H x y v u Q I r A h;obtain⟨a,b,m,G,rfl,rfl,l,i,L,q⟩:=h
 by_cases z:m=[]
 .cases r
  cases A
  subst z;obtain⟨J,M,E,_⟩:=I.tuple l;obtain⟨c,P,N,_⟩:=I.tuple i;obtain⟨⟨O,dd,w,sl⟩,ho,D,n,hd⟩:=id E;obtain⟨⟨B,j,f,k⟩,d,C,n2,U⟩:=id N
  simp only at D hd C U
  subst D hd C U;have he:J=[]:=by cases M;rfl
  refine Xs ⟨_,ho,rfl⟩ ⟨_,d,rfl⟩ Wh W_ U7 U5 (UU _ _) (Gc a b J.toArray c.toArray n n2 dd j sl k (by simp [he])) ⟨ho,d,?_⟩
  exact⟨.ref b,H,I,rfl,q b H (aA.refl _) i⟩
 .refine yB o s Z H (.ref a) (.ref b) v u Q I r A ⟨a,b,m,G,rfl,rfl,l,i,z,L,fun e=> ?_,fun _ p F=>q p _ (ag F _) (SqT.of ae)⟩
  subst e;exact q a H (aA.refl _) (by rw[SJ];exact l)
end
end L2
namespace L2
open PySem PySem.Builtin PySem.Builtin.ObjectAttr
structure ExC (h:Heap) (C F:Addr) (bmB:List Value) (newId:String) (mC mF:Str->Option Value):Prop where
 obj:∃nm q N bs sn sub ab col dd k0 k1 k2 k3 k5,h.get? C=some (excClassObj nm q C N bs (.ref F::bmB) true sn sub ab col dd k0 k1 k2 k3 k5 newId)/\h.Ns N mC
 mid:∃c0 dF cd sl,h.get? F=some {cls:=c0,dict:=dF,data:= .cls cd,slots:=sl}/\h.Ns cd.ns mF
theorem ExC.keeps{h h':Heap}{C F:Addr}{J:List Value}{I:String}{a mF:Str->Option Value}(x:ExC h C F J I a mF)(k:∀b o,h.get? b=some o->h'.get? b=some o):ExC h' C F J I a mF:=by
 obtain⟨⟨j,q,N,bs,e,sub,i,U,dd,k0,k1,k2,k3,k5,c,n⟩,c0,l,cd,sl,f,d⟩:=x;exact⟨⟨j,q,N,bs,e,sub,i,U,dd,k0,k1,k2,k3,k5,k _ _ c,n.keeps k⟩,c0,l,cd,sl,k _ _ f,d.keeps k⟩
section
variable {M : Model} {A : Around} {E : Value → Shared → Prop} {h : Heap} {g : Array GenState} {d : Drawn} {t : Nat} {os : OsState} {C F : Addr} {bmB : List Value} {B newId initId : String} {mC mF : Str → Option Value}
theorem ExC.look{n:Str}{y:Option Value}{Q:Option Value->Shared->Prop}(x:ExC h C F bmB newId mC mF)(J:mroOf (.type B)=pure bmB)(I:typeLookup (.type B) n=pure y)(b:mF n=none)
  (o:Q ((mC n).or y) ⟨h,g,d,t,os⟩):wpAny M A (typeLookup (.ref C) n) Q E ⟨h,g,d,t,os⟩:=by
 obtain⟨⟨m,q,N,bs,k,sub,l,i,dd,k0,k1,k2,k3,k5,c,j⟩,c0,p,cd,sl,f,a⟩:=x;rw[typeLookup_eq] at I;rw[J] at I;rw[typeLookup_eq];apply RV
 apply wpAny_mroOf_exc c
 rw[lookupAlong_cons];apply RV
 apply wpAny_classOwn_exc c j
 cases e:mC n with
 | some v=>
  rw[e] at o;exact Sf o
 | none=>
  rw[e] at o;show wpAny M A (lookupAlong (.ref F::bmB) n) Q E _
  rw[lookupAlong_cons];apply RV
  apply wpAny_classOwn_cls f a
  rw[b];show wpAny M A (lookupAlong bmB n) Q E _
  have U:lookupAlong bmB n=pure y:=I;rw[U];exact Sf o
end
section
variable {prog : Program} {w : World} {A : Around} {E : Value → Shared → Prop} {h : Heap} {g : Array GenState} {d : Drawn} {t : Nat} {os : OsState} {C F x : Addr} {bmB : List Value} {B newId initId sa owner : String} {mC mF mA : Str → Option Value} {name : Str} {v : Value}
structure JZ (h h':Heap) (x C:Addr) (name:Str) (v:Value) (mA:Str->Option Value):Prop where
 inst:h'.Inst x C (fun y=>if y=name then some v else mA y)
 rest:∀b o,b≠x->(∀o₀ dx,h.get? x=some o₀->o₀.dict=some dx->b≠dx)->h.get? b=some o->h'.get? b=some o
 self:∀o₀,h.get? x=some o₀->∃o₁,h'.get? x=some o₁/\o₁.cls=o₀.cls/\o₁.data=o₀.data/\o₁.slots=o₀.slots/\(∀dx,o₀.dict=some dx->o₁.dict=some dx)/\(o₀.dict=none->∃dx,o₁.dict=some dx/\h.get? dx=none)
theorem ExC.store_in{H : Tok}{Q : Fin → Shared → Prop}{ns : List Str}(SF : StoreFacts B bmB sa owner)(X : ExC h C F bmB newId mC mF)(cn : mC name = none)(fn : mF name = none)(hB : typeLookup (.type B) name = pure none)(I : h.Inst x C mA)
    (Z : ∀h' K, JZ h h' x C name v mA → Q (.done (.ret .none)) ⟨h', g, d, K, os⟩) (hw : Within mA ns) (hsz : ns.length<sizeLine) :
    wpAny (model prog w) A (Builtin.«object.__setattr__» ⟨[.ref x, .str name H, v], []⟩) Q E ⟨h, g, d, t, os⟩ := by
  have X0 := X
  obtain⟨⟨nm, q, N, bs, sn, sub, ab, ar, dd, k0, k1, k2, k3, k5, c, nc⟩, c0, dF, cd, sl, f, nf⟩ := X
  obtain⟨o, a, L, j, hd⟩ := I
  have s := SF.passes (.ref x)
  unfold Builtin.«object.__setattr__»
  repeat (first
    | rw[refuse_eq]
    | (rw[refuseLoop_ref, refuseLoop_ref, s])
    | (with_reducible refine SA a ?_
       rw[L])
    | with_reducible apply wpAny_mroOf_exc c
    | (with_reducible apply X0.look SF.mro hB fn
       rw[cn])
    | wp_step)
  rcases hd with⟨dn, am⟩|⟨Y, D, ne, n1⟩
  . have R : x ≠ h.objs.size := Sk (R_ a)
    have x1 := gV (h := h) { cls := .type "dict", data := .dict #[] } a
    rw[dn]
    dsimp only
    rw[R6 (by simp [typeHasDict])]
    split
    . exact absurd (by assumption) (j _)
    apply RV
    apply wpAny_alloc'
    apply RV
    apply wpAny_update' x1
    apply Sf
    have gd : ((h.push { cls := .type "dict", data := .dict #[] }).update x fun o => { cls := o.cls, dict := some h.objs.size, data := o.data, slots := o.slots }).get? h.objs.size = some { cls := .type "dict", data := .dict #[] } := by
      rw[Heap.get?_update_ne _ _ _ _ R.symm]
      exact Heap.get?_push_at rfl rfl
    have gx : ((h.push { cls := .type "dict", data := .dict #[] }).update x fun o => { cls := o.cls, dict := some h.objs.size, data := o.data, slots := o.slots }).get? x = some { cls := o.cls, dict := some h.objs.size, data := o.data, slots := o.slots } := by
      refine UC _ x1 ?_
      have fr := (Heap.get?_some_iff.mp a).2
      obtain⟨oc, od, P, aw⟩ := o
      cases P
      all_goals first | rfl | exact fr
    have go : ∀b n, b ≠ x → h.get? b = some n → ((h.push { cls := .type "dict", data := .dict #[] }).update x fun o => { cls := o.cls, dict := some h.objs.size, data := o.data, slots := o.slots }).get? b = some n := fun b n O p => by
      rw[Heap.get?_update_ne _ _ _ _ O]
      exact gV _ p
    generalize ((h.push { cls := .type "dict", data := .dict #[] }).update x fun o => { cls := o.cls, dict := some h.objs.size, data := o.data, slots := o.slots }) = h1 at *
    show wpAny _ _ (storeInDict h.objs.size (.str name H) name v) _ _ _
    have e1 : h1.Ns h.objs.size (fun _ => none) := ⟨_, #[], _, gd, rfl, fun e he => absurd he (by simp), fun _ => rfl⟩
    unfold storeInDict newKeyGuard
    apply RV
    apply Sf
    apply RV
    apply Xq (Heap.Ns1.of_empty e1)
    intro h' u m
    obtain⟨oD, W, T, i, k, l⟩ := u.count (Within.cons name v Within.nil)
    apply RV
    refine Wd i (by
      rw[k]
      refine We (RY l ?_)
      rw[R4, UX, Ut]
      lia) ?_
    wp_walk
    have r := (m.2 x R).trans gx
    refine Z h' _ ⟨⟨_, r, L, j, .inr ⟨h.objs.size, rfl, R.symm, ?_⟩⟩, fun b n O _ p => ?_, fun J U => ?_⟩
    . obtain⟨o', es, ep, a1, a2, a3, au, a4⟩ := u
      refine⟨o', es, ep, a1, a2, a3, au, fun y => ?_⟩
      rw[a4 y]
      by_cases G : y = name
      . show(if y = name then _ else _) = (if y = name then _ else _)
        rw[R9 G, R9 G]
      . show(if y = name then _ else _) = (if y = name then _ else _)
        rw[R6 G, R6 G, am]
    . exact(m.2 b (Sk (R_ p))).trans (go b n O p)
    . have M : o = J := Sj (a.symm.trans U)
      subst M
      exact⟨_, r, rfl, rfl, rfl, (fun z e => by rw[dn] at e; cases e), fun _ => ⟨_, rfl, UM (R3 _)⟩⟩
  . rw[D]
    apply Sf
    show wpAny _ _ (storeInDict Y (.str name H) name v) _ _ _
    unfold storeInDict newKeyGuard
    apply RV
    apply Sf
    apply RV
    apply Xq n1
    intro h' u m
    obtain⟨oD, W, T, i, k, l⟩ := u.count (Within.cons name v hw)
    apply RV
    refine Wd i (by
      rw[k]
      refine We (RY l ?_)
      rw[R4]
      lia) ?_
    wp_walk
    refine Z h' _ ⟨⟨o, (m.2 x ne.symm).trans a, L, j, .inr ⟨Y, D, ne, u⟩⟩, fun b n _ bd p => (m.2 b (bd o Y a D)).trans p, fun J U => ⟨J, (m.2 x ne.symm).trans U, rfl, rfl, rfl, fun _ e => e, fun e => ?_⟩⟩
    have M : o = J := Sj (a.symm.trans U)
    subst M
    rw[D] at e
    cases e
theorem ExC.sub(X:ExC h C F bmB newId mC mF){T:String}(o:bmB.contains (.type T)=true){Q:Bool->Shared->Prop}{M:Model}(q:Q true ⟨h,g,d,t,os⟩):wpAny M A (isSubtype (.ref C) (.type T)) Q E ⟨h,g,d,t,os⟩:=by
 obtain⟨⟨a,e,N,bs,J,sub,U,I,dd,k0,k1,k2,k3,k5,c,b⟩,_⟩:=X;apply TN c
 rw[S_,S_,o,Ui,Ui];exact q
theorem ExC.chk{M : Model}{o : Obj}{U : Value}{Q : Unit → Shared → Prop}(a : StoreFacts B bmB sa owner)(X : ExC h C F bmB newId mC mF)(b : h.get? x = some o)(c : o.cls = .ref C)(q : Q () ⟨h, g, d, t, os⟩) : wpAny M A (checkBuiltinCall sa ⟨[.ref x, U, v], []⟩) Q E ⟨h, g, d, t, os⟩ := by
  have J := a.args (.ref x) U v
  simp only[checkBuiltinCall, a.kind, a.split]
  apply RV
  unfold isInstance
  repeat (first
    | (with_reducible refine SA b ?_
       rw[c])
    | with_reducible apply X.sub a.hasOwner
    | wp_step)
  cases sg : Manifest.signature? sa with
  | none => exact Sf q
  | some sig =>
    simp only[argsOk, sg] at J
    have I : Bind.checkArgs sa sig ⟨[.ref x, U, v], []⟩ = pure () := J
    show wpAny M A (Bind.checkArgs sa sig ⟨[.ref x, U, v], []⟩) Q E _
    rw[I]
    exact Sf q
theorem ExC.store(U : StoreFacts B bmB sa owner)(X : ExC h C F bmB newId mC mF)(c : mC "__setattr__" = none)(fs : mF "__setattr__" = none)(j : mC name = none)(i : mF name = none)(e : typeLookup (.type B) name = pure none)(I : h.Inst x C mA){ns : List Str}{Q : Unit → Shared → Prop}
    (f : ∀h' J, JZ h h' x C name v mA → Q () ⟨h', g, d, J, os⟩) (hw : Within mA ns) (hsz : ns.length<sizeLine) : wpAny (model prog w) A (setAttr (.ref x) name v) Q E ⟨h, g, d, t, os⟩ := by
  have k := I
  obtain⟨o, a, b, _⟩ := I
  have l := U.slot.bind (.ref x)
  unfold setAttr callSpecial? specialOf
  repeat (any_goals (first
    | assumption
    | (with_reducible refine SA a ?_
       rw[b])
    | (with_reducible apply X.look U.mro U.slot.lookup fs
       rw[c])
    | wp_step))
  refine TF U.slot.plain U.entry (X.chk U a b (X.store_in U j i e k (fun h' J st => ?_) hw hsz))
  repeat (any_goals (first | assumption | wp_step))
  exact f h' J st
theorem ExC.chkg{M : Model}{o : Obj}{J : Value}{I : List Value}{Q : Unit → Shared → Prop}(i : ExcAttrBase B I)(f : bmB.contains (.type "BaseException") = true)(X : ExC h C F bmB newId mC mF)(a : h.get? x = some o)(c : o.cls = .ref C)(q : Q () ⟨h, g, d, t, os⟩) : wpAny M A (checkBuiltinCall "BaseException.__getattribute__" ⟨[.ref x, J], []⟩) Q E ⟨h, g, d, t, os⟩ := by
  have e : builtinKind "BaseException.__getattribute__" = some .slot := by decide +kernel
  have U : splitId "BaseException.__getattribute__" = some ("BaseException", "__getattribute__") := by decide +kernel
  have b := PySem.F.args_bexc_ga (.ref x) J
  simp only[checkBuiltinCall, e, U]
  apply RV
  unfold isInstance
  repeat (first
    | (with_reducible refine SA a ?_
       rw[c])
    | with_reducible apply X.sub f
    | wp_step)
  exact q
theorem ExC.load_in{l : Tok}{a : Addr}{o : Obj}{Q : Fin → Shared → Prop}(J : mroOf (.type B) = pure bmB)(X : ExC h C F bmB newId mC mF)(j : mC name = none)(i : mF name = none)(e : typeLookup (.type B) name = pure none)(U : h.get? x = some o)(b : o.cls = .ref C)(I : ∀c, o.data ≠ .cls c)(k : o.dict = some a)(n1 : h.Ns a mA)(n : mA name = some v)
    (q : Q (.done (.ret v)) ⟨h, g, d, t, os⟩) : wpAny (model prog w) A (Builtin.«object.__getattribute__» ⟨[.ref x, .str name l], []⟩) Q E ⟨h, g, d, t, os⟩ := by
  have p := X
  obtain⟨⟨y, G, N, bs, s, sub, u, m, dd, k0, k1, k2, k3, k5, c, z⟩, c0, D, cd, sl, f, r⟩ := X
  unfold Builtin.«object.__getattribute__»
  repeat (first
    | (with_reducible refine SA U ?_
       rw[b])
    | (with_reducible apply p.look J e i
       rw[j])
    | wp_step)
  split
  . exact absurd (by assumption) (I _)
  unfold instanceDict inDict
  repeat (first
    | (with_reducible refine SA U ?_
       rw[b])
    | with_reducible refine SA c ?_
    | wp_step)
  rw[k]
  repeat (first
    | (with_reducible refine wpAny_nsGet n1 ?_
       rw[n])
    | wp_step)
  exact q
theorem ExC.load{I : Bool}{f : Addr}{o : Obj}{Q : Value → Shared → Prop}(J : ExcAttrBase B bmB)(l : bmB.contains (.type "BaseException") = true)(X : ExC h C F bmB newId mC mF)(i : mC "__getattribute__" = none ∧ mC "__getattr__" = none)(e : mF "__getattribute__" = none ∧ mF "__getattr__" = none)(m : mC name = none)(k : mF name = none)(j : typeLookup (.type B) name = pure none)
    (a : h.get? x = some o) (b : o.cls = .ref C) (U : ∀c, o.data ≠ .cls c) (n : o.dict = some f) (n1 : h.Ns f mA) (r : mA name = some v) (p : handedOut v = pure v) (q : Q v ⟨h, g, d, t + 1, os⟩) : wpAny (model prog w) A (getAttr (.ref x) name I) Q E ⟨h, g, d, t, os⟩ := by
  have u := J.ga.bind (.ref x)
  have y : (I && onTheHeap (Value.builtin "BaseException.__getattribute__")) = false := by cases I <;> rfl
  have s : (Value.builtin "BaseException.__getattribute__" == Value.builtin "object.__getattribute__") = false := by decide +kernel
  unfold getAttr getAttrBy
  repeat (any_goals (first
    | assumption
    | (with_reducible refine SA a ?_
       rw[b])
    | (with_reducible apply X.look J.mro J.ga.lookup e.1
       rw[i.1])
    | (with_reducible apply X.look J.mro J.noGetattr e.2
       rw[i.2])
    | wp_step))
  refine TF J.ga.plain WM (X.chkg J l a b (X.load_in J.mro m k j a b U n n1 r ?_))
  show wpAny _ _ (handedOut v) _ _ _
  rw[p]
  exact Sf q
theorem ExC.tail(X:ExC h C F bmB newId mC mF)(I:mF "__init__"=none):OwnTail h bmB (.ref F::bmB):=by
 obtain⟨_,c0,J,cd,sl,f,o⟩:=X;exact .own f o I .base
theorem ExC.make_in{i : Addr}{l : Obj}{rest : List Value}{Q : Fin → Shared → Prop}(I : ExcBaseFacts B newId initId bmB)(X : ExC h C F bmB newId mC mF)(k : mF "__init__" = none)(D : mC "__init__" = some (.ref i))(U : h.get? i = some l)(a : l.cls = .type "function")(J : rest.length ≤ sizeLine)
    (p : ∀h' e, Heap.MadeExcOf h h' e (.ref C) rest → wpAny (model prog w) A (call (.ref i) (.ref e :: rest)) (fun r s' => r = .none ∧ Q (.done (.ret (.ref e))) s') E ⟨h', g, d, t, os⟩) :
    wpAny (model prog w) A (Builtin.«type.__call__» ⟨.ref C :: rest, []⟩) Q E ⟨h, g, d, t, os⟩ := by
  have T := X.tail k
  have G := X
  obtain⟨⟨M, R, N, bs, K, sub, L, q, dd, k0, k1, k2, k3, k5, c, O⟩, c0, P, cd, sl, f, H⟩ := X
  repeat (first
    | with_reducible refine SA c ?_
    | with_reducible apply wpAny_madeBy_exc c
    | wp_step)
  refine codeAny_call_builtin_code (U3 _ I.quiet) (wpAny_check_new_subT I T c (codeAny_exc_new_subT I T c ?_ J))
  show wpAny _ _ _ _ _ _
  have kp : ∀b o, h.get? b = some o → ((h.push { cls := .type "tuple", data := .seq rest.toArray }).push { cls := .ref C, data := .fields #[.ref h.objs.size, .none, .none, .none, .bool false, .none] }).get? b = some o := fun b o e => gV _ (gV _ e)
  have j : ((h.push { cls := .type "tuple", data := .seq rest.toArray }).push { cls := .ref C, data := .fields #[.ref h.objs.size, .none, .none, .none, .bool false, .none] }).get? (h.objs.size + 1) = some { cls := .ref C, data := .fields #[.ref h.objs.size, .none, .none, .none, .bool false, .none] } := by heap_get
  have u : ((h.push { cls := .type "tuple", data := .seq rest.toArray }).push { cls := .ref C, data := .fields #[.ref h.objs.size, .none, .none, .none, .bool false, .none] }).get? h.objs.size = some { cls := .type "tuple", data := .seq rest.toArray } := gV _ (Heap.get?_push_at rfl rfl)
  have y := G.keeps kp
  have c1 := kp _ _ c
  have n : (Value.ref C :: Value.ref F :: bmB).contains (.ref C) = true := by simp
  unfold isInstance
  repeat (first
    | with_reducible refine SA j ?_
    | (with_reducible refine TN c1 ?_
       rw[n])
    | wp_step)
  show wpAny _ _ (typeLookup (.ref C) _) _ _ _
  apply y.look I.mroIs I.init.lookup k
  rw[D]
  apply UB
  apply RV
  unfold bindSpecial
  apply RV
  refine wpAny_typeOf (T := "function") ⟨_, kp _ _ U, a⟩ ?_
  rw[R9 (by decide)]
  apply Sf
  apply RV
  refine S8 (p _ (h.objs.size + 1) ⟨kp, UM (Nat.le_succ _), h.objs.size, j, UM (R3 _), u⟩) (fun r s' s => ?_) fun _ _ z => z
  obtain⟨rfl, m⟩ := s
  wp_walk
  exact m
theorem ExC.make{U:Addr}{a:Obj}{rest:List Value}{Q:Value->Shared->Prop}(b:ExcBaseFacts B newId initId bmB)(X:ExC h C F bmB newId mC mF)(l:mF "__init__"=none)(k:mC "__init__"=some (.ref U))(I:h.get? U=some a)(J:a.cls= .type "function")(o:rest.length<=sizeLine)
  (i:∀h' e,Heap.MadeExcOf h h' e (.ref C) rest->wpAny (model prog w) (A.under (.builtin "type.__call__" ⟨.ref C::rest,[]⟩)) (call (.ref U) (.ref e::rest)) (fun r s'=>r= .none/\Q (.ref e) s') E ⟨h',g,d,t,os⟩):
  wpAny (model prog w) A (call (.ref C) rest) Q E ⟨h,g,d,t,os⟩:=by
 have n:=X;obtain⟨⟨z,H,N,bs,s,sub,u,j,dd,k0,k1,k2,k3,k5,c,D⟩,c0,G,cd,sl,f,p⟩:=X;have y:=tc_lookup;have q:=tc_bind (.ref C);have ty:(⟨h,g,d,t,os⟩:Shared).TypeIs (.ref C) "type":=⟨_,c,rfl⟩;apply VQ
 apply codeAny_of_tree
 show wpAny _ _ (callAny (.ref C) _) _ _ _
 repeat (any_goals (first
  | assumption
  | with_reducible refine SA c ?_
  | wp_step))
 exact⟨rfl,codeAny_call_builtin_at (U3 _ (by decide +kernel)) entry_typeCall (wpAny_check_type_call_sub c (n.make_in b l k I J o fun h' e m=>i h' e m))⟩
end
end L2
namespace L2
open PySem
structure Fo (h:Heap) (e:Addr) (cls:Value) (od:Option Addr) (a0 hd:Value):Prop where
 ex:∃vs sl,h.get? e=some ⟨cls,od,.fields vs,sl⟩/\vs[0]? =some a0/\vs[1]? =some hd
structure Te (h base:Heap) (e T:Addr) (fl:Value):Prop where
 new:base.get? T=none
 ne:T≠e
 ex:∃oT ts,h.get? T=some oT/\oT.data= .fields ts/\ts[3]? =some fl
structure On (base:Heap) (l:List Env) (e:Addr) (h:Heap):Prop where
 stays:base.StaysIn h
 new:base.get? e=none
 frames:h.FunFrames base l
structure tq (base:Heap) (l:List Env) (e:Addr) (cls:Value) (od:Option Addr) (a0 fl:Value) (h:Heap):Prop where
 on:On base l e h
 tr:∃T,Fo h e cls od a0 (.ref T)/\Te h base e T fl
abbrev ID(base:Heap)(l:List Env)(e:Addr)(cls:Value)(o:Option Addr)(a0:Value)(h:Heap):Prop:=tq base l e cls o a0 .none h
section
variable {M : Model} {A : Around} {E : Value → Shared → Prop} {s : Shared} {base : Heap} {env : Env} {outer l : List Env} {L e : Addr} {cls a0 fl : Value} {od : Option Addr} {Q : Unit → Shared → Prop}
theorem ve{h:Heap}{T:Addr}{I:Obj}{J:Array Value}{i:Nat}{x:Value}(a:h.get? T=some I)(hd:I.data= .fields J):
  (∀b,b≠T->(h.update T (Obj.mapFields (·.setIfInBounds i x))).get? b=h.get? b)/\(h.update T (Obj.mapFields (·.setIfInBounds i x))).get? T=some (Obj.mapFields (·.setIfInBounds i x) I)/\(Obj.mapFields (·.setIfInBounds i x) I).data= .fields (J.setIfInBounds i x)/\h.UpToSlots (h.update T (Obj.mapFields (·.setIfInBounds i x))):=by
 have U:=VR hd (·.setIfInBounds i x);refine⟨fun b C=>Uz _ _ (SD C),UC _ a (WJ U),U,fun b o C d=>⟨o.slots,?_⟩⟩
 have c:T≠b:=by
  rintro rfl
  rw[a] at C
  cases C
  exact d J hd
 rw[Uz _ _ c];exact C
theorem On.set{h:Heap}{T:Addr}{J:Obj}{c:Array Value}{i:Nat}{x:Value}(o:On base l e h)(a:h.get? T=some J)(hd:J.data= .fields c)(d:base.get? T=none):On base l e (h.update T (Obj.mapFields (·.setIfInBounds i x))):=by
 obtain⟨k1,k2,k3,k4⟩:=ve (i:=i) (x:=x) a hd;refine⟨fun b I C=> ?_,o.new,o.frames.of_keeps fun b I C U=> ?_⟩
 .rw[k1 b (by rintro rfl;rw[d] at C;cases C)]
  exact o.stays b I C
 .obtain⟨sl,e⟩:=k4 b I C U;exact⟨_,e,rfl⟩
theorem nN(d:tq base l e cls od a0 fl s.heap)(a:∀h',ID base l e cls od a0 h'->s.heap.UpToSlots h'->Q () {s with heap:=h'}):wpAny M A (setFlight (.ref e) none) Q E s:=by
 obtain⟨b,T,⟨vs,sl,he,j,U⟩,J,I,m,c,o,hd,k⟩:=d;obtain⟨k1,k2,k3,k4⟩:=ve (i:=3) (x:=((none:Option Addr).elim Value.none fun f=>rawInt f)) o hd
 have C:=b.set (i:=3) (x:=((none:Option Addr).elim Value.none fun f=>rawInt f)) o hd J
 have z3:3<c.size:=(UO.mp k).1;unfold setFlight;apply RV
 apply SX he rfl U
 rw[R9 (show(Value.ref T != Value.none)=true by simp)]
 refine Vb o hd z3 (a _ ⟨C,T,⟨vs,sl,?_,j,U⟩,J,I,_,_,k2,k3,?_⟩ k4)
 .rw[k1 e (SD I)];exact he
 .simp [z3]
theorem BD{J:Value}{b:Bool}{a1:Value}(p:A.frames=some (env::outer))(v:env.frame=some L)(U:On base (env::outer) e s.heap)(D:Fo s.heap e cls od a0 a1)
  (z:∀h',tq base (env::outer) e cls od a0 (rawInt L) h'->s.heap.UpToSlots h'->Q () {s with heap:=h'}):
  wpAny M A (do let a <-frameOf env;let pl <-entryPlaceOf L b;let x <-EntryCells.newEntry J a .none (rawInt L) .none pl;setField (.ref e) 1 x) Q E s:=by
 obtain⟨vs,sl,he,H,K⟩:=D;have z1:1<vs.size:=(UO.mp K).1;have m:e ∉ (env::outer).filterMap (·.frame):=fun hm=>by
  obtain⟨_,o,ho,r⟩:=U.frames.mem hm;rw[he] at ho
  cases ho
  exact r vs rfl
 apply RV
 refine wpAny_frameOf_fun p U.frames v fun C k=> ?_
 apply RV
 refine wpAny_entryPlaceOf fun pl w=> ?_
 unfold EntryCells.newEntry newFields;apply RV
 refine Tq ?_ (w.sizeOk5 _ _ _ _ _)
 have y:C.get? e=some ⟨cls,od,.fields vs,sl⟩:=(k.2.1 e m).trans he;have f:base.StaysIn C:=fun b o I=>by
  rw[k.2.1 b (fun hm=>by rw[(U.frames.mem hm).1] at I;cases I)]
  exact U.stays b o I
 have q:s.heap.UpToSlots C:=fun b o I _=>k.2.2 b o I
 have c:C.objs.size≠e:=Tz (R_ y);have G:base.get? C.objs.size=none:=f.fresh;generalize d:({cls:= .type "traceback",dict:=none,data:= .fields ([J,.ref L,.none,rawInt L,.none]++(if pl.isEmpty then List.replicate 6 Value.none else pl)).toArray}:Obj)=j
 have n:=gV (h:=C) j y;have F:(C.push j).get? C.objs.size=some j:=Sh C (by rw[<- d];rfl)
 have u:On base (env::outer) e (C.push j):=⟨fun b o I=>gV _ (f b o I),U.new,U.frames.of_keeps fun b o I v=>by
  obtain⟨B,hs⟩:=k.2.2 b o I
  exact⟨_,gV _ hs,rfl⟩⟩
 obtain⟨k1,k2,k3,k4⟩:=ve (i:=1) (x:= .ref C.objs.size) n rfl;refine Vb n rfl z1 (z _ ⟨u.set n rfl U.new,C.objs.size,⟨_,sl,k2.trans rfl,?_,?_⟩,G,c,j,_,(k1 _ c).trans F,by rw[<- d],?_⟩ ?_)
 .rw[Array.getElem?_setIfInBounds_ne (by decide)]
  exact H
 .simp [z1]
 .rcases w with rfl | ⟨_,_,_,_,_,_,_,rfl⟩
  .rfl
  .simp
 .refine q.trans (Heap.UpToSlots.trans ?_ k4)
  exact Heap.UpToSlots.of_keeps fun b o I=>gV _ I
theorem Gb(o:A.frames=some (env::outer))(I:env.frame=some L)(a:On base (env::outer) e s.heap)(J:Fo s.heap e cls od a0 .none)
  (U:∀h',tq base (env::outer) e cls od a0 (rawInt L) h'->s.heap.UpToSlots h'->Q () {s with heap:=h'}):wpAny M A (noteFrame (.ref e) env) Q E s:=by
 have C:=J;obtain⟨vs,sl,he,c,b⟩:=J;unfold noteFrame
 simp only[I]
 apply RV
 apply SX he rfl b
 rw[R6 (by decide)]
 exact BD o I a C U
theorem Bb(I:A.frames=some (env::outer))(J:env.frame=some L)(C:ID base (env::outer) e cls od a0 s.heap)
  (b:∀h',tq base (env::outer) e cls od a0 (rawInt L) h'->s.heap.UpToSlots h'->Q () {s with heap:=h'}):wpAny M A (noteFrame (.ref e) env) Q E s:=by
 obtain⟨c,T,⟨vs,sl,he,m,a⟩,j,f,p,n,o,hd,U⟩:=C;obtain⟨k1,k2,k3,k4⟩:=ve (i:=3) (x:=Value.none) o hd;unfold noteFrame
 simp only[J]
 apply RV
 apply SX he rfl a
 rw[R9 (show(Value.ref T != Value.none)=true by simp)]
 apply RV
 apply SX o hd U
 rw[R6 (show ¬((Value.none==rawInt L)=true) by simp [rawInt])]
 apply RV
 refine Vb o hd (UO.mp U).1 ?_
 refine BD (a1:= .ref T) I J (c.set o hd j) ⟨vs,sl,(k1 e (SD f)).trans he,m,a⟩ fun h' k d=>b h' k (k4.trans d)
theorem tq.pop(h:tq base (env::outer) e cls od a0 fl s.heap):tq base outer e cls od a0 fl s.heap:=by
 obtain⟨⟨C,I,_,_,o⟩,t⟩:=h;exact⟨⟨C,I,o⟩,t⟩
theorem FV(o:A.frames=some (env::outer))(U:env.frame=some L)(b:On base (env::outer) e s.heap)(d:Fo s.heap e cls od a0 .none)
  (a:∀h',ID base outer e cls od a0 h'->s.heap.UpToSlots h'->Q () {s with heap:=h'}):wpAny M A (leaving env (.ref e)) Q E s:=by
 unfold leaving;apply RV
 refine Gb o U b d fun i c f=>nN c fun J C I=>a J ?_ (f.trans I)
 exact tq.pop (s:={s with heap:=J}) C
theorem Gg(o:A.frames=some (env::outer))(a:env.frame=some L)(I:ID base (env::outer) e cls od a0 s.heap)
  (b:∀h',ID base outer e cls od a0 h'->s.heap.UpToSlots h'->Q () {s with heap:=h'}):wpAny M A (leaving env (.ref e)) Q E s:=by
 unfold leaving;apply RV
 refine Bb o a I fun f c d=>nN c fun U C J=>b U ?_ (d.trans J)
 exact tq.pop (s:={s with heap:=U}) C
end
end L2
namespace L2
open PySem PySem.Builtin PySem.Builtin.ObjectAttr
section
variable {prog : Program} {w : World} {A : Around} {E : Value → Shared → Prop} {h : Heap} {g : Array GenState} {d : Drawn} {t : Nat} {os : OsState} {C F x : Addr} {bmB : List Value} {B newId : String} {mC mF : Str → Option Value} {o : Obj}
theorem ExC.class_get{R:Result->Shared->Prop}(X:ExC h C F bmB newId mC mF)(b:bmB.contains (.type "object")=true)(U:h.get? x=some o)(a:o.cls= .ref C)(f:R (.ok (.ret (.ref C))) ⟨h,g,d,t,os⟩):
  codeAny (model prog w) A (.call (.builtin "getset_descriptor.__get__") ⟨[.builtin "object.__class__",.ref x,.ref C],[]⟩) R ⟨h,g,d,t,os⟩:=by
 have I:(⟨h,g,d,t,os⟩:Shared).TypeIs (.builtin "object.__class__") "getset_descriptor":=UH;obtain⟨⟨k,m,N,bs,i,sub,j,e,dd,k0,k1,k2,k3,k5,c,l⟩,_⟩:=id X;have J:(Value.ref C::Value.ref F::bmB).contains (.type (".".intercalate ("object.__class__".cutAt '.').dropLast))=true:=by
  rw[PySem.F.owner_object_class,S_,S_,b,Ui,Ui]
 refine TF VL.plain PySem.F.entry_gs_get (VL.check _ _ _ _ _ _ _ _ I (PySem.F.args_gs_get _ _ _) ?_)
 repeat (any_goals (first | assumption | (with_reducible refine SA U ?_;rw[a]) | (with_reducible refine TN c ?_;rw[J]) | wp_step))
 refine⟨U3 _ (by decide +kernel),codeAny_builtin PySem.F.entry_object_class ?_⟩
 repeat (any_goals (first | assumption | (with_reducible refine SA U ?_;rw[a]) | wp_step))
theorem ExC.class_in{e : Tok}{Q : Fin → Shared → Prop}(I : mroOf (.type B) = pure bmB)(i : bmB.contains (.type "object") = true)(c : typeLookup (.type B) "__class__" = pure (some (.builtin "object.__class__")))(X : ExC h C F bmB newId mC mF)(a : mC "__class__" = none)(f : mF "__class__" = none)(J : h.get? x = some o)(U : o.cls = .ref C)
    (j : Q (.done (.ret (.ref C))) ⟨h, g, d, t, os⟩) : wpAny (model prog w) A (Builtin.«object.__getattribute__» ⟨[.ref x, .str "__class__" e], []⟩) Q E ⟨h, g, d, t, os⟩ := by
  have b : (⟨h, g, d, t, os⟩ : Shared).TypeIs (.builtin "object.__class__") "getset_descriptor" := UH
  have f5 := UH
  have f6 := VL.lookup
  have f7 := PySem.F.slot_gs_set.lookup
  unfold Builtin.«object.__getattribute__»
  repeat (any_goals (first
    | assumption
    | (with_reducible refine SA J ?_
       rw[U])
    | (with_reducible apply X.look I c f
       rw[a])
    | wp_step))
  refine X.class_get i J U ?_
  repeat (any_goals (first | assumption | wp_step))
theorem ExC.class_by{f : Tok}{Q : Value → Shared → Prop}(I : ExcAttrBase B bmB)(j : bmB.contains (.type "BaseException") = true)(ho : bmB.contains (.type "object") = true)(e : typeLookup (.type B) "__class__" = pure (some (.builtin "object.__class__")))(X : ExC h C F bmB newId mC mF)
    (b : mC "__getattribute__" = none ∧ mC "__getattr__" = none) (a : mF "__getattribute__" = none ∧ mF "__getattr__" = none) (c : mC "__class__" = none) (i : mF "__class__" = none) (J : h.get? x = some o) (U : o.cls = .ref C) (q : Q (.ref C) ⟨h, g, d, t, os⟩) :
    wpAny (model prog w) A (getAttrBy (.ref x) (.str "__class__" f) false) Q E ⟨h, g, d, t, os⟩ := by
  have k := I.ga.bind (.ref x)
  have l : (Value.builtin "BaseException.__getattribute__" == Value.builtin "object.__getattribute__") = false := by decide +kernel
  unfold getAttrBy
  repeat (any_goals (first
    | assumption
    | (with_reducible refine SA J ?_
       rw[U])
    | (with_reducible apply X.look I.mro I.ga.lookup a.1
       rw[b.1])
    | (with_reducible apply X.look I.mro I.noGetattr a.2
       rw[b.2])
    | wp_step))
  refine TF I.ga.plain WM (X.chkg I j J U (X.class_in I.mro ho e c i J U ?_))
  repeat (any_goals (first | assumption | wp_step))
theorem ExC.klass{Q:Option Value->Shared->Prop}(I:ExcAttrBase B bmB)(i:bmB.contains (.type "BaseException")=true)(ho:bmB.contains (.type "object")=true)(b:typeLookup (.type B) "__class__"=pure (some (.builtin "object.__class__")))(X:ExC h C F bmB newId mC mF)
  (f:mC "__getattribute__"=none/\mC "__getattr__"=none) (c:mF "__getattribute__"=none/\mF "__getattr__"=none) (U:mC "__class__"=none) (e:mF "__class__"=none) (J:h.get? x=some o) (a:o.cls= .ref C) (q:Q (some (.ref C)) ⟨h,g,d,t+1,os⟩):
  wpAny (model prog w) A (getAttr? (.ref x) "__class__") Q E ⟨h,g,d,t,os⟩:=by
 unfold getAttr? getAttrBy?
 repeat (any_goals (first | assumption | with_reducible apply X.class_by I i ho b f c U e J a | wp_step))
end
section
variable {M : Model} {A : Around} {E : Value → Shared → Prop} {s : Shared} {env : Env}
theorem B1{x : Sem Value}{Q : Flow → Shared → Prop}(y : A.handled = none)
    (h : wpAny M A x (fun v o => ∃e C F J I j mF k vs sl, v = .ref e ∧ ExC o.heap C F J I j mF ∧ J.contains (.type "BaseException") = true ∧ o.heap.get? e = some ⟨.ref C, k, .fields vs, sl⟩ ∧ vs[1]? = some .none ∧ E (.ref e) o) E s) :
    wpAny M A (raiseStmt env (some x) none) Q E s := by
  unfold raiseStmt
  refine RV (S8 h (fun v o U => ?_) fun _ _ x => x)
  obtain⟨e, C, F, J, I, j, mF, k, vs, sl, rfl, X, n, he, z, r⟩ := U
  obtain⟨⟨G, K, N, bs, B, sub, D, p, dd, k0, k1, k2, k3, k5, c, H⟩, _⟩ := X
  obtain⟨i, g, d, l, m⟩ := o
  have a : (Value.ref C :: Value.ref F :: J).contains (.type "BaseException") = true := by
    rw[S_, S_, n, Ui, Ui]
  have b : ∀{f : Unit → Shared → Prop}{w : Around}{u : Value → Shared → Prop}, f () ⟨i, g, d, l, m⟩ → wpAny M w (setFlight (.ref e) none) f u ⟨i, g, d, l, m⟩ := fun q => by
    unfold setFlight
    refine RV (SX he rfl z ?_)
    rw[R6 (by decide)]
    exact Sf q
  repeat (first
    | with_reducible refine SA he ?_
    | with_reducible refine SA c ?_
    | (with_reducible refine TN c ?_
       rw[a])
    | with_reducible refine b ?_
    | wp_step)
  exact wpAny_raiseNew_none y r
theorem GF{h : Heap}{g : Array GenState}{d : Drawn}{t : Nat}{F : OsState}{e : Addr}{B : Obj}{Q : Bool → Shared → Prop}{nm q j O : Str}{C N D L : Addr}{bs bm i J : List Value}{hdct I : Bool}{sn u : List Str}{sub b : List Value}{ab z : Bool}{col a : Option Bool}{dd y : Option Addr}{k0 k1 k2 k3 k5 v k l r m : Option Value}{U o : String}
    (K : h.get? C = some (excClassObj nm q C N bs bm hdct sn sub ab col dd k0 k1 k2 k3 k5 U)) (G : h.get? D = some (excClassObj j O D L i J I u b z a y v k l r m o)) (he : h.get? e = some B) (c : B.cls = .ref C)
    (n : bm.contains (.ref D) = true) (p : J.contains (.type "BaseException") = true) (H : Q true ⟨h, g, d, t, F⟩) : wpAny M A (excMatches (.ref e) (.ref D)) Q E ⟨h, g, d, t, F⟩ := by
  have x : (Value.ref D :: J).contains (.type "BaseException") = true := by rw[S_, p, Ui]
  have w : (Value.ref C :: bm).contains (.ref D) = true := by rw[S_, n, Ui]
  have f := tc_notTuple
  unfold excMatches
  repeat (first
    | (with_reducible refine SA he ?_
       rw[c])
    | with_reducible refine SA G ?_
    | (with_reducible refine TN G ?_
       rw[x])
    | (with_reducible refine TN K ?_
       rw[w])
    | wp_step)
  exact H
theorem Gq{n:Str}{J:Pos}{m:Str->Option Value}{u:Value}{Q:Unit->Shared->Prop}(a:env.kindOf n=some .local)(c:s.heap.Ns env.locals m)(U:m n=some u)
  (b:(env.scope.kind == .class || (env.scope.kind == .module && env.locals != env.globals))=false)
  (h:∀h' v,h'.Ns env.locals (fun x=>if x=n then v else m x)->Heap.SameBut env.locals s.heap h'->Q () {s with heap:=h'}):
  wpAny M A (unbindBehindTheSuite env n J) Q E s:=by
 unfold unbindBehindTheSuite;refine Vs ?_
 unfold unbindName;refine RV (wpAny_point (RV ?_))
 unfold deleteName
 simp only[a,b]
 rw[R6 (by decide)]
 refine RV (wpAny_nsDel_keeps c fun I v o C=> ?_)
 rw[U]
 simp only[UW,Option.isSome_some,Bool.not_true,U0,Wj]
 exact Sf (wpAny_point (h I v o C))
end
end L2
namespace L2
open PySem PySem.Spec PyProof.Rows
theorem Gm{K:Frag}{h:Heap}{N:Addr}{m:Str->Option Value}{n:Str}{v:Value}(X:K.In h)(G:h.Ns N m)(e:W.nsIn K N n=some (some v)):m n=some v:=by
 obtain⟨o,J,I,ho,hd,_,C⟩:=G;unfold W.nsIn at e
 split at e
 case h_2=>cases e
 case h_1 q=>
  have z:=X _ _ q;rw[ho] at z
  cases z
  cases hd
  split at e
  case h_2=>split at e <;> cases e
  case h_1 en he=>
   cases e
   rw[<- C n];show findBy _ _ _=_
   unfold findBy;rw[<- Array.find?_toList,he]
   rfl
structure XC (K:Frag) (C F:Addr) (fI:Option Addr) (qs:List Str):Prop where
 ex:∃nm q N bs sn sub ab col dd k0 k1 k2 k3 k5 c0 dF cd sl,K.lookup C=some (excClassObj nm q C N bs (.ref F::vbm) true sn sub ab col dd k0 k1 k2 k3 k5 "ValueError.__new__")/\W.nsOkIn K N=true/\
  K.lookup F=some {cls:=c0,dict:=dF,data:= .cls cd,slots:=sl}/\W.nsOkIn K cd.ns=true/\W.nsIn K N "__init__"=some (fI.map .ref)/\W.nsIn K cd.ns "__init__"=some none/\
  ∀n∈qs,W.nsIn K N n=some none/\W.nsIn K cd.ns n=some none
theorem XC.at{K:Frag}{C F:Addr}{J:Option Addr}{d:List Str}{h:Heap}(c:XC K C F J d)(X:K.In h):∃o mF,ExC h C F vbm "ValueError.__new__" o mF/\mF "__init__"=none/\o "__init__"=J.map .ref/\∀n∈d,o n=none/\mF n=none:=by
 obtain⟨l,q,N,bs,j,sub,k,I,dd,k0,k1,k2,k3,k5,c0,p,cd,sl,l1,m,l2,e,a,i,b⟩:=c.ex;have g1:=WD (XB X m);have g2:=WD (XB X e);refine⟨_,_,⟨⟨l,q,N,bs,j,sub,k,I,dd,k0,k1,k2,k3,k5,X _ _ l1,g1⟩,c0,p,cd,sl,X _ _ l2,g2⟩,Wy X g2 i,?_,fun n U=>⟨Wy X g1 (b n U).1,Wy X g2 (b n U).2⟩⟩
 cases J with
 | none=>exact Wy X g1 a
 | some f=>exact Gm X g1 a
theorem vE:vbm.contains (.type "BaseException")=true:=by decide +kernel
theorem Mt:vbm.contains (.type "object")=true:=by decide +kernel
theorem Ki{K:Frag}{h:Heap}{f:Addr}(X:K.In h)(e:W.isFn K (.ref f)=true):∃o,h.get? f=some o/\o.cls= .type "function":=by
 have z:=Tc.mp e;obtain⟨o,ho,C⟩:=Vf.mp z;exact⟨o,X _ _ ho,C⟩
noncomputable def exo(C:Addr)(o:Option Addr)(e:Addr):HO:= .ext fun h=>∃vs sl,h.get? e=some ⟨.ref C,o,.fields vs,sl⟩/\vs[1]? =some .none/\∃a0,vs[0]? =some a0
noncomputable def exh(cls:Value)(o:Option Addr)(e:Addr):HO:= .ext fun h=>∃vs sl,h.get? e=some ⟨cls,o,.fields vs,sl⟩
noncomputable def xdo(C:Addr)(fs:List (Str × V)):HO:= .ext fun h=>∃o,h.Ns1 C o/\(∀f,mJ (fs.lookup f) (o f))/\PySem.Within o (fs.map (·.1))
section
variable {P : Program} {w : World} {H H1 : Hp} {h h1 : Heap} {C e dx d : Addr} {od : Option Addr} {cls : Value} {fl : List (Str × V)} {o : HO} {fs ex : List Addr}
theorem F8(x:∃vs sl,h.get? e=some ⟨.ref C,od,.fields vs,sl⟩/\vs[1]? =some .none/\∃a0,vs[0]? =some a0):cy P w H h e (exo C od e):=
 ⟨x,let ⟨_,_,q,_⟩:=x;⟨_,q⟩,fun h1 I ⟨vs,sl,q,r⟩ k=>⟨vs,sl,k _ q,r⟩⟩
theorem Oh(x:∃vs sl,h.get? e=some ⟨cls,od,.fields vs,sl⟩):cy P w H h e (exh cls od e):=
 ⟨x,let ⟨_,_,q⟩:=x;⟨_,q⟩,fun h1 I ⟨vs,sl,q⟩ k=>⟨vs,sl,k _ q⟩⟩
theorem LJ(x:∃I,h.Ns1 dx I/\(∀f,mJ (fl.lookup f) (I f))/\PySem.Within I (fl.map (·.1))):cy P w H h dx (xdo dx fl):=
 ⟨x,let ⟨_,⟨o,_,_,q,_⟩,_⟩:=x;⟨o,q⟩,fun h1 J ⟨I,n,r⟩ k=>⟨I,n.at k,r⟩⟩
theorem Dg(ok:HOk P w H h)(q:H e=some (exo C od e)):∃vs sl,h.get? e=some ⟨.ref C,od,.fields vs,sl⟩/\vs[1]? =some .none/\∃a0,vs[0]? =some a0:=(ok e _ q).1
theorem Hg(ok:HOk P w H h)(q:H e=some (exh cls od e)):∃vs sl,h.get? e=some ⟨cls,od,.fields vs,sl⟩:=(ok e _ q).1
theorem Lh(ok:HOk P w H h)(q:H dx=some (xdo dx fl)):∃I,h.Ns1 dx I/\(∀f,mJ (fl.lookup f) (I f))/\PySem.Within I (fl.map (·.1)):=(ok dx _ q).1
theorem Un.more(u:Un fs ex H H1 h h1)(hd:h.get? d=none)(U:H1 d=none):Un fs ex H (upd H1 d o) h h1 where
 keep:=u.keep
 slot:=u.slot
 free:=fun b J q n c=>by
  rw[aj (by rintro rfl;rw[hd] at q;cases q)]
  exact u.free b J q n c
 there:=u.there
 tups:=fun b I q=>by
  have z:=u.tups b I q;rw[aj (aq z U)];exact z
 frzs:=fun b J I q=>by
  have z:=u.frzs b J I q;rw[aj (aq z U)];exact z
 tbls:=fun b a q=>by
  obtain⟨m,z⟩:=u.tbls b a q;exact⟨m,by rw[aj (aq z U)];exact z⟩
theorem HOk.more(ok:HOk P w H h)(I:H d=none)(new:cy P w (upd H d o) h d o):HOk P w (upd H d o) h:=fun b u q=>by
 by_cases J:b=d
 .subst J;rw[ae] at q
  cases q
  exact new
 .rw[aj J] at q;exact(ok b u q).stay (fun _ _ _ r=>r) (fun c r=>by rw[aj (aq r I)];exact r) fun c U r=>by rw[aj (aq r I)];exact r
theorem uH(ok:HOk P w H h)(hd:h.get? d=none):H d=none:=by
 cases e:H d with
 | none=>rfl
 | some u=>
  obtain⟨o,q⟩:=(ok d u e).there;rw[hd] at q
  cases q
noncomputable def del(H:Hp)(a:Addr):Hp:=fun b=>if b=a then none else H b
theorem Em{a:Addr}:del H a a=none:=by unfold del;rw[R9 rfl]
theorem um{a b:Addr}(n:b≠a):del H a b=H b:=by unfold del;rw[R6 n]
theorem Nf{a:Addr}(n:H a=none):del (upd H a o) a=H:=by
 funext b
 by_cases z:b=a
 .subst z;rw[Em,n]
 .rw[um z,aj z]
theorem Lu{a b:Addr}{u:HO}(q:del H a b=some u):b≠a/\H b=some u:=by
 by_cases z:b=a
 .subst z;rw[Em] at q;cases q
 .rw[um z] at q;exact⟨z,q⟩
theorem Un.del{c:Heap->Prop}(u:Un fs ex H H1 h h1)(I:H1 d=some (.ext c)):Un fs ex H (del H1 d) h h1 where
 keep:=u.keep
 slot:=u.slot
 free:=fun b U q n I=>by
  have z:=u.free b U q n I;unfold L2.del
  split
  .rfl
  .exact z
 there:=u.there
 tups:=fun b J q=>by
  have z:=u.tups b J q;rw[um (by rintro rfl;rw[I] at z;cases z)]
  exact z
 frzs:=fun b U J q=>by
  have z:=u.frzs b U J q;rw[um (by rintro rfl;rw[I] at z;cases z)]
  exact z
 tbls:=fun b a q=>by
  obtain⟨m,z⟩:=u.tbls b a q;exact⟨m,by rw[um (by rintro rfl;rw[I] at z;cases z)];exact z⟩
theorem HOk.del{J:Heap->Prop}(ok:HOk P w H h)(I:H d=some (.ext J)):HOk P w (del H d) h:=fun b u q=>by
 obtain⟨_,q⟩:=Lu q;exact(ok b u q).stay (fun _ _ _ r=>r) (fun c r=>by rw[um (by rintro rfl;rw[I] at r;cases r)];exact r) fun c U r=>by rw[um (by rintro rfl;rw[I] at r;cases r)];exact r
end
theorem Py:typeLookup (.type "ValueError") "at"=pure none:=by rw[UZ,T_];kernel_rfl
theorem N1:typeLookup (.type "ValueError") "why"=pure none:=by rw[UZ,T_];kernel_rfl
theorem Mx:typeLookup (.type "ValueError") "line"=pure none:=by rw[UZ,T_];kernel_rfl
theorem Lq:typeLookup (.type "ValueError") "block"=pure none:=by rw[UZ,T_];kernel_rfl
theorem LI:typeLookup (.type "ValueError") "__class__"=pure (some (.builtin "object.__class__")):=by rw[UZ,T_];kernel_rfl
noncomputable abbrev xqs:List Str:=["__setattr__","__getattribute__","__getattr__","__class__","at","why","line","block"]
noncomputable def xfs:List Str:=["at","why","line","block"]
theorem N2{f:Str}(h:f∈xfs):typeLookup (.type "ValueError") f=pure none:=by
 unfold xfs at h;rcases Se.mp h with rfl | h
 .exact Py
 rcases Se.mp h with rfl | h
 .exact N1
 rcases Se.mp h with rfl | h
 .exact Mx
 rcases Se.mp h with rfl | h
 .exact Lq
 .cases h
theorem La{f:Str}(h:f∈xfs):f∈xqs:=R8 _ (R8 _ (R8 _ (R8 _ h)))
section
variable {X : Cx} {pins : List (Addr × Obj)} {σ : St} {H : Hp} {s : Shared} {C F e dx : Addr} {fI : Option Addr} {f : Str} {y : V} {u : Value} {A : Around} {E : Value → Shared → Prop} {Q : Unit → Shared → Prop} {fs : List (Str × V)}
theorem GD(I:Inv X pins Z H s)(c:XC X.K C F fI xqs)(m:f∈xfs)(he:H e=some (exo C none e))(ry:bC y u)
  (q:∀dx s',H dx=none->dx≠e->Inv X pins Z (upd (upd H e (exo C (some dx) e)) dx (xdo dx [(f,y)])) s'->Q () s'):wpAny (model X.prog X.w) A (setAttr (.ref e) f u) Q E s:=by
 obtain⟨mC,mF,x,_,_,L⟩:=c.at I.kIn;obtain⟨vs,sl,g0,v1,a0,v0⟩:=Dg I.hok he;have J:s.heap.Inst e C (fun _=>none):=⟨_,g0,rfl,(fun c z=>by cases z),.inl ⟨rfl,fun _=>rfl⟩⟩
 obtain⟨p,g,d,t,os⟩:=s;have N:=L "__setattr__" (.head _);have M:=L f (La m);refine x.store V_ N.1 N.2 M.1 M.2 (N2 m) J (fun j ab st=> ?_) PySem.Within.nil (by rw[Ut];decide)
 obtain⟨i,g1,c1,d1,Y,_,nd⟩:=st.self _ g0;obtain⟨dx,U,B⟩:=nd rfl;obtain⟨oo,D,hc,P,hd⟩:=st.inst;rw[g1] at D
 cases D
 rcases hd with⟨r,_⟩|⟨ar,G,ne,n1⟩
 .rw[U] at r;cases r
 rw[U] at G
 cases G
 have v:H dx=none:=uH I.hok B;have g2:j.get? e=some ⟨.ref C,some dx,.fields vs,sl⟩:=by
  rw[g1];obtain⟨oc,W,T,au⟩:=i
  cases c1;cases d1;cases Y;cases U
  rfl
 have n:Mut (H e):=by rw[he];exact True.intro
 have k:∀b u,b≠e->p.get? b=some u->j.get? b=some u:=fun b u hb q=>st.rest b u hb (fun O dy o z=>by
  rw[g0] at o
  cases o
  cases z) q
 have u1:Un X.fs [] H (upd H e (exo C (some dx) e)) p j:=Un.write n (.inl rfl) k ⟨_,g2⟩;have l:HOk X.prog X.w (upd H e (exo C (some dx) e)) j:=HOk.write I.hok n (.inl rfl) k ⟨_,g2⟩ (F8 ⟨vs,sl,g2,v1,a0,v0⟩);have a:upd H e (exo C (some dx) e) dx=none:=by rw[aj ne];exact v
 refine q dx _ v ne (I.un (u1.more B a) (l.more a (LJ ⟨_,n1,fun g=> ?_,fun g R=> ?_⟩)))
 .show mJ (List.lookup g [(f,y)]) (if g=f then some u else none)
  by_cases z:g=f
  .subst z;rw[R9 rfl];show mJ (match g==g with | true=>some y | false=>none) _
   rw[Tf];exact ry
  .rw[R6 z];show mJ (match g==f with | true=>some y | false=>none) _
   rw[Sy.mpr z];exact True.intro
 .by_cases z:g=f
  .subst z;exact .head _
  .exact absurd (R6 z) R
theorem IA(I:Inv X pins Z H s)(c:XC X.K C F fI xqs)(m:f∈xfs)(he:H e=some (exo C (some dx) e))(hd:H dx=some (xdo dx fs))(hl:fs.length<100)(ry:bC y u)
  (q:∀s',Inv X pins Z (upd H dx (xdo dx (bP f y fs))) s'->Q () s'):wpAny (model X.prog X.w) A (setAttr (.ref e) f u) Q E s:=by
 obtain⟨mC,mF,x,_,_,D⟩:=c.at I.kIn;obtain⟨vs,sl,g0,v1,a0,v0⟩:=Dg I.hok he;obtain⟨j,n1,rl,r⟩:=Lh I.hok hd;have ne:dx≠e:=by
  rintro rfl
  obtain⟨o,es,ep,z,zd,_⟩:=n1;rw[g0] at z
  cases z
  cases zd
 have J:s.heap.Inst e C j:=⟨_,g0,rfl,(fun c z=>by cases z),.inr ⟨dx,rfl,ne,n1⟩⟩
 obtain⟨T,g,d,t,os⟩:=s;have L:=D "__setattr__" (.head _);have G:=D f (La m);refine x.store V_ L.1 L.2 G.1 G.2 (N2 m) J (fun n ab st=> ?_) r (by rw[Ut,be];lia)
 obtain⟨i,g1,c1,d1,W,U,_⟩:=st.self _ g0;have U:=U dx rfl;obtain⟨oo,v,hc,N,l⟩:=st.inst;rw[g1] at v
 cases v
 rcases l with⟨p,_⟩|⟨ar,B,_,n2⟩
 .rw[U] at p;cases p
 rw[U] at B
 cases B
 have g2:n.get? e=some ⟨.ref C,some dx,.fields vs,sl⟩:=by
  rw[g1];obtain⟨oc,R,P,au⟩:=i
  cases c1;cases d1;cases W;cases U
  rfl
 have k:∀b u,b≠dx->T.get? b=some u->n.get? b=some u:=fun b u Y q=>by
  by_cases z:b=e
  .subst z;rw[g0] at q
   cases q
   exact g2
  .exact st.rest b u z (fun M dy a zz=>by
    rw[g0] at a
    cases a
    cases zz
    exact Y) q
 refine q _ (I.write (x:=dx) (e:=dx) (by rw[hd];exact True.intro) (.inl rfl) k (let ⟨o,_,_,z,_⟩:=n2;⟨o,z⟩) (LJ ⟨_,n2,fun g=> ?_,fun g O=> ?_⟩))
 .show mJ ((bP f y fs).lookup g) (if g=f then some u else j g)
  rw[qd]
  by_cases z:g=f
  .rw[R9 z,R9 z];exact ry
  .rw[R6 z,R6 z];exact rl g
 .by_cases z:g=f
  .rw[z];exact(m3 f y fs).1
  .refine(m3 f y fs).2 g (r g fun zz=>O ?_)
   show(if g=f then some u else j g)=none
   rw[R6 z];exact zz
end
def PV(K : Frag)(J b : TE)(f : Str) : TS := fun D Z H => b Z H fun y U => J Z U fun x I => ∃a C F c, x = .ref a ∧ XC K C F c xqs ∧ f ∈ xfs ∧
  ((I a = some (exo C none a) ∧ ∀o, I o = none → o ≠ a → D.nx Z (upd (upd I a (exo C (some o) a)) o (xdo o [(f, y)]))) ∨
   ∃o fs, I a = some (exo C (some o) a) ∧ I o = some (xdo o fs) ∧ fs.length<100 ∧ D.nx Z (upd I o (xdo o (bP f y fs))))
theorem Cc{X:Cx}{o J:Expr}{f:Str}{d b:Pos}{p m:TE}(P:PE X o p)(O:PE X J m)(hs:swapsWith J (some (.Attribute o f b)) d.line X.env=pure false):PS X (.Assign [.Attribute o f b] J d) (PV X.K p m f):=by
 intro U s Z H D I h;refine Vl (cw (O U s Z H _ I h) fun u z y B N n q=>thn (P U z Z B _ N q) fun G R ⟨x,Q,l,w,a,C,F,T,L,c,k,e⟩=> ?_) hs
 subst L;obtain rfl:G=Value.ref a:=w;rcases e with⟨i,e⟩|⟨r,fs,i,M,v,e⟩
 .exact GD l c k i n fun r E A ne j=>⟨Z,_,j,e r A ne⟩
 .exact IA l c k i M v n fun E j=>⟨Z,_,j,e⟩
def Hj(C:Addr)(ns:List Str):Sp:=fun vs H Q _=>∃e I,vs= .ref e::I/\I.length=ns.length/\H e=some (exo C none e)/\∀o,H o=none->o≠e->Q .non (upd (upd H e (exo C (some o) e)) o (xdo o (ns.zip I)))
structure yn (P:Program) (w:World) (K:Frag) (mg:Str->Option Value) (base:Heap) (k:Nat) (C F:Addr) (ps:List Str) (sp:Sp):Prop where
 ex:∃(f:Addr) (fd:FuncData),XC K C F (some f) xqs/\W.isFn K (.ref f)=true/\W.keepIn K (.ref C)=true/\gp K fd ps []/\iW P w K mg base CX0 k f fd ps sp
theorem yn.mono{P:Program}{w:World}{K:Frag}{mg:Str->Option Value}{base:Heap}{j k:Nat}{C F:Addr}{ps:List Str}{sp:Sp}(h:yn P w K mg base j C F ps sp)(o:j<=k):yn P w K mg base k C F ps sp:=by
 obtain⟨f,I,b,J,a,c,U⟩:=h.ex;exact⟨f,I,b,J,a,c,U.mono o⟩
structure Kz (K:Frag) (C F:Addr) (qual:Str) (st:Stmt) (ps:List Str):Prop where
 ex:∃(f:Addr) (fd:FuncData),Fun K "__init__" qual st f fd/\XC K C F (some f) xqs/\W.isFn K (.ref f)=true/\W.keepIn K (.ref C)=true/\gp K fd ps []
theorem Kz.has{P:Program}{w:World}{K:Frag}{mg:Str->Option Value}{base:Heap}{k:Nat}{C F:Addr}{I:Str}{st:Stmt}{N ps:List Str}{sp:Sp}(D:Kz K C F I st ps)(S:ak N ps (af st))(len:∀vs H Q E,sp vs H Q E->vs.length=ps.length)
  (U:∀(f:Addr) (J:Value) (A:Around) (o:List Env) (s:Shared) (H:Hp) (vs:List V) (Q:VK) (E:XK),Room k (A.deeper (envOfC I (af st) s.heap.objs.size f J))->sp vs H Q E->
   ∃t,PSs (eE CX0 P w K mg base N I (af st) f J A o s H E).nox (bF st) t/\t {nx:=fun _ i=>Q .non i,rt:=Q} (start N vs) H):yn P w K mg base (k+1) C F ps sp:=by
 obtain⟨f,d,j,hm,a,c,b⟩:=D.ex;exact⟨f,d,hm,a,c,b,j.ok S len fun J A o s H vs Q E e h=>U f J A o s H vs Q E e h⟩
theorem HK{K:Frag}{o:Str}{st:Stmt}{ps:List Str}{C F f:Addr}{i a:Option Addr}{sl:Array (Option Value)}{m kV j U cd ct:Value}(b:BdM "__init__" o st ps)(c:XC K C F (some f) xqs)
  (l:K.lookup f=some ⟨m,i,.func (W.fnOf "__init__" o (cA st) (bF st) (af st) .none kV j U a cd ct),sl⟩) (e:W.codeIn K cd o=true) (d:W.isFn K (.ref f)=true) (k:W.keepIn K (.ref f)=true) (J:W.keepIn K (.ref C)=true):
  Kz K C F o st ps:=by
 have I:=Cb (st:=st) l e k;exact⟨f,_,I,c,d,J,I.binds b⟩
def CXO(P:Program)(w:World):CXT:=fun o H s E e I=>
 ∃x C U J B a0,e=Value.ref x/\I.os=s.os/\AllBare I.gens/\AD P w o H s J B I.heap/\ID B o x C U a0 I.heap/\E C U J
section
variable {X : Cx} {pins : List (Addr × Obj)} {σ : St}
theorem LU{e:Expr}{b:Pos}{D:pD}{s:Shared}(c:X.A.handled=none)
  (h:wpAny (model X.prog X.w) X.A (eval e X.env) (fun v o=>∃e C F U J d mF f vs sl,v= .ref e/\ExC o.heap C F U J d mF/\U.contains (.type "BaseException")=true/\o.heap.get? e=some ⟨.ref C,f,.fields vs,sl⟩/\vs[1]? =some .none/\X.xe (.ref e) o) X.xe s):
  wpAny (model X.prog X.w) X.A (exec (.Raise (some e) none b) X.env) (SP X pins D) X.xe s:=by
 rw[arm_exec_Raise]
 first
  | refine RV (TZ (B1 c (RV (S8 h (fun v a I=>RV (TZ (Sf I))) fun _ _ x=>x))))
  | (simp only[evalOpt,Option.map];refine RV (TZ (B1 c (RV (S8 h (fun v a I=>RV (TZ (Sf I))) fun _ _ x=>x)))))
  | (simp only[evalOpt,Option.map];refine RV (TZ (B1 c h)))
theorem AD.out{i J:Hp}{s1 c:Shared}{e C:Addr}{j:Option Addr}(U:Inv X pins Z J c)(u:Un (frs X.stack) [] i J s1.heap c.heap)(f:s1.heap.get? e=none)(he:J e=some (exo C j e)):
  AD X.prog X.w X.stack i s1 (del J e) (W.hideAll c.heap (e::frs X.stack)) c.heap where
 un:=u.del he
 hok:=U.hok.del he
 st:=fun b o q=>Xo _ q
 kb:=fun b o q n I=>V4 _ (u.keep b o q n I (by simp)) (fun z=>by
  rcases Se.mp z with rfl | z
  .rw[f] at q;cases q
  .exact I z)
 hb:=fun a v q=>by
  obtain⟨ne,q⟩:=Lu q;obtain⟨o,ho⟩:=(U.hok a v q).there;refine⟨o,V4 _ ho fun z=> ?_⟩
  rcases Se.mp z with z | z
  .exact ne z
  .rw[U.stkFree a z] at q;cases q
 ab:=fun b o q I=>by
  obtain⟨k,ho⟩:=u.there b o q (by simp)
  refine⟨k,V4 _ ho fun z=> ?_⟩
  rcases Se.mp z with rfl | z
  .rw[f] at q;cases q
  .exact I z
 nf:=fun b I=>by
  obtain⟨_,o,ho,d⟩:=U.stack.mem I;exact⟨o,ho,d⟩
theorem Ow{J:Hp}{I:Shared}{e:Addr}(c:Inv X pins Z J I):On (W.hideAll I.heap (e::frs X.stack)) X.stack e I.heap:=
 ⟨fun b o q=>Xo _ q,W.hideAll_none _ (.head _),W.funFrames_hide c.stack fun C he a U=>R8 _ (Ux.mpr ⟨C,he,U⟩)⟩
end
section
variable {P : Program} {w : World} {K : Frag} {mg : Str → Option Value} {base : Heap} {N : List Str} {qual : Str} {scope : Scope} {f : Addr} {cd : Value} {A : Around} {outer : List Env} {s₀ : Shared} {H₀ : Hp} {E : XK}
theorem Ht{o:List (Addr × Obj)}{Z:St}{b J:Hp}{s1 a:Shared}{e C:Addr}{U:Option Addr}(i:Inv (eE (CXO P w) P w K mg base N qual scope f cd A outer s₀ H₀ E) o Z b s1)(I:Inv (eE (CXO P w) P w K mg base N qual scope f cd A outer s₀ H₀ E) o Z J a)
  (u:Un (frs (envOfC qual scope s₀.heap.objs.size f cd::outer)) [] b J s1.heap a.heap) (c:s1.heap.get? e=none) (he:J e=some (exo C U e)) (h:E (.ref C) U (del J e)):
  (eE (CXO P w) P w K mg base N qual scope f cd A outer s₀ H₀ E).xe (.ref e) a:=by
 have d:=AD.out (s1:=s1) I u c he;obtain⟨vs,sl,g0,v1,a0,v0⟩:=Dg I.hok he;refine FV (L:=s₀.heap.objs.size) I.ok.frames rfl (Ow I) ⟨vs,sl,g0,v0,v1⟩ fun k fl j=> ?_
 exact⟨e,.ref C,U,_,_,a0,rfl,I.os,I.bare,(d.next fl.on.stays j).pop i rfl rfl,fl,h⟩
def Ms(C:Addr)(sp:Sp)(E:XK)(t:TA):TS:=fun _ Z H=>t Z H fun vs J=>∀e,J e=none->sp (.ref e::vs) (upd J e (exo C none e)) (fun v I=>v= .non/\∃o,I e=some (exo C o e)/\E (.ref C) o (del I e)) E0
theorem jM{k:Nat}{x:Str}{C F:Addr}{ps:List Str}{sp:Sp}{a:Expr}{L:List Expr}{t:TA}{np J W:Pos}(h:yn P w K mg base k C F ps sp)(hr:Room (k+1) (A.deeper (envOfC qual scope s₀.heap.objs.size f cd)))(hg:Gl (eE (CXO P w) P w K mg base N qual scope f cd A outer s₀ H₀ E) x)(hm:mg x=some (.ref C))
  (aL:ps.length<=100) (ha:PA (eE (CXO P w) P w K mg base N qual scope f cd A outer s₀ H₀ E) (a::L) t) (aG:(x==("__debug__":Str))=false:=by decide)
  (he:starEach (a::L) (eE (CXO P w) P w K mg base N qual scope f cd A outer s₀ H₀ E).env=(false,eval a (eE (CXO P w) P w K mg base N qual scope f cd A outer s₀ H₀ E).env)::starEach L (eE (CXO P w) P w K mg base N qual scope f cd A outer s₀ H₀ E).env:=by rfl) (au:(backTo J (starEach L (eE (CXO P w) P w K mg base N qual scope f cd A outer s₀ H₀ E).env)).any (·.1)=false:=by rfl):
  PS (eE (CXO P w) P w K mg base N qual scope f cd A outer s₀ H₀ E) (.Raise (some (.Call (.Name x np) (a::L) [] J)) none W) (Ms C sp E t):=by
 obtain⟨fi,fd,c,ar,ab,hb,Fn⟩:=h.ex;intro G s Z H D I hh;refine LU hr.hd (Tn (jJ I hg hm ?_ aG))
 refine VM (h₀:=base) I.ok.mod.kin ab (cw (ha J G s Z H _ I hh) fun j s1 vs H1 n r q=>⟨n.kIn,?_⟩) he au
 obtain⟨mC,mF,x1,fin,ci,qn⟩:=c.at n.kIn;obtain⟨oI,T,X⟩:=Ki n.kIn ar;have hz:j.length<=sizeLine:=by
  have e1:=Fn.len _ _ _ _ (q s1.heap.objs.size (n.hok.fresh (R3 _)));have e2:=r.length;rw[R4,e2] at e1;rw[Ut]
  lia
 obtain⟨hp,g,d,R,os⟩:=s1;refine x1.make PySem.F.excBase_ValueError fin ci T X hz fun h' e m=> ?_
 have i:H1 e=none:=uH n.hok m.new;obtain⟨tt,ht,_,_⟩:=m.there;have I2:=n.un (t':=R) ((Un.kept m.keeps).more (o:=exo C none e) m.new i) ((n.hok.kept m.keeps).more i (F8 ⟨_,_,ht,rfl,_,rfl⟩));have hq:=q e i;have r2:aY (V.ref e::vs) (Value.ref e::j):= .cons rfl r;have hl:(Value.ref e::j++[]).length=ps.length:=by
  rw[SJ, <-r2.length];exact Fn.len _ _ _ _ hq
 have B:=hb ⟨h',g,d,R,os⟩ (Value.ref e::j) I2.kIn hl;rw[SJ] at B;refine VQ (Uy (Fn.run _ (envOfC qual scope s₀.heap.objs.size f cd::outer) ⟨h',g,d,R,os⟩ _ ⟨Value.ref e::j,[]⟩ (Value.ref e::j) _ _ E0 (hr.make C j []) (I2.env0.make C j []) B r2 hq) fun r3 s3 U=> ?_)
 cases r3 with
 | error z=>exact False.elim U
 | ok fl=>
  cases fl with
  | next=>exact False.elim U
  | brk=>exact False.elim U
  | cont=>exact False.elim U
  | ret u=>
   obtain⟨v,H3,aF,p,M,l,rv,ev,od,y,hE⟩:=U;subst ev;have I3:=I2.call' (s':=s3) (ch:=[]) aF M l p (fun b z=>absurd z (by simp))
   obtain⟨Q,Y,x3,_⟩:=c.at I3.kIn;obtain⟨O,aw,g3,v13,_⟩:=Dg l y;refine⟨rv,e,C,F,vbm,_,Q,Y,od,O,aw,rfl,x3,vE,g3,v13,?_⟩
   exact Ht n I3 (Un.trans ((Un.kept m.keeps).more (o:=exo C none e) m.new i) M) m.new y hE
theorem IE{x:Str}{C:Addr}{y a i:Pos}(c:GW K C)(r:Gl (eE (CXO P w) P w K mg base N qual scope f cd A outer s₀ H₀ E) x)(hm:mg x=some (.ref C))(j:(x==("__debug__":Str))=false:=by decide):
  PS (eE (CXO P w) P w K mg base N qual scope f cd A outer s₀ H₀ E) (.Raise (some (.Call (.Name x y) [] [] a)) none i) (ON E C):=by
 intro k s Z H D I h;obtain⟨bm,G,p,q,bs,U,l,sub,n,b,dd,k0,k1,k2,k3,k5,mN,B,z,d,T⟩:=c.obj I.kIn;refine wpAny_Raise_call_subT (C:=C) (nm:=p) (q:=q) (N:=G) (bs:=bs) (bm:=bm) (hdct:=U) (sn:=l) (sub:=sub) (ab:=n) (col:=b) (dd:=dd) (k0:=k0) (k1:=k1) (k2:=k2) (k3:=k3) (k5:=k5)
  F.excBase_ValueError (mN:=mN) (T.hasType rfl) (I.ok.hd rfl) rfl d (jJ I r hm ⟨rfl,evalArgs_empty ⟨rfl,SK _,B,z,T,fun L e m=> ?_⟩⟩ j)
 have J:H e=none:=uH I.hok m.new;obtain⟨M,u,_,_⟩:=m.there;have v:=I.un (t':=s.toks) ((Un.kept m.keeps).more (o:=exo C none e) m.new J) ((I.hok.kept m.keeps).more J (F8 ⟨_,_,u,rfl,_,rfl⟩));refine Ht I v ((Un.kept m.keeps).more (o:=exo C none e) m.new J) m.new ae ?_
 rw[Nf J];exact h
theorem ij{Y:Cx}(e:Y=eE (CXO P w) P w K mg base N qual scope f cd A outer s₀ H₀ E):Et (CXO P w) Y (fun _=>E):=by
 subst e;rintro U Z H s e i I ⟨x,J,a,c,B,a0,rfl,b,o,F,fl,q⟩
 refine Gg (L:=s₀.heap.objs.size) I.ok.frames rfl fl fun j C d=> ?_
 exact⟨x,J,a,c,B,a0,rfl,b.trans I.os,o,(F.next C.on.stays d).pop I rfl rfl,C,q⟩
end
structure dA (P:Program) (w:World) (K:Frag) (mg:Str->Option Value) (base:Heap) (k:Nat) (x:Str) (ps:List Str) (dvs:List V) (sp:Sp):Prop where
 ex:∃(f:Addr) (fd:FuncData) (ds:List Value),mg x=some (.ref f)/\W.keepIn K (.ref f)=true/\gp K fd ps []/\(dvs=[]\/(gp K fd ps ds/\aY dvs ds))/\iW P w K mg base (CXO P w) k f fd ps sp
theorem dA.mono{P:Program}{w:World}{K:Frag}{mg:Str->Option Value}{base:Heap}{j k:Nat}{x:Str}{ps:List Str}{o:List V}{sp:Sp}(h:dA P w K mg base j x ps o sp)(C:j<=k):dA P w K mg base k x ps o sp:=by
 obtain⟨f,I,U,c,J,b,d,a⟩:=h.ex;exact⟨f,I,U,c,J,b,d,a.mono C⟩
theorem dA.nod{P:Program}{w:World}{K:Frag}{mg:Str->Option Value}{base:Heap}{k:Nat}{x:Str}{ps:List Str}{o:List V}{sp:Sp}(h:dA P w K mg base k x ps o sp):dA P w K mg base k x ps [] sp:=by
 obtain⟨f,C,J,b,I,a,c,U⟩:=h.ex;exact⟨f,C,J,b,I,a,.inl rfl,U⟩
theorem Def.hasO{P:Program}{w:World}{K:Frag}{mg:Str->Option Value}{base:Heap}{k:Nat}{x:Str}{st:Stmt}{N ps:List Str}{sp:Sp}(D:Def K mg x st ps)(S:ak N ps (af st))(len:∀vs H Q E,sp vs H Q E->vs.length=ps.length)
  (I:∀(f:Addr) (C:Value) (A:Around) (o:List Env) (s:Shared) (H:Hp) (vs:List V) (Q:VK) (E:XK),Room k (A.deeper (envOfC x (af st) s.heap.objs.size f C))->sp vs H Q E->
   ∃t,PSs (eE (CXO P w) P w K mg base N x (af st) f C A o s H E) (bF st) t/\t {nx:=fun _ e=>Q .non e,rt:=Q} (start N vs) H):dA P w K mg base (k+1) x ps [] sp:=by
 obtain⟨f,m,F,hm,a⟩:=D.ex;obtain⟨p,n,kV,U,i,j,C,l,d,rfl,b,J⟩:=F.ex;exact⟨f,_,[],hm,F.kp,a,.inl rfl,LC b J S len fun A o s H vs Q E c h=>I f C A o s H vs Q E c h⟩
structure K_ (K:Frag) (mg:Str->Option Value) (x:Str) (st:Stmt) (ps:List Str) (dvs:List V):Prop where
 ex:∃(f:Addr) (ds:List Value) (oc:Value) (od:Option Addr) (dV kV doc pm:Value) (an:Option Addr) (cdv ct:Value) (osl:Array (Option Value)),
  K.lookup f=some ⟨oc,od,.func (W.fnOf x x (cA st) (bF st) (af st) dV kV doc pm an cdv ct),osl⟩/\W.codeIn K cdv x=true/\W.keepIn K (.ref f)=true/\mg x=some (.ref f)/\
  gp K (W.fnOf x x (cA st) (bF st) (af st) dV kV doc pm an cdv ct) ps []/\gp K (W.fnOf x x (cA st) (bF st) (af st) dV kV doc pm an cdv ct) ps ds/\aY dvs ds
theorem K_.hasO{P:Program}{w:World}{K:Frag}{mg:Str->Option Value}{base:Heap}{k:Nat}{x:Str}{st:Stmt}{N ps:List Str}{J:List V}{sp:Sp}(D:K_ K mg x st ps J)(S:ak N ps (af st))(len:∀vs H Q E,sp vs H Q E->vs.length=ps.length)
  (I:∀(f:Addr) (C:Value) (A:Around) (o:List Env) (s:Shared) (H:Hp) (vs:List V) (Q:VK) (E:XK),Room k (A.deeper (envOfC x (af st) s.heap.objs.size f C))->sp vs H Q E->
   ∃t,PSs (eE (CXO P w) P w K mg base N x (af st) f C A o s H E) (bF st) t/\t {nx:=fun _ l=>Q .non l,rt:=Q} (start N vs) H):dA P w K mg base (k+1) x ps J sp:=by
 obtain⟨f,e,v,r,u,kV,b,n,p,C,q,j,d,U,kp,hm,c,a,m⟩:=D.ex;exact⟨f,_,e,hm,kp,c,.inr ⟨a,m⟩,LC d U S len fun A o s H vs Q E i h=>I f C A o s H vs Q E i h⟩
section
variable {X : Cx}
def LP(sp:Sp)(o:List V)(I:St->XK)(t:TA):TE:=fun Z H Q=>t Z H fun vs C=>sp (vs++o) C Q (I Z)
theorem Lm{k:Nat}{x:Str}{ps:List Str}{C:List V}{sp:Sp}{m:St->XK}{e:Expr}{i:List Expr}{t:TA}{p U:Pos}(h:dA X.prog X.w X.K X.mg X.base k x ps C sp)(P:Room k X.A)(M:Gl X x)(hc:Et (CXO X.prog X.w) X m)
  (ha:PA X (e::i) t) (B:(x==("__debug__":Str))=false:=by decide) (he:starEach (e::i) X.env=(false,eval e X.env)::starEach i X.env:=by rfl) (n:(backTo U (starEach i X.env)).any (·.1)=false:=by rfl):
  PE X (.Call (.Name x p) (e::i) [] U) (LP sp C m t):=by
 obtain⟨f,O,L,hm,N,y,v,F⟩:=h.ex;intro o s Z H Q I R;refine Tn (jJ I M hm ?_ B)
 refine VM (h₀:=X.base) I.ok.mod.kin N (cw (ha U o s Z H _ I R) fun J a vs G b r q=>⟨b.kIn,?_⟩) he n
 have fin:∀(j:List Value) (D:List V),aY D j->D=vs++C->BindsTo a O ⟨J,[]⟩ (ps.zip j)->wpAny (model X.prog X.w) X.A (call (.ref f) J) (EP X o Z Q) X.xe a:=fun j D T Y z=>by
  subst Y;refine VQ (Uy (F.run X.A X.stack a G ⟨J,[]⟩ j _ Q (m Z) P b.env0 z T q) fun l W c=> ?_)
  cases l with
  | error e=>exact hc o Z G a e W b c
  | ok fl=>
   cases fl with
   | ret u=>exact b.after c
   | next=>exact False.elim c
   | brk=>exact False.elim c
   | cont=>exact False.elim c
 have E:=F.len _ _ _ _ q;rcases v with rfl | ⟨v,hv⟩
 .refine fin J vs r (by rw[SJ]) ?_
  have d:=y a J b.kIn (by rw[SJ, <-r.length];simpa using E)
  rw[SJ] at d;exact d
 .have l:aY (vs++C) (J++L):=r.append hv;exact fin (J++L) _ l rfl (v a J b.kIn (by rw[<- l.length];exact E))
theorem b_{k:Nat}{x:Str}{ps:List Str}{a:List V}{sp:Sp}{c:St->XK}{e:Expr}{J:List Expr}{t:TA}{p C:Pos}(h:dA X.prog X.w X.K X.mg X.base k x ps a sp)(f:Room k X.A)(d:Gl X x)(j:Et (CXO X.prog X.w) X c)
  (l:PA X (e::J) t) (b:(x==("__debug__":Str))=false:=by decide) (he:starEach (e::J) X.env=(false,eval e X.env)::starEach J X.env:=by rfl) (U:(backTo C (starEach J X.env)).any (·.1)=false:=by rfl):
  PE X (.Call (.Name x p) (e::J) [] C) (O2 sp c t):=by
 have z:=Lm (p:=p) h.nod f d j l b he U;intro o s Z H Q I i;refine z o s Z H Q I ?_
 unfold LP
 simp only[SJ]
 exact i
end
def Gn(K:Frag)(cls:Value)(D:Addr):Prop:=∃C F o,cls= .ref C/\XC K C F o xqs/\(D=C\/(D=F/\GW K F))
theorem Gj{K:Frag}{M:Model}{A:Around}{E:Value->Shared->Prop}{h:Heap}{g:Array GenState}{d:Drawn}{t:Nat}{J:OsState}{cls:Value}{D e:Addr}{I:Obj}{Q:Bool->Shared->Prop}(X:K.In h)(f:Gn K cls D)(he:h.get? e=some I)(a:I.cls=cls)
  (o:Q true ⟨h,g,d,t,J⟩):wpAny M A (excMatches (.ref e) (.ref D)) Q E ⟨h,g,d,t,J⟩:=by
 obtain⟨C,F,p,rfl,c,hd⟩:=f;obtain⟨i,mF,x,_⟩:=c.at X;obtain⟨⟨l,n,N,bs,j,sub,k,b,dd,k0,k1,k2,k3,k5,U,m⟩,_⟩:=x;rcases hd with rfl | ⟨rfl,cF⟩
 .exact wpAny_excMatches_sub_self U he a (by rw[S_,vE,Ui]) o
 .obtain⟨bm,N',nm',q2,bs',hdct,sn',sub',ab',col',dd',j0,j1,j2,j3,j5,mN,hF,hN,hni,T⟩:=cF.obj X;exact GF U hF he a (by simp) (T.hasType rfl) o
section
variable {X : Cx} {pins : List (Addr × Obj)} {σ : St} {H : Hp} {s : Shared}
theorem Inv.forget{i:Nat}{n:Str}{m:Str->Option Value}{v:Option Value}{h':Heap}{t':Nat}(I:Inv X pins Z H s)(F:X.N.Nodup)(w:X.N[i]? =some n)(Q:X.env.scope.names.lookup n=some .local)
  (B:∀(i:Nat) (x:Str) (v:V),X.N[i]? =some x->Z[i]? =some (some v)->Vis X.env.scope x->∃u,bC v u/\QB X.env s.heap m x u) (l:h'.Ns X.env.locals (fun x=>if x=n then v else m x)) (hs:Heap.SameBut X.env.locals s.heap h'):
  Inv X pins (Z.set i none) H {s with heap:=h',toks:=t'}:=by
 have r:i<Z.length:=by rw[I.len];exact(RX.mp w).1
 have cne:=I.cne;obtain⟨P,⟨R,_,_,O,_⟩,_⟩:=id I.loc;refine⟨I.ok,I.os,I.bare,⟨fun b o e n f J=> ?_,fun b o e n f J=> ?_,I.base.free,fun b o e J=> ?_,I.base.tups,I.base.frzs,I.base.tbls⟩,⟨_,l,fun j y G C U K=> ?_⟩,fun y c e=> ?_,I.free,I.freeC,fun p D=> ?_,fun b M e=> ?_,by simpa using I.len⟩
 .exact(hs.2 b (Sk (Sb (R_ e) I.ok.above))).trans (I.base.keep b o e n f J)
 .obtain⟨sl,C⟩:=I.base.slot b o e n f J;exact⟨sl,(hs.2 b (Sk (Sb (R_ e) I.ok.above))).trans C⟩
 .obtain⟨o',C⟩:=I.base.there b o e J;exact⟨o',(hs.2 b (Sk (Sb (R_ e) I.ok.above))).trans C⟩
 .by_cases hj:j=i
  .subst hj;rw[Uv r] at U
   cases U
  .rw[Vw (SD hj)] at U;obtain⟨L,E,q⟩:=B j y G C U K;refine⟨L,E,?_⟩
   rcases q with⟨k,e⟩|⟨k,c,e,z⟩
   .refine .inl ⟨k,?_⟩
    have:y≠n:=fun e=>hj (zo F C (e ▸ w))
    simp [this,e]
   .exact .inr ⟨k,c,e,z.sameBut hs (cne y c e)⟩
 .obtain⟨A,z⟩:=I.cell y c e;exact⟨A,z.sameBut hs (cne y c e)⟩
 .obtain⟨e,n,ne,nf,d⟩:=I.pin p D;exact⟨(hs.2 p.1 ne).trans e,n,ne,nf,d⟩
 .refine(I.hok b M e).stay (fun c A a q=>(hs.2 c ?_).trans q) (fun _ q=>q) fun _ _ q=>q
  rintro rfl
  rcases a with rfl | a
  .rw[I.free] at e;cases e
  .rw[I.free] at a;cases a
theorem rT{M:Model}{A:Around}{E:Value->Shared->Prop}{i:Nat}{n:Str}{U:Pos}{Q:Unit->Shared->Prop}(I:Inv X pins Z H s)(d:X.N.Nodup)(C:X.N[i]? =some n)(o:X.env.scope.names.lookup n=some .local)
  (h:∀s',Inv X pins (Z.set i none) H s'->Q () s'):wpAny M A (do bindName X.env n .none;unbindBehindTheSuite X.env n U) Q E s:=by
 refine RV (wpAny_bindName (vX (v:= .non) I d C (.inl o) rfl (fun f e=> ?_) (.inr o)))
 obtain⟨m,j,c⟩:=id e.loc;have b:i<Z.length:=by rw[I.len];exact(RX.mp C).1
 obtain⟨u,_,k⟩:=c i n .non C (Uv b) (.inl o);have l:m n=some u:=by
  rcases k with⟨_,z⟩|⟨z | z,_⟩
  .exact z
  .have z':X.env.scope.names.lookup n=some .cell:=z;rw[o] at z';cases z'
  .have z':X.env.scope.names.lookup n=some .free:=z;rw[o] at z';cases z'
 refine Gq o j l (by rw[I.ok.kind];rfl) fun p v a hs=> ?_
 have J:=e.forget (t':=f.toks) d C o c a hs;rw[List.set_set] at J;exact h _ J
noncomputable def Ak(i:Nat)(D:pD):pD:={nx:=fun Z H=>D.nx (Z.set i none) H,rt:=D.rt,bk:=fun Z H=>D.bk (Z.set i none) H,ct:=fun Z H=>D.ct (Z.set i none) H}
def OL(K:Frag)(i:Nat)(b:Addr)(c:(St->XK)->TS)(J:TS):TS:=fun I Z H=>c (fun a o U C=>Gn K o b/\∀e,C e=none->J (Ak i I) (a.set i (some (.ref e))) (upd C e (exh o U e))) I Z H
theorem FN{x n:Str}{i:Nat}{Dc:Addr}{k c:List Stmt}{j:Stmt}{np hp aF:Pos}{tb:(St->XK)->TS}{th:TS}(hg:Gl X x)(hm:X.mg x=some (.ref Dc))(W:X.N.Nodup)(O:X.N[i]? =some n)(E:X.env.scope.names.lookup n=some .local)
  (hb:∀(Eb:Value->Shared->Prop) (pins:List (Addr × Obj)) (Ef:St->XK),Et (CXO X.prog X.w) (X.inTry Eb pins) Ef->PSs (X.inTry Eb pins) k (tb Ef))
  (hh:∀e,PSs (X.inExc e) (j::c) th) (hs:X.stack=X.env::X.outer:=by rfl) (hf:X.env.frame=some X.env.locals:=by rfl) (aN:(x==("__debug__":Str))=false:=by decide):
  PS X (.Try k [.ExceptHandler (some (.Name x np)) (some n) (j::c) hp] [] [] aF) (OL X.K i Dc tb th):=by
 intro pins s Z H D I h;refine wpAny_Try_except ?_
 have hc:Et (CXO X.prog X.w) (X.inTry (fun e s'=>∃J L y,Inv X pins J L y/\CXO X.prog X.w X.stack L y (fun U P C=>Gn X.K U Dc/\∀e,C e=none->th (Ak i D) (J.set i (some (.ref e))) (upd C e (exh U P e))) e s') pins) (fun J U P C=>Gn X.K U Dc/\∀e,C e=none->th (Ak i D) (J.set i (some (.ref e))) (upd C e (exh U P e))):=
  fun _ J L y e s' d q=>⟨J,L,y,d.outTry,q⟩
 refine S8 (hb _ pins _ hc [] s Z H D (I.inTry _) h) (fun f G q=> ?_) (fun e G q=> ?_)
 .cases f with
  | next=>obtain⟨J,C,d,q⟩:=q;exact UV ⟨J,C,d.outTry,q⟩
  | brk=>obtain⟨J,C,d,q⟩:=q;exact⟨J,C,d.outTry,q⟩
  | cont=>obtain⟨J,C,d,q⟩:=q;exact⟨J,C,d.outTry,q⟩
  | ret u=>obtain⟨v,J,C,d,r,q⟩:=q;exact⟨v,J,C,d.outTry,r,q⟩
 .obtain⟨J,L,y,I0,x',U,P,C,B,a0,rfl,os,bare,F,fl,ft,q⟩:=q;have M:=fl;rw[hs] at M;have a:C x'=none:=by
   cases e:C x' with
   | none=>rfl
   | some u=>
    obtain⟨o,z⟩:=F.hb x' u e;rw[fl.on.new] at z
    cases z
  have R:y.heap.get? x'=none:=by
   cases e:y.heap.get? x' with
   | none=>rfl
   | some o=>
    by_cases hx:x'∈frs X.stack
    .obtain⟨o2,z,zd⟩:=F.nf x' hx;obtain⟨T,⟨vs,sl,g5,_,_⟩,_⟩:=fl.tr;rw[g5] at z
     cases z
     exact absurd rfl (zd vs)
    .obtain⟨o2,z⟩:=F.ab x' o e hx;rw[fl.on.new] at z
     cases z
  refine Bb (I0.ok.frames.trans (by rw[hs])) hf M fun h4 aG aL=> ?_
  refine nN aG fun h5 A aw=> ?_
  have F5:=F.next A.on.stays (aL.trans aw);have J5:Inv X pins J C {G with heap:=h5}:=I0.call' (s':={G with heap:=h5}) (ch:=[]) os F5.un F5.hok bare (fun b z=>absurd z (by simp))
  obtain⟨T,⟨vs,sl,g5,_,_⟩,_⟩:=A.tr;refine wpAny_handleBy_cons (codeAny_handlers_test (jJ (X:=X.inExc x') (J5.inExc x') hg hm ?_ aN)) (by intro z;cases z)
  refine Gj J5.kIn ft g5 rfl (codeAny_handlers_suite_as ?_)
  refine nN A fun h6 Q au=> ?_
  have F6:=F5.next Q.on.stays au;obtain⟨T6,⟨ar,aR,g6,_,_⟩,_⟩:=Q.tr;have J6:Inv X pins J (upd C x' (exh U P x')) {G with heap:=h6}:=I0.call' (s':={G with heap:=h6}) (ch:=[]) os (F6.un.more R a) (F6.hok.more a (Oh ⟨ar,aR,g6⟩)) bare (fun b z=>absurd z (by simp))
  refine vX (v:= .ref x') J6 W O (.inl E) rfl (fun s8 J8=> ?_) (.inr E)
  refine S8 (hh x' pins _ _ _ _ (J8.inExc x') (q x' a)) (fun f s2 Y=> ?_) fun _ _ z=>False.elim z
  cases f with
  | next=>obtain⟨Z2,l,m,q⟩:=Y;exact rT (m.outExc I0.ok) W O E fun s9 p=>⟨_,l,p,q⟩
  | brk=>obtain⟨Z2,l,m,q⟩:=Y;exact rT (m.outExc I0.ok) W O E fun s9 p=>⟨_,l,p,q⟩
  | cont=>obtain⟨Z2,l,m,q⟩:=Y;exact rT (m.outExc I0.ok) W O E fun s9 p=>⟨_,l,p,q⟩
  | ret u=>obtain⟨v,Z2,l,m,r,q⟩:=Y;exact rT (m.outExc I0.ok) W O E fun s9 p=>⟨v,_,l,p,r,q⟩
theorem DP{K:Frag}{C F:Addr}{O:Option Addr}(c:XC K C F O xqs){x:Addr}:PySem.W.KitX K (.ref x) (.ref C) (fun h=>∃o,h.get? x=some o/\o.cls= .ref C) where
 ty:=fun M h X p=>by
  obtain⟨o,f,I⟩:=p;exact I ▸ (PySem.W.Looks.ld f).andThen .now
 it:=fun M h X p=>by
  obtain⟨i,mF,⟨⟨D,L,N,bs,v,sub,y,U,dd,k0,k1,k2,k3,k5,b,G⟩,_⟩,_⟩:=c.at X;intro Z R Y P k q;unfold isType loadHead;exact RV (wpAny_loadPart (k _ _ b) (Sf q))
 ne:=fun h u dd B n sl X J=>by
  obtain⟨i,mF,⟨⟨D,L,N,bs,v,sub,y,U,dd,k0,k1,k2,k3,k5,b,G⟩,_⟩,_⟩:=c.at X;refine Bool.eq_false_iff.mpr fun q=> ?_
  have e:C=u:=Value.ref.inj (Tc.mp q);subst e;have z:=b.symm.trans J;have z2:=congrArg Obj.data (Sj z);exact absurd z2 (by unfold excClassObj;intro z3;cases z3)
 ca:=fun {l w A E Q s} X p k=>by
  obtain⟨o,f,I⟩:=p;obtain⟨i,mF,x,_,_,a⟩:=c.at X;obtain⟨T,g,d,t,os⟩:=s;have r:=a "__getattribute__" (.tail _ (.head _));have j:=a "__getattr__" (.tail _ (.tail _ (.head _)));have m:=a "__class__" (.tail _ (.tail _ (.tail _ (.head _))));exact x.klass VO vE Mt LI ⟨r.1,j.1⟩ ⟨r.2,j.2⟩ m.1 m.2 f I k
def QP(K:Frag):List V->Hp->VK->Prop:=fun o H Q=>∃e D C F J I b,o=[.ref e,.ref D]/\H e=some (exh (.ref C) I e)/\XC K C F J xqs/\W.kitOne K (.ref C) (.ref D)=some b/\Q (.bl b) H
theorem Kl:fq X (.builtin "isinstance") (QP X.K):=by
 intro pins s Z H d j Q I r h;obtain⟨e,D,C,F,k,f,b,rfl,he,c,J,q⟩:=h;obtain⟨u,a,rfl,U,o⟩:=E2 r;obtain rfl:u=Value.ref e:=U;obtain rfl:a=Value.ref D:=o;obtain⟨vs,sl,g0⟩:=Hg I.hok he;exact TH (DP c) I.kIn ⟨_,g0,rfl⟩ J (fun z=>nomatch z) fun i=>⟨.bl b,H,I.tok _,rfl,q⟩
def Ny(K:Frag)(J:TE)(f:Str):TE:=fun Z H Q=>J Z H fun x I=>∃a C F U o fs v,x= .ref a/\I a=some (exh (.ref C) (some o) a)/\XC K C F U xqs/\f∈xfs/\I o=some (xdo o fs)/\fs.lookup f=some v/\Q v I
theorem LZ{e:Expr}{f:Str}{b:Pos}{y:TE}(he:PE X e y)(B:attributeBase e f X.env (eval e X.env)=eval e X.env):PE X (.Attribute e f b) (Ny X.K y f):=by
 intro pins s Z H Q I h;refine HU B (thn (he pins s Z H _ I h) fun u m ⟨x,n,U,A,a,C,F,fI,Y,fs,v,L,D,c,j,M,l,q⟩=> ?_)
 subst L;obtain rfl:u=Value.ref a:=A;obtain⟨vs,sl,g0⟩:=Hg U.hok D;obtain⟨G,n1,N,R⟩:=Lh U.hok M;obtain⟨u,E,k⟩:=mJ.some_of (v:=v) (o:=G f) (by rw[<- l];exact N f)
 obtain⟨P,mF,x,_,_,i⟩:=c.at U.kIn;have w:=i "__getattribute__" (.tail _ (.head _));have p:=i "__getattr__" (.tail _ (.tail _ (.head _)));have r:=i f (La j);have J:∀t,Inv X pins Z n {m with toks:=t}:=fun t=>U.tok t
 obtain⟨O,g,d,t,T⟩:=m;exact x.load VO vE ⟨w.1,p.1⟩ ⟨w.2,p.2⟩ r.1 r.2 (N2 j) g0 rfl (fun c z=>by cases z) rfl n1.ns E (W.handedOut_of (Bw k)) ⟨v,n,J _,k,q⟩
end
noncomputable def Itc(lo:Int)(n:Nat)(c:Int):It:=⟨fun i _=>i<n,fun i H x o=>o=H/\x= .int (lo+i*c),fun i _=>n<=i⟩
theorem EI{P:Program}{w:World}{K:Frag}{r:Expr}(it:Addr)(lo:Int)(n:Nat)(c:Int):yK P w K r (Itc lo n c) [it] it (fun i h=>IsRangeIter h it (lo+(i:Nat)*c) ((n:Int) - (i:Nat)) c) where
 mem:=by simp
 obj:=fun i h st b J=>by
  have e:b=it:=by simpa using J
  subst e
  exact⟨_,st,fun v z=>by
   have q:Data.fields _=Data.cell v:=z
   cases q⟩
 keep:=fun i h d st k=>k it (by simp) _ st
 item:=by
  intro X m hw j l i C s Z H E I a st f;subst m hw j;obtain⟨f0,f1,f2,f3,f4,f5⟩:=a it (by simp)
  have W:=Walks.range (prog:=X.prog) (w:=X.w) (I.ok.hd l) it lo c n;refine W.item i s _ _ f st fun v d p y U u=> ?_
  obtain⟨t,rfl⟩:=y;have A:Inv X C Z H {s with heap:=d,toks:=p}:=I.turned (fun b o J e=>u b o (by simpa using J) e) f0 f1 f3 f4 f5
  exact⟨_,rfl,DO (s:={s with heap:=d,toks:=p}) (n:="range_iterator") U rfl rfl (by decide) ⟨.int (lo+i*c),H,A,⟨t,rfl⟩,⟨rfl,rfl⟩,U,fun b J=>(a b J).1⟩⟩
 done:=by
  intro X m hw j l i C s Z H E I a st f;subst m hw j;obtain⟨f0,f1,f2,f3,f4,f5⟩:=a it (by simp)
  exact Ws (I.ok.hd l) st (by have:n<=i:=f;lia) fun d x=>⟨rfl,I.turned (t':=s.toks) (fun b o J e=>x b o J e) f0 f1 f3 f4 f5⟩
 self:=fun _ _ _ _ _ st h=>Wt st h
theorem K2{a b c:Int}(o:0<c):0<=Builtin.Range.rangeSize a b c/\(a<=b->Builtin.Range.rangeSize a b c<=b - a):=by
 unfold Builtin.Range.rangeSize;rw[R9 o]
 split
 .have h1:0<=(b - a - 1) / c:=Int.ediv_nonneg (by lia) (by lia)
  have C:(b - a - 1) / c<=b - a - 1:=Int.ediv_le_self _ (by lia)
  lia
 .lia
theorem MT{a b c:Int}(e: -1000000000<=a)(d:a<1000000000)(f: -1000000000<=b)(J:b<1000000000)(o:0<c)(C:c<1000):Builtin.Range.small a b c=true:=by
 have U:=K2 (a:=a) (b:=b) o;have I:¬a<=b->Builtin.Range.rangeSize a b c=0:=fun z=>by
  unfold Builtin.Range.rangeSize;rw[R9 o,R6 (by lia)]
 unfold Builtin.Range.small;generalize Builtin.Range.rangeSize a b c=n at*
 simp only[Builtin.Range.rangeFitsLong,Su,Bool.or_eq_true,TL,Tc,show c >0 from o,UW]
 by_cases z:a<=b
 .have:=U.2 z
  lia
 .have:=I z
  lia
section
variable {X : Cx} {tg : Expr}
def Qf(o:TA):TI:=fun Z H R=>o Z H fun vs C=>∃i j c:Int,vs=[.int i,.int j,.int c]/\(-1000000000<=i/\i<1000000000/\ -1000000000<=j/\j<1000000000/\0<c/\c<1000)/\R (Itc i (Builtin.Range.rangeSize i j c).toNat c) C
theorem IU{J:List (Addr × Obj)}{Z:St}{H:Hp}{s:Shared}{R:It->Hp->Prop}{E:Value->Shared->Prop}{lo C c:Int}{t u v:Tok}{U:Nat}(I:Inv X J Z H s)(n: -1000000000<=lo)(k:lo<1000000000)(m: -1000000000<=C)(p:C<1000000000)(f:0<c)(i:c<1000)
  (q:R (Itc lo (Builtin.Range.rangeSize lo C c).toNat c) H):wpAny (model X.prog X.w) X.A (pyIter (.ref s.heap.objs.size)) (PIE X J Z tg R) E {s with heap:=s.heap.push {cls:= .type "range",data:= .fields #[.int lo t,.int C u,.int c v]},toks:=U}:=by
 refine wpAny_pyIter_range (IsRange.new ..) (MT n k m p f i) ?_
 have d:Inv X J Z H {s with heap:=s.heap.push {cls:= .type "range",data:= .fields #[.int lo t,.int C u,.int c v]},toks:=U}:=I.kept fun b o e=>gV _ e
 refine⟨(s.heap.push {cls:= .type "range",data:= .fields #[.int lo t,.int C u,.int c v]}).objs.size,[(s.heap.push {cls:= .type "range",data:= .fields #[.int lo t,.int C u,.int c v]}).objs.size],_,_,H,rfl,
  d.kept (t':=U) fun b o e=>gV _ e,EI _ lo (Builtin.Range.rangeSize lo C c).toNat c,?_,fun b j=> ?_,q⟩
 .have e1:lo+((0:Nat):Int)*c=lo:=by simp
  have l:(((Builtin.Range.rangeSize lo C c).toNat:Nat):Int) - ((0:Nat):Int)=Builtin.Range.rangeSize lo C c:=by
   have:=(K2 (a:=lo) (b:=C) f).1
   lia
  show IsRangeIter _ _ (lo+((0:Nat):Int)*c) ((((Builtin.Range.rangeSize lo C c).toNat:Nat):Int) - ((0:Nat):Int)) c
  rw[e1,l];exact Sh _ rfl
 .have e:b=(s.heap.push {cls:= .type "range",data:= .fields #[.int lo t,.int C u,.int c v]}).objs.size:=by simpa using j
  subst e;exact d.fpOk (R3 _) (d.hok.fresh (R3 _))
theorem Br{a b c:Expr}{d:TA}{p J:Pos}(f:Gl X "range")(hm:X.mg "range"=none)(x:PA X [a,b,c] d)(hs:starEach [a,b,c] X.env=[(false,eval a X.env),(false,eval b X.env),(false,eval c X.env)]:=by rfl)(C:starEach [b,c] X.env=[(false,eval b X.env),(false,eval c X.env)]:=by rfl):
  PI X tg (.Call (.Name "range" p) [a,b,c] [] J) (Qf d):=by
 intro o s Z H R I h;refine Call_ (lL I f hm boot_range (SZ (cw (x J o s Z H _ I h) fun D A vs B v u U=> ?_) (by rw[hs,C]) (by rw[C];rfl)))
 obtain⟨i,j,c,e,⟨U,l,m,n,w,y⟩,q⟩:=U;subst e
 cases u with
 | cons r rr=>
  cases rr with
  | cons r' rr=>
   cases rr with
   | cons r'' rr=>
    cases rr
    obtain⟨t,rfl⟩:=r;obtain⟨z,rfl⟩:=r';obtain⟨k,rfl⟩:=r'';exact call_range_3 (by lia) (IU v U l m n w y q) (.inl (PyProof.noPylong_small (by lia)))
theorem Hk{lo c:Int}{n:Nat}{g:TG}{d:TS}{D:pD}{Z:St}{H:Hp}(C:Nat->St->Hp->Prop)(j:C 0 Z H)
  (hs:∀(i:Nat) Z H,i<n->C i Z H->g (.int (lo+i*c)) Z H fun U J=>d {D with nx:=C (i+1),ct:=C (i+1),bk:=D.nx} U J) (hd:∀Z H,C n Z H->D.nx Z H):
  ∃W:Nat->Nat->St->Hp->Prop,(∃m,W 0 m Z H)/\∀i m Z H,W i m Z H->
   ((Itc lo n c).stop i H/\D.nx Z H)\/((Itc lo n c).go i H/\∃N:St->Hp->Prop,(∀a I,N a I->∃b,b<m/\W (i+1) b a I)/\∀x I,(Itc lo n c).yld i H x I->g x Z I fun U J=>d {D with nx:=N,ct:=N,bk:=D.nx} U J):=by
 refine⟨fun i m Z H=>m=n - i/\i<=n/\C i Z H,⟨n,by simp,SK _,j⟩,?_⟩
 rintro i m Z H ⟨rfl,k,p⟩
 by_cases o:i<n
 .refine .inr ⟨o,C (i+1),fun a I f=>⟨n - (i+1),by lia,rfl,o,f⟩,fun x I y=> ?_⟩
  obtain⟨e,y⟩:=y;subst e y;exact hs i Z _ o p
 .have e:i=n:=by lia
  subst e;exact .inl ⟨R3 _,hd Z H p⟩
end
def BdD(x:Str)(st:Stmt)(ps:List Str)(d:Value):Prop:=∀(T:Addr) (kV C J:Value) (U:Option Addr) (I a:Value) (o:List Value),
 (o.length=ps.length->∃k,bindArgs (W.fnOf x x (cA st) (bF st) (af st) (.ref T) kV C J U I a) ⟨o,[]⟩=seqItems? (.ref T) >>= k/\k (some #[d])=pure (ps.zip o))/\
 (o.length+1=ps.length->∃k,bindArgs (W.fnOf x x (cA st) (bF st) (af st) (.ref T) kV C J U I a) ⟨o,[]⟩=seqItems? (.ref T) >>= k/\k (some #[d])=pure (ps.zip (o++[d])))
theorem Nm{K:Frag}{h:Heap}{mg:Str->Option Value}{x:Str}{st:Stmt}{ps:List Str}{f T:Addr}{d:Value}{v:V}{m I u:Option Addr}{sl w:Array (Option Value)}{q kV J o cd ct y:Value}{n:Nat}(b:BdD x st ps d)(r:bC v d)(X:K.In h)(G:h.Ns mainGlobals mg)
  (a:W.nsIn K mainGlobals x=some (some (.ref f))) (l:K.lookup f=some ⟨q,m,.func (W.fnOf x x (cA st) (bF st) (af st) (.ref T) kV J o I cd ct),sl⟩) (p:K.lookup T=some ⟨y,u,.seq #[d] n,w⟩) (c:W.codeIn K cd x=true) (k:W.keepIn K (.ref f)=true):
  K_ K mg x st ps [v]:=by
 refine⟨f,[d],q,m,_,kV,J,o,I,cd,ct,sl,l,c,k,Vr X G a,fun s i e C=> ?_,fun s i e C=> ?_,.cons r .nil⟩
 .rw[SJ] at C ⊢;obtain⟨k,j,U⟩:=(b T kV J o I cd ct i).1 C;exact BindsTo.of_defaults rfl (e _ _ p) rfl j U
 .obtain⟨k,j,U⟩:=(b T kV J o I cd ct i).2 (by simpa using C)
  exact BindsTo.of_defaults rfl (e _ _ p) rfl j U
theorem LO{K:Frag}{C F:Addr}{J:Option Addr}{nm q:Str}{N:Addr}{bs:List Value}{sn:List Str}{sub:List Value}{ab:Bool}{col:Option Bool}{dd:Option Addr}{k0 k1 k2 k3 k5:Option Value}{c0:Value}{I:Option Addr}{cd:ClassData}{sl:Array (Option Value)}
  (l1:K.lookup C=some (excClassObj nm q C N bs (.ref F::vbm) true sn sub ab col dd k0 k1 k2 k3 k5 "ValueError.__new__")) (l:W.nsOkIn K N=true) (l2:K.lookup F=some {cls:=c0,dict:=I,data:= .cls cd,slots:=sl}) (U:W.nsOkIn K cd.ns=true)
  (c:W.nsIn K N "__init__"=some (J.map .ref)) (a:W.nsIn K cd.ns "__init__"=some none)
  (a0:W.nsIn K N "__setattr__"=some none) (a1:W.nsIn K N "__getattribute__"=some none) (a2:W.nsIn K N "__getattr__"=some none) (a3:W.nsIn K N "__class__"=some none) (a4:W.nsIn K N "at"=some none) (a5:W.nsIn K N "why"=some none) (e:W.nsIn K N "line"=some none) (f:W.nsIn K N "block"=some none)
  (i:W.nsIn K cd.ns "__setattr__"=some none) (d:W.nsIn K cd.ns "__getattribute__"=some none) (m:W.nsIn K cd.ns "__getattr__"=some none) (b3:W.nsIn K cd.ns "__class__"=some none) (b:W.nsIn K cd.ns "at"=some none) (j:W.nsIn K cd.ns "why"=some none) (p:W.nsIn K cd.ns "line"=some none) (k:W.nsIn K cd.ns "block"=some none):
  XC K C F J xqs:=by
 refine⟨nm,q,N,bs,sn,sub,ab,col,dd,k0,k1,k2,k3,k5,c0,I,cd,sl,l1,l,l2,U,c,a,fun n o=> ?_⟩
 rcases Se.mp o with rfl | o
 .exact⟨a0,i⟩
 rcases Se.mp o with rfl | o
 .exact⟨a1,d⟩
 rcases Se.mp o with rfl | o
 .exact⟨a2,m⟩
 rcases Se.mp o with rfl | o
 .exact⟨a3,b3⟩
 rcases Se.mp o with rfl | o
 .exact⟨a4,b⟩
 rcases Se.mp o with rfl | o
 .exact⟨a5,j⟩
 rcases Se.mp o with rfl | o
 .exact⟨e,p⟩
 rcases Se.mp o with rfl | o
 .exact⟨f,k⟩
 .cases o
end L2
namespace L2
open PySem PySem.Spec PyProof.Rows PyProof PySem.SeqAt
open PySem.AutoSeq1 (wpAny_loadPart')
theorem DX(l:Addr)(o:Array Value)(n:Nat)(J:Option Addr)(sl:Array (Option Value)):
  Meets (Builtin.«enumerate.__new__» ⟨[.type "enumerate",.ref l],[]⟩) (fun _ R s=>s.heap.get? l=some {cls:= .type "tuple",dict:=J,data:= .seq o n,slots:=sl}/\
   R (.ok (.ret (.ref (s.heap.push {cls:= .type "tuple_iterator",data:= .fields #[.ref l,.int 0 0]}).objs.size)))
    {s with heap:=(s.heap.push {cls:= .type "tuple_iterator",data:= .fields #[.ref l,.int 0 0]}).push {cls:= .type "enumerate",data:= .fields #[.none,.bool false,.ref s.heap.objs.size,rawInt 0,.none,.none]}}):=
 .of_wp fun U w A R s h=>by
  obtain⟨b,g,d,e,f⟩:=s;obtain⟨C,h⟩:=h;have a:=sub_enumerate;have I:Heap.IsTuple (Shared.heap ⟨b,g,d,e,f⟩) l o:=⟨_,C,rfl,n,rfl⟩
  wp_walk using Tj C
  refine wpAny_stack_any fun st=>Sf ?_
  split
  .rename_i c _ _ _ _ _
   cases(c==Value.type "enumerate")
   .wp_walk using Tj C,Uw I
    exact⟨_,rfl,h⟩
   .wp_walk using Tj C,Uw I
    exact⟨_,rfl,h⟩
  .wp_walk using Tj C,Uw I
   exact⟨_,rfl,h⟩
theorem G0{prog:Program}{w:World}{A:Around}{E:Value->Shared->Prop}{s:Shared}{l:Addr}{C:Array Value}{Q:Value->Shared->Prop}(e:s.heap.IsTuple l C)
  (h:∀h',IsEnum h' (s.heap.objs.size+1) s.heap.objs.size 0 .none->h'.IsTupleIter s.heap.objs.size l 0->h'.objs.size=s.heap.objs.size+2->
   (∀b o,s.heap.get? b=some o->h'.get? b=some o)->Q (.ref (s.heap.objs.size+1)) {s with heap:=h'}):
  wpAny (model prog w) A (call (.type "enumerate") [.ref l]) Q E s:=by
 obtain⟨⟨c,U,d,sl⟩,a,J,n,hd⟩:=e
 replace J:c= .type "tuple":=J
 replace hd:d= .seq C n:=hd
 subst J hd;refine callType_new U4 (by decide) (F.typeCall_enumerate_1 _) (F.newCall_enumerate_1 _) (fun obj=>F.args_object_init_2 obj _) WN
  (DX l C n U sl) ⟨a,?_⟩
 have I:(s.heap.push {cls:= .type "tuple_iterator",data:= .fields #[.ref l,.int 0 0]}).objs.size=s.heap.objs.size+1:=Tp ..;show _/\_
 rw[I]
 have he:IsEnum ((s.heap.push {cls:= .type "tuple_iterator",data:= .fields #[.ref l,.int 0 0]}).push
   {cls:= .type "enumerate",data:= .fields #[.none,.bool false,.ref s.heap.objs.size,rawInt 0,.none,.none]}) (s.heap.objs.size+1) s.heap.objs.size 0 .none:=by
  have:=Sh (s.heap.push {cls:= .type "tuple_iterator",data:= .fields #[.ref l,.int 0 0]})
   (o:={cls:= .type "enumerate",data:= .fields #[.none,.bool false,.ref s.heap.objs.size,rawInt 0,.none,.none]}) rfl
  rw[I] at this;exact this
 refine⟨⟨_,he,rfl⟩,h _ he ⟨_,gV _ (Sh _ rfl),rfl,rfl⟩ (by rw[Tp,I]) fun b o x=>gV _ (gV _ x)⟩
noncomputable def Kd(K : Frag)(a : Addr) : It :=
  ⟨fun i H => ∃o x, SqT K H a o ∧ o[i]? = some x,
   fun i H v C => ∃p x, H p = none ∧ v = .ref p ∧ C = upd H p (.tup [.int i, x]) ∧ ∀o, SqT K H a o → o[i]? = some x,
   fun i H => ∃o, SqT K H a o ∧ o.length = i⟩
def Q5(e it a:Addr)(i:Nat)(h:Heap):Prop:=(∃o,IsEnum h e it i o)/\h.IsTupleIter it a i
theorem G9{P:Program}{w:World}{K:Frag}{F:List Expr}{tk:Nat}{tp:Pos}{a e it:Addr}(m:e≠it)(u:a≠it)(Y:a≠e):
  yK P w K (.Tuple F tk tp) (Kd K a) [e,it] e (Q5 e it a) where
 mem:=by simp
 obj:=fun i h st x p=>by
  obtain⟨⟨U,c⟩,n⟩:=st;have j:x=e\/x=it:=by simpa using p
  rcases j with rfl | rfl
  .exact⟨_,c,fun v q=>by cases q⟩
  .obtain⟨o,ho,L,hd⟩:=n;exact⟨o,ho,fun v q=>by rw[hd] at q;cases q⟩
 keep:=fun i h N st k=>by
  obtain⟨⟨U,c⟩,⟨o,ho,hr⟩⟩:=st;exact⟨⟨U,k e (by simp) _ c⟩,⟨o,k it (by simp) _ ho,hr⟩⟩
 item:=by
  intro X hP hw hK L i y s Z H E I M st W;subst hP hw hK;obtain⟨xs,x,G,e1⟩:=W;obtain⟨⟨U,c⟩,n⟩:=st;obtain⟨l1,r1,pl,_⟩:=I.tuple G;have hh:X.A.in1.handled=none:=I.ok.hd L;have R:=qZ (prog:=X.prog) (w:=X.w) hh it a u l1.toArray;obtain⟨u1,g1,w1⟩:=r1.get e1;have ab:i<l1.toArray.size:=by have:=(RX.mp g1).1;simpa using this
  have d:e<s.heap.objs.size:=R_ c;have D:it<s.heap.objs.size:=by obtain⟨o,ho,_⟩:=n;exact R_ ho
  refine U6 R c ⟨n,show s.heap.IsTuple a l1.toArray from pl⟩ ab m (by simp [m,SD Y]) fun x' N r p ho hs hT au kk=> ?_
  have j:u1=x':=by
   have p:l1.toArray[i]? =some x':=p;rw[T9,g1] at p;exact Sj p
  subst j;refine⟨_,rfl,UN ho fun l B J=> ?_⟩
  have J:Heap.SameBut e N l:=J;have O:∀b o,b≠e->N.get? b=some o->l.get? b=some o:=fun b o f z=>J.extBut _ _ f z
  have kept:∀b o,b ∉ [e,it]->s.heap.get? b=some o->l.get? b=some o:=fun b o f z=>by
   have C:b≠e/\b≠it:=by simpa using f
   exact O b o C.1 (kk b o C.1 C.2 z)
  refine⟨.ref s.heap.objs.size,upd H s.heap.objs.size (.tup [.int i,x]),?_,rfl,⟨_,x,I.fresh,rfl,rfl,fun zs hz=>by rw[I.tuple_inj hz G];exact e1⟩,?_,fun b f=> ?_⟩
  .refine I.turnedN (t':=r+1) (ch:=[e,it]) kept M (R3 _) ⟨by show 2<=sizeLine;decide,[.int i r,u1],.cons ⟨_,rfl⟩ (.cons w1 .nil),⟨_,O _ _ (Tz d) hT,rfl,_,rfl⟩⟩
  .refine⟨⟨_,by simpa using B⟩,?_⟩
   obtain⟨o,T,hr⟩:=hs.1;exact⟨o,O _ _ (SD m) T,hr⟩
  .have h0:=(M b f).1;rw[aj]
   .exact h0
   .have C:b=e\/b=it:=by simpa using f
    rcases C with rfl | rfl
    .exact Sk d
    .exact Sk D
 done:=by
  intro X hP hw hK L i y s Z H E I M st W;subst hP hw hK;obtain⟨xs,G,ar⟩:=W;obtain⟨⟨U,c⟩,n⟩:=st;obtain⟨l1,r1,pl,_⟩:=I.tuple G;have hh:X.A.in1.handled=none:=I.ok.hd L;have R:=qZ (prog:=X.prog) (w:=X.w) hh it a u l1.toArray;have z1:=r1.length;have hi:i=l1.toArray.size:=by simp only[R7];lia
  subst hi;refine Vd R c ⟨n,show s.heap.IsTuple a l1.toArray from pl⟩ fun N ke=>⟨rfl,I.turnedL (t':=s.toks) (ch:=[e,it]) (fun b o f z=> ?_) M⟩
  have C:b≠e/\b≠it:=by simpa using f
  exact ke _ _ C.2 z
 self:=fun A i s Q E st h=>by
  obtain⟨⟨U,c⟩,_⟩:=st;exact Uh c h
section
variable {X : Cx}
def N_(K:Frag)(I:TA):TI:=fun Z H R=>I Z H fun vs o=>∃a,vs=[.ref a]/\(∃C,SqT K o a C)/\R (Kd K a) o
theorem LM{f:Expr}{l:TA}{p U r:Pos}{c:List Expr}{y:Nat}(m:Gl X "enumerate")(hm:X.mg "enumerate"=none)(E:PA X [f] l)(hs:starEach [f] X.env=[(false,eval f X.env)]:=by rfl):
  PI X (.Tuple c y r) (.Call (.Name "enumerate" p) [f] [] U) (N_ X.K l):=by
 intro J s Z H R I h;refine Call_ (lL I m hm oQ (SZ (cw (E U J s Z H _ I h) fun M d vs v i D B=> ?_) (by rw[hs];rfl) (by rfl)))
 obtain⟨a,e,⟨F,A⟩,q⟩:=B;subst e;obtain⟨L,rfl,j⟩:=iC D
 cases j
 obtain⟨l1,x,pl,_⟩:=i.tuple A;have la:a<d.heap.objs.size:=by obtain⟨o,z,_⟩:=pl;exact R_ z
 refine G0 (show d.heap.IsTuple a l1.toArray from pl) fun G z1 z2 _ w=>Uh z1 ?_
 generalize k:d.heap.objs.size=n at*;refine⟨n+1,[n+1,n],_,_,v,rfl,i.kept (t':=d.toks) w,G9 (Wn n) (Sk la) (Sk (Vc la)),⟨⟨_,z1⟩,z2⟩,fun b u=> ?_,q⟩
 have C:n<=b:=by
  have C:b=n+1\/b=n:=by simpa using u
  unfold Addr at*
  lia
 exact i.fpOk (by rw[k];exact C) (i.hok.fresh (by rw[k];exact C))
end
theorem IP{K:Frag}{a:Addr}{xs:List V}{g:TG}{f:TS}{D:pD}{Z:St}{H:Hp}(o:Nat->St->Hp->Prop)(k:o 0 Z H)(l:∀i Z H,o i Z H->SqT K H a xs)
  (hs:∀i x p Z H,xs[i]? =some x->o i Z H->H p=none->g (.ref p) Z (upd H p (.tup [.int i,x])) fun U J=>f {D with nx:=o (i+1),ct:=o (i+1),bk:=D.nx} U J) (hd:∀Z H,o xs.length Z H->D.nx Z H):
  ∃W:Nat->Nat->St->Hp->Prop,(∃m,W 0 m Z H)/\∀i m Z H,W i m Z H->
   ((Kd K a).stop i H/\D.nx Z H)\/((Kd K a).go i H/\∃N:St->Hp->Prop,(∀c C,N c C->∃d,d<m/\W (i+1) d c C)/\∀x C,(Kd K a).yld i H x C->g x Z C fun U J=>f {D with nx:=N,ct:=N,bk:=D.nx} U J):=by
 refine⟨fun i m Z H=>m=xs.length - i/\i<=xs.length/\o i Z H,⟨_,rfl,SK _,k⟩,?_⟩
 rintro i m Z H ⟨rfl,n,p⟩
 have b:=l i Z H p
 by_cases I:i<xs.length
 .refine .inr ⟨⟨xs,xs[i],b,by simp [I]⟩,o (i+1),fun c C j=>⟨_,?_,rfl,I,j⟩,fun v C y=> ?_⟩
  .lia
  .obtain⟨r,x,hr,rfl,rfl,e1⟩:=y;exact hs i x r Z H (e1 xs b) p hr
 .have e:i=xs.length:=by lia
  refine .inl ⟨⟨xs,b,e.symm⟩,?_⟩
  subst e;exact hd Z H p
end L2
namespace L2
open PySem
theorem C1{X:Cx}{K:Frag}{e:Expr}{f:Str}{o:Pos}{C:TE}(I:X.K=K)(he:PE X e C)(J:attributeBase e f X.env (eval e X.env)=eval e X.env):PE X (.Attribute e f o) (Ny K C f):=by
 subst I;exact LZ he J
theorem se{X:Cx}{K:Frag}(o:X.K=K):fq X (.builtin "isinstance") (QP K):=by
 subst o;exact Kl
theorem LN{K:Frag}{h:Heap}{mg:Str->Option Value}{x:Str}{st:Stmt}{ps:List Str}{f T:Addr}{d:Value}{v:V}{U I J:Option Addr}{sl j:Array (Option Value)}{p kV i o cd ct m:Value}{n:Nat}(b:∀d,BdD x st ps d)(C:bC v d)(X:K.In h)(G:h.Ns mainGlobals mg)
  (a:W.nsIn K mainGlobals x=some (some (.ref f))) (l:K.lookup f=some ⟨p,U,.func (W.fnOf x x (cA st) (bF st) (af st) (.ref T) kV i o I cd ct),sl⟩) (e:K.lookup T=some ⟨m,J,.seq #[d] n,j⟩) (c:W.codeIn K cd x=true) (k:W.keepIn K (.ref f)=true):
  K_ K mg x st ps [v]:=Nm (b d) C X G a l e c k
end L2
namespace L2
open PySem PySem.Spec PyProof.Rows PyProof PySem.SeqAt
open AutoSeq1 (wpAny_loadPart')
section
variable {prog : Program} {w : World} {A : Around} {E : Value → Shared → Prop} {s : Shared}
theorem Fr{T J o:String}{v Bi:Builtin}{args:List Value}{f:List (Str × Value)}{S:_root_.PySem.Spec}{Q Q₁:Value->Shared->Prop}(U:TypeCalled T J o)
  (G:checkTypeCall T ⟨args,f⟩=pure ()) (m:checkBuiltinCall J ⟨.type T::args,f⟩=pure ())
  (a:entryFor table J=some v) (b:entryFor table o=some Bi) (g:Meets (v ⟨.type T::args,f⟩) S)
  (h:S A.in1 (wants Q₁ E) s)
  (i:∀obj C,Q₁ obj C->C.TypeIs obj T/\argsOk o ⟨obj::args,f⟩/\∃k,Meets (Bi ⟨obj::args,f⟩) k/\k A.in1 (wants (fun r d=>r= .none/\Q obj d) E) C):
  wpAny (model prog w) A (call (.type T) args f) Q E s:=by
 obtain⟨c,K,u⟩:=U.mro;have l:=U.made;have x:=U.sub;refine VQ (codeAny_of_tree ?_)
 show wpAny _ _ (callAny (.type T) _) _ _ _
 refine Sf ⟨U3 _ (by decide +kernel),codeAny_builtin F.entry_type_call ?_⟩
 rw[Around.under_plain (weight_type_call_type T args f) (units_type_call_type T args f)];have M:=U.notType;have L:=U.canCreate
 repeat (any_goals (first | assumption | wp_step))
 refine Uy (TF U.plain a (wpAny_of_eq m (g prog w A.in1 _ s h))) fun r C n=> ?_
 cases r with
 | error e=>exact n
 | ok fl=>
  cases fl with
  | ret obj=>
   obtain⟨y,q,k,B,p⟩:=i _ _ n;have z:=U.init.lookup;have D:=U.init.bind obj
   repeat (any_goals (first | assumption | wp_step))
   refine Uy (TF U.init.plain b (U.init.check _ _ _ _ _ _ _ _ y q (B prog w A.in1 _ C p))) fun j d I=> ?_
   cases j with
   | error e=>exact I
   | ok fl₂=>
    cases fl₂ with
    | ret r=>
     obtain⟨rfl,H⟩:=I
     repeat (any_goals (first | assumption | wp_step))
    | _=>exact I.elim
  | _=>exact n.elim
theorem Mz{T o:String}{C:Value}{a:Value}{rest:List Value}{U:List (Str × Value)}(c:typeLookup (.type T) "__init__"=pure (some (.builtin "object.__init__")))
  (hm:Bind.madeBy (.type T)=pure (some o)) (I:(some o != some "object.__new__")=true):
  Meets (Builtin.«object.__init__» ⟨C::a::rest,U⟩) (fun _ R s=>s.TypeIs C T/\R (.ok (.ret .none)) s):=by
 refine Meets.of_wp fun prog w A R s hs=> ?_
 obtain⟨b,J⟩:=hs
 repeat (any_goals (first | assumption | wp_step))
 exact⟨_,rfl,J⟩
theorem Jw(l:Addr)(o:Array Value)(n:Nat)(J:Option Addr)(sl:Array (Option Value))(t:Tok):
  Meets (Builtin.«enumerate.__new__» ⟨[.type "enumerate",.ref l],[("start",.int 1 t)]⟩) (fun _ R s=>s.heap.get? l=some {cls:= .type "list",dict:=J,data:= .seq o n,slots:=sl}/\
   R (.ok (.ret (.ref (s.heap.push {cls:= .type "list_iterator",data:= .fields #[.ref l,.int 0 0]}).objs.size)))
    {s with heap:=(s.heap.push {cls:= .type "list_iterator",data:= .fields #[.ref l,.int 0 0]}).push {cls:= .type "enumerate",data:= .fields #[.none,.bool false,.ref s.heap.objs.size,rawInt 1,.none,.none]}}):=
 .of_wp fun prog w A R s h=>by
  obtain⟨a,g,d,b,e⟩:=s;obtain⟨C,h⟩:=h;have U:=sub_enumerate;have I:Heap.IsList (Shared.heap ⟨a,g,d,b,e⟩) l o:=⟨_,C,rfl,n,rfl⟩
  wp_walk using Tj C
  refine wpAny_stack_any fun st=>Sf ?_
  split
  .rename_i c _ _ _ _ _
   cases(c==Value.type "enumerate")
   .wp_walk using Tj C,UF I
    exact⟨_,rfl,h⟩
   .wp_walk using Tj C,UF I
    exact⟨_,rfl,h⟩
  .wp_walk using Tj C,UF I
   exact⟨_,rfl,h⟩
theorem Pj(a:Value)(t:Tok):checkTypeCall "enumerate" ⟨[a],[("start",.int 1 t)]⟩=pure ():=by kernel_rfl
theorem OP(a:Value)(t:Tok):checkBuiltinCall "enumerate.__new__" ⟨[.type "enumerate",a],[("start",.int 1 t)]⟩=pure ():=by kernel_rfl
theorem Pm(a b:Value)(t:Tok):argsOk "object.__init__" ⟨[a,b],[("start",.int 1 t)]⟩:=by
 unfold argsOk;rw[signature?_of (id:="object.__init__") (n:=['_','_','t','i','n','i','_','_']) (o:=['t','c','e','j','b','o']) (by kernel_rfl) PySem.F.owner_object];kernel_rfl
theorem GT{l:Addr}{C:Array Value}{t:Tok}{Q:Value->Shared->Prop}(i:s.heap.IsList l C)
  (h:∀h',IsEnum h' (s.heap.objs.size+1) s.heap.objs.size 1 .none->h'.IsListIter s.heap.objs.size l 0->h'.objs.size=s.heap.objs.size+2->
   (∀b o,s.heap.get? b=some o->h'.get? b=some o)->Q (.ref (s.heap.objs.size+1)) {s with heap:=h'}):
  wpAny (model prog w) A (call (.type "enumerate") [.ref l] [("start",.int 1 t)]) Q E s:=by
 obtain⟨⟨c,d,f,sl⟩,e,a,n,hd⟩:=i
 replace a:c= .type "list":=a
 replace hd:f= .seq C n:=hd
 subst a hd;refine Fr (Q₁:=fun obj I=>I.TypeIs obj "enumerate"/\Q obj I) U4 (Pj _ t) (OP _ t) WN F.entry_object_init (Jw l C n d sl t) ⟨e,?_⟩ fun obj _ J=>
  ⟨J.1,Pm obj _ t,_,Mz U4.init.lookup U4.made (by decide),J.1,rfl,J.2⟩
 have U:(s.heap.push {cls:= .type "list_iterator",data:= .fields #[.ref l,.int 0 0]}).objs.size=s.heap.objs.size+1:=Tp ..;show _/\_
 rw[U]
 have he:IsEnum ((s.heap.push {cls:= .type "list_iterator",data:= .fields #[.ref l,.int 0 0]}).push
   {cls:= .type "enumerate",data:= .fields #[.none,.bool false,.ref s.heap.objs.size,rawInt 1,.none,.none]}) (s.heap.objs.size+1) s.heap.objs.size 1 .none:=by
  have:=Sh (s.heap.push {cls:= .type "list_iterator",data:= .fields #[.ref l,.int 0 0]})
   (o:={cls:= .type "enumerate",data:= .fields #[.none,.bool false,.ref s.heap.objs.size,rawInt 1,.none,.none]}) rfl
  rw[U] at this;exact this
 refine⟨⟨_,he,rfl⟩,h _ he ⟨_,gV _ (Sh _ rfl),rfl,rfl⟩ (by rw[Tp,U]) fun b o x=>gV _ (gV _ x)⟩
end
theorem zS{prog:Program}{w:World}{A:Around}{it:Addr}{I:List Addr}{n:Nat}{P:Nat->Value->Prop}{St:Nat->Heap->Prop}(D:Draws prog w A it I n P St):
  Draws prog w A it I (n+1) (fun i x=>∃k,i=k+1/\P k x) (fun i h=>∃k,i=k+1/\St k h) where
 live:=fun i h ⟨k,_,st⟩=>D.live k h st
 frame:=fun i h o ⟨k,e,st⟩ b=>⟨k,e,D.frame k h o st b⟩
 item:=fun i s Q E f ⟨k,e,st⟩ J=>D.item k s Q E (by lia) st fun x o c U C a=>J x o c ⟨k,e,U⟩ ⟨k+1,by lia,C⟩ a
 done:=fun s Q E ⟨k,e,st⟩ d=>by
  obtain rfl:k=n:=by lia
  exact D.done s Q E st d
noncomputable def Kj(K : Frag)(a : Addr) : It :=
  ⟨fun i H => ∃o x, SqL K H a o ∧ o[i]? = some x,
   fun i H v C => ∃p x, H p = none ∧ v = .ref p ∧ C = upd H p (.tup [.int ((i + 1 : Nat) : Int), x]) ∧ ∀o, SqL K H a o → o[i]? = some x,
   fun i H => ∃o, SqL K H a o ∧ o.length = i⟩
def RC(e it a:Addr)(i:Nat)(h:Heap):Prop:=(∃o,IsEnum h e it ((i+1:Nat):Int) o)/\h.IsListIter it a i
theorem Gp{P:Program}{w:World}{K:Frag}{F:List Expr}{tk:Nat}{tp:Pos}{a e it:Addr}(n:e≠it)(u:a≠it)(Y:a≠e):
  yK P w K (.Tuple F tk tp) (Kj K a) [e,it] e (RC e it a) where
 mem:=by simp
 obj:=fun i h st x j=>by
  obtain⟨⟨U,c⟩,p⟩:=st;have l:x=e\/x=it:=by simpa using j
  rcases l with rfl | rfl
  .exact⟨_,c,fun v q=>by cases q⟩
  .obtain⟨o,ho,L,hd⟩:=p;exact⟨o,ho,fun v q=>by rw[hd] at q;cases q⟩
 keep:=fun i h N st k=>by
  obtain⟨⟨U,c⟩,⟨o,ho,hr⟩⟩:=st;exact⟨⟨U,k e (by simp) _ c⟩,⟨o,k it (by simp) _ ho,hr⟩⟩
 item:=by
  intro X hP hw hK L i y s Z H E I M st W;subst hP hw hK;obtain⟨xs,x,G,e1⟩:=W;obtain⟨⟨U,c⟩,p⟩:=st;obtain⟨l1,r1,pl,_⟩:=I.list G;have hh:X.A.in1.handled=none:=I.ok.hd L;have R:=zS (Ww (prog:=X.prog) (w:=X.w) hh it a u l1.toArray);obtain⟨u1,g1,w1⟩:=r1.get e1;have ab:i<l1.toArray.size:=by have:=(RX.mp g1).1;simpa using this
  have d:e<s.heap.objs.size:=R_ c;have D:it<s.heap.objs.size:=by obtain⟨o,ho,_⟩:=p;exact R_ ho
  refine U6 R c ⟨i,rfl,p,pl.isList⟩ (Nat.succ_lt_succ ab) n (by simp [n,SD Y]) fun x' N r j ho hs hT au kk=> ?_
  have l:u1=x':=by
   obtain⟨k,ek,j⟩:=j;obtain rfl:i=k:=by lia
   have j:l1.toArray[i]? =some x':=j;rw[T9,g1] at j;exact Sj j
  subst l;refine⟨_,rfl,UN ho fun m B J=> ?_⟩
  have J:Heap.SameBut e N m:=J;have O:∀b o,b≠e->N.get? b=some o->m.get? b=some o:=fun b o f z=>J.extBut _ _ f z
  have kept:∀b o,b ∉ [e,it]->s.heap.get? b=some o->m.get? b=some o:=fun b o f z=>by
   have C:b≠e/\b≠it:=by simpa using f
   exact O b o C.1 (kk b o C.1 C.2 z)
  refine⟨.ref s.heap.objs.size,upd H s.heap.objs.size (.tup [.int ((i+1:Nat):Int),x]),?_,rfl,⟨_,x,I.fresh,rfl,rfl,fun zs hz=>by rw[I.list_inj hz G];exact e1⟩,?_,fun b f=> ?_⟩
  .refine I.turnedN (t':=r+1) (ch:=[e,it]) kept M (R3 _) ⟨by show 2<=sizeLine;decide,[.int ((i+1:Nat):Int) r,u1],.cons ⟨_,rfl⟩ (.cons w1 .nil),⟨_,O _ _ (Tz d) hT,rfl,_,rfl⟩⟩
  .refine⟨⟨_,by simpa using B⟩,?_⟩
   obtain⟨k,ek,hs⟩:=hs;obtain rfl:i+1=k:=by lia
   obtain⟨o,T,hr⟩:=hs.1;exact⟨o,O _ _ (SD n) T,hr⟩
  .have h0:=(M b f).1;rw[aj]
   .exact h0
   .have C:b=e\/b=it:=by simpa using f
    rcases C with rfl | rfl
    .exact Sk d
    .exact Sk D
 done:=by
  intro X hP hw hK L i y s Z H E I M st W;subst hP hw hK;obtain⟨xs,G,ar⟩:=W;obtain⟨⟨U,c⟩,p⟩:=st;obtain⟨l1,r1,pl,_⟩:=I.list G;have hh:X.A.in1.handled=none:=I.ok.hd L;have R:=zS (Ww (prog:=X.prog) (w:=X.w) hh it a u l1.toArray);have z1:=r1.length;have hi:i=l1.toArray.size:=by simp only[R7];lia
  subst hi;refine Vd R c ⟨_,rfl,p,pl.isList⟩ fun N ke=>⟨rfl,I.turnedL (t':=s.toks) (ch:=[e,it]) (fun b o f z=> ?_) M⟩
  have C:b≠e/\b≠it:=by simpa using f
  exact ke _ _ C.2 z
 self:=fun A i s Q E st h=>by
  obtain⟨⟨U,c⟩,_⟩:=st;exact Uh c h
theorem yk{M:Model}{A:Around}{E:Value->Shared->Prop}{s:Shared}{env:Env}{o:Pos}{T:String}{e:Expr}{kws:List Keyword}{Q:Value->Shared->Prop}
  (h:wpAny M A (spliced (backTo o (starEach [e] env))) (fun vs C=>wpAny M A (evalAll ((backToKw o (keywordEach kws env)).map (·.2)))
   (fun kvs J=>wpAny M A (call (.type T) vs (((backToKw o (keywordEach kws env)).filterMap (·.1)).zip kvs)) Q E J) E C) E s)
  (he:backTo o (starEach [e] env)=(false,eval e env)::backTo o (starEach [] env):=by rfl)
  (I:(backTo o (starEach [e] env)).any (·.1)=false:=by rfl)
  (b:(backToKw o (keywordEach kws env)).all (·.1.isSome)=true:=by rfl)
  (c:(backToKw o (keywordEach kws env)).any (·.1.isNone)=false:=by rfl):
  wpAny M A (callWith o (.type T) [] (backTo o (starEach [e] env)) (backToKw o (keywordEach kws env))) Q E s:=by
 unfold callWith;refine RV (UB (S8 (Q:=fun a C=>wpAny M A (call (.type T) ([]++a.pos) a.kw) Q E C) ?_ (fun a C U=>RV (TZ ?_)) fun _ _ x=>x))
 .rw[he] at h ⊢;exact evalArgs_kwB b h
 .simp only[I,c,Xa]
  refine RV (Sf ?_)
  exact RV (S8 U (fun r J d=>RV (UB (wpAny_point (Sf d)))) fun _ _ x=>x)
section
variable {X : Cx}
def Od(K:Frag)(I:TA):TI:=fun Z H R=>I Z H fun vs o=>∃a,vs=[.ref a]/\(∃C,SqL K o a C)/\R (Kj K a) o
theorem FO{c:Expr}{w:TA}{p C A kp i:Pos}{j}{d:List Expr}{G:Nat}(y:Gl X "enumerate")(hm:X.mg "enumerate"=none)(W:PA X [c] w)(hs:starEach [c] X.env=[(false,eval c X.env)]:=by rfl):
  PI X (.Tuple d G A) (.Call (.Name "enumerate" p) [c] [⟨some "start",.Constant (.int 1) j i,kp⟩] C) (Od X.K w):=by
 intro J s Z H R I h;have T:eval (.Call (.Name "enumerate" p) [c] [⟨some "start",.Constant (.int 1) j i,kp⟩] C) X.env=(do callWith C (<- eval (.Name "enumerate" p) X.env) [] (backTo C (starEach [c] X.env)) (backToKw C (keywordEach [⟨some "start",.Constant (.int 1) j i,kp⟩] X.env))):=by rfl
 rw[T];refine RV (lL I y hm oQ (yk (kws:=[⟨some "start",.Constant (.int 1) j i,kp⟩]) (cw (W C J s Z H _ I h) fun us B vs v Q N M=> ?_) (by rw[hs];rfl) (by rw[hs];rfl)))
 obtain⟨a,e,⟨xs,L⟩,q⟩:=M;subst e;obtain⟨u1,rfl,m⟩:=iC N
 cases m
 refine kws_cons (thn (ac J B Z v (fun x k=>x= .int 1/\k=v) Q ⟨rfl,rfl⟩) fun u l ⟨x,k,f,P,O,Y⟩=>kws_nil ?_)
 subst O Y;obtain⟨t,rfl⟩:=P;obtain⟨l1,F,pl,_⟩:=f.list L;have la:a<l.heap.objs.size:=by obtain⟨o,n,z,_⟩:=pl;exact R_ z
 show wpAny _ _ (call (.type "enumerate") [.ref a] [("start",.int 1 t)]) _ _ _
 refine GT pl.isList fun h' z1 z2 _ E=>Uh z1 ?_
 generalize r:l.heap.objs.size=n at*;refine⟨n+1,[n+1,n],_,_,k,rfl,f.kept (t':=l.toks) E,Gp (Wn n) (Sk la) (Sk (Vc la)),⟨⟨_,z1⟩,z2⟩,fun b D=> ?_,q⟩
 have U:n<=b:=by
  have U:b=n+1\/b=n:=by simpa using D
  unfold Addr at*
  lia
 exact f.fpOk (by rw[r];exact U) (f.hok.fresh (by rw[r];exact U))
end
theorem A8{K:Frag}{a:Addr}{xs:List V}{g:TG}{f:TS}{D:pD}{Z:St}{H:Hp}(o:Nat->St->Hp->Prop)(k:o 0 Z H)(l:∀i Z H,o i Z H->SqL K H a xs)
  (hs:∀i x p Z H,xs[i]? =some x->o i Z H->H p=none->g (.ref p) Z (upd H p (.tup [.int ((i+1:Nat):Int),x])) fun U J=>f {D with nx:=o (i+1),ct:=o (i+1),bk:=D.nx} U J) (hd:∀Z H,o xs.length Z H->D.nx Z H):
  ∃W:Nat->Nat->St->Hp->Prop,(∃m,W 0 m Z H)/\∀i m Z H,W i m Z H->
   ((Kj K a).stop i H/\D.nx Z H)\/((Kj K a).go i H/\∃N:St->Hp->Prop,(∀c C,N c C->∃d,d<m/\W (i+1) d c C)/\∀x C,(Kj K a).yld i H x C->g x Z C fun U J=>f {D with nx:=N,ct:=N,bk:=D.nx} U J):=by
 refine⟨fun i m Z H=>m=xs.length - i/\i<=xs.length/\o i Z H,⟨_,rfl,SK _,k⟩,?_⟩
 rintro i m Z H ⟨rfl,n,p⟩
 have b:=l i Z H p
 by_cases I:i<xs.length
 .refine .inr ⟨⟨xs,xs[i],b,by simp [I]⟩,o (i+1),fun c C j=>⟨_,?_,rfl,I,j⟩,fun v C y=> ?_⟩
  .lia
  .obtain⟨r,x,hr,rfl,rfl,e1⟩:=y;exact hs i x r Z H (e1 xs b) p hr
 .have e:i=xs.length:=by lia
  refine .inl ⟨⟨xs,b,e.symm⟩,?_⟩
  subst e;exact hd Z H p
theorem HW{z:Str}{g:TG}{d:TS}{D:pD}{Z:St}{H:Hp}(o:Nat->St->Hp->Prop)(j:o 0 Z H)
  (hs:∀i c Z H,z.cps[i]? =some c->o i Z H->g (.str ⟨#[c]⟩) Z H fun U J=>d {D with nx:=o (i+1),ct:=o (i+1),bk:=D.nx} U J) (hd:∀Z H,o z.cps.size Z H->D.nx Z H):
  ∃W:Nat->Nat->St->Hp->Prop,(∃m,W 0 m Z H)/\∀i m Z H,W i m Z H->
   ((Its z).stop i H/\D.nx Z H)\/((Its z).go i H/\∃N:St->Hp->Prop,(∀a C,N a C->∃b,b<m/\W (i+1) b a C)/\∀x C,(Its z).yld i H x C->g x Z C fun U J=>d {D with nx:=N,ct:=N,bk:=D.nx} U J):=by
 refine⟨fun i m Z H=>m=z.cps.size - i/\i<=z.cps.size/\o i Z H,⟨_,rfl,SK _,j⟩,?_⟩
 rintro i m Z H ⟨rfl,k,p⟩
 by_cases I:i<z.cps.size
 .refine .inr ⟨I,o (i+1),fun a C f=>⟨_,?_,rfl,I,f⟩,fun v C y=> ?_⟩
  .lia
  .obtain⟨rfl,c,e,rfl⟩:=y;exact hs i c Z _ e p
 .have e:i=z.cps.size:=by lia
  refine .inl ⟨e.symm,?_⟩
  subst e;exact hd Z H p
end L2
namespace L2
open PySem PySem.Spec PyProof.Rows PyProof PySem.SeqAt
open Builtin.Str (strSliceIndices)
noncomputable def u9(z:Str)(lo o:Option Int):Str:=if ((strSliceIndices lo o 1 z.length).length==z.length)=true then z else⟨((strSliceIndices lo o 1 z.length).filterMap (z.cps[·]?)).toArray⟩
def Q6:V->Option Int->Option Int->Hp->VK->Prop:=fun x C o H Q=>∃z,x= .str z/\z.length<=sizeLine/\Q (.str (u9 z C o)) H
theorem FK{v:Value}{o:Option Int}(p:IsPart v o):∃l:Option (Int × Tok),v=partValue l/\l.map (·.1)=o:=by
 cases p with
 | none=>exact⟨none,rfl,rfl⟩
 | int i t=>exact⟨some (i,t),rfl,rfl⟩
theorem O_(z:Str)(lo o:Option Int):(u9 z lo o).length<=z.length:=by
 unfold u9
 split
 .exact R3 _
 .show(List.filterMap _ _).toArray.size<=_
  rw[R7];exact RY (List.length_filterMap_le _ _) (sliceIndicesBy_le lo o 1 (by decide) z.length)
theorem LE{X:Cx}:SlR X Q6:=by
 intro C s Z H x v p i n j sl Q I J hs pl c h;obtain⟨z,rfl,b,q⟩:=h;obtain⟨t,rfl⟩:=J;obtain⟨l,rfl,a⟩:=FK pl;obtain⟨u,rfl,f⟩:=FK c;subst a f;obtain⟨o,e,U,d⟩:=hs;refine⟨"str",_,F.slot_str_getitem.lookup,Vn _ _ _,wpAny_getItem_str_slice (l:=l) (u:=u) (st:=none) ⟨o,e,U,d⟩ (by decide) (post_val_or_str ⟨?_,fun m k=> ?_⟩)⟩
 .exact RY (O_ z _ _) b
 .exact⟨.str (u9 z (l.map (·.1)) (u.map (·.1))),H,I.tok _,⟨_,rfl⟩,q⟩
theorem ED(lo:Option Int)(n:Nat):strSliceIndices lo none 1 n=strSliceIndices lo (some (n:Int)) 1 n:=by
 unfold strSliceIndices
 simp only[show((1:Int) >0)=True from by simp,UW]
 congr 1
 rw[R6 (by lia)]
 lia
theorem Kx{l:List Nat}{a b:Nat}(o:a<=b)(I:b<=l.length):u9 ⟨l.toArray⟩ (some (a:Int)) (some (b:Int))=⟨((l.drop a).take (b - a)).toArray⟩:=by
 have C:(⟨l.toArray⟩:Str).length=l.length:=R7;have e:=StrLaws.sliced_plain ⟨l.toArray⟩ (a:=a) (b:=b) o (by rw[C];exact I)
 have J:=StrLaws.strSliceIndices_plain (a:=a) (b:=b) (len:=(⟨l.toArray⟩:Str).length) o (by rw[C];exact I)
 unfold u9
 split
 .rename_i c
  rw[J,be,Vg,C,Tc] at c;obtain rfl:a=0:=by lia
  obtain rfl:b=l.length:=by lia
  rw[VT,Xy,Sl]
 .rw[e]
theorem Pa{l:List Nat}{a:Nat}(o:a<=l.length):u9 ⟨l.toArray⟩ (some (a:Int)) none=⟨(l.drop a).toArray⟩:=by
 have C:(⟨l.toArray⟩:Str).length=l.length:=R7;have:=Kx (l:=l) (a:=a) (b:=l.length) o (R3 _);rw[Tt (by rw[SH];exact R3 _)] at this
 rw[<- this];unfold u9;rw[ED,C]
section
variable {g : TG} {te : TE} {t : Nat} {js : List Nat} {σ : St} {H : Hp} {Q : VK} {p : Addr}
theorem EV{lo c:Int}{n:Nat}(I:Nat->List V->Hp->Prop)(f:I 0 [] (upd H p (.lst [])))
  (hs:∀(i:Nat) ys H (F:List V->Hp->Prop),(∀o J,I (i+1) o J->F o J)->i<n->I i ys H->g (.int (lo+i*c)) (blk t js Z) H fun b d=>Wk (blk t js Z) b/\te b d fun y a=>a p=some (.lst ys)/\ys.length<sizeLine/\F (ys++[y]) (upd a p (.lst (ys++[y]))))
  (hd:∀ys H,I n ys H->Q (.ref p) H):
  rM (Itc lo n c) g te t js Z p H Q:=by
 refine⟨fun i m ys H=>m=n - i/\i<=n/\I i ys H,⟨n,by simp,SK _,f⟩,?_⟩
 rintro i m ys H ⟨rfl,j,pv⟩
 by_cases C:i<n
 .refine .inr ⟨C,fun x J y=> ?_⟩
  obtain⟨e,y⟩:=y;subst e y;exact hs i ys _ (fun o J=>∃U,U<n - i/\U=n - (i+1)/\i+1<=n/\I (i+1) o J) (fun o J z=>⟨_,by lia,rfl,C,z⟩) C pv
 .have e:i=n:=by lia
  subst e;exact .inl ⟨R3 _,hd ys H pv⟩
theorem QQ(n:Nat):(Builtin.Range.rangeSize 0 (n:Int) 8).toNat=(n+7) / 8:=by
 unfold Builtin.Range.rangeSize
 simp only[show((8:Int) >0)=True from by simp,UW]
 split <;> lia
end
end L2
namespace L2
open PySem PySem.Spec PyProof.Rows PyProof PySem.SeqAt
section
variable {X : Cx}
theorem mh:MtM X "str.startswith" (fun x vs H Q=>∃z y,x= .str z/\vs=[.str y]/\Q (.bl (Txt.startswith z y)) H):=by
 intro o s Z H x vs v a Q I C J h;obtain⟨z,y,rfl,rfl,q⟩:=h;obtain⟨t,rfl⟩:=C;obtain⟨u,rfl,U,rfl⟩:=J.one;exact SC.startswith ⟨.bl _,H,I,rfl,q⟩
theorem JN:MtM X "str.strip" (fun x vs H Q=>∃z y,x= .str z/\vs=[.str y]/\z.length<=sizeLine/\Q (.str (Txt.stripChars z y)) H):=by
 intro o s Z H x vs v c Q I C J h;obtain⟨z,y,rfl,rfl,U,q⟩:=h;obtain⟨t,rfl⟩:=C;obtain⟨u,rfl,b,rfl⟩:=J.one;exact SC.stripChars (fun a k=>⟨.str _,H,I.tok _,⟨_,rfl⟩,q⟩) U
theorem vz:MtM X "str.partition" (fun x vs H Q=>∃z y,x= .str z/\vs=[.str y]/\(y.length==0)=false/\z.length<=sizeLine/\∀p,H p=none->Q (.ref p) (upd H p (.tup [.str (Txt.partition z y).1,.str (Txt.partition z y).2.1,.str (Txt.partition z y).2.2]))):=by
 intro C s Z H x vs v A Q I j l h;obtain⟨z,y,rfl,rfl,m,w,q⟩:=h;obtain⟨t,rfl⟩:=j;obtain⟨u,rfl,n,rfl⟩:=l.one;have fin:∀(p J r:Str) (d U c:Tok) (k:Nat),(p,J,r)=Txt.partition z y->EP X C Z Q (.ref s.heap.objs.size) {s with heap:=s.heap.push {cls:= .type "tuple",data:= .seq [.str p d,.str J U,.str r c].toArray},toks:=k}:=fun p J r d U c k e=>by
  have f:=q _ I.fresh;rw[<- e] at f;refine⟨.ref s.heap.objs.size,_,I.laid (a:=s.heap.objs.size) (o:= .tup [.str p,.str J,.str r]) (t':=k) (fun b o e=>gV _ e) (R3 _) ⟨?_,[.str p d,.str J U,.str r c],?_,_,Sh _ rfl,rfl,0,rfl⟩,rfl,f⟩
  .show 3<=sizeLine
   decide
  .exact .cons ⟨_,rfl⟩ (.cons ⟨_,rfl⟩ (.cons ⟨_,rfl⟩ .nil))
 refine TM F.slot_str_partition (Vn _ _ _) F.entry_str_partition (F.args_str_partition_2 _ _) (meets_str_partition z y t n m w) ?_
 unfold Txt.partition at fin
 revert fin
 cases Builtin.Str.occurrences z y 0 z.length 1 with
 | nil=>intro fin;exact fin _ _ _ _ _ _ _ rfl
 | cons i r=>intro fin;exact fin _ _ _ _ _ _ _ rfl
theorem wg:fq X (.type "int") (fun xs H Q=>∃x n,xs=[.str x]/\PySem.intText? x=some n/\x.length<=640/\Q (.int n) H):=by
 intro o s Z H xs U Q I r h;obtain⟨x,n,rfl,J,C,q⟩:=h;obtain⟨u,rfl,t,rfl⟩:=iC r;exact PySem.W.KIN.call_text J C ⟨.int n,H,I.tok _,⟨_,rfl⟩,q⟩
noncomputable def OT:V->Option Str
 | .str z=>some z
 | .int i=>if i.natAbs.log2<1920 then some (Str.ofString (toString i)) else none
 | _=>none
theorem Cw:fq X (.type "str") (fun xs H Q=>∃v z,xs=[v]/\OT v=some z/\Q (.str z) H):=by
 intro C s Z H xs U Q I r h;obtain⟨v,z,rfl,e,q⟩:=h;obtain⟨u,rfl,J⟩:=iC r
 cases v with
 | str x=>
  obtain⟨t,rfl⟩:=J
  cases e
  exact PySem.P.str_of_str ⟨.str _,H,I,⟨_,rfl⟩,q⟩
 | int i=>
  obtain⟨t,rfl⟩:=J;have o:(if i.natAbs.log2<1920 then some (Str.ofString (toString i)) else none)=some z:=e
  split at o
  .rename_i hz
   cases o
   exact PySem.P.str_of_int hz ⟨.str _,H,I.tok _,⟨_,rfl⟩,q⟩
  .cases o
 | _=>cases e
def PN(c:Str)(o:TE):TE:=fun Z H Q=>o Z H fun x C=>∃i,x= .int i/\i.natAbs.log2<1920/\(Str.empty++c++Str.ofString (toString i)).length<=sizeLine/\Q (.str (Str.empty++c++Str.ofString (toString i))) C
theorem Nd{c:Str}{k p1 p2 pos}{e:Expr}{J:TE}(he:PE X e J)(j:(Str.empty++c).length<=sizeLine):PE X (.JoinedStr [.Constant (.str c) k p1,.FormattedValue e (-1) none p2] pos) (PN c J):=by
 intro o s Z H Q I h;refine wpAny_JoinedStr ?_
 show wpAny _ _ (eval (.Constant (.str c) k p1) X.env) _ _ _
 refine Calls.Constant_str ⟨c,_,rfl,j,?_⟩
 show wpAny _ _ (eval (.FormattedValue e (-1) none p2) X.env) _ _ _
 refine wpAny_FormattedValue_plain (cw (he o _ Z H _ (I.tok _) h) fun v l x U f d b=> ?_)
 obtain⟨i,rfl,a,C,q⟩:=b;obtain⟨t,rfl⟩:=d;refine wpAny_formatField_int a ⟨_,_,rfl,C,?_⟩
 exact⟨C,.str _,U,f.tok _,⟨_,rfl⟩,q⟩
def PY(C:Params)(K:Frag)(ty td:TE):TE:=fun Z H Q=>ty Z H fun y J=>td Z J fun x I=>∃a o k b,x= .ref a/\y= .str k/\(a==sysModules)=false/\SqD C K a o/\(o.lookup k).isSome=b/\Q (.bl b) I
theorem BE{x:Str}:∀{kvs:List (Str × V)}{L:List (Str × Tok × Value)}(o:Params),Paired (fun(p:Str × V) (q:Str × Tok × Value)=>p.1=q.1/\bC p.2 q.2.2) kvs L->kvs.lookup x=none->findBy ir (uf o L) (Sum.inr x:Key)=none
 | _,_,_,.nil,h=>rfl
 | p::kvs,q::L,o,.cons hpq r,h=>by
  obtain⟨J,b⟩:=hpq;obtain⟨C,pv⟩:=p;obtain⟨c,I,qv⟩:=q
  simp only at J b
  subst J;rw[Tw] at h;have U:ir (Sum.inr x:Key) (.str C I)=(x==C):=by
   show(C==x)=(x==C)
   exact Bool.beq_comm
  have a:findBy ir (uf o ((C,I,qv)::L)) (Sum.inr x:Key)=if (x==C)=true then some qv else findBy ir (uf o L) (Sum.inr x:Key):=by
   unfold findBy uf;rw[Ss];show((⟨PyData.keyHash o C,.str C I,qv⟩::L.map fun p=>(⟨PyData.keyHash o p.1,.str p.1 p.2.1,p.2.2⟩:DictEntry)).toArray.find? fun e=>ir (Sum.inr x) e.key).map (·.val)=_
   rw[U1,UA,U1];dsimp only;rw[U]
   cases x==C <;> rfl
  rw[a]
  cases e:x==C with
  | true=>rw[e] at h;cases h
  | false=>
   rw[e] at h;rw[R6 (by decide)]
   exact BE o r h
theorem L0{o i:Expr}{td ty:TE}(f:PE X i ty)(ho:PE X o td):PC X .In i o (PY X.w.params X.K ty td):=by
 intro C s Z H Q I h;refine cw (f C s Z H _ I h) fun R r y A O E G=>thn (ho C r Z A _ O G) fun u M ⟨x,m,c,l,a,U,k,b,N,q,F,⟨L,n,z,d⟩,j,B⟩=> ?_
 subst N q;obtain rfl:u=Value.ref a:=l;obtain⟨t,rfl⟩:=E;have e:=c.kIn a _ z;have hm:M.heap.MapOf (eC X.prog X.w) a (fun k=>findBy ir (uf X.w.params L) k):=by
  refine⟨_,_,_,e,⟨rfl,rfl,rfl⟩,rfl,fun en J=> ?_,fun k=>rfl⟩
  have J:en∈(L.map fun p=>(⟨PyData.keyHash X.w.params p.1,.str p.1 p.2.1,p.2.2⟩:DictEntry)):=by simpa [uf] using J
  obtain⟨p,_,rfl⟩:=SY.mp J;exact⟨Sum.inr p.1,wY p.1 p.2.1,rfl⟩
 have hs:(findBy ir (uf X.w.params L) (Sum.inr k:Key)).isSome=b:=by
  rw[<- j]
  cases ev:U.lookup k with
  | none=>rw[BE X.w.params d ev];rfl
  | some v=>
   obtain⟨u,P,D⟩:=yT X.w.params d ev;rw[D]
   rfl
 refine wpAny_in_of (qT X.prog X.w k t) F hm ?_
 rw[hs];exact⟨.bl b,m,c.tok _,rfl,B⟩
theorem yu{K:Frag}(e:X.K=K):fq X (.type "tuple") (fun xs H Q=>∃p ys,xs=[V.ref p]/\SqL K H p ys/\∀l,H l=none->Q (.ref l) (upd H l (.tup ys))):=by
 subst e;exact ig
end
open PySem PySem.Spec PyProof.Rows PyProof PySem.SeqAt
open PySem PySem.Spec PyProof.Rows PyProof PySem.SeqAt
section
variable {X : Cx}
def QZ(K:Frag)(o:Bool):R2:=fun x y H Q=>(x= .non/\∃(b:Addr) (C:List Int),y= .ref b/\SqT K H b (C.map V.int)/\Q (.bl o) H)\/NC K o x y H Q
theorem LV(U:X.A.units+64<cLine):OpR X (compareOp .Eq) (QZ X.K false):=by
 intro o s Z H x y v u Q I J a h;rcases h with⟨rfl,b,e,rfl,d,q⟩ | h
 .cases J
  cases a
  obtain⟨c,f,C,_⟩:=I.tuple d;exact eq_dataH_same (Reads.none (h:=s.heap)) (qH C (uc f)) rfl (n8 e) U (by simp only[noMix]) (by simp only[PySem.Spec.same];exact⟨.bl _,H,I,rfl,q⟩)
 .exact DQ U o s Z H x y v u Q I J a h
end
open PySem PySem.Spec PyProof.Rows PyProof PySem.SeqAt
theorem ex0{o:Type}:∀us:List o,us.length=0->us=[]
 | [],_=>rfl
theorem exS{o:Type}{n:Nat}:∀us:List o,us.length=n+1->∃a r,us=a::r/\r.length=n
 | a::r,h=>⟨a,r,rfl,Nat.succ.inj h⟩
theorem ex1{C:Type}:∀us:List C,us.length=1->∃a,us=[a]:=by
 intro us h;obtain⟨a,r,rfl,o⟩:=exS us h;exact⟨a,by rw[ex0 r o]⟩
theorem ex2{C:Type}:∀us:List C,us.length=2->∃a b,us=[a,b]:=by
 intro us h;obtain⟨a,r,rfl,o⟩:=exS us h;obtain⟨b,rfl⟩:=ex1 r o;exact⟨a,b,rfl⟩
theorem ex3{C:Type}:∀us:List C,us.length=3->∃a b c,us=[a,b,c]:=by
 intro us h;obtain⟨a,r,rfl,o⟩:=exS us h;obtain⟨b,c,rfl⟩:=ex2 r o;exact⟨a,b,c,rfl⟩
theorem ex4{C:Type}:∀us:List C,us.length=4->∃a b c d,us=[a,b,c,d]:=by
 intro us h;obtain⟨a,r,rfl,o⟩:=exS us h;obtain⟨b,c,d,rfl⟩:=ex3 r o;exact⟨a,b,c,d,rfl⟩
theorem ex5{C:Type}:∀us:List C,us.length=5->∃a b c d e,us=[a,b,c,d,e]:=by
 intro us h;obtain⟨a,r,rfl,o⟩:=exS us h;obtain⟨b,c,d,e,rfl⟩:=ex4 r o;exact⟨a,b,c,d,e,rfl⟩
theorem ex6{C:Type}:∀us:List C,us.length=6->∃a b c d e f,us=[a,b,c,d,e,f]:=by
 intro us h;obtain⟨a,r,rfl,o⟩:=exS us h;obtain⟨b,c,d,e,f,rfl⟩:=ex5 r o;exact⟨a,b,c,d,e,f,rfl⟩
open PySem PySem.Spec PyProof.Rows PyProof PySem.SeqAt
section
variable {X : Cx}
theorem AB:bootBuiltins "ValueError"=some (.type "ValueError"):=by decide +kernel
def QO(K:Frag):List V->Hp->VK->Prop:=fun o H Q=>∃e T C F J I b,o=[.ref e,.ty T]/\H e=some (exh (.ref C) I e)/\XC K C F J xqs/\W.kitOne K (.ref C) (.type T)=some b/\Q (.bl b) H
theorem Ln:fq X (.builtin "isinstance") (QO X.K):=by
 intro J s Z H f k Q I r h;obtain⟨e,T,C,F,l,i,b,rfl,he,c,U,q⟩:=h;obtain⟨u,d,rfl,a,o⟩:=E2 r;obtain rfl:u=Value.ref e:=a;obtain rfl:d=Value.type T:=o;obtain⟨vs,sl,g0⟩:=Hg I.hok he;exact TH (DP c) I.kIn ⟨_,g0,rfl⟩ U (fun z=>nomatch z) fun j=>⟨.bl b,H,I.tok _,rfl,q⟩
theorem IM{K:Frag}(o:X.K=K):fq X (.builtin "isinstance") (QO K):=by
 subst o;exact Ln
end
end L2
namespace L2
open PySem
theorem Q7{a b:Sort _}{P:a->b->Prop}(k l)(h:P k l):∃k l,P k l:=⟨k,l,h⟩
theorem RE{a b c:Sort _}{P:a->b->c->Prop}(k l m)(h:P k l m):∃k l m,P k l m:=⟨k,l,m,h⟩
theorem Rp{a b c d:Sort _}{P:a->b->c->d->Prop}(k l m n)(h:P k l m n):∃k l m n,P k l m n:=⟨k,l,m,n,h⟩
theorem Rx{a b c d e:Sort _}{P:a->b->c->d->e->Prop}(k l m n o)(h:P k l m n o):∃k l m n o,P k l m n o:=⟨k,l,m,n,o,h⟩
theorem Q8{a b c d e f:Sort _}{P:a->b->c->d->e->f->Prop}(k l m n o p)(h:P k l m n o p):∃k l m n o p,P k l m n o p:=⟨k,l,m,n,o,p,h⟩
theorem Rv{a b c d e f g:Sort _}{P:a->b->c->d->e->f->g->Prop}(k l m n o p q)(h:P k l m n o p q):∃k l m n o p q,P k l m n o p q:=⟨k,l,m,n,o,p,q,h⟩
theorem Rj{a b c d e f g h:Sort _}{P:a->b->c->d->e->f->g->h->Prop}(k l m n o p q r)(h:P k l m n o p q r):∃k l m n o p q r,P k l m n o p q r:=⟨k,l,m,n,o,p,q,r,h⟩
theorem RK{a b c d e f g h i:Sort _}{P:a->b->c->d->e->f->g->h->i->Prop}(k l m n o p q r s)(h:P k l m n o p q r s):∃k l m n o p q r s,P k l m n o p q r s:=⟨k,l,m,n,o,p,q,r,s,h⟩
theorem Qa{a b c d e f g h i j:Sort _}{P:a->b->c->d->e->f->g->h->i->j->Prop}(k l m n o p q r s t)(h:P k l m n o p q r s t):∃k l m n o p q r s t,P k l m n o p q r s t:=⟨k,l,m,n,o,p,q,r,s,t,h⟩
theorem e11{a:Sort _}{A B:a->Prop}(x)(h:A x)(q:B x):∃x,A x/\B x:=⟨x,h,q⟩
theorem e22{a b:Sort _}{A C B:a->b->Prop}(x y)(h:A x y)(i:C x y)(q:B x y):∃x y,A x y/\C x y/\B x y:=⟨x,y,h,i,q⟩
theorem e44{a b c d:Sort _}{A C D E B:a->b->c->d->Prop}(x y z w)(h:A x y z w)(i:C x y z w)(j:D x y z w)(k:E x y z w)(q:B x y z w):∃x y z w,A x y z w/\C x y z w/\D x y z w/\E x y z w/\B x y z w:=⟨x,y,z,w,h,i,j,k,q⟩
theorem O9{i:Nat}{Z:St}{H:Hp}{Q:VK}{v:V}(h:Z[i]? =some (some v))(q:Q v H):O5 i Z H Q:=⟨v,h,q⟩
@[irreducible] def Nx(X : St → Hp → Prop) : St → Hp → Prop := X
structure NxH (A X:St->Hp->Prop):Prop where
 out:∀Z H,A Z H->Nx X Z H
theorem Qy{t u:TS}{D:pD}{Z:St}{H:Hp}(h:∀X:St->Hp->Prop,NxH (u D) X->t ⟨Nx X,D.rt,D.bk,D.ct⟩ Z H):QC t u D Z H:=by
 have e:Nx (u D)=u D:=by unfold Nx;rfl
 have:=h (u D) ⟨fun _ _ h=>by rw[e];exact h⟩
 rw[e] at this;exact this
theorem NxH.st{A X:St->Hp->Prop}{Z:St}{H:Hp}(r:NxH A X)(h:A Z H):Nx X Z H:=r.out _ _ h
theorem oJ{P:Program}{w:World}{K:Frag}{mg:Str->Option Value}{base:Heap}{N:List Str}{q:Str}{C:Scope}{f:Addr}{cd:Value}{A:Around}{o:List Env}{s:Shared}{H:Hp}{E:XK}:(eE CX0 P w K mg base N q C f cd A o s H E).nox.K=K:=rfl
theorem PL{P:Program}{w:World}{K:Frag}{mg:Str->Option Value}{base:Heap}{N:List Str}{q:Str}{C:Scope}{f:Addr}{cd:Value}{A:Around}{o:List Env}{s:Shared}{H:Hp}{E:XK}{CX:CXT}:(eE CX P w K mg base N q C f cd A o s H E).K=K:=rfl
theorem aE{N P:List Str}{o:Scope}(h:N.Nodup/\(∀x∈P,o.names.lookup x=some .local\/o.names.lookup x=some .cell)/\∀y∈o.names,y.2≠ .free:=by decide +kernel)(a:o.kind= .function:=by rfl)(b:o.isCoroutine=false:=by rfl)(c:o.isGenerator=false:=by rfl)(d:N.take P.length=P:=by rfl):ak N P o:=⟨a,b,c,h.1,d,h.2.1,h.2.2⟩
section
variable {X : Cx}
theorem psS(i:Nat){x:Str}{e:Expr}{I:TE}{C o:Pos}(b:X.N.Nodup)(he:PE X e I)(U:X.N[i]? =some x:=by rfl)(J:Loc X.env.scope x:=by first | (left;rfl) | (right;rfl))(hs:swapsWith e (some (.Name x o)) C.line X.env=pure false:=by rfl)(a:X.fn x=true\/X.env.scope.names.lookup x=some .local:=by first | exact .inl rfl | exact .inr rfl | assumption):PS X (.Assign [.Name x o] e C) (MQ I (yM i)):=OJ b U J he hs a
theorem pcH{j k:Nat}{x:Str}{ps:List Str}{sp:Sp}{e:Expr}{C:List Expr}{t:TA}{p o:Pos}(h:Has X.prog X.w X.K X.mg X.base j x ps sp)(a:Room k X.A)(b:PA X (e::C) t)(c:j<=k:=by omega)(U:Gl X x:=by rfl)(I:(x==("__debug__":Str))=false:=by decide)(he:starEach (e::C) X.env=(false,eval e X.env)::starEach C X.env:=by rfl)(J:(backTo o (starEach C X.env)).any (·.1)=false:=by rfl):PE X (.Call (.Name x p) (e::C) [] o) (HV sp [] E0 t):=KO (h.mono c) a U b I he J
theorem pX{a b:Expr}{C I:TE}{o:Pos}{r:R2}(J:IxR X r)(U:PE X a C)(c:PE X b I)(hs:Im b:=by intro _ _;rfl):PE X (.Subscript a b o) (tOp r C I):=D_ J U c hs
theorem pcE{a b:Expr}{I J:TE}{o:Pos}{C:CmpOp}{r:R2}(ho:OpR X (compareOp C) r)(U:PE X a I)(c:PE X b J)(hm:behindInMarks C b=false:=by exact GA _):PE X (.Compare a [C] [b] o) (tOp r I J):=HB ho U c hm
theorem pcT{a b:Expr}{I J:TE}{o:Pos}{C:CmpOp}{r:R2}(ho:OpR X (compareOp C) r)(U:PE X a I)(c:PE X b J)(hm:behindInMarks C b=false:=by exact GA _):PT X (.Compare a [C] [b] o) (NA (tOp r I J)):=n9 ho U c hm
theorem pa1{o:Expr}{C:TE}(J:PE X o C)(I:starEach [o] X.env=(false,eval o X.env)::starEach [] X.env:=by rfl):PA X [o] (iD C y_):=dD J dJ I
theorem pa2{C o:Expr}{I J:TE}(a:PE X C I)(b:PE X o J)(U:starEach [C,o] X.env=(false,eval C X.env)::starEach [o] X.env:=by rfl)(s1:starEach [o] X.env=(false,eval o X.env)::starEach [] X.env:=by rfl):PA X [C,o] (iD I (iD J y_)):=dD a (dD b dJ s1) U
theorem pa3{I C o:Expr}{U a J:TE}(d:PE X I U)(e:PE X C a)(c:PE X o J)(b:starEach [I,C,o] X.env=(false,eval I X.env)::starEach [C,o] X.env:=by rfl)(s1:starEach [C,o] X.env=(false,eval C X.env)::starEach [o] X.env:=by rfl)(f:starEach [o] X.env=(false,eval o X.env)::starEach [] X.env:=by rfl):PA X [I,C,o] (iD U (iD a (iD J y_))):=dD d (dD e (dD c dJ f) s1) b
theorem pa4{J I C o:Expr}{b c a U:TE}(f:PE X J b)(j:PE X I c)(e:PE X C a)(i:PE X o U)(d:starEach [J,I,C,o] X.env=(false,eval J X.env)::starEach [I,C,o] X.env:=by rfl)(s1:starEach [I,C,o] X.env=(false,eval I X.env)::starEach [C,o] X.env:=by rfl)(k:starEach [C,o] X.env=(false,eval C X.env)::starEach [o] X.env:=by rfl)(l:starEach [o] X.env=(false,eval o X.env)::starEach [] X.env:=by rfl):PA X [J,I,C,o] (iD b (iD c (iD a (iD U y_)))):=dD f (dD j (dD e (dD i dJ l) k) s1) d
theorem pa5{U J I C o:Expr}{b a d e c:TE}(m:PE X U b)(p:PE X J a)(f:PE X I d)(n:PE X C e)(q:PE X o c)(l:starEach [U,J,I,C,o] X.env=(false,eval U X.env)::starEach [J,I,C,o] X.env:=by rfl)(s1:starEach [J,I,C,o] X.env=(false,eval J X.env)::starEach [I,C,o] X.env:=by rfl)(k:starEach [I,C,o] X.env=(false,eval I X.env)::starEach [C,o] X.env:=by rfl)(i:starEach [C,o] X.env=(false,eval C X.env)::starEach [o] X.env:=by rfl)(j:starEach [o] X.env=(false,eval o X.env)::starEach [] X.env:=by rfl):PA X [U,J,I,C,o] (iD b (iD a (iD d (iD e (iD c y_))))):=dD m (dD p (dD f (dD n (dD q dJ j) i) k) s1) l
end
end L2
namespace L2
open PySem PySem.W PyProof.Rows
open PySem.MeetsSeq PySem.SeqAt
section
variable {X : Cx}
theorem Jq(E:X.calm=true):fq X (.builtin "min") (fun xs H Q=>∃(p:Addr) (ns:List Int),xs=[.ref p]/\SqL X.K H p (ns.map V.int)/\ns≠[]/\∀m,m∈ns->(∀n∈ns,m<=n)->Q (.int m) H):=by
 intro b s Z H xs N Q I r h;obtain⟨p,ns,rfl,w,U,q⟩:=h;obtain⟨u,rfl,x⟩:=iC r
 cases x
 obtain⟨D,l,pl,L⟩:=I.list w;obtain⟨o,A,d⟩:=yG l;have c:=pl.isList;rw[A,rP] at c;have C:o.length=ns.length:=by rw[<- d,be]
 have M:0<ns.length:=List.length_pos_iff.mpr U;refine min_intList (I.ok.hd E) c (by show 0<o.length;lia) fun v F B e k=> ?_
 have z:o.toArray.size=ns.length:=by show o.length=_;exact C
 rw[z] at e;obtain⟨G,f⟩:=argBest_lt (numAt o.toArray) (ns.length - 1);obtain⟨t,rfl⟩:=intItems_at e;have a:∀j,numAt o.toArray j=ns.getD j 0:=fun j=>by rw[numAt_eq];show(o.map (·.1)).getD j 0=_;rw[d]
 rw[a];rw[a] at f;generalize argBest (fun i j=>decide (numAt o.toArray i<numAt o.toArray j)) (ns.length - 1)=k0 at*
 have J:k0<ns.length:=by lia
 refine⟨.int (ns.getD k0 0),H,I.kept (t':=B) k,⟨_,rfl⟩,q _ ?_ fun n y=> ?_⟩
 .simp [List.getD,R1 J]
 .obtain⟨j,hj,rfl⟩:=List.mem_iff_getElem.mp y;have:=f j (by lia)
  rw[a] at this
  simpa [List.getD,R1 hj] using this
noncomputable def wE(xs ys:List V):Bool:=(List.range (min xs.length ys.length)).all (fun j=>eqV (xs.getD j .non) (ys.getD j .non)) && xs.length==ys.length
def NS(K:Frag)(I:Bool):R2:=fun x y H Q=>∃(a b:Addr) (C o:List V),x= .ref a/\y= .ref b/\SqT K H a C/\SqT K H b o/\C.all fY=true/\o.all fY=true/\Q (.bl (if I then !wE C o else wE C o)) H
theorem EW{A:Around}{s:Shared}{xs ys:List V}{us vs:List Value}(I:aY xs us)(J:aY ys vs)(f1:xs.all fY=true)(f2:ys.all fY=true)(j:Nat)(f:j<us.toArray.size)(b:j<vs.toArray.size):
  SeqAt.EqAt A s us.toArray[j] vs.toArray[j] (eqV (xs.getD j .non) (ys.getD j .non)):=by
 have l1:=I.length;have l2:=J.length;have C:j<xs.length:=by simpa [l1] using f
 have o:j<ys.length:=by simpa [l2] using b
 obtain⟨u,k,a⟩:=I.get (i:=j) (x:=xs[j]) (R1 C);obtain⟨v,e,U⟩:=J.get (i:=j) (x:=ys[j]) (R1 o);have c:us.toArray[j]=u:=by
  have:=(RX.mp k).2
  simpa using this
 have d:vs.toArray[j]=v:=by
  have:=(RX.mp e).2
  simpa using this
 rw[c,d,show xs.getD j .non=xs[j] by simp [List.getD,R1 C],show ys.getD j .non=ys[j] by simp [List.getD,R1 o]]
 exact KR a U (S7.mp f1 _ (Vp C)) (S7.mp f2 _ (Vp o))
theorem vd(k:X.A.units+64<cLine):OpR X (compareOp .Eq) (NS X.K false):=by
 intro o s Z H x y v u Q I c e h;obtain⟨a,b,j,l,rfl,rfl,i,d,f1,f2,q⟩:=h
 cases c
 cases e
 obtain⟨m,C,U,_⟩:=I.tuple i;obtain⟨vs,J,f,_⟩:=I.tuple d;have:=RcAt.tuples (A:=X.A) U f (by lia) (EW (A:=X.A.in1) (s:=s) C J f1 f2)
 simp only[R7] at this
 rw[<- C.length, <-J.length] at this;exact this _ _ _ _ ⟨.bl _,H,I,rfl,q⟩
theorem EU(k:X.A.units+64<cLine):OpR X (compareOp .NotEq) (NS X.K true):=by
 intro o s Z H x y v u Q I c e h;obtain⟨a,b,j,l,rfl,rfl,i,d,f1,f2,q⟩:=h
 cases c
 cases e
 obtain⟨m,C,U,_⟩:=I.tuple i;obtain⟨vs,J,f,_⟩:=I.tuple d;have:=RcNeAt.tuples (A:=X.A) U f (by lia) (EW (A:=X.A.in1) (s:=s) C J f1 f2)
 simp only[R7] at this
 rw[<- C.length, <-J.length] at this;exact this _ _ _ _ ⟨.bl _,H,I,rfl,q⟩
theorem Fc(a:Array Nat):∀(n:Nat) (acc:Array Nat),((List.replicate n a).foldl (· ++ ·) acc).size=acc.size+n*a.size
 | 0,acc=>by simp
 | n+1,acc=>by
  rw[S0,VC,Fc a n,Array.size_append,Wv]
  lia
theorem Me:OpR X (binaryOp .Mult) (fun x y H Q=>∃(z:Str) (n:Int),x= .str z/\y= .int n/\2<=n/\n<=100/\1<=z.length/\z.length<=100/\Q (.str ⟨(List.replicate n.toNat z.cps).foldl (· ++ ·) #[]⟩) H):=by
 intro o s Z H x y v u Q I C J h;obtain⟨z,n,rfl,rfl,b,c,l0,l1,q⟩:=h;obtain⟨t,rfl⟩:=C;obtain⟨U,rfl⟩:=J;have hs:sizeLine=16777216:=Ut;have hm:z.length*n.toNat<=10000:=RY (Nat.mul_le_mul l1 (show n.toNat<=100 by lia)) (by decide)
 refine P.mul_str (x:=z) (n:=n) ?_ ?_ ?_ ?_
 .rw[RW (show ¬n < -(2^63:Int) by lia),RW (show ¬n>=2^63 by lia)]
  rfl
 .intro _ _;have:(100:Int)<=(2^63 - 1) / n:=by
   rw[Int.le_ediv_iff_mul_le (by lia)]
   lia
  lia
 .intro _ _;unfold Builtin.Str.tooLong;exact RW (by lia)
 .rw[R6 (by lia),R6 (by
   rw[Bool.or_eq_true];rintro(a | a)
   .have:=Tc.mp a
    lia
   .have:=Tc.mp a
    lia)]
  refine⟨?_,.str _,H,I.tok _,⟨_,rfl⟩,q⟩
  show((List.replicate n.toNat z.cps).foldl (· ++ ·) #[]).size<=sizeLine
  rw[Fc];have e:z.cps.size=z.length:=rfl;rw[e,U9];show 0+_<=_
  lia
theorem Bq:MtM X "list.insert" (fun x vs H Q=>∃(l:Addr) (xs:List V) (i:Nat) (y:V),x= .ref l/\vs=[.int i,y]/\H l=some (.lst xs)/\i<=xs.length/\xs.length<sizeLine/\Q .non (upd H l (.lst (xs.take i++y::xs.drop i)))):=by
 intro a s Z H x vs v p Q I c d h;obtain⟨l,xs,i,y,rfl,rfl,b,j,m,q⟩:=h
 cases c
 cases d with
 | cons r1 r2=>
 obtain⟨t,rfl⟩:=r1;obtain⟨u,rfl,f⟩:=iC r2;obtain⟨z,o,n,r,k,e⟩:=I.lstM b;have hs:sizeLine=16777216:=Ut;have C:¬(!Builtin.List.listFitsIndex (i:Int))=true:=by
  unfold Builtin.List.listFitsIndex;rw[R0 (show -(2^63:Int)<=(i:Int) by lia),R0 (show(i:Int)<2^63 by lia)]
  decide
 have J:(i:Int).toNat=i:=by lia
 have U:¬(i:Int)<0:=by lia
 generalize (i:Int)=x at*;refine TM F.slot_list_insert ⟨_,e,rfl⟩ F.entry_list_insert (F.args_list_insert_3 _ _ _) (PySem.AutoSeq1.list_insert_list_int_val_1 l o.toArray n x t u C (by rw[R7];lia)) ⟨e,?_⟩
 .refine⟨.non,_,I.lset (its':=o.take i++u::o.drop i) b e ?_ ?_ ?_,rfl,q⟩
  .show(o.toArray.extract 0 (if x<0 then(x+(o.toArray.size:Int)).toNat else min x.toNat o.toArray.size)).push u++o.toArray.extract (if x<0 then(x+(o.toArray.size:Int)).toNat else min x.toNat o.toArray.size)=_
   rw[R6 U,R7,J,show min i o.length=i by lia]
   apply Array.toList_inj.mp
   simp
   exact Tt (by rw[SH];lia)
  .exact(r.take i).append (.cons f (r.drop i))
  .rw[RZ,R4,Sg,SH]
   lia
theorem A7{x:V}:∀{xs:List V}{us:List Value},aY xs us->xs.all fY=true->us.countP (eqU x)=xs.countP fun y=>eqV y x
 | _,_,.nil,_=>rfl
 | y::xs,u::us,.cons r t,f=>by
  rw[V5,Su] at f;rw[List.countP_cons,List.countP_cons,zq r f.1,A7 t f.2]
theorem IL:MtM X "list.count" (fun x vs H Q=>∃(l:Addr) (xs:List V) (y:V),x= .ref l/\vs=[y]/\SqL X.K H l xs/\fY y=true/\xs.all fY=true/\Q (.int ((xs.countP fun z=>eqV z y:Nat):Int)) H):=by
 intro U s Z H x vs v w Q I d f h;obtain⟨l,xs,y,rfl,rfl,i,k,fs,q⟩:=h
 cases d
 obtain⟨u,rfl,j⟩:=f.one;obtain⟨C,r,⟨o,n,e,b,hd,hs⟩,a⟩:=I.list i;obtain⟨p,m,c,J⟩:=o
 simp only at b hd hs
 subst b hd hs;refine TM F.slot_list_count ⟨_,e,rfl⟩ F.entry_list_count (F.args_list_count_2 _ _) (SeqAt.list_countAt l C.toArray n none J u (eqU y)) ⟨e,fun z a=>kE j k r fs z (by simpa using a),?_⟩
 rw[A7 r fs];exact⟨.int _,H,I.tok _,⟨_,rfl⟩,q⟩
theorem dfk{K:Frag}{h:Heap}{mg:Str->Option Value}{x:Str}{st:Stmt}{ps:List Str}{f:Addr}{I C:Option Addr}{sl:Array (Option Value)}{U kV J o cd ct:Value}(b:Bd x st ps)(X:K.In h)(G:h.Ns mainGlobals mg)
  (a:W.nsIn K mainGlobals x=some (some (.ref f)):=by k_is) (l:K.lookup f=some ⟨U,I,.func (W.fnOf x x (cA st) (bF st) (af st) .none kV J o C cd ct),sl⟩:=by k_is) (c:W.codeIn K cd x=true:=by k_is) (k:W.keepIn K (.ref f)=true:=by k_is):
  Def K mg x st ps:=JY b X G a l c k
theorem upA{H C:Hp}{p:Addr}{o:HO}(e:upd H p o=C):C p=some o:=by rw[<- e];exact ae
theorem upS{H C:Hp}{p:Addr}{o:HO}(I:H p=none)(e:upd H p o=C):aA H C:=by rw[<- e];exact ag I o
end
end L2
set_option compiler.extract_closed false
end
set_option maxHeartbeats 4000000
set_option compiler.extract_closed false
namespace My
open PySem L2
abbrev TyQ{p:Prop}(_:p):Prop:=p
local macro_rules(kind:=Lean.Parser.Command.declaration)|s=>do
 let v:=s[1][3]
 unless v.isOfKind ``Lean.Parser.Command.declValSimple&&v[0].getPos?.isSome&&s[1].isOfKind ``Lean.Parser.Command.theorem&&v[1].isOfKind ``Lean.Parser.Term.byTactic do Lean.Macro.throwUnsupported
 return s.setArg 1 (s[1].setArg 3 ((v.setArg 0 (.atom .none ":=")).setArg 1 (<-`(by change ?t;exact (by change TyQ ?z;exact ?z:@TyQ ?t $(⟨v[1]⟩))))))
local macro_rules | `(tactic| walk_at"sq") => `(tactic| first | assumption | exact ae | exact SqT.of ae | exact SqL.of ae | exact SqT.of (by assumption) | exact SqL.of (by assumption) | exact e9.sq (by assumption) | exact e9.ty (by assumption) | (apply gw; (focus assumption); walk_at"sq") | (apply Rb; (focus assumption); walk_at"sq") | (apply dE; (focus assumption); walk_at"sq") | (apply aA.tup; (focus assumption); walk_at"sq") | (apply aA.seq; (focus assumption); walk_at"sq") | (apply aA.is; (focus assumption); walk_at"sq"))
local macro_rules | `(tactic| walk_at"c") => `(tactic| first | exact rfl | assumption | exact nj | exact LG | exact Ga | exact Pd | exact Wk.none Wk.refl | walk_at"ty" | exact Nat.le_of_ble_eq_true rfl | decide | ((fail_if_success intro _); lia) | omega | exact And.intro (by decide) (by decide) | exact Or.inl ⟨by decide, by decide⟩ | exact Or.inr ⟨by decide, by decide⟩ | exact Or.inl ⟨by omega, by omega⟩ | exact Or.inr ⟨by omega, by omega⟩ | exact ⟨by omega, by omega, by first | decide | omega⟩ | exact ⟨by omega, by omega⟩ | walk_at"sq" | (apply Exists.intro; walk_at"sq"; done) | (apply Or.inl; walk_at"sq"; done) | (apply Or.inr; walk_at"sq"; done))
local macro_rules | `(tactic| walk_at"g") => `(tactic| first | ((with_reducible apply Qy); intro _ _; walk_at"g") | (apply O9; (focus (exact rfl)); walk_at"g") | (apply e44; (focus (walk_at"c"; done)); (focus (walk_at"c"; done)); (focus (walk_at"c"; done)); (focus (walk_at"c"; done)); walk_at"g") | (apply e22; (focus (walk_at"c"; done)); (focus (walk_at"c"; done)); walk_at"g") | (apply e11; (focus (walk_at"c"; done)); walk_at"g") | (apply Qa; walk_at"g") | (apply RK; walk_at"g") | (apply Rj; walk_at"g") | (apply Rv; walk_at"g") | (apply Q8; walk_at"g") | (apply Rx; walk_at"g") | (apply Rp; walk_at"g") | (apply RE; walk_at"g") | (apply Q7; walk_at"g") | (apply Exists.intro; walk_at"g") | (apply And.intro; (focus (walk_at"c"; done)); walk_at"g") | (apply NxH.st; (focus assumption); walk_at"g") | skip)
local macro_rules | `(tactic| walk_at"ty") => `(tactic| first | exact TyS.int _ | exact TyS.str _ | exact TyS.non | exact TyS.bl _ | (apply TyS.tup; walk_at"sq"; done) | (apply TyS.lst; walk_at"sq"; done) | exact GH)
local macro_rules | `(tactic| walk_at"wd") => `(tactic| repeat (first | (apply vK; (focus (decide)); walk_at"g") | (apply Hl; (focus (decide)); walk_at"g")))
local macro_rules | `(tactic| walk_at"n") => `(tactic| first | (apply NxH.st; (focus assumption)) | skip)
local macro_rules | `(tactic| walk_at"ln") => `(tactic| first | (rintro ⟨h, _⟩; subst h; rfl) | (rintro ⟨_, h⟩; revert h; walk_at"ln"))
local macro_rules | `(tactic| walk_at"b") => `(tactic| (intro _ _ _ _ _ _ u l; first | (obtain ⟨_, h⟩ := ex1 u l; subst h; rfl) | (obtain ⟨_, _, h⟩ := ex2 u l; subst h; rfl) | (obtain ⟨_, _, _, h⟩ := ex3 u l; subst h; rfl) | (have h := ex0 u l; subst h; rfl) | (obtain ⟨_, _, _, _, h⟩ := ex4 u l; subst h; rfl) | (obtain ⟨_, _, _, _, _, h⟩ := ex5 u l; subst h; rfl) | (obtain ⟨_, _, _, _, _, _, h⟩ := ex6 u l; subst h; rfl)))
local macro_rules | `(tactic| walk_at"k") => `(tactic| ((try dsimp only [oJ]); walk_at"g"))
local macro_rules | `(tactic| walk_at"o") => `(tactic| ((try dsimp only [PL]); walk_at"g"))
section
variable {P : Program} {w : World} {K : Frag} {mg : Str → Option Value} {base : Heap}
noncomputable abbrev sJ:List Str:=["bits"]
noncomputable abbrev w_:List Str:=["v","bits"]
noncomputable abbrev vi:List Str:=["v"]
noncomputable abbrev Ar:List Str:=["field","number"]
noncomputable abbrev Lw:List Str:=["field","word"]
noncomputable abbrev cI:List Str:=["instruction"]
noncomputable abbrev AM:List Str:=["word"]
noncomputable abbrev IQ:List Str:=["code","at"]
noncomputable abbrev si:List Str:=["piece"]
noncomputable abbrev Lo:List Str:=["row","line"]
noncomputable abbrev gr:List Str:=["text"]
noncomputable abbrev DE:List Str:=["words"]
noncomputable abbrev D9:List Str:=["code"]
noncomputable abbrev E8:List Str:=["plan","b"]
noncomputable abbrev DM:List Str:=["z"]
noncomputable abbrev FA:List Str:=["span"]
noncomputable abbrev o_:List Str:=["lo","hi","z"]
noncomputable abbrev Fi:List Str:=["sort","left","right"]
noncomputable abbrev Fh:List Str:=["span","n"]
noncomputable abbrev sV:List Str:=["plan","span"]
noncomputable abbrev jm:List Str:=["plan","instruction","spans"]
noncomputable abbrev Fm:List Str:=["place","count"]
noncomputable abbrev EN:List Str:=["span","count"]
noncomputable abbrev DY:List Str:=["instruction","at"]
noncomputable abbrev E5:List Str:=["plan","count","instruction","spans"]
noncomputable abbrev Fk:List Str:=["plan","code","at","spans"]
noncomputable abbrev jE:List Str:=["plan","code"]
noncomputable abbrev m9:List Str:=["sort"]
noncomputable abbrev A4:List Str:=["number"]
noncomputable abbrev tj:List Str:=["instruction","count","gates"]
noncomputable abbrev Fg:List Str:=["guest","number","gates"]
noncomputable abbrev EA:List Str:=["guest","gates"]
noncomputable abbrev FM:List Str:=["self","plan","gates","boxes","memory","replies"]
noncomputable abbrev dC:List Str:=["self","instruction"]
noncomputable abbrev NT:List Str:=["self","n"]
noncomputable abbrev Ew:List Str:=["self","code","place","holding"]
noncomputable abbrev FH:List Str:=["self","most"]
noncomputable abbrev Fw:List Str:=["plan","code","stand","replies","most"]
noncomputable abbrev fw:List Str:=["self"]
noncomputable abbrev oS:List Str:=["self","group"]
noncomputable abbrev rF:List Str:=["count"]
noncomputable abbrev sU:List Str:=["block"]
noncomputable abbrev FL:List Str:=["instruction","size"]
noncomputable abbrev DT:List Str:=["block","size"]
noncomputable abbrev EZ:List Str:=["blocks","size"]
noncomputable abbrev Bp:List Str:=["blocks","room","gates"]
noncomputable abbrev tH:List Str:=["guest","room","gates"]
noncomputable abbrev kF:List Str:=["row"]
noncomputable abbrev Ey:List Str:=["blocks","row","line"]
noncomputable abbrev E_:List Str:=["self","room"]
noncomputable abbrev D6:List Str:=["self","instruction","group"]
noncomputable abbrev DI:List Str:=["self","member"]
noncomputable abbrev EC:List Str:=["block","room"]
noncomputable abbrev BA:List Str:=["pieces"]
noncomputable abbrev BN:List Str:=["text","gates"]
noncomputable abbrev sT:List Str:=["text","k","base","gates"]
noncomputable abbrev D0:List Str:=["k","base"]
noncomputable abbrev Fd:List Str:=["plan"]
noncomputable abbrev FW:List Str:=["text","block","turns"]
noncomputable abbrev Ed:List Str:=["_law_script","_law_k"]
noncomputable abbrev Ai:List Str:=["_law_deal_here","_law_many"]
noncomputable abbrev Eu:List Str:=["_law_which","_law_text","_law_k","_law_base","_law_gates"]
noncomputable abbrev km:List Str:=["_law_deal_here"]
noncomputable abbrev NX:List Str:=["_law_script"]
noncomputable abbrev KL:List Str:=["self","line"]
noncomputable abbrev Ls:List Str:=["self","block","at"]
noncomputable def top(i:Nat):Stmt:=PySem.Challenge.pw_fencemask_k92_texts_refused.main.body.getD i (.Pass ⟨0,0,0,0⟩)
noncomputable abbrev jU:Stmt:=top 1
theorem gy:ak ["bits","power","step"] sJ (af jU):=aE
theorem xY:Bd "power_of_two" jU sJ:=by walk_at"b"
noncomputable abbrev GS:Stmt:=top 2
theorem ML:ak ["v","bits"] w_ (af GS):=aE
theorem MZ:Bd "rest" GS w_:=by walk_at"b"
noncomputable abbrev C9:Stmt:=top 3
theorem rp:ak ["v","count","left"] vi (af C9):=aE
theorem KF:Bd "zeros" C9 vi:=by walk_at"b"
noncomputable abbrev zn:Stmt:=top 4
theorem Jo:ak ["v","bits"] w_ (af zn):=aE
theorem Js:Bd "signed" zn w_:=by walk_at"b"
noncomputable abbrev nZ:Stmt:=top 15
theorem AK:ak ["field","number"] Ar (af nZ):=aE
theorem AO:Bd "field_bits" nZ Ar:=by walk_at"b"
noncomputable abbrev kx:Stmt:=top 16
theorem xV:ak ["field","word"] Lw (af kx):=aE
theorem yt:Bd "field_number" kx Lw:=by walk_at"b"
noncomputable abbrev oF:Stmt:=top 17
theorem eK:ak ["instruction","sort","word","field","number"] cI (af oF):=aE
theorem AI:Bd "first_word" oF cI:=by walk_at"b"
noncomputable abbrev ue:Stmt:=top 18
theorem Ev:ak ["instruction"] cI (af ue):=aE
theorem D5:Bd "words_of" ue cI:=by walk_at"b"
noncomputable abbrev rL:Stmt:=top 19
theorem CJ:ak ["instruction"] cI (af rL):=aE
theorem CH:Bd "length_of" rL cI:=by walk_at"b"
noncomputable abbrev cM:Stmt:=top 20
theorem bL:ak ["word","number","sort","numbers","instruction"] AM (af cM):=aE
theorem mR:Bd "one_word_instruction" cM AM:=by walk_at"b"
noncomputable abbrev iM:Stmt:=top 21
theorem lc:ak ["code","at","instruction"] IQ (af iM):=aE
theorem wj:Bd "instruction_at" iM IQ:=by walk_at"b"
noncomputable abbrev qC:Stmt:=top 22
theorem hX:ak ["piece","word","sign","digit"] si (af qC):=aE
theorem Cr:Bd "read_word" qC si:=by walk_at"b"
noncomputable abbrev tU:Stmt:=top 23
theorem lE:ak ["row","line","words","piece","word"] Lo (af tU):=aE
theorem Fj:Bd "read_row" tU Lo:=by walk_at"b"
noncomputable abbrev pM:Stmt:=top 24
theorem jF:ak ["text","code","line","row"] gr (af pM):=aE
theorem Cv:Bd "read_code" pM gr:=by walk_at"b"
noncomputable abbrev qy:Stmt:=top 25
theorem fV:ak ["word","text","left","step"] AM (af qy):=aE
theorem Dh:Bd "word_text" qy AM:=by walk_at"b"
noncomputable abbrev nK:Stmt:=top 26
theorem Fp:ak ["words"] DE (af nK):=aE
theorem Ek:Bd "row_text" nK DE:=by walk_at"b"
noncomputable abbrev lD:Stmt:=top 27
theorem Cq:ak ["code"] D9 (af lD):=aE
theorem Co:Bd "code_text" lD D9:=by walk_at"b"
noncomputable abbrev uk:Stmt:=top 31
theorem EF:ak ["instruction"] cI (af uk):=aE
theorem EJ:Bd "made_box" uk cI:=by walk_at"b"
noncomputable abbrev rE:Stmt:=top 34
theorem B0:ak ["plan","b"] E8 (af rE):=aE
theorem BV:Bd "aim_value" rE E8:=by walk_at"b"
noncomputable abbrev oB:Stmt:=top 37
theorem AH:ak [] [] (af oB):=aE
theorem AA:Bd "whole_span" oB []:=by walk_at"b"
noncomputable abbrev iQ:Stmt:=top 38
theorem u4:ak ["z"] DM (af iQ):=aE
theorem vH:Bd "multiples_span" iQ DM:=by walk_at"b"
noncomputable abbrev y9:Stmt:=top 39
theorem IX:ak ["v"] vi (af y9):=aE
theorem Jp:Bd "single" y9 vi:=by walk_at"b"
noncomputable abbrev pU:Stmt:=top 40
theorem B9:ak ["span"] FA (af pU):=aE
theorem BZ:Bd "is_single" pU FA:=by walk_at"b"
noncomputable abbrev kj:Stmt:=top 41
theorem yo:ak ["lo","hi","z"] o_ (af kj):=aE
theorem x9:Bd "settled_span" kj o_:=by walk_at"b"
noncomputable abbrev pV:Stmt:=top 42
theorem BU:ak ["lo","hi","z"] o_ (af pV):=aE
theorem BX:Bd "kept_span" pV o_:=by walk_at"b"
noncomputable abbrev mf:Stmt:=top 50
theorem zP:ak ["sort","left","right"] Fi (af mf):=aE
theorem zD:Bd "joined_span" mf Fi:=by walk_at"b"
noncomputable abbrev qU:Stmt:=top 51
theorem CK:ak ["span","n"] Fh (af qU):=aE
theorem Dp:Bd "more_span" qU Fh:=by walk_at"b"
noncomputable abbrev uz:Stmt:=top 52
theorem lw:ak ["plan","span","base","size","z"] sV (af uz):=aE
theorem DL:Bd "fit_span" uz sV:=by walk_at"b"
noncomputable abbrev uD:Stmt:=top 53
theorem xu:ak ["plan","span","last_block"] sV (af uD):=aE
theorem FG:Bd "aim_span" uD sV:=by walk_at"b"
noncomputable abbrev lJ:Stmt:=top 55
theorem zj:ak [] [] (af lJ):=aE
theorem ze:Bd "first_spans" lJ []:=by walk_at"b"
noncomputable abbrev rB:Stmt:=top 56
theorem oy:ak ["plan","instruction","spans","sort","b"] jm (af rB):=aE
theorem Ct:Bd "made_span" rB jm:=by walk_at"b"
noncomputable abbrev j_:Stmt:=top 57
theorem oW:ak ["plan","instruction","spans","box"] jm (af j_):=aE
theorem yb:Bd "spans_behind" j_ jm:=by walk_at"b"
noncomputable abbrev jp:Stmt:=top 58
theorem fX:ak ["plan","instruction","spans","span","n","base"] jm (af jp):=aE
theorem wS:Bd "may_reach_out" jp jm:=by walk_at"b"
noncomputable abbrev kg:Stmt:=top 59
theorem yi:ak ["place","count"] Fm (af kg):=aE
theorem xS:Bd "is_no_target" kg Fm:=by walk_at"b"
noncomputable abbrev qD:Stmt:=top 60
theorem CI:ak ["span","count"] EN (af qD):=aE
theorem CO:Bd "is_no_way" qD EN:=by walk_at"b"
noncomputable abbrev nG:Stmt:=top 61
theorem AC:ak ["instruction","at"] DY (af nG):=aE
theorem Aw:Bd "is_no_word" nG DY:=by walk_at"b"
noncomputable abbrev tS:Stmt:=top 62
theorem xI:ak ["plan","count","instruction","spans","sort"] E5 (af tS):=aE
theorem E3:Bd "fault_of" tS E5:=by walk_at"b"
noncomputable abbrev fE:Stmt:=top 63
theorem eT:ak ["plan","code","at","spans","instruction","why"] Fk (af fE):=aE
theorem pA:Bd "instruction_let_by" fE Fk:=by walk_at"b"
noncomputable abbrev my:Stmt:=top 64
theorem cu:ak ["plan","code","told","spans","sort","instruction"] jE (af my):=aE
theorem zf:Bd "spans_ahead" my jE:=by walk_at"b"
noncomputable abbrev DA:Stmt:=top 65
theorem J9:ak ["plan","code"] jE (af DA):=aE
theorem KD:Bd "check" DA jE:=by walk_at"b"
noncomputable abbrev lS:Stmt:=top 68
theorem rA:ak ["piece","sign"] si (af lS):=aE
theorem zp:Bd "are_figures" lS si:=by walk_at"b"
noncomputable abbrev lR:Stmt:=top 69
theorem rn:ak ["piece","figures"] si (af lR):=aE
theorem yJ:Bd "read_number" lR si:=by walk_at"b"
noncomputable abbrev ju:Stmt:=top 71
theorem wU:ak ["sort"] m9 (af ju):=aE
theorem wZ:Bd "is_guest_sort" ju m9:=by walk_at"b"
noncomputable abbrev kh:Stmt:=top 72
theorem ya:ak ["number"] A4 (af kh):=aE
theorem yl:Bd "is_guest_box" kh A4:=by walk_at"b"
noncomputable abbrev ic:Stmt:=top 73
theorem gM:ak ["instruction","field","number"] cI (af ic):=aE
theorem uq:Bd "has_guest_boxes" ic cI:=by walk_at"b"
noncomputable abbrev gC:Stmt:=top 74
theorem jD:ak ["instruction","count","gates","sort"] tj (af gC):=aE
theorem sP:Bd "has_known_number" gC tj:=by walk_at"b"
noncomputable abbrev rj:Stmt:=top 75
theorem Da:ak ["instruction","count","gates"] tj (af rj):=aE
theorem Dr:Bd "may_stand" rj tj:=by walk_at"b"
noncomputable abbrev mr:Stmt:=top 76
theorem fH:ak ["guest","number","gates","block","at","instruction","is_last"] Fg (af mr):=aE
theorem zc:Bd "check_block" mr Fg:=by walk_at"b"
noncomputable abbrev mq:Stmt:=top 77
theorem pN:ak ["guest","gates","number"] EA (af mq):=aE
theorem zr(d:Value):BdD "check_guest" mq EA d:=fun _ _ _ _ _ _ _ C=>⟨fun o=>match C,o with | [_,_],_=>⟨_,rfl,rfl⟩,fun o=>match C,o with | [_],_=>⟨_,rfl,rfl⟩⟩
noncomputable abbrev gI:Stmt:=cr (top 80) 0
theorem sH:ak ["self","plan","gates","boxes","memory","replies"] FM (af gI):=aE
theorem sI:BdM "__init__" "Holding.__init__" gI FM:=by walk_at"b"
abbrev gK(K:Frag)(C:Addr):Prop:=kQ K C "__init__" "Holding.__init__" gI FM
noncomputable abbrev gj:Stmt:=cr (top 80) 1
theorem qF:ak ["self","instruction","sort"] dC (af gj):=aE
theorem qJ:BdM "carry_out" "Holding.carry_out" gj dC:=by walk_at"b"
abbrev f_(K:Frag)(C:Addr):Prop:=kQ K C "carry_out" "Holding.carry_out" gj dC
noncomputable abbrev pe:Stmt:=cr (top 80) 2
theorem wA:BdM "reach" "Holding.reach" pe dC:=by walk_at"b"
abbrev oZ(K:Frag)(C:Addr):Prop:=kQ K C "reach" "Holding.reach" pe dC
noncomputable abbrev sX:Stmt:=cr (top 80) 3
theorem yZ:BdM "ask" "Holding.ask" sX NT:=by walk_at"b"
abbrev tL(K:Frag)(C:Addr):Prop:=kQ K C "ask" "Holding.ask" sX NT
noncomputable abbrev gQ:Stmt:=cr (top 81) 0
theorem sk:ak ["self","code","place","holding"] Ew (af gQ):=aE
theorem sS:BdM "__init__" "Machine.__init__" gQ Ew:=by walk_at"b"
abbrev gU(K:Frag)(C:Addr):Prop:=kQ K C "__init__" "Machine.__init__" gQ Ew
noncomputable abbrev iT:Stmt:=cr (top 81) 1
theorem fk:ak ["self","most","end","instruction"] FH (af iT):=aE
theorem vM:BdM "run_on" "Machine.run_on" iT FH:=by walk_at"b"
abbrev i7(K:Frag)(C:Addr):Prop:=kQ K C "run_on" "Machine.run_on" iT FH
noncomputable abbrev om:Stmt:=cr (top 81) 2
theorem lV:ak ["self","instruction","sort","end"] dC (af om):=aE
theorem AQ:BdM "do" "Machine.do" om dC:=by walk_at"b"
abbrev nJ(K:Frag)(C:Addr):Prop:=kQ K C "do" "Machine.do" om dC
noncomputable abbrev eW:Stmt:=cr (top 81) 3
theorem oi:ak ["self","instruction","held"] dC (af eW):=aE
theorem oh:BdM "place_ahead" "Machine.place_ahead" eW dC:=by walk_at"b"
abbrev fe(K:Frag)(C:Addr):Prop:=kQ K C "place_ahead" "Machine.place_ahead" eW dC
noncomputable abbrev JQ:Stmt:=top 82
theorem Ao:ak ["plan","code","stand","replies","most","holding","machine","end","behind"] Fw (af JQ):=aE
theorem Of:Bd "run" JQ Fw:=by walk_at"b"
noncomputable abbrev fD:Stmt:=cr (top 84) 0
theorem pC:ak ["self"] fw (af fD):=aE
theorem pB:BdM "__init__" "LaidBlock.__init__" fD fw:=by walk_at"b"
abbrev fF(K:Frag)(C:Addr):Prop:=kQ K C "__init__" "LaidBlock.__init__" fD fw
noncomputable abbrev dB:Stmt:=cr (top 84) 1
theorem kR:ak ["self"] fw (af dB):=aE
theorem kP:BdM "is_at_bundle" "LaidBlock.is_at_bundle" dB fw:=by walk_at"b"
abbrev dz(K:Frag)(C:Addr):Prop:=kQ K C "is_at_bundle" "LaidBlock.is_at_bundle" dB fw
noncomputable abbrev cY:Stmt:=cr (top 84) 2
theorem nW:ak ["self","group"] oS (af cY):=aE
theorem og:BdM "has_space" "LaidBlock.has_space" cY oS:=by walk_at"b"
abbrev fh(K:Frag)(C:Addr):Prop:=kQ K C "has_space" "LaidBlock.has_space" cY oS
noncomputable abbrev jb:Stmt:=cr (top 84) 3
theorem uZ:ak ["self","instruction"] dC (af jb):=aE
theorem wf:BdM "take" "LaidBlock.take" jb dC:=by walk_at"b"
abbrev iP(K:Frag)(C:Addr):Prop:=kQ K C "take" "LaidBlock.take" jb dC
noncomputable abbrev d9:Stmt:=cr (top 84) 4
theorem gZ:ak ["self","group","instruction"] oS (af d9):=aE
theorem nB:BdM "take_group" "LaidBlock.take_group" d9 oS:=by walk_at"b"
abbrev dY(K:Frag)(C:Addr):Prop:=kQ K C "take_group" "LaidBlock.take_group" d9 oS
noncomputable abbrev dI:Stmt:=cr (top 84) 5
theorem lU:ak ["self"] fw (af dI):=aE
theorem mi:BdM "fill_bundle" "LaidBlock.fill_bundle" dI fw:=by walk_at"b"
abbrev dO(K:Frag)(C:Addr):Prop:=kQ K C "fill_bundle" "LaidBlock.fill_bundle" dI fw
noncomputable abbrev oC:Stmt:=top 85
theorem lQ:ak ["count","bits"] rF (af oC):=aE
theorem AX:Bd "least_bits" oC rF:=by walk_at"b"
noncomputable abbrev ou:Stmt:=top 86
theorem AG:ak ["block"] sU (af ou):=aE
theorem AU:Bd "bundles_of" ou sU:=by walk_at"b"
noncomputable abbrev zF:Stmt:=top 87
theorem Jn:ak ["instruction","size"] FL (af zF):=aE
theorem IH:Bd "placed" zF FL:=by walk_at"b"
noncomputable abbrev CU:Stmt:=top 88
theorem KK:ak ["count"] rF (af CU):=aE
theorem LQ:Bd "stops" CU rF:=by walk_at"b"
noncomputable abbrev lY:Stmt:=top 89
theorem kA:ak ["block","size","words","instruction"] DT (af lY):=aE
theorem zy:Bd "block_words" lY DT:=by walk_at"b"
noncomputable abbrev qX:Stmt:=top 90
theorem fR:ak ["blocks","size","places","number","block","at","begin"] EZ (af qX):=aE
theorem Cp:Bd "places_of" qX EZ:=by walk_at"b"
noncomputable abbrev fS:Stmt:=top 91
theorem cC:ak ["blocks","room","gates","m","s","size","code","block"] Bp (af fS):=aE
theorem vO:Bd "code_of_blocks" fS Bp:=by walk_at"b"
noncomputable abbrev lC:Stmt:=top 93
theorem Dn:ak ["instruction"] cI (af lC):=aE
theorem Dd:Bd "is_access" lC cI:=by walk_at"b"
noncomputable abbrev fP:Stmt:=top 94
theorem uW:ak ["instruction"] cI (af fP):=aE
theorem vI:Bd "access_by_mask" fP cI:=by walk_at"b"
noncomputable abbrev cX:Stmt:=top 95
theorem bI:ak ["instruction","b","n"] cI (af cX):=aE
theorem xW:Bd "masked_group" cX cI:=by walk_at"b"
noncomputable abbrev jZ:Stmt:=top 96
theorem gz:ak ["block","laid","instruction","group"] sU (af jZ):=aE
theorem xM:Bd "masked_block" jZ sU:=by walk_at"b"
noncomputable abbrev Cd:Stmt:=top 97
theorem MU:ak ["guest","room","gates"] tH (af Cd):=aE
theorem M4:Bd "make" Cd tH:=by walk_at"b"
noncomputable abbrev iH:Stmt:=top 99
theorem vg:ak ["sort"] m9 (af iH):=aE
theorem vF:Bd "written_fields" iH m9:=by walk_at"b"
noncomputable abbrev gP:Stmt:=top 100
theorem sj:ak ["field","number"] Ar (af gP):=aE
theorem sw:Bd "is_within_bounds" gP Ar:=by walk_at"b"
noncomputable abbrev gR:Stmt:=top 101
theorem bp:ak ["row","pieces","sort","fields","numbers","field","piece","number"] kF (af gR):=aE
theorem sr:Bd "read_instruction" gR kF:=by walk_at"b"
noncomputable abbrev tT:Stmt:=top 102
theorem DN:ak ["row"] kF (af tT):=aE
theorem FD:Bd "bare_row" tT kF:=by walk_at"b"
noncomputable abbrev ua:Stmt:=top 103
theorem rd:ak ["blocks","row","line","due","instruction"] Ey (af ua):=aE
theorem Ft:Bd "take_row" ua Ey:=by walk_at"b"
noncomputable abbrev je:Stmt:=top 104
theorem dR:ak ["text","blocks","rows","line","row","bare"] gr (af je):=aE
theorem yS:Bd "read_blocks" je gr:=by walk_at"b"
noncomputable abbrev iY:Stmt:=cr (top 106) 0
theorem wk:ak ["self","room"] E_ (af iY):=aE
theorem wc:BdM "__init__" "Known.__init__" iY E_:=by walk_at"b"
abbrev iJ(K:Frag)(C:Addr):Prop:=kQ K C "__init__" "Known.__init__" iY E_
noncomputable abbrev kC:Stmt:=cr (top 106) 1
theorem xQ:ak ["self"] fw (af kC):=aE
theorem yr:BdM "forget" "Known.forget" kC fw:=by walk_at"b"
abbrev jX(K:Frag)(C:Addr):Prop:=kQ K C "forget" "Known.forget" kC fw
noncomputable abbrev gF:Stmt:=cr (top 106) 2
theorem sM:ak ["self","instruction"] dC (af gF):=aE
theorem sL:BdM "thin_group" "Known.thin_group" gF dC:=by walk_at"b"
abbrev gJ(K:Frag)(C:Addr):Prop:=kQ K C "thin_group" "Known.thin_group" gF dC
noncomputable abbrev gc:Stmt:=cr (top 106) 3
theorem jj:ak ["self","instruction","group","member"] D6 (af gc):=aE
theorem pL:BdM "learn_group" "Known.learn_group" gc D6:=by walk_at"b"
abbrev gm(K:Frag)(C:Addr):Prop:=kQ K C "learn_group" "Known.learn_group" gc D6
noncomputable abbrev gT:Stmt:=cr (top 106) 4
theorem jA:ak ["self","member","box"] DI (af gT):=aE
theorem su:BdM "is_lost_by" "Known.is_lost_by" gT DI:=by walk_at"b"
abbrev gN(K:Frag)(C:Addr):Prop:=kQ K C "is_lost_by" "Known.is_lost_by" gT DI
noncomputable abbrev jy:Stmt:=top 107
theorem dM:ak ["block","room","laid","known","instruction","group"] EC (af jy):=aE
theorem wK:Bd "thinned_block" jy EC:=by walk_at"b"
noncomputable abbrev CS:Stmt:=top 108
theorem Md:ak ["guest","room","gates"] tH (af CS):=aE
theorem L5:Bd "thin" CS tH:=by walk_at"b"
noncomputable abbrev vb:Stmt:=top 110
theorem Jl:ak ["pieces"] BA (af vb):=aE
theorem Jz:Bd "row_of" vb BA:=by walk_at"b"
noncomputable abbrev lP:Stmt:=top 111
theorem zN:ak ["plan","code"] jE (af lP):=aE
theorem zA:Bd "fenced_text" lP jE:=by walk_at"b"
noncomputable abbrev rQ:Stmt:=top 112
theorem vt:ak ["text","gates","guest"] BN (af rQ):=aE
theorem BY:Bd "guest_for" rQ BN:=by walk_at"b"
noncomputable abbrev qj:Stmt:=top 113
theorem vY:ak ["text","k","base","gates","made"] sT (af qj):=aE
theorem Dm:Bd "made_text" qj sT:=by walk_at"b"
noncomputable abbrev kK:Stmt:=top 114
theorem oU:ak ["text","k","base","gates","thinned"] sT (af kK):=aE
theorem yh:Bd "thinned_text" kK sT:=by walk_at"b"
noncomputable abbrev wO:Stmt:=top 115
theorem GO:ak ["k","base"] D0 (af wO):=aE
theorem G1:Bd "is_room" wO D0:=by walk_at"b"
noncomputable abbrev wt:Stmt:=top 116
theorem Gu:ak ["plan"] Fd (af wt):=aE
theorem Ge:Bd "is_plan" wt Fd:=by walk_at"b"
noncomputable abbrev kZ:Stmt:=top 117
theorem oz:ak ["row","pieces","numbers"] kF (af kZ):=aE
theorem Cl:Bd "read_plan" kZ kF:=by walk_at"b"
noncomputable abbrev lW:Stmt:=top 118
theorem kq:ak ["text","parts","plan"] gr (af lW):=aE
theorem Ad:Bd "read_fenced" lW gr:=by walk_at"b"
noncomputable abbrev jO:Stmt:=top 119
theorem jr:ak ["text","fenced","error"] gr (af jO):=aE
theorem xO:Bd "checked_text" jO gr:=by walk_at"b"
noncomputable abbrev tZ:Stmt:=top 120
theorem lx:ak ["text","block","turns","fenced","begin","told"] FW (af tZ):=aE
theorem FI:Bd "run_text" tZ FW:=by walk_at"b"
noncomputable abbrev lB:Stmt:=top 122
theorem iy:ak ["_law_script","_law_k","_law_seed","_law_number"] Ed (af lB):=aE
theorem CC:Bd "_law_deal" lB Ed:=by walk_at"b"
noncomputable abbrev lu:Stmt:=top 123
theorem iA:ak ["_law_deal_here","_law_many","_law_number","_law_high","_law_low"] Ai (af lu):=aE
theorem Dz:Bd "_law_draw" lu Ai:=by walk_at"b"
noncomputable abbrev rh:Stmt:=top 124
theorem ck:ak ["_law_which","_law_text","_law_k","_law_base","_law_gates","_law_told","_law_caught","e","_law_kinds"] Eu (af rh):=aE
theorem CQ:Bd "_law_said" rh Eu:=by walk_at"b"
noncomputable abbrev lA:Stmt:=top 125
theorem nY:ak ["_law_deal_here","_law_rows_here","_law_k"] km (af lA):=aE
theorem CY:Bd "_law_rows" lA km:=by walk_at"b"
noncomputable abbrev fj:Stmt:=top 126
theorem bh:ak ["_law_deal_here","_law_rows_here","_law_form","_law_at","_law_wild","_law_more","_law_k"] km (af fj):=aE
theorem uJ:Bd "_law_guest_text" fj km:=by walk_at"b"
noncomputable abbrev fU:Stmt:=top 127
theorem br:ak ["_law_deal_here","_law_rows_here","_law_form","_law_wild","_law_at","_law_piece","_law_k"] km (af fU):=aE
theorem vc:Bd "_law_code_text" fU km:=by walk_at"b"
noncomputable abbrev Ee:Stmt:=top 128
theorem mz:ak ["_law_script","_law_rows_here","_law_gates","_law_due","_law_which","_law_word","_law_text"] NX (af Ee):=aE
theorem Pb:Bd "law" Ee NX:=by walk_at"b"
noncomputable abbrev cD:Stmt:=cr (top 7) 0
theorem uB:ak ["self","line"] KL (af cD):=aE
theorem uA:BdM "__init__" "NoText.__init__" cD KL:=by walk_at"b"
abbrev fu(K:Frag)(C F:Addr):Prop:=Kz K C F "NoText.__init__" cD KL
noncomputable abbrev cf:Stmt:=cr (top 9) 0
theorem sF:ak ["self","block","at"] Ls (af cf):=aE
theorem sy:BdM "__init__" "NoGuest.__init__" cf Ls:=by walk_at"b"
abbrev dU(K:Frag)(C F:Addr):Prop:=Kz K C F "NoGuest.__init__" cf Ls
structure m_ (K:Frag) (C:Addr):Prop where
 plan:W.findIn K (.ref C) "plan"=some none
 gates:W.findIn K (.ref C) "gates"=some none
 boxes:W.findIn K (.ref C) "boxes"=some none
 memory:W.findIn K (.ref C) "memory"=some none
 replies:W.findIn K (.ref C) "replies"=some none
 rows:W.findIn K (.ref C) "rows"=some none
structure jL (K:Frag) (C:Addr):Prop where
 code:W.findIn K (.ref C) "code"=some none
 place:W.findIn K (.ref C) "place"=some none
 holding:W.findIn K (.ref C) "holding"=some none
 turns:W.findIn K (.ref C) "turns"=some none
structure cz (K:Frag) (C:Addr):Prop where
 instructions:W.findIn K (.ref C) "instructions"=some none
 begins:W.findIn K (.ref C) "begins"=some none
 length:W.findIn K (.ref C) "length"=some none
structure oE (K:Frag) (C:Addr):Prop where
 plan:W.findIn K (.ref C) "plan"=some none
 spans:W.findIn K (.ref C) "spans"=some none
 fitted:W.findIn K (.ref C) "fitted"=some none
section
variable (K) (mg)
abbrev rO:=Def K mg "power_of_two" jU sJ
abbrev Lb:=Def K mg "rest" GS w_
abbrev HY:=Def K mg "zeros" C9 vi
abbrev E7:=Def K mg "signed" zn w_
abbrev vq:=Def K mg "field_bits" nZ Ar
abbrev p9:=Def K mg "field_number" kx Lw
abbrev vZ:=Def K mg "first_word" oF cI
abbrev zk:=Def K mg "words_of" ue cI
abbrev xH:=Def K mg "length_of" rL cI
abbrev iB:=Def K mg "one_word_instruction" cM AM
abbrev mS:=Def K mg "instruction_at" iM IQ
abbrev xg:=Def K mg "read_word" qC si
abbrev zV:=Def K mg "read_row" tU Lo
abbrev xj:=Def K mg "read_code" pM gr
abbrev xk:=Def K mg "word_text" qy AM
abbrev zl:=Def K mg "row_text" nK DE
abbrev xy:=Def K mg "code_text" lD D9
abbrev zi:=Def K mg "made_box" uk cI
abbrev xJ:=Def K mg "aim_value" rE E8
abbrev uY:=Def K mg "whole_span" oB []
abbrev mY:=Def K mg "multiples_span" iQ DM
abbrev EG:=Def K mg "single" y9 vi
abbrev xf:=Def K mg "is_single" pU FA
abbrev qK:=Def K mg "settled_span" kj o_
abbrev xo:=Def K mg "kept_span" pV o_
abbrev tw:=Def K mg "joined_span" mf Fi
abbrev xE:=Def K mg "more_span" qU Fh
abbrev zJ:=Def K mg "fit_span" uz sV
abbrev yU:=Def K mg "aim_span" uD sV
abbrev tJ:=Def K mg "first_spans" lJ []
abbrev xB:=Def K mg "made_span" rB jm
abbrev rH:=Def K mg "spans_behind" j_ jm
abbrev oY:=Def K mg "may_reach_out" jp jm
abbrev qM:=Def K mg "is_no_target" kg Fm
abbrev xG:=Def K mg "is_no_way" qD EN
abbrev vm:=Def K mg "is_no_word" nG DY
abbrev zM:=Def K mg "fault_of" tS E5
abbrev jk:=Def K mg "instruction_let_by" fE Fk
abbrev tE:=Def K mg "spans_ahead" my jE
abbrev Hv:=Def K mg "check" DA jE
abbrev sW:=Def K mg "are_figures" lS si
abbrev sZ:=Def K mg "read_number" lR si
abbrev o7:=Def K mg "is_guest_sort" ju m9
abbrev rg:=Def K mg "is_guest_box" kh A4
abbrev kX:=Def K mg "has_guest_boxes" ic cI
abbrev j4:=Def K mg "has_known_number" gC tj
abbrev xK:=Def K mg "may_stand" rj tj
abbrev tN:=Def K mg "check_block" mr Fg
abbrev lH:=K_ K mg "check_guest" mq EA [.int 16]
abbrev Np:=Def K mg "run" JQ Fw
abbrev u_:=Def K mg "least_bits" oC rF
abbrev vG:=Def K mg "bundles_of" ou sU
abbrev Ea:=Def K mg "placed" zF FL
abbrev HM:=Def K mg "stops" CU rF
abbrev sY:=Def K mg "block_words" lY DT
abbrev xt:=Def K mg "places_of" qX EZ
abbrev nE:=Def K mg "code_of_blocks" fS Bp
abbrev xx:=Def K mg "is_access" lC cI
abbrev mV:=Def K mg "access_by_mask" fP cI
abbrev qr:=Def K mg "masked_group" cX cI
abbrev rR:=Def K mg "masked_block" jZ sU
abbrev Km:=Def K mg "make" Cd tH
abbrev m8:=Def K mg "written_fields" iH m9
abbrev kM:=Def K mg "is_within_bounds" gP Ar
abbrev jR:=Def K mg "read_instruction" gR kF
abbrev yY:=Def K mg "bare_row" tT kF
abbrev zb:=Def K mg "take_row" ua Ey
abbrev tM:=Def K mg "read_blocks" je gr
abbrev oX:=Def K mg "thinned_block" jy EC
abbrev Lx:=Def K mg "thin" CS tH
abbrev EE:=Def K mg "row_of" vb BA
abbrev tK:=Def K mg "fenced_text" lP jE
abbrev xq:=Def K mg "guest_for" rQ BN
abbrev xD:=Def K mg "made_text" qj sT
abbrev qw:=Def K mg "thinned_text" kK sT
abbrev BH:=Def K mg "is_room" wO D0
abbrev A3:=Def K mg "is_plan" wt Fd
abbrev xl:=Def K mg "read_plan" kZ kF
abbrev tF:=Def K mg "read_fenced" lW gr
abbrev qe:=Def K mg "checked_text" jO gr
abbrev Ag:=Def K mg "run_text" tZ FW
abbrev xA:=Def K mg "_law_deal" lB Ed
abbrev xw:=Def K mg "_law_draw" lu Ai
abbrev xr:=Def K mg "_law_said" rh Eu
abbrev xh:=Def K mg "_law_rows" lA km
abbrev kW:=Def K mg "_law_guest_text" fj km
abbrev nu:=Def K mg "_law_code_text" fU km
end
def nD:Sp:=fun vs H Q _=>∃n:Nat,vs=[.int n]/\n<=64/\Q (.int (2^n)) H
def zT:Sp:=fun vs H Q _=>∃(v:Int) (n:Nat),vs=[.int v,.int n]/\n<=64/\Q (.int (v %2^n)) H
def DU:Sp:=fun vs H Q _=>∃(v:Int) (n:Nat),vs=[.int v,.int ((n:Int)+1)]/\n<=63/\Q (.int (if v<2^n then v else v - 2^(n+1))) H
theorem xR(B:Bi mg)(D:rO K mg):Has P w K mg base 1 "power_of_two" sJ nD:=by
 refine D.has gy (by intro _ _ _ _;walk_at"ln") (fun f I A o s H vs Q E U h=> ?_)
 obtain⟨n,rfl,J,q⟩:=h
 refine⟨_,(aa (psS 1 gy.nd ac)
   (aa (aP (cv Sw (by rfl) (iL (by rfl) B.range (pa1 (pv 0))) (aJ (i:=2) gy.nd (by rfl) (by left;rfl)) (ad (psS 1 gy.nd (ax cK (pv 1) ac)))))
   (ad (ah (pv 1))))),?_⟩
 try dsimp only[oJ]
 refine⟨_,rfl,n,rfl,by lia,by lia,g_ (fun i Z C=>C=H/\∃st,Z=[some (.int n),some (.int (2^i)),st]) ⟨rfl,none,rfl⟩ ?_ ?_⟩
 .rintro i Z C hi ⟨rfl,st,rfl⟩
  exact⟨_,rfl,_,_,rfl,rfl,.inr ⟨by decide,by decide⟩,rfl,_,rfl⟩
 .rintro Z C ⟨rfl,st,rfl⟩
  exact⟨_,rfl,q⟩
theorem M8(B:Bi mg)(D:Lb K mg)(U:Has P w K mg base 1 "power_of_two" sJ nD):Has P w K mg base 2 "rest" w_ zT:=by
 refine D.has ML (by intro _ _ _ _;walk_at"ln") (fun f I A o s H vs Q E J h=> ?_)
 obtain⟨v,n,rfl,C,q⟩:=h;refine⟨_,(ad (ah (ax eU (pv 0) (pcH U J (pa1 (pv 1)))))),?_⟩
 try dsimp only[oJ]
 exact⟨_,rfl,_,rfl,n,rfl,C,_,_,rfl,rfl,Int.pow_pos (by decide),q⟩
theorem IJ(B:Bi mg)(D:E7 K mg)(I:Has P w K mg base 1 "power_of_two" sJ nD):Has P w K mg base 2 "signed" w_ DU:=by
 refine D.has Jo (by intro _ _ _ _;walk_at"ln") (fun f J A o s H vs Q E C h=> ?_)
 obtain⟨v,n,rfl,U,q⟩:=h
 refine⟨_,(aa (aC (pcT jC (pv 0) (pcH I C (pa1 (ax iX (pv 1) ac)))) (ad (ah (pv 0))) ao)
   (ad (ah (ax iX (pv 0) (pcH I C (pa1 (pv 1))))))),?_⟩
 try dsimp only[oJ]
 refine⟨_,rfl,_,rfl,_,_,rfl,rfl,n,(by show[V.int ((n:Int)+1 - 1)]=[V.int n];rw[Int.add_sub_cancel]),by lia,_,_,rfl,rfl,_,rfl,?_⟩
 refine bO (fun c=> ?_) (fun c=> ?_)
 .rw[R9 c] at q;exact⟨_,rfl,q⟩
 .rw[R6 c] at q;exact⟨_,rfl,_,rfl,n+1,rfl,by lia,_,_,rfl,rfl,q⟩
def yF:Sp:=fun vs H Q _=>∃v:Int,vs=[.int v]/\Q (.int (SpM.Zn v:Nat)) H
theorem LT(B:Bi mg)(D:HY K mg):Has P w K mg base 1 "zeros" vi yF:=by
 refine D.has rp (by intro _ _ _ _;walk_at"ln") (fun f a A o s H vs Q E j h=> ?_)
 obtain⟨v,rfl,q⟩:=h;have I:=SpM.Zn_case v;generalize SpM.Zn v=t at q I
 refine⟨_,(aa (aC (pcT aK (pv 0) ac) (ad (ah ac)) ao)
   (aa (psS 1 rp.nd ac)
   (aa (psS 2 rp.nd (aI JH (by rfl) B.abs Ph (pa1 (pv 0))))
   (aa (aP (qG Sw (pcT aK (ax eU (pv 2) ac) ac) (aa (psS 2 rp.nd (ax jn (pv 2) ac))
   (ad (psS 1 rp.nd (ax aZ (pv 1) ac))))))
   (ad (ah (pv 1))))))),?_⟩
 try dsimp only[oJ]
 refine⟨_,rfl,rfl,_,rfl,?_⟩
 refine bO (fun c=> ?_) (fun c=> ?_)
 .have c':v=0:=by injection c
  rcases I with⟨_,rfl⟩|⟨u,e⟩
  .exact q
  .rw[c'] at e;have:=Nat.mul_pos (show 0<2*u+1 by lia) (Nat.pow_pos (n:=t) (show 0<2 by decide))
   simp only[Int.natAbs_zero] at e
   lia
 .have c':v≠0:=fun z=>c (by rw[z])
  rcases I with⟨e,_⟩|⟨u,e⟩
  .exact absurd e c'
  refine⟨_,rfl,v,rfl,?_⟩
  refine⟨fun m Z C=>C=H/\m<=t/\Z=[some (.int v),some (.int ((t:Int) - m)),some (.int ((2*u+1)*2^m))],⟨t,rfl,R3 t,?_⟩,?_⟩
  .have e1:(if v<0 then -v else v)=(2*(u:Int)+1)*2^t:=by
    have:((v.natAbs:Nat):Int)=(2*(u:Int)+1)*2^t:=by rw[e];push_cast;rfl
    rw[<- this]
    split <;> lia
   show[some (V.int v),some (.int 0),some (.int (if v<0 then -v else v))]=_
   rw[e1,Int.sub_self]
  .rintro m Z C ⟨rfl,hm,rfl⟩
   refine⟨_,rfl,_,_,rfl,rfl,(by decide:(0:Int)<2),rfl,_,rfl,?_⟩
   refine bO (fun c=> ?_) (fun c=> ?_)
   .have c1:((2*(u:Int)+1)*2^m) %2=0:=by injection c
    cases m with
    | zero=>rw[Int.pow_zero,Int.mul_one] at c1;lia
    | succ m=>
     walk_at"n";refine⟨fun U J=>J=C/\U=[some (.int v),some (.int ((t:Int) - m)),some (.int ((2*u+1)*2^m))],fun U J h=>⟨m,Wf m,h.1,by lia,h.2⟩,?_⟩
     refine⟨_,rfl,_,_,rfl,rfl,⟨by decide,by decide⟩,_,rfl,_,_,rfl,rfl,rfl,?_⟩
     have b:(2*(u:Int)+1)*2^(m+1) / 2=(2*u+1)*2^m:=by
      rw[Xz, <-V9,Int.mul_ediv_cancel _ (by decide)]
     have i:(t:Int) - ((m+1:Nat):Int)+1=t - m:=by lia
     show[some (V.int v),some (.int ((t:Int) - ((m+1:Nat):Int)+1)),some (.int ((2*(u:Int)+1)*2^(m+1) / 2))]=_
     rw[b,i]
   .cases m with
    | zero=>
     refine⟨_,rfl,?_⟩
     have d:(t:Int) - ((0:Nat):Int)=t:=by lia
     rw[d];exact q
    | succ m=>
     exfalso
     apply c
     show V.int (((2*(u:Int)+1)*2^(m+1)) %2)=V.int 0
     rw[Xz, <-V9,Int.mul_emod_left]
noncomputable def uQ:List Str:=["stop","put","add","sub","and","or","xor","less","left","right","more","load","store","jump","jumpif","through","fit","aim","gate"]
noncomputable def MK:List (List Str):=[[],["a"],["a","b","c"],["a","b","c"],["a","b","c"],["a","b","c"],["a","b","c"],["a","b","c"],["a","b","c"],["a","b","c"],["a","b","move"],["a","b","move"],["a","b","move"],["n"],["a","n"],["b"],["a","b"],["a","b"],["n"]]
noncomputable def aV(k:Nat):Str:=uQ.getD k ""
noncomputable def aM(k:Nat):List Str:=MK.getD k []
noncomputable def Hx(f:Str)(n:Int):Int:=if f="a" then n*16777216 else if f="b" then n*2097152 else if f="c" then n*262144 else n %262144
noncomputable def wP(f:Str)(w:Int):Int:=if f="a" then w / 16777216 %8 else if f="b" then w / 2097152 %8 else if f="c" then w / 262144 %8 else if f="move" then(if w %262144<131072 then w %262144 else w %262144 - 262144) else w %262144
noncomputable def MP(acc:Int)(p:Str × Int):Int:=acc+Hx p.1 p.2
noncomputable def eG(k:Nat)(ns:List Int):Int:=((aM k).zip ns).foldl MP (k*134217728)
noncomputable def aO(k:Nat)(ns:List Int):List V:= .str (aV k)::ns.map V.int
structure Tb (K:Frag) (mg:Str->Option Value) (prm:Params):Prop where
 sorts:∃a,mg "SORTS"=some (.ref a)/\e9 K a (uQ.map V.str)
 fields:∃a kvs,mg "FIELDS"=some (.ref a)/\SqD prm K a kvs/\∀k,k<19->∃b,kvs.lookup (aV k)=some (.ref b)/\e9 K b ((aM k).map V.str)
def Pp:Sp:=fun vs H Q _=>∃(f:Str) (n:Int),vs=[.str f,.int n]/\Q (.int (Hx f n)) H
def PJ:Sp:=fun vs H Q _=>∃(f:Str) (n:Int),vs=[.str f,.int n]/\Q (.int (wP f n)) H
def OS(K:Frag):Sp:=fun vs H Q _=>∃(a:Addr) (k:Nat) (C:List Int),vs=[.ref a]/\k<19/\SqT K H a (aO k C)/\∀o,aA H o->Q (.int (eG k C)) o
theorem AW(B:Bi mg)(D:vq K mg)(I:Has P w K mg base 2 "rest" w_ zT):Has P w K mg base 3 "field_bits" Ar Pp:=by
 refine D.has AK (by intro _ _ _ _;walk_at"ln") (fun f J A C s H vs Q E U h=> ?_)
 obtain⟨fl,n,rfl,q⟩:=h;unfold Hx at q
 refine⟨_,(aa (aC (pcT aK (pv 0) av) (ad (ah (ax cK (pv 1) (dG (v:=16777216) (by rfl))))) ao)
   (aa (aC (pcT aK (pv 0) av) (ad (ah (ax cK (pv 1) (dG (v:=2097152) (by rfl))))) ao)
   (aa (aC (pcT aK (pv 0) av) (ad (ah (ax cK (pv 1) (dG (v:=262144) (by rfl))))) ao)
   (ad (ah (pcH I U (pa2 (pv 1) ac))))))),?_⟩
 walk_at"k";refine bO (fun c=> ?_) (fun c=> ?_)
 .have o:fl="a":=by injection c
  rw[R9 o] at q;walk_at"g";exact q
 have o:¬fl="a":=fun z=>c (by rw[z])
 rw[R6 o] at q;walk_at"g";refine bO (fun c=> ?_) (fun c=> ?_)
 .have o:fl="b":=by injection c
  rw[R9 o] at q;walk_at"g";exact q
 have o:¬fl="b":=fun z=>c (by rw[z])
 rw[R6 o] at q;walk_at"g";refine bO (fun c=> ?_) (fun c=> ?_)
 .have o:fl="c":=by injection c
  rw[R9 o] at q;walk_at"g";exact q
 have o:¬fl="c":=fun z=>c (by rw[z])
 rw[R6 o] at q;walk_at"g";exact q
theorem yf(B:Bi mg)(D:p9 K mg)(I:Has P w K mg base 2 "rest" w_ zT)(a:Has P w K mg base 2 "signed" w_ DU):Has P w K mg base 3 "field_number" Lw PJ:=by
 refine D.has xV (by intro _ _ _ _;walk_at"ln") (fun f U A J s H vs Q E C h=> ?_)
 obtain⟨fl,n,rfl,q⟩:=h;unfold wP at q
 refine⟨_,(aa (aC (pcT aK (pv 0) av) (ad (ah (pcH I C (pa2 (ax jn (pv 1) (dG (v:=16777216) (by rfl))) ac)))) ao)
   (aa (aC (pcT aK (pv 0) av) (ad (ah (pcH I C (pa2 (ax jn (pv 1) (dG (v:=2097152) (by rfl))) ac)))) ao)
   (aa (aC (pcT aK (pv 0) av) (ad (ah (pcH I C (pa2 (ax jn (pv 1) (dG (v:=262144) (by rfl))) ac)))) ao)
   (aa (aC (pcT aK (pv 0) av) (ad (ah (pcH a C (pa2 (pcH I C (pa2 (pv 1) ac)) ac)))) ao)
   (ad (ah (pcH I C (pa2 (pv 1) ac)))))))),?_⟩
 walk_at"k";refine bO (fun c=> ?_) (fun c=> ?_)
 .have o:fl="a":=by injection c
  rw[R9 o] at q;walk_at"g";exact q
 have o:¬fl="a":=fun z=>c (by rw[z])
 rw[R6 o] at q;walk_at"g";refine bO (fun c=> ?_) (fun c=> ?_)
 .have o:fl="b":=by injection c
  rw[R9 o] at q;walk_at"g";exact q
 have o:¬fl="b":=fun z=>c (by rw[z])
 rw[R6 o] at q;walk_at"g";refine bO (fun c=> ?_) (fun c=> ?_)
 .have o:fl="c":=by injection c
  rw[R9 o] at q;walk_at"g";exact q
 have o:¬fl="c":=fun z=>c (by rw[z])
 rw[R6 o] at q;walk_at"g";refine bO (fun c=> ?_) (fun c=> ?_)
 .have o:fl="move":=by injection c
  rw[R9 o] at q;walk_at"g";exact q
 have o:¬fl="move":=fun z=>c (by rw[z])
 rw[R6 o] at q;walk_at"g";exact q
theorem JF{fs:List Str}{ns:List Int}{i:Nat}{f:Str}{n a:Int}(C:fs[i]? =some f)(o:ns[i]? =some n):((fs.zip ns).take (i+1)).foldl MP a=((fs.zip ns).take i).foldl MP a+Hx f n:=by
 have e:(fs.zip ns)[i]? =some (f,n):=by rw[VZ];exact⟨C,o⟩
 rw[Us,e,UI]
 rfl
theorem dX{o C:Type}{g:o->C}{l:List o}{i:Nat}{y:C}(h:(l.map g)[i]? =some y):∃x,l[i]? =some x/\g x=y:=by
 rw[Sx] at h
 cases e:l[i]? with
 | none=>rw[e] at h;cases h
 | some x=>rw[e] at h;exact⟨x,rfl,by cases h;rfl⟩
theorem Gw:∀k,k<19->E9 (.str (aV k)) (uQ.map V.str) 0=some k:=by decide +kernel
theorem Qu(x:V)(xs:List V):fC (x::xs) (some 1) none=xs:=by
 unfold fC
 simp [HT.sIx]
theorem OZ{x:V}{xs:List V}{B:Prop}:¬(HT.sIx (x::xs).length 0 (some 1)=0/\B):=by
 rintro⟨h,_⟩
 simp [HT.sIx] at h
theorem Av(B:Bi mg)(T:Tb K mg w.params)(D:vZ K mg)(X:Has P w K mg base 3 "field_bits" Ar Pp):Has P w K mg base 4 "first_word" cI (OS K):=by
 obtain⟨j,G,M_⟩:=T.sorts;obtain⟨O,m,L,Y,U⟩:=T.fields;refine D.has eK (by intro _ _ _ _;walk_at"ln") (fun f z A J s H vs Q E M h=> ?_)
 obtain⟨a,k,o,rfl,c,ha,q⟩:=h;obtain⟨b,N,C⟩:=U k c
 refine⟨_,(aa (psS 1 eK.nd (pX ay (pv 0) ac))
   (aa (psS 2 eK.nd (ax cK (bU PySem.F.plainAttrs_tuple PySem.F.slot_tuple_index PySem.F.type_tuple_index Ju (cZ (v:= .ref j) (by rfl) G (by rfl)) (pa1 (pv 1))) (dG (v:=134217728) (by rfl))))
   (aa (aP (cv Sw (by rfl) (Hf (by rfl) B.zip (pa2 (D_ Ib (cZ (v:= .ref O) (by rfl) L (by rfl)) (pv 1) (by intro _ _;rfl)) (bK uK (pv 0) (cq ac) cQ))) (mB (n:=2) (by rfl) (bH (aJ (i:=3) eK.nd (by rfl) (by left;rfl)) (bH (aJ (i:=4) eK.nd (by rfl) (by left;rfl)) jg))) (ad (psS 2 eK.nd (ax aZ (pv 2) (pcH X M (pa2 (pv 3) (pv 4))))))))
   (ad (ah (pv 2)))))),?_⟩
 walk_at"k";refine⟨JS (Gw k c),?_⟩
 walk_at"g";refine⟨?_⟩
 walk_at"g";refine⟨OZ,fun p e=> ?_⟩
 have W:fC (aO k o) (some 1) none=o.map V.int:=Qu _ _;refine⟨false,false,b,p,rfl,⟨_,C.sq⟩,⟨_,SqT.of ae⟩,?_⟩
 rw[W];refine BR (xs:=(aM k).map V.str) (ys:=o.map V.int) (fun i Z I=>aD (aA (upd H p (.tup (o.map V.int))) I/\∃x y,Z=[some (.ref a),some (.str (aV k)),some (.int ((((aM k).zip o).take i).foldl MP (k*134217728))),x,y])) ⟨aA.refl _,_,_,rfl⟩ ?_ ?_ ?_
 .rintro i Z I ⟨hs,x,y,rfl⟩
  exact⟨C.sq,hs.tup (SqT.of ae)⟩
 .rintro i x y r Z I hx hy ⟨hs,u,v,rfl⟩ hr'
  obtain⟨fx,R,rfl⟩:=dX hx;obtain⟨ny,l,rfl⟩:=dX hy;walk_at"g";rw[JF R l];exact⟨dE hr' hs,_,_,rfl⟩
 .rintro Z I ⟨hs,x,y,rfl⟩
  walk_at"g";have d:((aM k).zip o).take (min ((aM k).map V.str).length (o.map V.int).length)=(aM k).zip o:=by
   rw[be,be, <-List.length_zip,Sl]
  rw[d];exact q _ ((ag e _).trans hs)
noncomputable def i9(k:Nat)(ns:List Int):List Int:=if k=1 then[eG k ns,ns.getD 1 0] else[eG k ns]
theorem nh:∀k,k<19->(V.str (aV k)=V.str "put"↔k=1):=by decide +kernel
theorem Qv{k:Nat}{ns:List Int}(h:2<=ns.length):atI (aO k ns) 2=some (.int (ns.getD 1 0)):=by
 match ns,h with
 | x::y::r,_=>exact Ga
 | [_],h=>exact absurd h (by simp)
 | [],h=>exact absurd h (by simp)
def Oj(K:Frag):Sp:=fun vs H Q _=>∃(a:Addr) (k:Nat) (C:List Int),vs=[.ref a]/\k<19/\(k=1->2<=C.length)/\SqT K H a (aO k C)/\∀p o,H p=none->o p=some (.lst ((i9 k C).map V.int))->aA H o->Q (.ref p) o
def II(K:Frag):Sp:=fun vs H Q _=>∃(a:Addr) (k:Nat) (o:List Int),vs=[.ref a]/\k<19/\SqT K H a (aO k o)/\Q (.int (if k=1 then 2 else 1)) H
theorem Eh(B:Bi mg)(D:zk K mg)(J:Has P w K mg base 4 "first_word" cI (OS K)):Has P w K mg base 5 "words_of" cI (Oj K):=by
 refine D.has Ev (by intro _ _ _ _;walk_at"ln") (fun f e A I s H vs Q E b h=> ?_)
 obtain⟨a,k,j,rfl,U,d,l,q⟩:=h;unfold i9 at q
 refine⟨_,(aa (aC (pcT aK (pX ay (pv 0) ac) av) (ad (ah (a8 (pa2 (pcH J b (pa1 (pv 0))) (pX ay (pv 0) ac))))) ao)
   (ad (ah (a8 (pa1 (pcH J b (pa1 (pv 0)))))))),?_⟩
 walk_at"k";refine bO (fun c=> ?_) (fun c=> ?_)
 .have c':=(nh k U).mp c;rw[R9 c'] at q;walk_at"g";intro i C;walk_at"g";refine⟨Qv (d c'),?_⟩
  walk_at"g";intro p o;exact q p _ (C.free o) ae (dE o C)
 .have c':¬k=1:=fun z=>c ((nh k U).mpr z)
  rw[R6 c'] at q;walk_at"g";intro i C;walk_at"g";intro p o;exact q p _ (C.free o) ae (dE o C)
theorem CG(B:Bi mg)(D:xH K mg):Has P w K mg base 1 "length_of" cI (II K):=by
 refine D.has CJ (by intro _ _ _ _;walk_at"ln") (fun f I A o s H vs Q E U h=> ?_)
 obtain⟨a,k,J,rfl,C,b,q⟩:=h;refine⟨_,(ad (ah (Fq (pcT aK (pX ay (pv 0) ac) av) ac ac))),?_⟩
 walk_at"k";refine bO (fun c=> ?_) (fun c=> ?_)
 .rw[R9 ((nh k C).mp c)] at q;exact q
 .rw[R6 fun z=>c ((nh k C).mpr z)] at q
  exact q
noncomputable def owi(o:Int):Option (Nat × List Int):=
 if 19<=o / 134217728 then none else if eG (o / 134217728).toNat ((aM (o / 134217728).toNat).map fun f=>wP f o)=o then some ((o / 134217728).toNat,(aM (o / 134217728).toNat).map fun f=>wP f o) else none
def NN(K:Frag)(H:Hp):Option (Nat × List Int)->V->Prop
 | none,v=>v= .non
 | some (k,ns),v=>∃a,v= .ref a/\SqT K H a (aO k ns)
def NO(K:Frag):Sp:=fun vs H Q _=>∃C:Int,vs=[.int C]/\0<=C/\∀v o,aA H o->NN K o (owi C) v->Q v o
theorem Ni{k:Nat}(o:k<19):atI (uQ.map V.str) (k:Int)=some (.str (aV k)):=by
 refine bq ?_
 have:∀k,k<19->(uQ.map V.str)[k]? =some (.str (aV k)):=by decide +kernel
 exact this k o
theorem Ay{o C:Type}{g:o->C}{l:List o}{i:Nat}{x:o}(h:l[i]? =some x):(l.take (i+1)).map g=(l.take i).map g++[g x]:=by
 rw[Us,h,R5]
 rfl
theorem Al(k:Nat):(aM k).length<=3:=by
 by_cases o:k<19
 .have:∀k,k<19->(aM k).length<=3:=by decide +kernel
  exact this k o
 .unfold aM;rw[Sz,UD (by show 19<=k;lia)]
  exact SK _
theorem mX(B:Bi mg)(T:Tb K mg w.params)(D:iB K mg)(eA:Has P w K mg base 4 "first_word" cI (OS K))(kr:Has P w K mg base 3 "field_number" Lw PJ):
  Has P w K mg base 5 "one_word_instruction" AM (NO K):=by
 obtain⟨M,W,M_⟩:=T.sorts;obtain⟨hV,ar,hZ,vR,n⟩:=T.fields;refine D.has bL (by intro _ _ _ _;walk_at"ln") (fun f au A j s H vs Q E X h=> ?_)
 obtain⟨o,rfl,h0,q⟩:=h
 refine⟨_,(aa (psS 1 bL.nd (ax jn (pv 0) (dG (v:=134217728) (by rfl))))
   (aa (aP (bz (aC (PW.pt (gX (pcT jC (pv 1) ac) (eY (pcT zZ (pv 1) (aI aH (by rfl) B.len bD (pa1 (cZ (v:= .ref M) (by rfl) W (by rfl)))))))) (ad (ah cO)) ao)))
   (aa (psS 2 bL.nd (pX ay (cZ (v:= .ref M) (by rfl) W (by rfl)) (pv 1)))
   (aa (Il (i:=3) (by rfl) (by rfl) (by rfl) (bk (sc0:=af cM) (N0:=["word","number","sort","numbers","instruction"]) ["field","word"] 1 [0]) bL.nd (by rfl) (by left;rfl) (oN (D_ Ib (cZ (v:= .ref hV) (by rfl) hZ (by rfl)) (pv 2) (by intro _ _;rfl))) (fun _ _ _ _=>(aJ (i:=0) (show List.Nodup (["field","word"]:List Str) by decide) (by rfl) (by left;rfl))) (fun _ _ _ _=>(pcH kr X (pa2 (pv 0) (pv 1)))))
   (aa (psS 4 bL.nd (cj gv (by rfl) B.tuple ji (pa1 (ax dL (a8 (pa1 (pv 2))) (pv 3)))))
   (aa (aC (pcT mQ (pcH eA X (pa1 (pv 4))) (pv 0)) (ad (ah cO)) ao)
   (ad (ah (pv 4))))))))),?_⟩
 try dsimp only[oJ]
 unfold owi at q;walk_at"g";refine⟨fun Z' d=>aD (d=H/\o / 134217728<19/\Z'=[some (.int o),some (.int (o / 134217728)),none,none,none]),?_,?_⟩
 .walk_at"g";refine vK (by lia) ?_
  walk_at"g";refine bO (fun c=> ?_) (fun c=> ?_)
  .have C:19<=o / 134217728:=c;rw[R9 C] at q;exact q _ _ (aA.refl H) rfl
  .exact⟨rfl,by have C:¬19<=o / 134217728:=c;lia,rfl⟩
 rintro Z1 O ⟨rfl,aG,rfl⟩
 rw[R6 (by lia)] at q
 obtain⟨k,Y⟩:∃k:Nat,o / 134217728=k:=⟨(o / 134217728).toNat,by lia⟩
 rw[Y,Tg] at q;rw[Y];have N:k<19:=by lia
 obtain⟨b,aF,J⟩:=n k N;walk_at"g";refine⟨Ni N,?_⟩
 walk_at"g"
 first | refine⟨⟨_,J.sq⟩,?_⟩ | skip
 intro p L;refine qV (xs:=(aM k).map V.str) (fun i a d=>aD (i<=3/\a=((aM k).take i).map (fun f=>V.int (wP f o))/\d p=some (.lst a)/\aA O d)) ⟨by lia,rfl,ae,ag L _⟩ (fun _ _ _ _=>J.sq) ?_ ?_
 .rintro i x a y F hF hx ⟨hi,rfl,I,u⟩
  obtain⟨fx,Z,rfl⟩:=dX hx;have aw:i<(aM k).length:=(RX.mp Z).1;have ab:=Al k;walk_at"g";refine⟨?_,hF _ _ ⟨by lia,?_,ae,fO L u⟩⟩
  .rw[be,Sg];exact SB (Nat.min_le_left _ _) (SB hi (by decide))
  .rw[Ay Z]
 rintro a y ⟨_,rfl,I,u⟩
 rw[be,Sl] at I;walk_at"g";intro l hl;walk_at"g";have U:[V.str (aV k)].length+((aM k).map fun f=>V.int (wP f o)).length<=sizeLine:=by
  have:=Al k;rw[be];exact RY (show 1+(aM k).length<=4 by lia) (by decide)
 refine⟨U,fun r e=> ?_⟩
 refine⟨_,_,rfl,.inl ⟨SqL.of ae,fun t G=> ?_⟩⟩
 have hv:[V.str (aV k)]++(aM k).map (fun f=>V.int (wP f o))=aO k ((aM k).map fun f=>wP f o):=by
  unfold aO;rw[Vh]
  rfl
 rw[hv];rw[hv] at G;have R:aA O (upd (upd (upd y l (.lst [V.str (aV k)])) r (.lst (aO k ((aM k).map fun f=>wP f o)))) t (.tup (aO k ((aM k).map fun f=>wP f o)))):=dE G (dE e (dE hl u))
 walk_at"g";intro H3 m;walk_at"g";refine Po (fun c=> ?_) (fun c=> ?_)
 .have C:¬eG k ((aM k).map fun f=>wP f o)=o:=fun z=>by rw[z] at c;simp at c
  rw[R6 C] at q;exact q _ _ (R.trans m) rfl
 .have C:eG k ((aM k).map fun f=>wP f o)=o:=by simpa using c
  rw[R9 C] at q;walk_at"g";exact q _ _ (R.trans m) ⟨t,rfl,m.tup (SqT.of ae)⟩
noncomputable def o9(o:List Int)(i:Int):Option (Nat × List Int):=
 if i<0 then none else match o[i.toNat]? with
  | none=>none
  | some wd=>match owi wd with
   | none=>none
   | some (k,ns)=>if k=1 then(match o[i.toNat+1]? with | none=>none | some v=>some (1,[ns.getD 0 0,v])) else some (k,ns)
def Oo(K:Frag):Sp:=fun vs H Q _=>∃(a:Addr) (C:List Int) (i:Int),vs=[.ref a,.int i]/\SqL K H a (C.map V.int)/\(∀x∈C,0<=x)/\∀v o,aA H o->NN K o (o9 C i) v->Q v o
theorem M6{C:Int}{ns:List Int}(h:owi C=some (1,ns)):∃x,ns=[x]:=by
 unfold owi at h
 split at h
 .cases h
 .split at h
  .have h:=Sj h;have I:(C / 134217728).toNat=1:=congrArg Prod.fst h;have o:=congrArg Prod.snd h;dsimp only at o;rw[I] at o;exact⟨_,o.symm⟩
  .cases h
theorem OC{o:Int}{k:Nat}{ns:List Int}(C:0<=o)(h:owi o=some (k,ns)):k<19:=by
 unfold owi at h
 split at h
 .cases h
 .split at h
  .have h:=Sj h;have I:(o / 134217728).toNat=k:=congrArg Prod.fst h
   lia
  .cases h
theorem vB(B:Bi mg)(D:mS K mg)(N:Has P w K mg base 5 "one_word_instruction" AM (NO K)):Has P w K mg base 6 "instruction_at" IQ (Oo K):=by
 refine D.has lc (by intro _ _ _ _;walk_at"ln") (fun f L A e s H vs Q E M h=> ?_)
 obtain⟨a,o,i,rfl,ha,hw,q⟩:=h
 refine⟨_,(aa (aP (bz (aC (PW.pt (gX (pcT jC (pv 1) ac) (eY (pcT zZ (pv 1) (aI aH (by rfl) B.len bD (pa1 (pv 0))))))) (ad (ah cO)) ao)))
   (aa (psS 2 lc.nd (pcH N M (pa1 (pX bA (pv 0) (pv 1)))))
   (aa (aP (bz (aC (PW.pt (gX (jT (kf (pv 2))) (eY (pcT mQ (pX ay (pv 2) ac) av)))) (ad (ah (pv 2))) ao)))
   (aa (aC (pcT aK (ax aZ (pv 1) ac) (aI aH (by rfl) B.len bD (pa1 (pv 0)))) (ad (ah cO)) ao)
   (ad (ah (az (pa3 av (pX ay (pv 2) ac) (pX bA (pv 0) (ax aZ (pv 1) ac)))))))))),?_⟩
 try dsimp only[oJ]
 unfold o9 at q;walk_at"n";refine⟨fun n m=>aD (m=H/\0<=i/\i<o.length/\n=[some (.ref a),some (.int i),none]),?_,?_⟩
 .walk_at"g";refine bO (fun c=> ?_) (fun c=> ?_)
  .have C:i<0:=c;rw[R9 C] at q;exact D3 (q _ _ (aA.refl H) rfl)
  have C:¬i<0:=c;rw[R6 C] at q;walk_at"g";refine bO (fun c=> ?_) (fun c=> ?_)
  .have c2:(((o.map V.int).length:Nat):Int)<=i:=c;rw[be] at c2;rw[UD (by lia)] at q
   exact q _ _ (aA.refl H) rfl
  .have c2:¬(((o.map V.int).length:Nat):Int)<=i:=c;rw[be] at c2;exact⟨rfl,by lia,by lia,rfl⟩
 rintro T Z ⟨rfl,R,G,rfl⟩
 rw[R6 (by lia)] at q
 obtain⟨j,rfl⟩:∃j:Nat,i=j:=SI (by first | assumption | lia)
 rw[Tg] at q;have d:j<o.length:=by lia
 rw[R1 d] at q;dsimp only at q;have W:atI (o.map V.int) (j:Int)=some (.int o[j]):=bq (by rw[Sx,R1 d];rfl)
 have l:=hw _ (Vp d);walk_at"g";intro v y J U
 cases ho:owi o[j] with
 | none=>
  rw[ho] at q U
  cases U
  walk_at"g";refine⟨fun _ _=>aD False,?_,fun _ _ z=>z.out.elim⟩
  walk_at"g";exact q _ _ J rfl
 | some kn=>
  obtain⟨k,X⟩:=kn;rw[ho] at q U;have u:=OC l ho;obtain⟨p,rfl,F⟩:=U;dsimp only at q;walk_at"g";refine⟨fun n m=>aD (m=y/\k=1/\n=[some (.ref a),some (.int j),some (.ref p)]),?_,?_⟩
  .walk_at"g";refine Po (fun c=> ?_) (fun c=> ?_)
   .have C:¬k=1:=fun z=>by rw[R0 ((nh k u).mpr z)] at c;cases c
    rw[R6 C] at q;walk_at"g";exact q _ _ J ⟨p,rfl,F⟩
   .have C:k=1:=(nh k u).mp (by simpa using c)
    exact⟨rfl,C,rfl⟩
  rintro Z2 Y ⟨rfl,rfl,rfl⟩
  obtain⟨x,rfl⟩:=M6 ho;rw[R9 rfl] at q;walk_at"g";refine bO (fun c=> ?_) (fun c=> ?_)
  .have C:(j:Int)+1=(((o.map V.int).length:Nat):Int):=by injection c
   rw[be] at C;rw[UD (by lia)] at q
   exact q _ _ J rfl
  .have C:¬(j:Int)+1=(((o.map V.int).length:Nat):Int):=fun z=>c (congrArg V.int z)
   rw[be] at C;have I:j+1<o.length:=by lia
   rw[R1 I] at q;have O:atI (o.map V.int) ((j:Int)+1)=some (.int o[j+1]):=bq (j:=j+1) (by rw[Sx,R1 I];rfl)
   walk_at"g";intro r b;exact q _ _ (dE b J) ⟨r,rfl,SqT.of ae⟩
def aQ(bx o:Int)(k:Nat)(ns:List Int):Prop:=
 (k=0/\ns=[])\/(k=1/\∃a v,ns=[a,v]/\0<=a/\a<bx/\0<=v/\v<4294967296)\/(2<=k/\k<=9/\∃a b c,ns=[a,b,c]/\0<=a/\a<bx/\0<=b/\b<bx/\0<=c/\c<0)\/
 (10<=k/\k<=12/\∃a b n,ns=[a,b,n]/\0<=a/\a<bx/\0<=b/\b<bx/\ -131072<=n/\n<131072)\/((k=13\/k=18)/\∃n,ns=[n]/\0<=n/\n<o)\/(k=14/\∃a n,ns=[a,n]/\0<=a/\a<bx/\0<=n/\n<o)\/
 (k=15/\∃b,ns=[b]/\0<=b/\b<bx)\/((k=16\/k=17)/\∃a b,ns=[a,b]/\0<=a/\a<bx/\0<=b/\b<bx)
theorem L8:∀k,k<19->∀j,j<19->k≠j->¬V.str (aV k)=V.str (aV j):=by decide +kernel
theorem aQ.acc{bx I:Int}{k:Nat}{ns:List Int}(h:aQ bx I k ns)(o:k=11\/k=12):∃a b n,ns=[a,b,n]/\0<=a/\a<bx/\0<=b/\b<bx/\ -131072<=n/\n<131072:=by
 rcases h with⟨e,_⟩|⟨e,_⟩|⟨_,C,_⟩|⟨J,C,r⟩|⟨e,_⟩|⟨e,_⟩|⟨e,_⟩|⟨e,_⟩
 .subst e;exact absurd o (by decide)
 .subst e;exact absurd o (by decide)
 .rcases o with rfl | rfl <;> exact absurd C (by decide)
 .exact r
 .rcases e with rfl | rfl <;> exact absurd o (by decide)
 .subst e;exact absurd o (by decide)
 .subst e;exact absurd o (by decide)
 .rcases e with rfl | rfl <;> exact absurd o (by decide)
theorem aQ.thr{bx o:Int}{k:Nat}{ns:List Int}(h:aQ bx o k ns)(C:k=15):∃b,ns=[b]/\0<=b/\b<bx:=by
 subst C;rcases h with⟨e,_⟩|⟨e,_⟩|⟨_,e,_⟩|⟨_,e,_⟩|⟨e,_⟩|⟨e,_⟩|⟨_,r⟩|⟨e,_⟩
 all_goals first | exact r | exact absurd e (by decide)
theorem aQ.jmp{bx o:Int}{k:Nat}{ns:List Int}(h:aQ bx o k ns)(C:k=13):∃n,ns=[n]/\0<=n/\n<o:=by
 subst C;rcases h with⟨e,_⟩|⟨e,_⟩|⟨_,e,_⟩|⟨_,e,_⟩|⟨_,r⟩|⟨e,_⟩|⟨e,_⟩|⟨e,_⟩
 all_goals first | exact r | exact absurd e (by decide)
theorem aQ.jif{bx o:Int}{k:Nat}{ns:List Int}(h:aQ bx o k ns)(C:k=14):∃a n,ns=[a,n]/\0<=a/\a<bx/\0<=n/\n<o:=by
 subst C;rcases h with⟨e,_⟩|⟨e,_⟩|⟨_,e,_⟩|⟨_,e,_⟩|⟨e,_⟩|⟨_,r⟩|⟨e,_⟩|⟨e,_⟩
 all_goals first | exact r | exact absurd e (by decide)
theorem aQ.put{bx o:Int}{k:Nat}{ns:List Int}(h:aQ bx o k ns)(C:k=1):∃a v,ns=[a,v]/\0<=a/\a<bx/\0<=v/\v<4294967296:=by
 subst C;rcases h with⟨e,_⟩|⟨_,r⟩|⟨e,_⟩|⟨e,_⟩|⟨e,_⟩|⟨e,_⟩|⟨e,_⟩|⟨e,_⟩
 all_goals first | exact r | exact absurd e (by decide)
theorem aQ.lt{C o:Int}{k:Nat}{ns:List Int}(h:aQ C o k ns):k<19:=by
 rcases h with⟨e,_⟩|⟨e,_⟩|⟨_,e,_⟩|⟨_,e,_⟩|⟨e,_⟩|⟨e,_⟩|⟨e,_⟩|⟨e,_⟩
 .subst e;decide
 .subst e;decide
 .exact SB e (by decide)
 .exact SB e (by decide)
 .rcases e with rfl | rfl <;> decide
 .subst e;decide
 .subst e;decide
 .rcases e with rfl | rfl <;> decide
theorem aQ.hd{bx J:Int}{k:Nat}{ns:List Int}(h:aQ bx J k ns)(I:k≠0/\k≠13/\k≠18):∃x r,ns=x::r/\0<=x/\x<bx:=by
 rcases h with⟨e,_⟩|⟨_,x,v,rfl,o,C,_⟩|⟨_,_,x,y,z,rfl,o,C,_⟩|⟨_,_,x,y,z,rfl,o,C,_⟩|⟨e,_⟩|⟨_,x,z,rfl,o,C,_⟩|⟨_,x,rfl,o,C⟩|⟨_,x,y,rfl,o,C,_⟩
 .exact absurd e I.1
 .exact⟨_,_,rfl,o,C⟩
 .exact⟨_,_,rfl,o,C⟩
 .exact⟨_,_,rfl,o,C⟩
 .rcases e with e | e
  .exact absurd e I.2.1
  .exact absurd e I.2.2
 .exact⟨_,_,rfl,o,C⟩
 .exact⟨_,_,rfl,o,C⟩
 .exact⟨_,_,rfl,o,C⟩
abbrev Tr(H:Hp)(a:Addr)(s:SpM.Span):Prop:=H a=some (.tup [.int s.lo,.int s.hi,.int s.z])
def Ca:Sp:=fun vs H Q _=>∃(I C:Int) (z:Nat),vs=[.int I,.int C,.int z]/\∀p o,aA H o->Tr o p (SpM.settled I C z)->Q (.ref p) o
theorem GC{lo o:Int}{z:Nat}(h:lo=o):SpM.settled lo o z=SpM.single lo:=R9 h
theorem FX{lo o:Int}{z:Nat}(h:lo≠o):SpM.settled lo o z=⟨lo,o,z⟩:=R6 h
theorem HQ(a b:Nat):(if (b:Int)<(a:Int) then(b:Int) else(a:Int))=((min a b:Nat):Int):=by split <;> lia
theorem Ej{lo o:Int}{z:Nat}(h:lo<0\/4294967296<=o):SpM.kept lo o z=SpM.all z:=R9 h
theorem L7{lo o:Int}{z:Nat}(h:¬(lo<0\/4294967296<=o)):SpM.kept lo o z=SpM.settled lo o z:=R6 h
def yH:Sp:=fun vs H Q _=>vs=[]/\∀p o,aA H o->Tr o p SpM.whole->Q (.ref p) o
def JO:Sp:=fun vs H Q _=>∃z:Nat,vs=[.int z]/\z<=32/\∀p o,aA H o->Tr o p (SpM.all z)->Q (.ref p) o
def vV:Sp:=fun vs H Q _=>∃v:Int,vs=[.int v]/\∀p o,aA H o->Tr o p (SpM.single v)->Q (.ref p) o
def NH(K:Frag):Sp:=fun vs H Q _=>∃(a:Addr) (s:SpM.Span),vs=[.ref a]/\Tr H a s/\Q (.bl (decide (s.lo=s.hi))) H
def JK:Sp:=fun vs H Q _=>∃(I C:Int) (z:Nat),vs=[.int I,.int C,.int z]/\z<=32/\∀p o,aA H o->Tr o p (SpM.kept I C z)->Q (.ref p) o
theorem A0(B:Bi mg)(D:uY K mg):Has P w K mg base 1 "whole_span" [] yH:=by
 refine D.has AH (by intro _ _ _ _;walk_at"ln") (fun f C A o s H vs Q E J h=> ?_)
 obtain⟨rfl,q⟩:=h;refine⟨_,(ad (ah (az (pa3 ac (ax iX (dG (v:=4294967296) (by rfl)) ac) ac)))),?_⟩
 walk_at"k";intro p I;exact q p _ (ag I _) ae
theorem u3(B:Bi mg)(D:mY K mg)(U:Has P w K mg base 1 "power_of_two" sJ nD):Has P w K mg base 2 "multiples_span" DM JO:=by
 refine D.has u4 (by intro _ _ _ _;walk_at"ln") (fun f I A o s H vs Q E J h=> ?_)
 obtain⟨z,rfl,a,q⟩:=h;refine⟨_,(ad (ah (az (pa3 ac (ax iX (dG (v:=4294967296) (by rfl)) (pcH U J (pa1 (pv 0)))) (pv 0))))),?_⟩
 walk_at"k";intro p C;exact q p _ (ag C _) ae
theorem Jh(B:Bi mg)(D:EG K mg)(U:Has P w K mg base 1 "zeros" vi yF):Has P w K mg base 2 "single" vi vV:=by
 refine D.has IX (by intro _ _ _ _;walk_at"ln") (fun f I A o s H vs Q E J h=> ?_)
 obtain⟨v,rfl,q⟩:=h;refine⟨_,(ad (ah (az (pa3 (pv 0) (pv 0) (pcH U J (pa1 (pv 0))))))),?_⟩
 walk_at"k";intro p C;exact q p _ (ag C _) ae
theorem C6(B:Bi mg)(D:xf K mg):Has P w K mg base 1 "is_single" FA (NH K):=by
 refine D.has B9 (by intro _ _ _ _;walk_at"ln") (fun f I A C s H vs Q E U h=> ?_)
 obtain⟨a,o,rfl,J,q⟩:=h;refine⟨_,(ad (ah (pcE aK (pX ay (pv 0) ac) (pX ay (pv 0) ac)))),?_⟩
 walk_at"k";have e:decide (V.int o.lo=V.int o.hi)=decide (o.lo=o.hi):=by
  by_cases h:o.lo=o.hi
  .rw[R0 h,h,R0 rfl]
  .rw[RW h,RW (fun z=>h (by injection z))]
 rw[<- e] at q;exact q
theorem ym(B:Bi mg)(D:qK K mg)(J:Has P w K mg base 2 "single" vi vV):Has P w K mg base 3 "settled_span" o_ Ca:=by
 refine D.has yo (by intro _ _ _ _;walk_at"ln") (fun f d A o s H vs Q E e h=> ?_)
 obtain⟨I,C,z,rfl,q⟩:=h
 refine⟨_,(aa (aC (pcT aK (pv 0) (pv 1)) (ad (ah (pcH J e (pa1 (pv 0))))) ao)
   (ad (ah (az (pa3 (pv 0) (pv 1) (pv 2)))))),?_⟩
 walk_at"k";refine bO (fun c=> ?_) (fun c=> ?_)
 .have c':I=C:=by injection c
  walk_at"g";intro p i b a;exact q p _ b (by rw[GC c'];exact a)
 .have c':I≠C:=fun z=>c (by rw[z])
  walk_at"g";intro p U;exact q p _ (ag U _) (by rw[FX c'];exact ae)
theorem DD(B:Bi mg)(D:xo K mg)(c:Has P w K mg base 2 "multiples_span" DM JO)(i:Has P w K mg base 3 "settled_span" o_ Ca):Has P w K mg base 4 "kept_span" o_ JK:=by
 refine D.has BU (by intro _ _ _ _;walk_at"ln") (fun f d A I s H vs Q E b h=> ?_)
 obtain⟨a,J,z,rfl,l,q⟩:=h
 refine⟨_,(aa (aP (bz (aC (PW.pt (gX (pcT jC (pv 0) ac) (eY (pcT zZ (pv 1) (dG (v:=4294967296) (by rfl)))))) (ad (ah (pcH c b (pa1 (pv 2))))) ao)))
   (ad (ah (pcH i b (pa3 (pv 0) (pv 1) (pv 2)))))),?_⟩
 try dsimp only[oJ]
 walk_at"n";refine⟨fun j e=>aD (e=H/\j=[some (.int a),some (.int J),some (.int z)]/\¬(a<0\/4294967296<=J)),?_,?_⟩
 .walk_at"g";refine bO (fun c1=> ?_) (fun c1=> ?_)
  .apply D3
   walk_at"g";intro p U C o;exact q p _ C (by rw[Ej (Or.inl c1)];exact o)
  .walk_at"g";refine bO (fun c2=> ?_) (fun c2=> ?_)
   .walk_at"g";intro p U C o;exact q p _ C (by rw[Ej (Or.inr c2)];exact o)
   .exact⟨rfl,rfl,fun h=>h.elim c1 c2⟩
 .rintro Z1 U ⟨rfl,rfl,hc⟩
  walk_at"g";intro p k C o;exact q p _ C (by rw[L7 hc];exact o)
theorem JI{t:Nat}(h:t<=31): -(2^64)<(2:Int)^t/\(2:Int)^t<2^64:=by
 have C:=SpM.pp t;have o:=SpM.ple (show t<=32 by lia)
 rw[SpM.p32] at o
 lia
def J_:Sp:=fun vs H Q _=>∃(a:Addr) (n:Int) (l:SpM.Span),vs=[.ref a,.int n]/\Tr H a l/\SpM.Sv l/\∀p o,aA H o->Tr o p (SpM.moreS l n)->Q (.ref p) o
theorem Ch(B:Bi mg)(D:xE K mg)(b:Has P w K mg base 1 "zeros" vi yF)(J:Has P w K mg base 4 "kept_span" o_ JK):Has P w K mg base 5 "more_span" Fh J_:=by
 refine D.has CK (by intro _ _ _ _;walk_at"ln") (fun f I A o s H vs Q E C h=> ?_)
 obtain⟨a,n,l,rfl,d,U,q⟩:=h;refine⟨_,(ad (ah (pcH J C (pa3 (ax aZ (pX ay (pv 0) ac) (pv 1)) (ax aZ (pX ay (pv 0) ac) (pv 1)) (aI (BG (by rfl)) (by rfl) B.min Gz (pa2 (pX ay (pv 0) ac) (pcH b C (pa1 (pv 1))))))))),?_⟩
 try dsimp only[oJ]
 have c:min l.z (SpM.Zn n)<=32:=by have:=U.zz;lia
 walk_at"g";rw[HQ];walk_at"g";exact q
structure Pl (H:Hp) (a:Addr) (k:Nat) (b:Int) (m s:Nat) (g:Int):Prop where
 at_:H a=some (.tup [.int k,.int b,.int m,.int s,.int g])
 room:SpM.Room k b
 ms:m+s<=7
def Li:Sp:=fun vs H Q _=>∃(a:Addr) (k:Nat) (b:Int) (m s:Nat) (g v:Int),vs=[.ref a,.int v]/\Pl H a k b m s g/\Q (.int (SpM.aimV m s v)) H
def NQ:Sp:=fun vs H Q _=>∃(a:Addr) (k:Nat) (b:Int) (m s:Nat) (g:Int) (c:Addr) (l:SpM.Span),vs=[.ref a,.ref c]/\Pl H a k b m s g/\Tr H c l/\SpM.Sv l/\∀p o,aA H o->Tr o p (SpM.fitS k b l)->Q (.ref p) o
def NM:Sp:=fun vs H Q _=>∃(a:Addr) (k:Nat) (b:Int) (m s:Nat) (g:Int) (c:Addr) (l:SpM.Span),vs=[.ref a,.ref c]/\Pl H a k b m s g/\Tr H c l/\SpM.Sv l/\∀p o,aA H o->Tr o p (SpM.aimS m s l)->Q (.ref p) o
theorem Pl.mv{H o:Hp}{a:Addr}{k:Nat}{b:Int}{m s:Nat}{g:Int}(p:Pl H a k b m s g)(e:aA H o):Pl o a k b m s g:=⟨e _ _ p.at_,p.room,p.ms⟩
theorem BW(B:Bi mg)(D:xJ K mg)(e:Has P w K mg base 1 "power_of_two" sJ nD)(J:Has P w K mg base 2 "rest" w_ zT):Has P w K mg base 3 "aim_value" E8 Li:=by
 refine D.has B0 (by intro _ _ _ _;walk_at"ln") (fun f c A o s H vs Q E C h=> ?_)
 obtain⟨a,k,b,m,d,g,v,rfl,pl,q⟩:=h;have I:=pl.at_;have U:=pl.ms;have i:=JI (t:=d) (by lia)
 refine⟨_,(ad (ah (ax cK (ax cK (pcH J C (pa2 (pv 1) (pX ay (pv 0) ac))) ac) (pcH e C (pa1 (pX ay (pv 0) ac)))))),?_⟩
 walk_at"k";exact q
theorem Fy(B:Bi mg)(D:zJ K mg)(d:Has P w K mg base 1 "power_of_two" sJ nD)(J:Has P w K mg base 2 "rest" w_ zT)(p:Has P w K mg base 1 "zeros" vi yF)
  (n:Has P w K mg base 3 "settled_span" o_ Ca):Has P w K mg base 4 "fit_span" sV NQ:=by
 refine D.has lw (by intro _ _ _ _;walk_at"ln") (fun f U A C s H vs Q E o h=> ?_)
 obtain⟨a,k,b,m,F,g,c,l,rfl,pl,r,i,q⟩:=h;have I:=pl.at_;have x:=pl.room.k20;have G:min l.z (SpM.Zn b)<=64:=by have:=i.zz;lia
 refine⟨_,(aa (psS 2 lw.nd (pX ay (pv 0) ac))
   (aa (psS 3 lw.nd (pcH d o (pa1 (pX ay (pv 0) ac))))
   (aa (aP (bz (aC (PW.pt (uF (pcT oR (pv 2) (pX ay (pv 1) ac)) (oH (pcT jC (pX ay (pv 1) ac) (ax aZ (pv 2) (pv 3)))))) (ad (ah (pv 1))) ao)))
   (aa (psS 4 lw.nd (aI (BG (by rfl)) (by rfl) B.min Gz (pa2 (pX ay (pv 1) ac) (pcH p o (pa1 (pv 2))))))
   (ad (ah (pcH n o (pa3 (pv 2) (ax iX (ax iX (ax aZ (pv 2) (pv 3)) ac) (pcH J o (pa2 (ax iX (pv 3) ac) (pv 4)))) (pv 4))))))))),?_⟩
 try dsimp only[oJ]
 unfold SpM.fitS at q;walk_at"g";refine⟨fun u j=>aD (j=H/\u=[some (.ref a),some (.ref c),some (.int b),some (.int (2^k)),none]/\¬(b<=l.lo/\l.hi<b+2^k)),?_,?_⟩
 .walk_at"g";refine bO (fun c1=> ?_) (fun c1=> ?_)
  .walk_at"g";refine bO (fun c2=> ?_) (fun c2=> ?_)
   .rw[R9 ⟨c1,c2⟩] at q;walk_at"g";exact q _ _ (aA.refl _) r
   .exact⟨rfl,rfl,fun h=>c2 h.2⟩
  .exact Iy ⟨rfl,rfl,fun h=>c1 h.1⟩
 rintro v y ⟨rfl,rfl,e⟩
 rw[R6 e] at q;walk_at"g";rw[HQ];walk_at"g";exact q
theorem EK(B:Bi mg)(D:yU K mg)(i:Has P w K mg base 1 "power_of_two" sJ nD)(J:Has P w K mg base 2 "single" vi vV)(j:Has P w K mg base 1 "is_single" FA (NH K))(I:Has P w K mg base 3 "aim_value" E8 Li)
  (n:Has P w K mg base 3 "settled_span" o_ Ca):Has P w K mg base 4 "aim_span" sV NM:=by
 refine D.has xu (by intro _ _ _ _;walk_at"ln") (fun f e A C s H vs Q E o h=> ?_)
 obtain⟨a,k,b,m,p,g,c,l,rfl,pl,u,r,q⟩:=h;have U:=pl.at_;have d:=pl.ms;have hm:m<=64:=by lia
 refine⟨_,(aa (aC (bN (pcH j o (pa1 (pv 1)))) (ad (ah (pcH J o (pa1 (pcH I o (pa2 (pv 0) (pX ay (pv 1) ac))))))) ao)
   (aa (psS 2 xu.nd (ax iX (pcH i o (pa1 (pX ay (pv 0) ac))) ac))
   (ad (ah (pcH n o (pa3 ac (pcH I o (pa2 (pv 0) (pv 2))) (ax aZ (pX ay (pv 0) ac) ac))))))),?_⟩
 try dsimp only[oJ]
 unfold SpM.aimS at q;walk_at"g";refine bO (fun c1=> ?_) (fun c1=> ?_)
 .rw[R9 c1] at q;walk_at"g";exact q
 .rw[R6 c1] at q;walk_at"g";exact q
def SpA(H:Hp):List Addr->List SpM.Span->Prop
 | [],[]=>True
 | a::as,s::ss=>Tr H a s/\SpA H as ss
 | _,_=>False
theorem SpA.mono{H o:Hp}(J:∀a xs,H a=some (.tup xs)->o a=some (.tup xs)):∀{I:List Addr}{C:List SpM.Span},SpA H I C->SpA o I C
 | [],[],_=>True.intro
 | _::_,_::_,h=>⟨J _ _ h.1,SpA.mono J h.2⟩
 | [],_::_,h=>h.elim
 | _::_,[],h=>h.elim
theorem SpA.same{H o:Hp}(e:aA H o){I:List Addr}{C:List SpM.Span}(h:SpA H I C):SpA o I C:=h.mono (fun _ _ z=>e _ _ z)
theorem SpA.len{H:Hp}:∀{C:List Addr}{o:List SpM.Span},SpA H C o->C.length=o.length
 | [],[],_=>rfl
 | _::_,_::_,h=>congrArg (· +1) (SpA.len h.2)
 | [],_::_,h=>h.elim
 | _::_,[],h=>h.elim
theorem SpA.app{H:Hp}{bs:List Addr}{I:List SpM.Span}(J:SpA H bs I):∀{C:List Addr}{o:List SpM.Span},SpA H C o->SpA H (C++bs) (o++I)
 | [],[],_=>J
 | _::_,_::_,h=>⟨h.1,SpA.app J h.2⟩
 | [],_::_,h=>h.elim
 | _::_,[],h=>h.elim
theorem SpA.take{H:Hp}:∀(n:Nat) {o:List Addr}{C:List SpM.Span},SpA H o C->SpA H (o.take n) (C.take n)
 | 0,_,_,_=>True.intro
 | n+1,[],[],_=>True.intro
 | n+1,_::_,_::_,h=>⟨h.1,SpA.take n h.2⟩
 | n+1,[],_::_,h=>h.elim
 | n+1,_::_,[],h=>h.elim
theorem SpA.drop{H:Hp}:∀(n:Nat) {o:List Addr}{C:List SpM.Span},SpA H o C->SpA H (o.drop n) (C.drop n)
 | 0,_,_,h=>h
 | n+1,[],[],_=>True.intro
 | n+1,_::_,_::_,h=>SpA.drop n h.2
 | n+1,[],_::_,h=>h.elim
 | n+1,_::_,[],h=>h.elim
theorem SpA.get{H:Hp}:∀{I:List Addr}{C:List SpM.Span},SpA H I C->∀(j:Nat) s,C[j]? =some s->∃a,I[j]? =some a/\Tr H a s
 | [],[],_=>fun j o e=>by cases j <;> cases e
 | t::_,p::_,h=>fun j o e=>by
  cases j with
  | zero=>
   have J:p=o:=Sj e;subst J;exact⟨t,rfl,h.1⟩
  | succ j=>exact SpA.get h.2 j o e
 | [],_::_,h=>h.elim
 | _::_,[],h=>h.elim
theorem SpA.rep{H:Hp}{a:Addr}{s:SpM.Span}(h:Tr H a s):∀n,SpA H (List.replicate n a) (List.replicate n s)
 | 0=>True.intro
 | n+1=>by
  rw[S0,S0];exact⟨h,SpA.rep h n⟩
structure Sp8 (sp:List SpM.Span):Prop where
 len:sp.length=8
 sv:∀s∈sp,SpM.Sv s
noncomputable def spG(sp:List SpM.Span)(i:Int):SpM.Span:=sp.getD i.toNat SpM.whole
theorem Sp8.at{sp:List SpM.Span}(h:Sp8 sp){i:Int}(C:0<=i)(I:i<8):sp[i.toNat]? =some (spG sp i)/\SpM.Sv (spG sp i):=by
 have o:i.toNat<sp.length:=by rw[h.len];lia
 have e:spG sp i=sp[i.toNat]:=by unfold spG;rw[Sz,R1 o];rfl
 rw[e];exact⟨R1 o,h.sv _ (Vp o)⟩
def SpT(K:Frag)(H:Hp)(a:Addr)(sp:List SpM.Span):Prop:=∃o,SqT K H a (o.map V.ref)/\SpA H o sp
theorem SpT.same{H o:Hp}(e:aA H o){a:Addr}{sp:List SpM.Span}(h:SpT K H a sp):SpT K o a sp:=let ⟨as,h1,h2⟩:=h;⟨as,e.tup h1,h2.same e⟩
theorem SpT.at{H:Hp}{a:Addr}{sp:List SpM.Span}{o:List Addr}(h:SpA H o sp)(J:Sp8 sp){i:Int}(U:0<=i)(c:i<8):∃b,atI (o.map V.ref) i=some (.ref b)/\Tr H b (spG sp i)/\SpM.Sv (spG sp i):=by
 obtain⟨I,d⟩:=J.at U c;obtain⟨b,C,e⟩:=h.get _ _ I;refine⟨b,?_,e,d⟩
 have f:i=((i.toNat:Nat):Int):=by lia
 have q:atI (o.map V.ref) ((i.toNat:Nat):Int)=some (.ref b):=bq (by rw[Sx,C];rfl)
 rw[<- f] at q;exact q
def mk8(k:Nat):Prop:=(1<=k/\k<=11)\/k=16\/k=17
noncomputable instance {k:Nat}:Decidable (mk8 k):=inferInstanceAs (Decidable (_\/_))
noncomputable def QX:Nat->SpM.Op8
 | 2=> .add | 3=> .sub | 4=> .and | 5=> .or | 6=> .xor | 7=> .less | 8=> .left | _=> .right
noncomputable def uC(pk:Nat)(C:Int)(o ps:Nat)(k:Nat)(ns:List Int)(sp:List SpM.Span):SpM.Span:=
 if k=1 then SpM.single (ns.getD 1 0) else if k=11 then SpM.whole else if k=10 then SpM.moreS (spG sp (ns.getD 1 0)) (ns.getD 2 0) else if k=16 then SpM.fitS pk C (spG sp (ns.getD 1 0)) else if k=17 then SpM.aimS o ps (spG sp (ns.getD 1 0))
 else SpM.jS (QX k) (spG sp (ns.getD 1 0)) (spG sp (ns.getD 2 0))
noncomputable def zO(pk:Nat)(C:Int)(o ps:Nat)(k:Nat)(ns:List Int)(sp:List SpM.Span):List SpM.Span:=
 if k=18 then List.replicate 7 SpM.whole++[spG sp 7] else if mk8 k then sp.set (ns.getD 0 0).toNat (uC pk C o ps k ns sp) else sp
def J4(pk:Nat)(o:Int)(ns:List Int)(sp:List SpM.Span):Prop:=(spG sp (ns.getD 1 0)).lo+ns.getD 2 0<o\/o+2^pk<=(spG sp (ns.getD 1 0)).hi+ns.getD 2 0
noncomputable instance {pk:Nat}{pb:Int}{ns:List Int}{sp:List SpM.Span}:Decidable (J4 pk pb ns sp):=inferInstanceAs (Decidable (_\/_))
theorem seq{k j:Nat}(o:k<19)(C:j<19)(h:V.str (aV k)=V.str (aV j)):k=j:=by
 by_cases e:k=j
 .exact e
 .exact absurd h (L8 k o j C e)
theorem JD{pk:Nat}{b:Int}{a ps k:Nat}{ns:List Int}{sp:List SpM.Span}(e:SpM.Room pk b)(U:a+ps<=7)(i:aQ 8 262144 k ns)(hm:mk8 k)(d:Sp8 sp):SpM.Sv (uC pk b a ps k ns sp):=by
 unfold mk8 at hm;unfold uC;rcases i with⟨rfl,rfl⟩|⟨rfl,x,v,rfl,J,I,v0,v1⟩|⟨j,f,x,y,z,rfl,J,I,o,C,z0,z1⟩|⟨j,f,x,y,z,rfl,J,I,o,C,z0,z1⟩|⟨c,z,rfl,z0,z1⟩|⟨rfl,x,z,rfl,J,I,z0,z1⟩|⟨rfl,y,rfl,o,C⟩|⟨c,x,y,rfl,J,I,o,C⟩
 .lia
 .exact SpM.Sv_single v0 v1
 .lia
 .obtain rfl | rfl:k=10\/k=11:=by lia
  .exact SpM.Sv_more (d.at o C).2 _
  .exact SpM.Sv_whole
 .lia
 .lia
 .lia
 .rcases c with rfl | rfl
  .exact SpM.Sv_fit e (d.at o C).2
  .exact SpM.Sv_aim U _
theorem Sp8.set{sp:List SpM.Span}(h:Sp8 sp){i:Nat}{s:SpM.Span}(hs:SpM.Sv s):Sp8 (sp.set i s):=
 ⟨by rw[VB];exact h.len,fun x o=>by
  rcases List.mem_or_eq_of_mem_set o with o | o
  .exact h.sv x o
  .subst o;exact hs⟩
theorem Pf{pk:Nat}{J:Int}{I ps k:Nat}{ns:List Int}{sp:List SpM.Span}(a:SpM.Room pk J)(C:I+ps<=7)(U:aQ 8 262144 k ns)(o:Sp8 sp):Sp8 (zO pk J I ps k ns sp):=by
 unfold zO
 split
 .refine⟨rfl,fun s hs=> ?_⟩
  rcases SR.mp hs with hs | hs
  .rw[Wa hs];exact SpM.Sv_whole
  .have:s=spG sp 7:=by simpa using hs
   rw[this];exact(o.at (by decide) (by decide)).2
 .split
  .exact o.set (JD a C U (by assumption) o)
  .exact o
theorem B6{xs:List V}{n:Nat}:fC xs none (some (n:Int))=xs.take n:=by
 unfold fC;have o:HT.sIx xs.length 0 none=0:=rfl;rw[o,HT.sIx_nat]
 simp only[VT,Xy]
 rw[<- List.take_eq_take_min]
theorem pS{xs:List V}{n:Nat}:fC xs (some (n:Int)) none=xs.drop n:=by
 unfold fC;have o:HT.sIx xs.length xs.length none=xs.length:=rfl;rw[o,HT.sIx_nat]
 by_cases h:n<=xs.length
 .rw[Ub h];exact Tt (by rw[SH];exact R3 _)
 .rw[Wq (by lia),Wz (R3 _),Wz (by lia)]
  exact Xb
structure Tb2 (K:Frag) (mg:Str->Option Value):Prop where
 none_:∃a,mg "MAKING_NONE"=some (.ref a)/\e9 K a [.str "stop",.str "store",.str "jump",.str "jumpif",.str "through",.str "gate"]
 last:∃a,mg "LAST_SORTS"=some (.ref a)/\e9 K a [.str "stop",.str "jump",.str "through"]
theorem HN:∀k,k<19->inV (.str (aV k)) [.str "stop",.str "store",.str "jump",.str "jumpif",.str "through",.str "gate"]=decide (¬ mk8 k):=by decide +kernel
theorem A1{k:Nat}{ns:List Int}(h:aQ 8 262144 k ns)(hm:mk8 k):∃x r,ns=x::r/\0<=x/\x<8:=by
 exact h.hd (by unfold mk8 at hm;lia)
def Nk(K:Frag):Sp:=fun vs H Q _=>∃(a:Addr) (k:Nat) (o:List Int),vs=[.ref a]/\aQ 8 262144 k o/\SqT K H a (aO k o)/\(mk8 k->Q (.int (o.getD 0 0)) H)/\(¬ mk8 k->Q .non H)
theorem Fs(B:Bi mg)(d:Tb2 K mg)(D:zi K mg):Has P w K mg base 1 "made_box" cI (Nk K):=by
 obtain⟨J,e,m⟩:=d.none_;refine D.has EF (by intro _ _ _ _;walk_at"ln") (fun f b A o s H vs Q E n h=> ?_)
 obtain⟨a,k,U,rfl,I,p,j,i⟩:=h;have C:=I.lt;have q:atI (aO k U) 0=some (.str (aV k)):=nj
 refine⟨_,(aa (aC (n9 rY (pX ay (pv 0) ac) (cZ (v:= .ref J) (by rfl) e (by rfl)) (by rfl)) (ad (ah cO)) ao)
   (ad (ah (pX ay (pv 0) ac)))),?_⟩
 walk_at"k";refine N9 (fun c=> ?_) (fun c=> ?_)
 .have hm:¬mk8 k:=SE ((HN k C).symm.trans c);walk_at"g";exact i hm
 .have hm:mk8 k:=by
   have:=of_decide_eq_false ((HN k C).symm.trans c);exact Classical.not_not.mp this
  obtain⟨x,r,rfl,_⟩:=A1 I hm;have l:atI (aO k (x::r)) 1=some (.int x):=LG;walk_at"g";exact j hm
def Mf(K:Frag):Sp:=fun vs H Q _=>vs=[]/\∀p o,aA H o->SpT K o p (List.replicate 8 SpM.whole)->Q (.ref p) o
theorem zm(B:Bi mg)(D:tJ K mg)(u:Has P w K mg base 1 "whole_span" [] yH):Has P w K mg base 2 "first_spans" [] (Mf K):=by
 refine D.has zj (by intro _ _ _ _;walk_at"ln") (fun f l A d s H vs Q E p h=> ?_)
 obtain⟨rfl,q⟩:=h;refine⟨_,(ad (ah (cj gv (by rfl) B.tuple ji (pa1 (ax yR (a8 (pa1 (iN (u.mono (by omega)) p (by rfl)))) ac))))),?_⟩
 walk_at"k";intro o c j i;walk_at"g";intro a C;have r:=j.trans (ag C (.lst [.ref o]));have l2:upd c a (.lst [.ref o]) a=some (.lst [.ref o]):=ae;have n:Tr (upd c a (.lst [.ref o])) o SpM.whole:=gw C i;generalize upd c a (.lst [.ref o])=b at*;walk_at"g";intro U I;have k:(List.replicate (8:Int).toNat [V.ref o]).flatten=(List.replicate 8 o).map V.ref:=rfl;rw[k];have m:=r.trans (ag I (.lst ((List.replicate 8 o).map V.ref)));have l3:upd b U (.lst ((List.replicate 8 o).map V.ref)) U=some (.lst ((List.replicate 8 o).map V.ref)):=ae;have v:Tr (upd b U (.lst ((List.replicate 8 o).map V.ref))) o SpM.whole:=gw I n;generalize upd b U (.lst ((List.replicate 8 o).map V.ref))=x at*;walk_at"g";refine .inl ⟨SqL.of l3,fun e J=> ?_⟩
 exact q e _ (m.trans (ag J _)) ⟨_,SqT.of ae,SpA.rep (gw J v) 8⟩
def Qd(K:Frag):Sp:=fun vs H Q _=>∃(pl a sa:Addr) (k:Nat) (I:List Int) (o:List SpM.Span) (pk:Nat) (b:Int) (U J:Nat) (pg:Int),vs=[.ref pl,.ref a,.ref sa]/\Pl H pl pk b U J pg/\aQ 8 262144 k I/\mk8 k/\SqT K H a (aO k I)/\SpT K H sa o/\Sp8 o/\
 ∀p C,aA H C->Tr C p (uC pk b U J k I o)->Q (.ref p) C
def AE:Sp:=fun _ _ _ _=>False
theorem xZ(D:tw K mg):Has P w K mg base 6 "joined_span" Fi AE:=D.has zP (fun _ _ _ _ h=>h.elim) (fun _ _ _ _ _ _ _ _ _ _ h=>h.elim)
theorem CL(B:Bi mg)(D:xB K mg)(l:Has P w K mg base 2 "single" vi vV)(L:Has P w K mg base 1 "whole_span" [] yH)(n:Has P w K mg base 5 "more_span" Fh J_)(M:Has P w K mg base 4 "fit_span" sV NQ)
  (O:Has P w K mg base 4 "aim_span" sV NM) (G:Has P w K mg base 6 "joined_span" Fi AE):Has P w K mg base 7 "made_span" jm (Qd K):=by
 refine D.has oy (by intro _ _ _ _;walk_at"ln") (fun f F A c s H vs Q E o h=> ?_)
 obtain⟨pl,a,sa,k,m,W,pk,T,R,Z,pg,rfl,r,i,hm,ha,⟨Y,p,I⟩,j,q⟩:=h;have i0:atI (aO k m) 0=some (.str (aV k)):=nj;have d:=i.lt
 refine⟨_,(aa (psS 3 oy.nd (pX ay (pv 1) ac))
   (aa (aC (pcT aK (pv 3) av) (ad (ah (pcH l o (pa1 (pX ay (pv 1) ac))))) ao)
   (aa (aC (pcT aK (pv 3) av) (ad (ah (iN (L.mono (by omega)) o (by rfl)))) ao)
   (aa (psS 4 oy.nd (pX ay (pv 2) (pX ay (pv 1) ac)))
   (aa (aC (pcT aK (pv 3) av) (ad (ah (pcH n o (pa2 (pv 4) (pX ay (pv 1) ac))))) ao)
   (aa (aC (pcT aK (pv 3) av) (ad (ah (pcH M o (pa2 (pv 0) (pv 4))))) ao)
   (aa (aC (pcT aK (pv 3) av) (ad (ah (pcH O o (pa2 (pv 0) (pv 4))))) ao)
   (ad (ah (pcH G o (pa3 (pv 3) (pv 4) (pX ay (pv 2) (pX ay (pv 1) ac))))))))))))),?_⟩
 try dsimp only[oJ]
 unfold mk8 at hm;rcases i with⟨rfl,rfl⟩|⟨rfl,x,v,rfl,b,U,v0,v1⟩|⟨N,u,x,y,z,rfl,b,U,C,J,z0,z1⟩|⟨N,u,x,y,z,rfl,b,U,C,J,z0,z1⟩|⟨e,z,rfl,z0,z1⟩|⟨rfl,x,z,rfl,b,U,z0,z1⟩|⟨rfl,y,rfl,C,J⟩|⟨e,x,y,rfl,b,U,C,J⟩
 .lia
 .have i2:atI (aO 1 [x,v]) 2=some (.int v):=Ga;walk_at"g";walk_at"wd";exact q
 .lia
 .obtain⟨b1,e1,t1,v1⟩:=SpT.at (a:=sa) I j C J;obtain rfl | rfl:k=10\/k=11:=by lia
  .have i2:atI (aO 10 [x,y,z]) 2=some (.int y):=Ga;have X:atI (aO 10 [x,y,z]) 3=some (.int z):=Pd;walk_at"g";walk_at"wd";exact q
  .walk_at"g";walk_at"wd";exact q
 .lia
 .lia
 .lia
 .obtain⟨b1,e1,t1,v1⟩:=SpT.at (a:=sa) I j C J;rcases e with rfl | rfl
  .have i2:atI (aO 16 [x,y]) 2=some (.int y):=Ga;walk_at"g";walk_at"wd";exact q
  .have i2:atI (aO 17 [x,y]) 2=some (.int y):=Ga;walk_at"g";walk_at"wd";exact q
def Og(K:Frag):Sp:=fun vs H Q _=>∃(pl a sa:Addr) (k:Nat) (I:List Int) (o:List SpM.Span) (pk:Nat) (b:Int) (U J:Nat) (pg:Int),vs=[.ref pl,.ref a,.ref sa]/\Pl H pl pk b U J pg/\aQ 8 262144 k I/\SqT K H a (aO k I)/\SpT K H sa o/\Sp8 o/\
 ∀p C,aA H C->SpT K C p (zO pk b U J k I o)->Q (.ref p) C
theorem mD{o:Type}{xs:List o}{i:Nat}{x:o}(h:i<xs.length):xs.take i++[x]++xs.drop (i+1)=xs.set i x:=by
 rw[List.set_eq_take_append_cons_drop,R9 h,SQ]
 rfl
theorem yq(B:Bi mg)(D:rH K mg)(cP:Has P w K mg base 1 "whole_span" [] yH)(eD:Has P w K mg base 1 "made_box" cI (Nk K))(rN:Has P w K mg base 7 "made_span" jm (Qd K)):
  Has P w K mg base 8 "spans_behind" jm (Og K):=by
 refine D.has oW (by intro _ _ _ _;walk_at"ln") (fun f bo A aL s H vs Q E hr h=> ?_)
 obtain⟨pl,a,sa,k,m,c,pk,T,O,X,pg,rfl,aR,hv,ha,F,h8,q⟩:=h;obtain⟨J,v,d⟩:=F;have i0:atI (aO k m) 0=some (.str (aV k)):=nj;have ar:=hv.lt;have au:J.length=8:=by rw[d.len];exact h8.len
 refine⟨_,(aa (aC (pcT aK (pX ay (pv 1) ac) av) (ad (ah (cj gv (by rfl) B.tuple ji (pa1 (ax dL (ax yR (a8 (pa1 (iN (cP.mono (by omega)) hr (by rfl)))) ac) (a8 (pa1 (pX ay (pv 2) ac)))))))) ao)
   (aa (psS 3 oW.nd (pcH eD hr (pa1 (pv 1))))
   (aa (aC (jT (kf (pv 3))) (ad (ah (pv 2))) ao)
   (ad (ah (ax Ho (ax Ho (bK uK (pv 2) cQ (cq (pv 3))) (az (pa1 (pcH rN hr (pa3 (pv 0) (pv 1) (pv 2)))))) (bK uK (pv 2) (cq (ax aZ (pv 3) ac)) cQ))))))),?_⟩
 walk_at"k";refine bO (fun c1=> ?_) (fun c1=> ?_)
 .obtain rfl:=seq ar (j:=18) (by decide) c1
  have Z:zO pk T O X 18 m c=List.replicate 7 SpM.whole++[spG c 7]:=R9 rfl;rw[Z] at q;walk_at"g";intro C H1 R t1;walk_at"g";intro b ab;have s2:=R.trans (ag ab (.lst [.ref C]));have l2:upd H1 b (.lst [.ref C]) b=some (.lst [.ref C]):=ae;have t2:Tr (upd H1 b (.lst [.ref C])) C SpM.whole:=gw ab t1;generalize upd H1 b (.lst [.ref C])=H2 at*;walk_at"g";intro G u;have e7:(List.replicate (7:Int).toNat [V.ref C]).flatten=(List.replicate 7 C).map V.ref:=rfl;rw[e7];have N:=s2.trans (ag u (.lst ((List.replicate 7 C).map V.ref)));have l3:upd H2 G (.lst ((List.replicate 7 C).map V.ref)) G=some (.lst ((List.replicate 7 C).map V.ref)):=ae;have t3:Tr (upd H2 G (.lst ((List.replicate 7 C).map V.ref))) C SpM.whole:=gw u t2;generalize upd H2 G (.lst ((List.replicate 7 C).map V.ref))=W at*;have bl:=N.tup v;obtain⟨U,bw,t7,_⟩:=SpT.at (a:=sa) (d.same N) h8 (i:=7) (by decide) (by decide)
  walk_at"g";intro Y y;have s4:=N.trans (ag y (.lst [.ref U]));have l4:upd W Y (.lst [.ref U]) Y=some (.lst [.ref U]):=ae;have bc:=gw (o:= .lst [.ref U]) y l3;have t4:Tr (upd W Y (.lst [.ref U])) C SpM.whole:=gw y t3;have aN:Tr (upd W Y (.lst [.ref U])) U (spG c 7):=gw y t7;generalize upd W Y (.lst [.ref U])=M at*;have aX:((List.replicate 7 C).map V.ref).length+[V.ref U].length<=sizeLine:=RY (show 8<=100 by decide) (by decide)
  walk_at"g";intro p l;have e5:(List.replicate 7 C).map V.ref++[V.ref U]=(List.replicate 7 C++[U]).map V.ref:=by rw[R5];rfl
  rw[e5];have s5:=s4.trans (ag l (.lst ((List.replicate 7 C++[U]).map V.ref)));have l5:upd M p (.lst ((List.replicate 7 C++[U]).map V.ref)) p=some (.lst ((List.replicate 7 C++[U]).map V.ref)):=ae;have t5:Tr (upd M p (.lst ((List.replicate 7 C++[U]).map V.ref))) C SpM.whole:=gw l t4;have aT:Tr (upd M p (.lst ((List.replicate 7 C++[U]).map V.ref))) U (spG c 7):=gw l aN;generalize upd M p (.lst ((List.replicate 7 C++[U]).map V.ref))=H5 at*;walk_at"g";refine .inl ⟨SqL.of l5,fun p6 L=> ?_⟩
  exact q p6 _ (s5.trans (ag L _)) ⟨_,SqT.of ae,SpA.app (show SpA _ [U] [spG c 7] from⟨gw L aT,True.intro⟩) (SpA.rep (gw L t5) 7)⟩
 have aw:k≠18:=fun e=>c1 (by rw[e];rfl)
 by_cases hm:mk8 k
 .have Z:zO pk T O X k m c=c.set (m.getD 0 0).toNat (uC pk T O X k m c):=by
   unfold zO;rw[R6 aw,R9 hm]
  rw[Z] at q;obtain⟨x,r,aS,x0,x1⟩:=A1 hv hm;have ex:m.getD 0 0=x:=by rw[aS];rfl
  have F:SpT K H sa c:=⟨J,v,d⟩;walk_at"g";refine⟨fun _=> ?_,fun z=>absurd hm z⟩
  rw[ex] at q ⊢;obtain⟨I,rfl⟩:∃n:Nat,x=n:=SI (by first | assumption | lia)
  rw[Tg] at q;walk_at"g";refine⟨(fun z=>by have:=z.2;rw[be,au,HT.sIx_nat] at this;lia),fun C aG=> ?_⟩
  have ec:fC (J.map V.ref) none (some (I:Int))=(J.take I).map V.ref:=by rw[B6,Uj]
  rw[ec];have R:=ag aG (.tup ((J.take I).map V.ref));have t1:SqT K (upd H C (.tup ((J.take I).map V.ref))) C ((J.take I).map V.ref):=SqT.of ae;generalize upd H C (.tup ((J.take I).map V.ref))=H1 at*;have aW:=aR.mv R;have ba:=R.tup ha;have bt:=F.same R;walk_at"g";intro b H2 s2 t2;walk_at"g";intro G u;generalize e_:upd H2 G _=W;have aF:=upA e_;have N:=upS u e_;clear e_;have t3:SqT K W G [.ref b]:=SqT.of aF;have bg:=N.tup (s2.tup t1);have a6:((J.take I).map V.ref).length+[V.ref b].length<=sizeLine:=RY (show _<=100 by rw[be,Sg];simp only[R4,UX];lia) (by decide)
  walk_at"g";intro Y M s4 t4;have S4:=((R.trans s2).trans N).trans s4;have a7:=S4.tup v;walk_at"g";refine⟨(fun z=>by have:=z.1;rw[be,au] at this;have e:HT.sIx 8 0 (some ((I:Int)+1))=min (I+1) 8:=HT.sIx_nat 8 0 (I+1);rw[e] at this;lia),fun p l=> ?_⟩
  have ed:fC (J.map V.ref) (some ((I:Int)+1)) none=(J.drop (I+1)).map V.ref:=by
   have:=pS (xs:=J.map V.ref) (n:=I+1);rw[<- Uk] at this;exact this
  rw[ed];have s5:=ag l (.tup ((J.drop (I+1)).map V.ref));have t5:SqT K (upd M p (.tup ((J.drop (I+1)).map V.ref))) p ((J.drop (I+1)).map V.ref):=SqT.of ae;generalize upd M p (.tup ((J.drop (I+1)).map V.ref))=H5 at*;have bb:=s5.tup t4;have a':((J.take I).map V.ref++[V.ref b]).length+((J.drop (I+1)).map V.ref).length<=sizeLine:=RY (show _<=100 by rw[RZ,be,Sg,be,SH];simp only[R4,UX];lia) (by decide)
  walk_at"g";intro p6 H6 s6 t6;have S6:=(S4.trans s5).trans s6;refine q p6 H6 S6 ⟨J.set I b,?_,?_⟩
  .have e:(J.take I).map V.ref++[V.ref b]++(J.drop (I+1)).map V.ref=(J.set I b).map V.ref:=by
    rw[<- mD (x:=b) (show I<J.length by lia),R5,R5]
    rfl
   rw[e] at t6;exact t6
  .rw[<- mD (x:=b) (show I<J.length by lia), <-mD (x:=uC pk T O X k m c) (show I<c.length by rw[h8.len];lia)]
   exact SpA.app (SpA.drop _ (d.same S6)) (SpA.app (show SpA H6 [b] [uC pk T O X k m c] from⟨((N.trans s4).trans (s5.trans s6)) _ _ t2,True.intro⟩) (SpA.take _ (d.same S6)))
 .have Z:zO pk T O X k m c=c:=by
   unfold zO;rw[R6 aw,R6 hm]
  rw[Z] at q;walk_at"g";refine⟨fun z=>absurd z hm,fun _=> ?_⟩
  walk_at"g";exact q sa H (aA.refl _) ⟨J,v,d⟩
def K0(K:Frag):Sp:=fun vs H Q _=>∃(pl a sa:Addr) (k:Nat) (C:List Int) (o:List SpM.Span) (pk:Nat) (I:Int) (U J:Nat) (pg:Int),vs=[.ref pl,.ref a,.ref sa]/\Pl H pl pk I U J pg/\aQ 8 262144 k C/\(k=11\/k=12)/\SqT K H a (aO k C)/\SpT K H sa o/\Sp8 o/\Q (.bl (decide (J4 pk I C o))) H
theorem xa(B:Bi mg)(D:oY K mg)(L:Has P w K mg base 1 "power_of_two" sJ nD):Has P w K mg base 2 "may_reach_out" jm (K0 K):=by
 refine D.has fX (by intro _ _ _ _;walk_at"ln") (fun f F A U s H vs Q E G h=> ?_)
 obtain⟨pl,a,sa,k,m,o,pk,C,b,i,pg,rfl,I,M,X,ha,⟨as,n,J⟩,N,q⟩:=h;obtain⟨x,y,z,rfl,x0,x1,u,v,z0,z1⟩:∃x y z,m=[x,y,z]/\0<=x/\x<8/\0<=y/\y<8/\ -131072<=z/\z<131072:=aQ.acc M (by first | assumption | lia)
 obtain⟨W,Z,T,v1⟩:=SpT.at (a:=sa) J N u v;have r:=I.at_;have d:=I.room.k20;have p0:atI [V.int pk,V.int C,V.int b,V.int i,V.int pg] 0=some (.int pk):=bq (j:=0) rfl;have O:atI [V.int pk,V.int C,V.int b,V.int i,V.int pg] 1=some (.int C):=bq (j:=1) rfl;have R:atI (aO k [x,y,z]) 2=some (.int y):=Ga;have Y:atI (aO k [x,y,z]) 3=some (.int z):=Pd;have j0:atI [V.int (spG o y).lo,V.int (spG o y).hi,V.int (spG o y).z] 0=some (.int (spG o y).lo):=nj;have j1:atI [V.int (spG o y).lo,V.int (spG o y).hi,V.int (spG o y).z] 1=some (.int (spG o y).hi):=LG;have l:Q (.bl (decide ((spG o y).lo+z<C\/C+2^pk<=(spG o y).hi+z))) H:=q;clear q;have q:=l;clear l
 refine⟨_,(aa (psS 3 fX.nd (pX ay (pv 2) (pX ay (pv 1) ac)))
   (aa (psS 4 fX.nd (pX ay (pv 1) ac))
   (aa (psS 5 fX.nd (pX ay (pv 0) ac))
   (ad (ah (Bg (pcE jC (ax aZ (pX ay (pv 3) ac) (pv 4)) (pv 5)) (gg (pcE zZ (ax aZ (pX ay (pv 3) ac) (pv 4)) (ax aZ (pv 5) (pcH L G (pa1 (pX ay (pv 0) ac)))))))))))),?_⟩
 walk_at"k"
 by_cases c:(spG o y).lo+z<C
 .rw[R0 (p:=(spG o y).lo+z<C\/_) (.inl c)] at q;rw[R0 c];walk_at"g";exact q
 .have e:decide ((spG o y).lo+z<C\/C+2^pk<=(spG o y).hi+z)=decide (C+2^pk<=(spG o y).hi+z):=UR.mpr ⟨fun h=>h.resolve_left c,.inr⟩
  rw[e] at q;rw[RW c];walk_at"g";exact q
def NF(K:Frag):Sp:=fun vs H Q _=>∃(a:Addr) (k:Nat) (C:List Int) (o:Int),vs=[.ref a,.int o]/\k<19/\SqT K H a (aO k C)/\Q (.bl (decide (8<o %8+(if k=1 then 2 else 1)))) H
theorem AJ(B:Bi mg)(D:vm K mg)(U:Has P w K mg base 1 "length_of" cI (II K)):Has P w K mg base 2 "is_no_word" DY (NF K):=by
 refine D.has AC (by intro _ _ _ _;walk_at"ln") (fun f C A o s H vs Q E I h=> ?_)
 obtain⟨a,k,b,J,rfl,c,d,q⟩:=h;refine⟨_,(ad (ah (Bg (Gf (kf (pv 0))) (gg (pcE HF (ax aZ (ax eU (pv 1) ac) (pcH U I (pa1 (pv 0)))) ac))))),?_⟩
 walk_at"k";exact q
theorem KU:∀k,k<19->2<=k->k<=9->aM k=(["a","b","c"]:List Str):=by decide +kernel
theorem Lv:∀k,k<19->10<=k->k<=12->aM k=(["a","b","move"]:List Str):=by decide +kernel
theorem NI:∀k,k<19->16<=k->k<=17->aM k=(["a","b"]:List Str):=by decide +kernel
theorem Kq{k:Nat}{a b c:Int}(C:2<=k)(o:k<=9):eG k [a,b,c]=k*134217728+a*16777216+b*2097152+c*262144:=by
 unfold eG;rw[KU k (by lia) C o]
 rfl
theorem LK{k:Nat}{a b n:Int}(C:10<=k)(o:k<=12):eG k [a,b,n]=k*134217728+a*16777216+b*2097152+n %262144:=by
 unfold eG;rw[Lv k (by lia) C o]
 rfl
theorem NW{k:Nat}{a b:Int}(C:16<=k)(o:k<=17):eG k [a,b]=k*134217728+a*16777216+b*2097152:=by
 unfold eG;rw[NI k (by lia) C o]
 rfl
theorem qp{o:Int}{k:Nat}{ns:List Int}(C:o / 134217728=k)(I:k<19)(J:(aM k).map (fun x=>wP x o)=ns)(hw:eG k ns=o):owi o=some (k,ns):=by
 unfold owi;rw[C,R6 (by lia),Tg,J,R9 hw]
theorem IN{k:Nat}{ns:List Int}(h:aQ 8 262144 k ns):0<=eG k ns/\owi (eG k ns)=some (k,if k=1 then ns.take 1 else ns):=by
 rcases h with⟨rfl,rfl⟩|⟨rfl,a,v,rfl,a0,a1,v0,v1⟩|⟨C,o,a,b,c,rfl,a0,a1,U,I,c0,c1⟩|⟨C,o,a,b,n,rfl,a0,a1,U,I,n0,n1⟩|⟨J,n,rfl,n0,n1⟩|⟨rfl,a,n,rfl,a0,a1,n0,n1⟩|⟨rfl,b,rfl,U,I⟩|⟨J,a,b,rfl,a0,a1,U,I⟩
 .exact⟨by decide,qp (k:=0) (by decide) (by decide) rfl rfl⟩
 .have e:eG 1 [a,v]=134217728+a*16777216:=rfl;rw[e,R9 rfl];clear e;refine⟨by lia,qp (k:=1) (by lia) (by decide) ?_ rfl⟩
  show[(134217728+a*16777216) / 16777216 %8]=[a]
  rw[show(134217728+a*16777216) / 16777216 %8=a by lia]
 .have e:=Kq (a:=a) (b:=b) (c:=c) C o;rw[R6 (by lia)]
  refine⟨by rw[e];clear e;lia,qp (by rw[e];clear e;lia) (by lia) ?_ rfl⟩
  rw[KU k (by lia) C o,e]
  clear e;show[(k*134217728+a*16777216+b*2097152+c*262144) / 16777216 %8,(k*134217728+a*16777216+b*2097152+c*262144) / 2097152 %8,(k*134217728+a*16777216+b*2097152+c*262144) / 262144 %8]=[a,b,c]
  rw[show(k*134217728+a*16777216+b*2097152+c*262144) / 16777216 %8=a by lia,show(k*134217728+a*16777216+b*2097152+c*262144) / 2097152 %8=b by lia,show(k*134217728+a*16777216+b*2097152+c*262144) / 262144 %8=c by lia]
 .have e:=LK (a:=a) (b:=b) (n:=n) C o;rw[R6 (by lia)]
  refine⟨by rw[e];clear e;lia,qp (by rw[e];clear e;lia) (by lia) ?_ rfl⟩
  rw[Lv k (by lia) C o,e]
  clear e;generalize i:(k:Int)*134217728+a*16777216+b*2097152+n %262144=x;show[x / 16777216 %8,x / 2097152 %8,if x %262144<131072 then x %262144 else x %262144 - 262144]=[a,b,n]
  have d:(if x %262144<131072 then x %262144 else x %262144 - 262144)=n:=by split <;> lia
  rw[d,show x / 16777216 %8=a by lia,show x / 2097152 %8=b by lia]
 .have e:eG k [n]=k*134217728+n %262144:=by rcases J with rfl | rfl <;> rfl
  rw[R6 (by lia)]
  refine⟨by rw[e];clear e;lia,qp (by rw[e];clear e;lia) (by lia) ?_ rfl⟩
  have f:aM k=(["n"]:List Str):=by rcases J with rfl | rfl <;> rfl
  rw[f,e];clear e;show[(k*134217728+n %262144) %262144]=[n]
  rw[show(k*134217728+n %262144) %262144=n by lia]
 .have e:eG 14 [a,n]=14*134217728+a*16777216+n %262144:=rfl;rw[R6 (by lia)]
  refine⟨by rw[e];clear e;lia,qp (by rw[e];clear e;lia) (by lia) ?_ rfl⟩
  rw[e];clear e;show[(14*134217728+a*16777216+n %262144) / 16777216 %8,(14*134217728+a*16777216+n %262144) %262144]=[a,n]
  rw[show(14*134217728+a*16777216+n %262144) / 16777216 %8=a by lia,show(14*134217728+a*16777216+n %262144) %262144=n by lia]
 .have e:eG 15 [b]=15*134217728+b*2097152:=rfl;rw[R6 (by lia)]
  refine⟨by rw[e];clear e;lia,qp (by rw[e];clear e;lia) (by lia) ?_ rfl⟩
  rw[e];clear e;show[(15*134217728+b*2097152) / 2097152 %8]=[b]
  rw[show(15*134217728+b*2097152) / 2097152 %8=b by lia]
 .have e:=NW (k:=k) (a:=a) (b:=b) (by lia) (by lia)
  rw[R6 (by lia)]
  refine⟨by rw[e];clear e;lia,qp (by rw[e];clear e;lia) (by lia) ?_ rfl⟩
  rw[NI k (by lia) (by lia) (by lia),e]
  clear e;show[(k*134217728+a*16777216+b*2097152) / 16777216 %8,(k*134217728+a*16777216+b*2097152) / 2097152 %8]=[a,b]
  rw[show(k*134217728+a*16777216+b*2097152) / 16777216 %8=a by lia,show(k*134217728+a*16777216+b*2097152) / 2097152 %8=b by lia]
noncomputable def kS(k:Nat):Nat:=if k=1 then 2 else 1
noncomputable def bf(is:List (Nat × List Int)):List Int:=is.flatMap (fun o=>i9 o.1 o.2)
theorem Hh(k:Nat)(ns:List Int):(i9 k ns).length=kS k:=by
 unfold i9 kS
 split <;> rfl
theorem Jm{k:Nat}{ns:List Int}(h:aQ 8 262144 k ns):∀y∈i9 k ns,0<=y/\y<4294967296:=by
 have one:eG k ns<4294967296/\(k=1->0<=ns.getD 1 0/\ns.getD 1 0<4294967296):=by
  rcases h with⟨rfl,rfl⟩|⟨rfl,x,v,rfl,I,C,v0,v1⟩|⟨b,J,x,y,z,rfl,I,C,U,a,z0,z1⟩|⟨b,J,x,y,z,rfl,I,C,U,a,z0,z1⟩|⟨c,z,rfl,z0,z1⟩|⟨rfl,x,z,rfl,I,C,z0,z1⟩|⟨rfl,y,rfl,U,a⟩|⟨c,x,y,rfl,I,C,U,a⟩
  .exact⟨by decide,fun z=>by lia⟩
  .refine⟨?_,fun _=>⟨v0,v1⟩⟩
   have e:eG 1 [x,v]=134217728+x*16777216:=rfl;rw[e]
   lia
  .rw[Kq b J];exact⟨by lia,fun z=>by lia⟩
  .rw[LK b J];exact⟨by lia,fun z=>by lia⟩
  .rcases c with rfl | rfl
   .have e:eG 13 [z]=13*134217728+z %262144:=rfl;rw[e];exact⟨by lia,fun z=>by lia⟩
   .have e:eG 18 [z]=18*134217728+z %262144:=rfl;rw[e];exact⟨by lia,fun z=>by lia⟩
  .have e:eG 14 [x,z]=14*134217728+x*16777216+z %262144:=rfl;rw[e];exact⟨by lia,fun z=>by lia⟩
  .have e:eG 15 [y]=15*134217728+y*2097152:=rfl;rw[e];exact⟨by lia,fun z=>by lia⟩
  .rw[NW (by lia) (by lia)]
   exact⟨by lia,fun z=>by lia⟩
 have d:=(IN h).1;intro y o;unfold i9 at o
 split at o
 .rename_i k1
  simp only[Se,SS,Ue] at o
  rcases o with rfl | rfl
  .exact⟨d,one.1⟩
  .exact one.2 k1
 .simp only[Se,SS,Ue] at o
  subst o;exact⟨d,one.1⟩
noncomputable def w8:List SpM.Span:=List.replicate 8 SpM.whole
theorem N6:Sp8 w8:=⟨rfl,fun s hs=>by rw[Wa hs];exact SpM.Sv_whole⟩
structure Pn where
 pk:Nat
 pb:Int
 pm:Nat
 ps:Nat
 pg:Int
theorem SpT.wr{H:Hp}{a b:Addr}{c:List V}{o:HO}{sp:List SpM.Span}(I:H b=some (.lst c))(h:SpT K H a sp):SpT K (upd H b o) a sp:=by
 obtain⟨U,C,J⟩:=h;refine⟨U,?_,J.mono (fun d f e=>by rw[aj (fun z=>by rw[z,I] at e;cases e)];exact e)⟩
 unfold SqT at C ⊢;rcases C with C | C
 .refine .inl ?_
  rcases C with C | ⟨ob,C⟩
  .exact .inl (by rw[aj (fun z=>by rw[z,I] at C;cases C)];exact C)
  .exact .inr ⟨ob,by rw[aj (fun z=>by rw[z,I] at C;cases C)];exact C⟩
 .exact .inr C
abbrev Ins:=Nat × List Int
noncomputable def lnW(is:List Ins):Nat:=(is.map fun o=>kS o.1).sum
theorem jh(a b:List Ins):lnW (a++b)=lnW a+lnW b:=by unfold lnW;rw[R5,WG]
theorem fJ(a:Ins)(b:List Ins):lnW (a::b)=kS a.1+lnW b:=by unfold lnW;rw[Ss,TB]
theorem yy(a:Ins):lnW [a]=kS a.1:=by rw[fJ];rfl
theorem d8:∀is:List Ins,(bf is).length=lnW is
 | []=>rfl
 | kn::r=>by
  rw[fJ, <-d8 r, <-Hh kn.1 kn.2, <-RZ]
  rfl
theorem oM(a b:List Ins):bf (a++b)=bf a++bf b:=by unfold bf;rw[US]
theorem FS(a:Ins)(b:List Ins):bf (a::b)=i9 a.1 a.2++bf b:=rfl
theorem rS(k:Nat):1<=kS k/\kS k<=2:=by unfold kS;split <;> lia
theorem GZ:∀is:List Ins,is.length<=lnW is
 | []=>R3 _
 | kn::r=>by rw[fJ,R4];have:=GZ r;have:=rS kn.1;lia
theorem LH:∀is:List Ins,lnW is<=2*is.length
 | []=>R3 _
 | kn::r=>by rw[fJ,R4];have:=LH r;have:=rS kn.1;lia
theorem zU{is:List Ins}(h:∀o∈is,o.1≠1):lnW is=is.length:=by
 induction is with
 | nil=>rfl
 | cons o r ih=>
  rw[fJ,R4,ih (fun x C=>h x (R8 _ C))]
  have:kS o.1=1:=by unfold kS;rw[R6 (h o Sn)]
  lia
noncomputable def grp(o:Ins):List Ins:=
 if o.1=15 then[(17,[6,o.2.getD 0 0]),(15,[6])]
 else if o.1=11\/o.1=12 then
  if o.2.getD 2 0=0 then[(16,[6,o.2.getD 1 0]),(o.1,[o.2.getD 0 0,6,0])]
  else[(10,[6,o.2.getD 1 0,o.2.getD 2 0]),(16,[6,6]),(o.1,[o.2.getD 0 0,6,0])]
 else[o]
noncomputable def nop:Ins:=(10,[0,0,0])
noncomputable def A6(n:Nat):List Ins:=List.replicate ((8 - n %8) %8) nop
noncomputable def fW(is g:List Ins):List Ins:=if lnW is %8+lnW g<=8 then is else is++A6 (lnW is)
abbrev Bk:=List Ins × List Nat
noncomputable def OR(st:Bk)(g:List Ins):Bk:=(fW st.1 g++g,st.2++[lnW (fW st.1 g)])
noncomputable def dP(b:List Ins):Bk:=b.foldl (fun st o=>OR st (grp o)) ([],[])
theorem Lz(n:Nat):lnW (A6 n)=(8 - n %8) %8:=by
 unfold A6;rw[zU (fun C o=>by rw[(T8.mp o).2];decide),SO]
theorem Fu(m:Nat):lnW (List.replicate m nop)=m:=by
 rw[zU (is:=List.replicate m nop) (fun C o=>by rw[(T8.mp o).2];decide),SO]
theorem wL{b:List Ins}{j:Nat}{o:Ins}(h:b[j]? =some o):dP (b.take (j+1))=OR (dP (b.take j)) (grp o):=by
 unfold dP;rw[Us,h,UI]
 rfl
noncomputable def plc(n:Nat)(o:Ins):Ins:=if o.1=13 then(13,[o.2.getD 0 0*n]) else if o.1=14 then(14,[o.2.getD 0 0,o.2.getD 1 0*n]) else o
theorem J0(n:Nat)(o:Ins):(plc n o).1=o.1:=by
 unfold plc
 split
 .rename_i h;exact h.symm
 .split
  .rename_i h;exact h.symm
  .rfl
noncomputable def jY(n:Nat)(is:List Ins):List Ins:=is.map (plc n)++List.replicate (n - lnW is) (0,[])
noncomputable def vo(n tot:Nat)(bs:List Bk):List Ins:=bs.flatMap (fun b=>jY n b.1)++List.replicate (tot - bs.length*n) (0,[])
theorem yE(n:Nat):∀is:List Ins,lnW (is.map (plc n))=lnW is
 | []=>rfl
 | kn::r=>by rw[Ss,fJ,fJ,yE n r,J0]
theorem sf(n:Nat):lnW (List.replicate n ((0,[]):Ins))=n:=by
 rw[zU (fun C o=>by rw[(T8.mp o).2];decide),SO]
theorem Bm{n:Nat}{is:List Ins}(h:lnW is<=n):lnW (jY n is)=n:=by
 unfold jY;rw[jh,yE,sf]
 lia
theorem vC{n:Nat}:∀{bs:List Bk},(∀b∈bs,lnW b.1<=n)->lnW (bs.flatMap fun b=>jY n b.1)=bs.length*n
 | [],_=>by simp [lnW]
 | b::r,h=>by
  rw[List.flatMap_cons,jh,Bm (h b Sn),vC (fun x o=>h x (R8 _ o)),R4,Wv]
  lia
theorem Jx{n tot:Nat}{bs:List Bk}(h:∀b∈bs,lnW b.1<=n)(o:bs.length*n<=tot):lnW (vo n tot bs)=tot:=by
 unfold vo;rw[jh,vC h,sf]
 lia
theorem wR{J:Ins}(h:aQ 8 262144 J.1 J.2):∀g∈grp J,aQ 8 262144 g.1 g.2:=by
 obtain⟨k,U⟩:=J;dsimp only at h;intro g o;unfold grp at o;dsimp only at o
 split at o
 .rename_i k15
  subst k15;obtain⟨b,rfl,I,C⟩:∃b,U=[b]/\0<=b/\b<8:=aQ.thr h (by first | rfl | assumption)
  simp only[Se,SS,Ue] at o
  rcases o with rfl | rfl
  .exact .inr (.inr (.inr (.inr (.inr (.inr (.inr ⟨.inr rfl,6,b,rfl,by decide,by decide,I,C⟩))))))
  .exact .inr (.inr (.inr (.inr (.inr (.inr (.inl ⟨rfl,6,rfl,by decide,by decide⟩))))))
 .split at o
  .rename_i hk
   obtain⟨a,b,n,rfl,a0,a1,I,C,n0,n1⟩:∃a b n,U=[a,b,n]/\0<=a/\a<8/\0<=b/\b<8/\ -131072<=n/\n<131072:=aQ.acc h (by first | assumption | lia)
   split at o
   .simp only[Se,SS,Ue] at o
    rcases o with rfl | rfl
    .exact .inr (.inr (.inr (.inr (.inr (.inr (.inr ⟨.inl rfl,6,b,rfl,by decide,by decide,I,C⟩))))))
    .exact .inr (.inr (.inr (.inl ⟨by show 10<=k;lia,by show k<=12;lia,a,6,0,rfl,a0,a1,by decide,by decide,by decide,by decide⟩)))
   .simp only[Se,SS,Ue] at o
    rcases o with rfl | rfl | rfl
    .exact .inr (.inr (.inr (.inl ⟨by show 10<=10;decide,by show 10<=12;decide,6,b,n,rfl,by decide,by decide,I,C,n0,n1⟩)))
    .exact .inr (.inr (.inr (.inr (.inr (.inr (.inr ⟨.inl rfl,6,6,rfl,by decide,by decide,by decide,by decide⟩))))))
    .exact .inr (.inr (.inr (.inl ⟨by show 10<=k;lia,by show k<=12;lia,a,6,0,rfl,a0,a1,by decide,by decide,by decide,by decide⟩)))
  .rw[SN.mp o];exact h
theorem Cn(o:Ins):1<=lnW (grp o)/\lnW (grp o)<=3:=by
 unfold grp
 split
 .simp only[fJ]
  exact⟨by show 1<=1+(1+0);decide,by show 1+(1+0)<=3;decide⟩
 .split
  .rename_i h
   have e:kS o.1=1:=by unfold kS;rw[R6 (by lia)]
   split
   .simp only[fJ,e];exact⟨by show 1<=1+(1+0);decide,by show 1+(1+0)<=3;decide⟩
   .simp only[fJ,e];exact⟨by show 1<=1+(1+(1+0));decide,by show 1+(1+(1+0))<=3;decide⟩
  .rw[yy];have:=rS o.1
   lia
theorem HL(o:Ins):(grp o).length<=3:=by
 unfold grp
 split
 .simp
 .split
  .split <;> simp
  .simp
theorem A2:aQ 8 262144 nop.1 nop.2:= .inr (.inr (.inr (.inl ⟨by decide,by decide,0,0,0,rfl,by decide,by decide,by decide,by decide,by decide,by decide⟩)))
theorem DF(is g:List Ins):lnW is<=lnW (fW is g)/\(lnW (fW is g)=lnW is\/(8<lnW is %8+lnW g/\lnW (fW is g)=lnW is+(8 - lnW is %8) %8)):=by
 unfold fW
 split
 .exact⟨R3 _,.inl rfl⟩
 .rw[jh,Lz];exact⟨by lia,.inr ⟨by lia,rfl⟩⟩
theorem wN(b:List Ins):∀j,j<=b.length->lnW (dP (b.take j)).1<=if j %2=0 then 4*j else 4*(j - 1)+3
 | 0,_=>by simp [dP,lnW]
 | j+1,h=>by
  have ih:=wN b j (by lia)
  have e:b[j]? =some b[j]:=R1 (by lia)
  rw[wL e];show lnW (fW _ _++grp b[j])<=_
  rw[jh];have C:=(DF (dP (b.take j)).1 (grp b[j])).2;have o:=Cn b[j];generalize lnW (fW (dP (b.take j)).1 (grp b[j]))=x at*;generalize lnW (dP (b.take j)).1=y at*
  by_cases c:j %2=0
  .rw[R9 c] at ih;rw[R6 (by lia)]
   lia
  .rw[R6 c] at ih;rw[R9 (by lia)]
   lia
theorem Mq(b:List Ins):lnW (dP b).1<=4*b.length+3:=by
 have:=wN b b.length (R3 _);rw[Sl] at this
 split at this <;> lia
theorem C4(b:List Ins):∀j,j<=b.length->(dP (b.take j)).2.length=j
 | 0,_=>by simp [dP]
 | j+1,h=>by
  have e:b[j]? =some b[j]:=R1 (by lia)
  rw[wL e];show((dP (b.take j)).2++[_]).length=_
  rw[RZ,C4 b j (by lia)]
  rfl
def gf(K:Frag)(H:Hp):List Addr->List Ins->Prop
 | [],[]=>True
 | t::ts,kn::is=>SqT K H t (aO kn.1 kn.2)/\gf K H ts is
 | _,_=>False
theorem gf.mono{K:Frag}{H o:Hp}(f:∀t xs,SqT K H t xs->SqT K o t xs):∀{C:List Addr}{is:List Ins},gf K H C is->gf K o C is
 | [],[],_=>True.intro
 | _::_,_::_,h=>⟨f _ _ h.1,gf.mono f h.2⟩
 | [],_::_,h=>h.elim
 | _::_,[],h=>h.elim
theorem gf.same{K:Frag}{H o:Hp}(s:aA H o){C:List Addr}{is:List Ins}(h:gf K H C is):gf K o C is:=h.mono fun _ _ z=>s.tup z
theorem gf.len{K:Frag}{H:Hp}:∀{o:List Addr}{is:List Ins},gf K H o is->o.length=is.length
 | [],[],_=>rfl
 | _::_,_::_,h=>congrArg (· +1) (gf.len h.2)
 | [],_::_,h=>h.elim
 | _::_,[],h=>h.elim
theorem gf.app{K:Frag}{H:Hp}{us:List Addr}{C:List Ins}(o:gf K H us C):∀{I:List Addr}{is:List Ins},gf K H I is->gf K H (I++us) (is++C)
 | [],[],_=>o
 | _::_,_::_,h=>⟨h.1,gf.app o h.2⟩
 | [],_::_,h=>h.elim
 | _::_,[],h=>h.elim
theorem gf.get{K:Frag}{H:Hp}:∀{C:List Addr}{is:List Ins}{j:Nat}{t:Addr},gf K H C is->C[j]? =some t->∃o,is[j]? =some o/\SqT K H t (aO o.1 o.2)
 | _::_,o::_,0,_,h,e=>by cases e;exact⟨o,rfl,h.1⟩
 | _::_,_::_,j+1,_,h,e=>gf.get (j:=j) h.2 e
 | [],[],_,_,_,e=>by simp at e
 | [],_::_,_,_,h,_=>h.elim
 | _::_,[],_,_,h,_=>h.elim
theorem aQ.lt19{bx o:Int}{k:Nat}{ns:List Int}(h:aQ bx o k ns):k<19:=h.lt
theorem aQ.put2{bx o:Int}{k:Nat}{ns:List Int}(h:aQ bx o k ns)(k1:k=1):2<=ns.length:=by
 obtain⟨a,v,rfl,_⟩:=h.put k1;exact R3 _
abbrev VI(o:Ins):Prop:=aQ 8 262144 o.1 o.2
noncomputable abbrev lfs(i b:Addr)(n:Int):List (Str × V):=[("instructions",.ref i),("begins",.ref b),("length",.int n)]
noncomputable abbrev vn(n:Nat):V:= .int (n:Int)
def B3(x i b:Addr)(H C:Hp):Prop:=∀a o,a≠x->a≠i->a≠b->H a=some o->C a=some o
theorem B3.refl{x i b:Addr}(H:Hp):B3 x i b H H:=fun _ _ _ _ _ h=>h
theorem B3.trans{x i b:Addr}{H c J:Hp}(p:B3 x i b H c)(q:B3 x i b c J):B3 x i b H J:=fun a o U C I h=>q a o U C I (p a o U C I h)
theorem B3.of{x i b:Addr}{H C:Hp}(s:aA H C):B3 x i b H C:=fun a o _ _ _ h=>s a o h
theorem B3.ux{x i b:Addr}{H I:Hp}{o:HO}(p:B3 x i b H I):B3 x i b H (upd I x o):=fun a u C J U h=>by rw[aj C];exact p a u C J U h
theorem B3.ui{x i b:Addr}{H I:Hp}{o:HO}(p:B3 x i b H I):B3 x i b H (upd I i o):=fun a u U C J h=>by rw[aj C];exact p a u U C J h
theorem B3.ub{x i b:Addr}{H I:Hp}{o:HO}(p:B3 x i b H I):B3 x i b H (upd I b o):=fun a u U J C h=>by rw[aj C];exact p a u U J C h
theorem B3.same{x i b:Addr}{H I C:Hp}(s:aA H I)(J:H x=none)(U:H i=none)(c:H b=none)(p:B3 x i b I C):aA H C:=fun a o h=>
 p a o (aq h J) (aq h U) (aq h c) (s a o h)
structure a9 (K:Frag) (C:Addr) (H:Hp) (x dx i b:Addr) (js:List Addr) (is:List Ins) (bs:List Nat):Prop where
 at_:H x=some (.ins C dx (lfs i b (lnW is:Nat)))
 li:H i=some (.lst (js.map V.ref))
 lb:H b=some (.lst (bs.map vn))
 ib:i≠b
 ow:gf K H js is
 va:∀kn∈is,VI kn
theorem a9.xi{K:Frag}{C:Addr}{H:Hp}{x o i b:Addr}{I:List Addr}{is:List Ins}{bs:List Nat}(l:a9 K C H x o i b I is bs):x≠i:=dj l.at_ l.li (by intro z;cases z)
theorem a9.xb{K:Frag}{C:Addr}{H:Hp}{x o i b:Addr}{I:List Addr}{is:List Ins}{bs:List Nat}(l:a9 K C H x o i b I is bs):x≠b:=dj l.at_ l.lb (by intro z;cases z)
theorem a9.same{K:Frag}{C:Addr}{H o:Hp}{x I i b:Addr}{J:List Addr}{is:List Ins}{bs:List Nat}(s:aA H o)(l:a9 K C H x I i b J is bs):a9 K C o x I i b J is bs:=
 ⟨s _ _ l.at_,s _ _ l.li,s _ _ l.lb,l.ib,l.ow.same s,l.va⟩
theorem B3.tup{K:Frag}{C:Addr}{H I:Hp}{x J i b t:Addr}{U:List Addr}{is:List Ins}{bs:List Nat}{xs:List V}(l:a9 K C H x J i b U is bs)(p:B3 x i b H I)(h:SqT K H t xs):SqT K I t xs:=by
 rcases h with(h | ⟨o,h⟩) | h
 .exact .inl (.inl (p _ _ (dj h l.at_ (by intro z;cases z)) (dj h l.li (by intro z;cases z)) (dj h l.lb (by intro z;cases z)) h))
 .exact .inl (.inr ⟨o,p _ _ (dj h l.at_ (by intro z;cases z)) (dj h l.li (by intro z;cases z)) (dj h l.lb (by intro z;cases z)) h⟩)
 .exact .inr h
theorem gf.b3{K:Frag}{C:Addr}{H o:Hp}{x U i b:Addr}{a J:List Addr}{is I:List Ins}{bs:List Nat}(l:a9 K C H x U i b a is bs)(p:B3 x i b H o)(h:gf K H J I):gf K o J I:=h.mono fun _ _ z=>p.tup l z
def Df(K:Frag)(C:Addr):Sp:=fun vs H Q _=>∃(o:Hp) (x J:Addr),vs=[.ref x]/\H x=some (.ins C J [])/\o x=none/\aA o H/\
 ∀I i b,o i=none->o b=none->aA o I->a9 K C I x J i b [] [] []->Q .non I
def Kf(K:Frag)(C:Addr):Sp:=fun vs H Q _=>∃(x I i b:Addr) (J:List Addr) (o:List Ins) (bs:List Nat),vs=[.ref x]/\a9 K C H x I i b J o bs/\Q (.bl (decide (lnW o %8=0))) H
def C0(K:Frag)(C:Addr):Sp:=fun vs H Q _=>∃(x a i b g:Addr) (d U:List Addr) (I o:List Ins) (bs:List Nat),vs=[.ref x,.ref g]/\a9 K C H x a i b d I bs/\SqT K H g (U.map V.ref)/\gf K H U o/\(∀c∈o,VI c)/\o.length<=100/\
 ∀J,aA H J->Q (.bl (decide (lnW I %8+lnW o<=8))) J
def GK(K:Frag)(C:Addr):Sp:=fun vs H Q _=>∃(x U i b t:Addr) (a:List Addr) (I:List Ins) (o:Ins) (bs:List Nat),vs=[.ref x,.ref t]/\a9 K C H x U i b a I bs/\SqT K H t (aO o.1 o.2)/\VI o/\I.length<1000/\
 ∀J,B3 x i b H J->a9 K C J x U i b (a++[t]) (I++[o]) bs->Q .non J
def Dw(K:Frag)(C:Addr):Sp:=fun vs H Q _=>∃(x a i b g:Addr) (c U:List Addr) (o I:List Ins) (bs:List Nat),vs=[.ref x,.ref g]/\a9 K C H x a i b c o bs/\SqT K H g (U.map V.ref)/\gf K H U I/\(∀d∈I,VI d)/\o.length+I.length<=1000/\bs.length<1000/\
 ∀J,B3 x i b H J->a9 K C J x a i b (c++U) (o++I) (bs++[lnW o])->Q .non J
def GJ(K:Frag)(C:Addr):Sp:=fun vs H Q _=>∃(x U i b:Addr) (a:List Addr) (o:List Ins) (bs:List Nat),vs=[.ref x]/\a9 K C H x U i b a o bs/\o.length<=900/\
 ∀(I:Hp) (J:List Addr),B3 x i b H I->a9 K C I x U i b J (o++A6 (lnW o)) bs->Q .non I
theorem kO{C:Addr}(B:Bi mg)(c:eV K mg "LaidBlock" C)(n:cz K C)(D:dz K C):cV P w K mg base 1 C "is_at_bundle" fw (Kf K C):=by
 refine D.has c.cl kR (by intro _ _ _ _;walk_at"ln") (fun f U A I s H vs Q E d h=> ?_)
 obtain⟨x,j,i,b,a,o,bs,rfl,l,q⟩:=h;have k:=c.cl;have n3:=n.length;have J:=l.at_;refine⟨_,(ad (ah (pcE aK (ax eU (ce (pv 0) (by rfl)) ac) ac))),?_⟩
 walk_at"k";have e:decide (V.int ((lnW o:Int) %8)=V.int 0)=decide (lnW o %8=0):=UR.mpr ⟨fun h=>by injection h with h;lia,fun h=>by rw[show(lnW o:Int) %8=0 by lia]⟩
 rw[e];exact q
theorem vh{C:Addr}(B:Bi mg)(c:eV K mg "LaidBlock" C)(n:cz K C)(D:iP K C)(O:Has P w K mg base 1 "length_of" cI (II K)):cV P w K mg base 2 C "take" dC (GK K C):=by
 refine D.has c.cl uZ (by intro _ _ _ _;walk_at"ln") (fun f F A d s H vs Q E L h=> ?_)
 obtain⟨x,y,i,b,t,a,I,⟨k,p⟩,bs,rfl,l,r,v,z,q⟩:=h;have N:k<19:=v.lt19;have T:=c.cl;have n1:=n.instructions;have n3:=n.length;have U:=l.at_;have j:=l.li;have R:(a.map V.ref).length<sizeLine:=by rw[be,l.ow.len];exact Sb z (by decide)
 have M:tyV K "list" (.ref i) H:= .inl ⟨rfl,_,SqL.of j⟩;have J:B3 x i b H (upd H i (.lst (a.map V.ref++[V.ref t]))):=(B3.refl H).ui;have G:=J.tup l r;have m:upd H i (.lst (a.map V.ref++[V.ref t])) x=some (.ins C y (lfs i b (lnW I:Nat))):=by rw[aj l.xi];exact U
 refine⟨_,(aa (bj (bU Sr SL SM da (ce (pv 0) (by rfl)) (pa1 (pv 1))))
   (ad (cG (pv 0) (ax aZ (ce (pv 0) (by rfl)) (pcH O L (pa1 (pv 1)))) (by rfl)))),?_⟩
 walk_at"k";have e:((lnW I:Int)+(if k=1 then 2 else 1))=(lnW (I++[(k,p)]):Nat):=by rw[jh,yy];unfold kS;split <;> lia
 refine q _ J.ux ⟨?_,?_,?_,l.ib,?_,fun u o=> ?_⟩
 .rw[ae];show some (HO.ins C y (lfs i b ((lnW I:Int)+(if k=1 then 2 else 1))))=_
  rw[e]
 .rw[aj (SD l.xi),ae,R5]
  rfl
 .rw[aj (SD l.xb),aj (SD l.ib)];exact l.lb
 .exact(show gf K _ [t] [(k,p)] from⟨J.ux.tup l r,True.intro⟩).app (l.ow.b3 l J.ux)
 .rcases SR.mp o with o | o
  .exact l.va u o
  .rw[SN.mp o];exact v
theorem bZ{H C:Hp}{p:Addr}{o:HO}(I:H p=none)(s:aA H C):aA H (upd C p o):=fun a u h=>by rw[aj (aq h I)];exact s a u h
theorem gq{o:Type}{l:List o}{j:Nat}{t:o}(h:l[j]? =some t):l.take (j+1)=l.take j++[t]:=by rw[Us,h];rfl
theorem pi{C:Addr}(B:Bi mg)(c:eV K mg "LaidBlock" C)(n:cz K C)(D:fF K C):cV P w K mg base 1 C "__init__" fw (Df K C):=by
 refine D.has c.cl pC (by intro _ _ _ _;walk_at"ln") (fun f p A e s H vs Q E F h=> ?_)
 obtain⟨y,x,k,rfl,l,r,j,q⟩:=h;have G:=c.cl;have n1:=n.instructions;have n2:=n.begins;have n3:=n.length
 refine⟨_,(aa (cG (pv 0) (a8 dJ) (by rfl))
   (aa (cG (pv 0) (a8 dJ) (by rfl))
   (ad (cG (pv 0) ac (by rfl))))),?_⟩
 walk_at"k";intro i d;have xi:x≠i:=aq l d;have u:upd H i (.lst []) x=some (.ins C k []):=by rw[aj xi];exact l
 walk_at"g";intro b I;have J:b≠x:=fun z=>by rw[z,ae] at I;cases I
 rw[aj J] at I;have U:b≠i:=fun z=>by rw[z,ae] at I;cases I
 rw[aj U] at I;have v:upd (upd (upd H i (.lst [])) x (.ins C k (bP "instructions" (.ref i) []))) b (.lst []) x=some (.ins C k [("instructions",.ref i)]):=by
  rw[aj (SD J),ae]
  rfl
 walk_at"g";refine q _ i b (j.free d) (j.free I) (fun a o h=> ?_) ⟨?_,?_,?_,SD U,True.intro,fun t m=>by cases m⟩
 .have h1:=j a o h;have a1:=aq h r;rw[aj a1,aj a1,aj (aq h1 I),aj a1,aj (aq h1 d)];exact h1
 .rw[ae]
  rfl
 .rw[aj (SD xi),aj (SD xi),aj (SD U),aj (SD xi),ae]
  rfl
 .rw[aj J,aj J,ae]
  rfl
theorem nC{C:Addr}(B:Bi mg)(c:eV K mg "LaidBlock" C)(n:cz K C)(D:dY K C)(cU:cV P w K mg base 2 C "take" dC (GK K C)):
  cV P w K mg base 3 C "take_group" oS (Dw K C):=by
 refine D.has c.cl gZ (by intro _ _ _ _;walk_at"ln") (fun f ar A m s H vs Q E hr h=> ?_)
 obtain⟨x,O,i,b,g,L,F,o,r,bs,rfl,l,R,I,z,hl,d,q⟩:=h;have hc:=c.cl;have n2:=n.begins;have n3:=n.length;have Y:=l.at_;have a:=l.lb;have hz:(bs.map vn).length<sizeLine:=by rw[be];exact Sb d (by decide)
 have au:tyV K "list" (.ref b) H:= .inl ⟨rfl,_,SqL.of a⟩;have U:B3 x i b H (upd H b (.lst (bs.map vn++[V.int (lnW o:Nat)]))):=(B3.refl H).ub;have l1:a9 K C (upd H b (.lst (bs.map vn++[V.int (lnW o:Nat)]))) x O i b L o (bs++[lnW o]):=by
  refine⟨?_,?_,?_,l.ib,l.ow.b3 l U,l.va⟩
  .rw[aj l.xb];exact l.at_
  .rw[aj l.ib];exact l.li
  .rw[ae,R5];rfl
 have e:=U.tup l R;have k:=I.b3 l U
 refine⟨_,(aa (bj (bU Sr SL SM da (ce (pv 0) (by rfl)) (pa1 (ce (pv 0) (by rfl)))))
   (ad (cv Sw (by rfl) (bY (oN (pv 1))) (aJ (i:=2) gZ.nd (by rfl) (by left;rfl)) (ad (bj (dq (cU.mono (by omega)) hr (pv 0) (pa1 (pv 2)))))))),?_⟩
 walk_at"k";generalize upd H b (.lst (bs.map vn++[V.int (lnW o:Nat)]))=H1 at*;refine⟨yA (xs:=F.map V.ref) (fun j Z J=>∃y,Z=[some (.ref x),some (.ref g),y]/\aD (B3 x i b H1 J)/\a9 K C J x O i b (L++F.take j) (o++r.take j) (bs++[lnW o])) ⟨_,rfl,⟨B3.refl _⟩,by simpa using l1⟩ ?_ ?_ ?_⟩
 .rintro j Z J _ ⟨y,rfl,⟨p⟩,_⟩
  exact p.tup l1 e
 .rintro j u Z J hj ⟨y,rfl,⟨p⟩,l2⟩
  obtain⟨t,G,rfl⟩:=dX hj;obtain⟨kn,v,W⟩:=k.get G;have aw:=p.tup l1 W;have X:=z kn (Sa v);have ab:j<r.length:=(RX.mp v).1;have N:(o++r.take j).length<1000:=by rw[RZ,Sg];lia
  have M:=l2.at_;walk_at"g";intro H3 T l3;refine⟨_,rfl,⟨p.trans T⟩,?_⟩
  rw[SQ,SQ, <-gq G, <-gq v] at l3;exact l3
 .rintro Z J ⟨y,rfl,⟨p⟩,l2⟩
  rw[be,Sl,I.len,Sl] at l2;exact q _ (U.trans p) l2
theorem IS{is:List Ins}{m:Nat}(h:lnW (is++List.replicate m nop) %8≠0)(hm:m<=(8 - lnW is %8) %8):m+1<=(8 - lnW is %8) %8:=by
 rw[jh,Fu] at h
 lia
theorem Kw{is:List Ins}{m:Nat}(h:lnW (is++List.replicate m nop) %8=0)(hm:m<=(8 - lnW is %8) %8):m=(8 - lnW is %8) %8:=by
 rw[jh,Fu] at h
 lia
theorem mE{C:Addr}(B:Bi mg)(c:eV K mg "LaidBlock" C)(n:cz K C)(D:dO K C)(L:cV P w K mg base 2 C "take" dC (GK K C))
  (M:cV P w K mg base 1 C "is_at_bundle" fw (Kf K C)):cV P w K mg base 3 C "fill_bundle" fw (GJ K C):=by
 refine D.has c.cl lU (by intro _ _ _ _;walk_at"ln") (fun f F A d s H vs Q E r h=> ?_)
 obtain⟨x,N,i,b,G,I,bs,rfl,l,O,q⟩:=h;refine⟨_,(ad (aP (qG Sw (ff (bN (mP (M.mono (by omega)) r (pv 0)))) (ad (bj (dq (L.mono (by omega)) r (pv 0) (pa1 (az (aU (by rfl)))))))))),?_⟩
 try dsimp only[oJ]
 refine⟨?_⟩
 refine⟨fun m Z U=>Z=[some (.ref x)]/\aD (B3 x i b H U)/\∃(o:List Addr) (e:Nat),e<=(8 - lnW I %8) %8/\a9 K C U x N i b o (I++List.replicate e nop) bs/\m=(8 - lnW I %8) %8 - e,⟨_,rfl,⟨B3.refl _⟩,G,0,SK _,by simpa using l,rfl⟩,?_⟩
 rintro m Z U ⟨rfl,⟨p⟩,o,e,he,J,rfl⟩
 have y:=J.at_;walk_at"g"
 by_cases c0:lnW (I++List.replicate e nop) %8=0
 .refine KE c0 ?_
  have a:=Kw c0 he;rw[a] at J;exact q _ o p J
 .rw[RW c0];have a:=IS c0 he;refine D3 ⟨_,fun _ _ z=>z,?_⟩
  walk_at"g";intro t j;have R:SqT K (upd U t (.tup [.str "more",.int 0,.int 0,.int 0])) t (aO nop.1 nop.2):=SqT.of ae;have l2:=J.same (ag j (.tup [.str "more",.int 0,.int 0,.int 0]));have k:=l2.at_;have W:=A2;have u:(I++List.replicate e nop).length<1000:=by rw[RZ,SO];lia
  walk_at"g";intro T v l3;rw[SQ, <-List.replicate_succ'] at l3;exact⟨_,by lia,rfl,⟨(p.trans (B3.of (ag j _))).trans v⟩,o++[t],e+1,a,l3,rfl⟩
theorem Fz(o:List Ins):(o.map fun C=>((kS C.1:Nat):Int)).sum=(lnW o:Nat):=by
 induction o with
 | nil=>rfl
 | cons C r ih=>rw[Ss,TB,ih,fJ];lia
theorem oj{C:Addr}(B:Bi mg)(c:eV K mg "LaidBlock" C)(n:cz K C)(D:fh K C)(bw:Has P w K mg base 1 "length_of" cI (II K)):
  cV P w K mg base 2 C "has_space" oS (C0 K C):=by
 refine D.has c.cl nW (by intro _ _ _ _;walk_at"ln") (fun f W A r s H vs Q E Y h=> ?_)
 obtain⟨x,dx,i,b,g,js,M,m,o,bs,rfl,l,G,U,y,hl,q⟩:=h;have hc:=c.cl;have n3:=n.length;have O:=l.at_;refine⟨_,(ad (ah (pcE oR (ax aZ (ax eU (ce (pv 0) (by rfl)) ac) (aI (KP (by rfl)) (by rfl) B.sum Pi (pa1 (ly (by rfl) (by rfl) (by rfl) (bk (sc0:=af cY) (N0:=["self","group"]) ["instruction"] 1 []) (oN (pv 1)) (fun _ _ _ _=>(aJ (i:=0) (show List.Nodup (["instruction"]:List Str) by decide) (by rfl) (by left;rfl))) (fun _ _ _ _=>(pcH bw Y (pa1 (pv 0)))))))) ac))),?_⟩
 walk_at"k";intro p z;refine qV (xs:=M.map V.ref) (fun j a I=>aD (aA H I)/\I p=some (.lst a)/\a=((o.take j).map fun J=>((kS J.1:Nat):Int)).map V.int) ⟨⟨ag z _⟩,ae,rfl⟩ ?_ ?_ ?_
 .rintro j a I ⟨⟨s1⟩,_⟩
  exact s1.tup G
 .rintro j u a I F hF d ⟨⟨s1⟩,hp1,rfl⟩
  obtain⟨t,R,rfl⟩:=dX d;obtain⟨⟨k,ns⟩,v,L⟩:=U.get R;have X:=s1.tup L;have Z:k<19:=(y _ (Sa v)).lt19;have T:=(RX.mp v).1;have hz:(((o.take j).map fun J=>((kS J.1:Nat):Int)).map V.int).length<sizeLine:=by
   rw[be,be,Sg];exact Sb (show min j o.length<100 by lia) (by decide)
  walk_at"g";refine hF _ _ ⟨⟨bZ z s1⟩,ae,?_⟩
  rw[gq v,R5,R5];show _++[V.int (if k=1 then 2 else 1)]=_++[V.int ((kS k:Nat):Int)]
  unfold kS
  split <;> rfl
 .rintro a I ⟨⟨s1⟩,hp1,rfl⟩
  rw[be,U.len,Sl] at hp1;have N:SqL K I p ((o.map fun J=>((kS J.1:Nat):Int)).map V.int):=SqL.of hp1
  refine⟨p,_,rfl,N,fun j d=> ?_,?_⟩
  .rw[be] at d;rw[<- Uj,Fz];have h1:(o.map fun J=>((kS J.1:Nat):Int)).getD j 0=((kS o[j].1:Nat):Int):=by
    rw[Sz,Sx,R1 d]
    rfl
   rw[h1];have h2:=rS o[j].1;have h3:=LH (o.take (j+1));rw[Sg] at h3;unfold InLong
   lia
  rw[Fz];walk_at"g";have e:decide ((lnW m:Int) %8+(lnW o:Nat)<=8)=decide (lnW m %8+lnW o<=8):=UR.mpr (by lia)
  show Q (V.bl (decide ((lnW m:Int) %8+(lnW o:Nat)<=8))) I
  rw[e];exact q _ s1
theorem Bj:∀k,k<19->(V.str (aV k)=V.str "load"↔k=11):=by decide +kernel
theorem zL:∀k,k<19->(V.str (aV k)=V.str "store"↔k=12):=by decide +kernel
theorem Cs:∀k,k<19->(V.str (aV k)=V.str "through"↔k=15):=by decide +kernel
theorem Iv:∀k,k<19->(V.str (aV k)=V.str "jump"↔k=13):=by decide +kernel
theorem EL:∀k,k<19->(V.str (aV k)=V.str "jumpif"↔k=14):=by decide +kernel
def J3(K:Frag):Sp:=fun vs H Q _=>∃(t:Addr) (k:Nat) (o:List Int),vs=[.ref t]/\k<19/\SqT K H t (aO k o)/\Q (.bl (decide (k=11\/k=12))) H
def K6(K:Frag):Sp:=fun vs H Q _=>∃(t:Addr) (k:Nat) (a:Int) (o:List Int),vs=[.ref t]/\SqT K H t (aO k (a::o))/\∀p,H p=none->Q (.ref p) (upd H p (.tup (aO k [a,6,0])))
def OO(K:Frag):Sp:=fun vs H Q _=>∃(t:Addr) (C:Ins),vs=[.ref t]/\SqT K H t (aO C.1 C.2)/\VI C/\
 ∀(g:Addr) (I:List Addr) (o:Hp),aA H o->SqT K o g (I.map V.ref)->gf K o I (grp C)->Q (.ref g) o
theorem CW(B:Bi mg)(D:xx K mg):Has P w K mg base 1 "is_access" cI (J3 K):=by
 refine D.has Dn (by intro _ _ _ _;walk_at"ln") (fun f I A o s H vs Q E a h=> ?_)
 obtain⟨t,k,J,rfl,C,U,q⟩:=h;have b:atI (aO k J) 0=some (.str (aV k)):=nj;refine⟨_,((ad (ah (Bg (pcE aK (pX ay (pv 0) ac) av) (gg (pcE aK (pX ay (pv 0) ac) av))))):PSs (eE CX0 P w K mg base ["instruction"] "is_access" (af lC) f I A o s H E).nox (_::_) _),?_⟩
 walk_at"k";refine bO (fun c=> ?_) (fun c=> ?_)
 .rw[R0 (show k=11\/k=12 from .inl ((Bj k C).mp c))] at q;exact q
 walk_at"g";have e:decide (V.str (aV k)=V.str "store")=decide (k=11\/k=12):=UR.mpr ⟨fun z=> .inr ((zL k C).mp z),fun z=>z.elim (fun z=>absurd ((Bj k C).mpr z) c) (fun z=>(zL k C).mpr z)⟩
 rw[e];exact q
theorem u6(B:Bi mg)(D:mV K mg):Has P w K mg base 1 "access_by_mask" cI (K6 K):=by
 refine D.has uW (by intro _ _ _ _;walk_at"ln") (fun f C A o s H vs Q E b h=> ?_)
 obtain⟨t,k,a,I,rfl,J,q⟩:=h;have c:atI (aO k (a::I)) 0=some (.str (aV k)):=nj;have U:atI (aO k (a::I)) 1=some (.int a):=LG;refine⟨_,((ad (ah (az (pa4 (pX ay (pv 0) ac) (pX ay (pv 0) ac) ac ac)))):PSs (eE CX0 P w K mg base ["instruction"] "access_by_mask" (af fP) f C A o s H E).nox (_::_) _),?_⟩
 walk_at"k";exact q
theorem xP(B:Bi mg)(D:qr K mg)(N:Has P w K mg base 1 "is_access" cI (J3 K))(v:Has P w K mg base 1 "access_by_mask" cI (K6 K)):
  Has P w K mg base 2 "masked_group" cI (OO K):=by
 refine D.has bI (by intro _ _ _ _;walk_at"ln") (fun f p A o s H vs Q E i h=> ?_)
 obtain⟨t,⟨k,R⟩,rfl,y,O,q⟩:=h;dsimp only at y
 by_cases r:k=15
 .obtain⟨b,rfl,b0,b1⟩:=O.thr r;subst r;have W:atI (aO 15 [b]) 0=some (.str "through"):=rfl;have i1:atI (aO 15 [b]) 1=some (.int b):=rfl
  refine⟨_,((aa (aC (pcT aK (pX ay (pv 0) ac) av) (ad (ah (az (pa2 (az (pa3 av ac (pX ay (pv 0) ac))) (az (aU (by rfl))))))) ao)
   (aa (aC (ff (bN (pcH N i (pa1 (pv 0))))) (ad (ah (az (pa1 (pv 0))))) ao)
   (aa (psS 1 bI.nd (pX ay (pv 0) ac))
   (aa (psS 2 bI.nd (pX ay (pv 0) ac))
   (aa (aC (pcT aK (pv 2) ac) (ad (ah (az (pa2 (az (pa3 av ac (pv 1))) (pcH v i (pa1 (pv 0))))))) ao)
   (ad (ah (az (pa3 (az (pa4 av ac (pv 1) (pv 2))) (az (aU (by rfl))) (pcH v i (pa1 (pv 0)))))))))))):PSs (eE CX0 P w K mg base ["instruction","b","n"] "masked_group" (af cX) f p A o s H E).nox (_::_) _),?_⟩
  walk_at"k";intro I d;walk_at"g";intro J j;walk_at"g";intro g e;have m:=ag d (.tup [.str "aim",.int 6,.int b]);have U:=ag j (.tup [.str "through",.int 6]);have C:=ag e (.tup [.ref I,.ref J]);exact q g [I,J] _ ((m.trans U).trans C) (SqT.of ae) ⟨C.tup (U.tup (SqT.of ae)),C.tup (SqT.of ae),True.intro⟩
 by_cases F:k=11
 .obtain⟨a,b,n,rfl,a0,a1,b0,b1,n0,n1⟩:=O.acc (.inl F);subst F;have W:atI (aO 11 [a,b,n]) 0=some (.str "load"):=rfl;have Y:atI (aO 11 [a,b,n]) 2=some (.int b):=rfl;have Z:atI (aO 11 [a,b,n]) 3=some (.int n):=rfl;have x:11<19:=by decide
  refine⟨_,((aa (aC (pcT aK (pX ay (pv 0) ac) av) (ad (ah (az (pa2 (az (pa3 av ac (pX ay (pv 0) ac))) (az (aU (by rfl))))))) ao)
   (aa (aC (ff (bN (pcH N i (pa1 (pv 0))))) (ad (ah (az (pa1 (pv 0))))) ao)
   (aa (psS 1 bI.nd (pX ay (pv 0) ac))
   (aa (psS 2 bI.nd (pX ay (pv 0) ac))
   (aa (aC (pcT aK (pv 2) ac) (ad (ah (az (pa2 (az (pa3 av ac (pv 1))) (pcH v i (pa1 (pv 0))))))) ao)
   (ad (ah (az (pa3 (az (pa4 av ac (pv 1) (pv 2))) (az (aU (by rfl))) (pcH v i (pa1 (pv 0)))))))))))):PSs (eE CX0 P w K mg base ["instruction","b","n"] "masked_group" (af cX) f p A o s H E).nox (_::_) _),?_⟩
  walk_at"k";refine bO (fun c=> ?_) (fun c=> ?_)
  .have n0:n=0:=by injection c
   subst n0;walk_at"g";intro I d;have l:=(ag d (.tup [.str "fit",.int 6,.int b])).tup y;walk_at"g";intro J j;walk_at"g";intro g e;have m:=ag d (.tup [.str "fit",.int 6,.int b]);have U:=ag j (.tup (aO 11 [a,6,0]));have C:=ag e (.tup [.ref I,.ref J]);exact q g [I,J] _ ((m.trans U).trans C) (SqT.of ae) ⟨C.tup (U.tup (SqT.of ae)),C.tup (SqT.of ae),True.intro⟩
  .have n0:¬n=0:=fun z=>c (by rw[z])
   have G:grp (11,[a,b,n])=[(10,[6,b,n]),(16,[6,6]),(11,[a,6,0])]:=by
    show(if n=0 then _ else _)=_
    rw[R6 n0]
    rfl
   rw[G] at q;walk_at"g";intro I d;have l:=(ag d (.tup [.str "more",.int 6,.int b,.int n])).tup y;walk_at"g";intro J j;have X:=(ag j (.tup [.str "fit",.int 6,.int 6])).tup l;walk_at"g";intro L T;walk_at"g";intro g e;have m:=ag d (.tup [.str "more",.int 6,.int b,.int n]);have U:=ag j (.tup [.str "fit",.int 6,.int 6]);have C:=ag T (.tup (aO 11 [a,6,0]));have u:=ag e (.tup [.ref I,.ref J,.ref L]);exact q g [I,J,L] _ (((m.trans U).trans C).trans u) (SqT.of ae) ⟨u.tup (C.tup (U.tup (SqT.of ae))),u.tup (C.tup (SqT.of ae)),u.tup (SqT.of ae),True.intro⟩
 by_cases M:k=12
 .obtain⟨a,b,n,rfl,a0,a1,b0,b1,n0,n1⟩:=O.acc (.inr M);subst M;have W:atI (aO 12 [a,b,n]) 0=some (.str "store"):=rfl;have Y:atI (aO 12 [a,b,n]) 2=some (.int b):=rfl;have Z:atI (aO 12 [a,b,n]) 3=some (.int n):=rfl;have x:12<19:=by decide
  refine⟨_,((aa (aC (pcT aK (pX ay (pv 0) ac) av) (ad (ah (az (pa2 (az (pa3 av ac (pX ay (pv 0) ac))) (az (aU (by rfl))))))) ao)
   (aa (aC (ff (bN (pcH N i (pa1 (pv 0))))) (ad (ah (az (pa1 (pv 0))))) ao)
   (aa (psS 1 bI.nd (pX ay (pv 0) ac))
   (aa (psS 2 bI.nd (pX ay (pv 0) ac))
   (aa (aC (pcT aK (pv 2) ac) (ad (ah (az (pa2 (az (pa3 av ac (pv 1))) (pcH v i (pa1 (pv 0))))))) ao)
   (ad (ah (az (pa3 (az (pa4 av ac (pv 1) (pv 2))) (az (aU (by rfl))) (pcH v i (pa1 (pv 0)))))))))))):PSs (eE CX0 P w K mg base ["instruction","b","n"] "masked_group" (af cX) f p A o s H E).nox (_::_) _),?_⟩
  walk_at"k";refine bO (fun c=> ?_) (fun c=> ?_)
  .have n0:n=0:=by injection c
   subst n0;walk_at"g";intro I d;have l:=(ag d (.tup [.str "fit",.int 6,.int b])).tup y;walk_at"g";intro J j;walk_at"g";intro g e;have m:=ag d (.tup [.str "fit",.int 6,.int b]);have U:=ag j (.tup (aO 12 [a,6,0]));have C:=ag e (.tup [.ref I,.ref J]);exact q g [I,J] _ ((m.trans U).trans C) (SqT.of ae) ⟨C.tup (U.tup (SqT.of ae)),C.tup (SqT.of ae),True.intro⟩
  .have n0:¬n=0:=fun z=>c (by rw[z])
   have G:grp (12,[a,b,n])=[(10,[6,b,n]),(16,[6,6]),(12,[a,6,0])]:=by
    show(if n=0 then _ else _)=_
    rw[R6 n0]
    rfl
   rw[G] at q;walk_at"g";intro I d;have l:=(ag d (.tup [.str "more",.int 6,.int b,.int n])).tup y;walk_at"g";intro J j;have X:=(ag j (.tup [.str "fit",.int 6,.int 6])).tup l;walk_at"g";intro L T;walk_at"g";intro g e;have m:=ag d (.tup [.str "more",.int 6,.int b,.int n]);have U:=ag j (.tup [.str "fit",.int 6,.int 6]);have C:=ag T (.tup (aO 12 [a,6,0]));have u:=ag e (.tup [.ref I,.ref J,.ref L]);exact q g [I,J,L] _ (((m.trans U).trans C).trans u) (SqT.of ae) ⟨u.tup (C.tup (U.tup (SqT.of ae))),u.tup (C.tup (SqT.of ae)),u.tup (SqT.of ae),True.intro⟩
 have x:k<19:=O.lt19;have W:atI (aO k R) 0=some (.str (aV k)):=nj;have G:grp (k,R)=[(k,R)]:=by
  unfold grp;rw[R6 r,R6 (by show ¬(k=11\/k=12);lia)]
 rw[G] at q
 refine⟨_,((aa (aC (pcT aK (pX ay (pv 0) ac) av) (ad (ah (az (pa2 (az (pa3 av ac (pX ay (pv 0) ac))) (az (aU (by rfl))))))) ao)
   (aa (aC (ff (bN (pcH N i (pa1 (pv 0))))) (ad (ah (az (pa1 (pv 0))))) ao)
   (aa (psS 1 bI.nd (pX ay (pv 0) ac))
   (aa (psS 2 bI.nd (pX ay (pv 0) ac))
   (aa (aC (pcT aK (pv 2) ac) (ad (ah (az (pa2 (az (pa3 av ac (pv 1))) (pcH v i (pa1 (pv 0))))))) ao)
   (ad (ah (az (pa3 (az (pa4 av ac (pv 1) (pv 2))) (az (aU (by rfl))) (pcH v i (pa1 (pv 0)))))))))))):PSs (eE CX0 P w K mg base ["instruction","b","n"] "masked_group" (af cX) f p A o s H E).nox (_::_) _),?_⟩
 walk_at"k";refine vK (fun z=>r ((Cs k x).mp z)) ?_
 walk_at"g";rw[RW (show ¬(k=11\/k=12) by lia)]
 refine D3 ?_
 walk_at"g";intro g e;exact q g [t] _ (ag e _) (SqT.of ae) ⟨(ag e _).tup y,True.intro⟩
def GBk(K:Frag)(H:Hp)(blk:Addr)(b:List Ins):Prop:=∃o:List Addr,SqT K H blk (o.map V.ref)/\gf K H o b
theorem GBk.same{K:Frag}{H o:Hp}{blk:Addr}{b:List Ins}(s:aA H o)(h:GBk K H blk b):GBk K o blk b:=by
 obtain⟨J,I,C⟩:=h;exact⟨J,s.tup I,C.same s⟩
def No(K:Frag)(C:Addr):Sp:=fun vs H Q _=>∃(blk:Addr) (bk:List Ins),vs=[.ref blk]/\GBk K H blk bk/\(∀U∈bk,VI U)/\bk.length<=30/\
 ∀(x I i b:Addr) (J:List Addr) (o:Hp),aA H o->H x=none->H i=none->H b=none->a9 K C o x I i b J (dP bk).1 (dP bk).2->Q (.ref x) o
theorem yg{C:Addr}(B:Bi mg)(a_:eV K mg "LaidBlock" C)(D:rR K mg)(bJ:cV P w K mg base 1 C "__init__" fw (Df K C))(cW:Has P w K mg base 2 "masked_group" cI (OO K))
  (bG:cV P w K mg base 2 C "has_space" oS (C0 K C)) (bv:cV P w K mg base 3 C "fill_bundle" fw (GJ K C)) (bB:cV P w K mg base 3 C "take_group" oS (Dw K C)):
  Has P w K mg base 4 "masked_block" sU (No K C):=by
 refine D.has gz (by intro _ _ _ _;walk_at"ln") (fun f bb A M s H vs Q E n h=> ?_)
 obtain⟨blk,bk,rfl,gb,ab,aL,q⟩:=h;obtain⟨ts,p,U⟩:=id gb
 refine⟨_,(aa (psS 1 gz.nd (By a_ (bJ.mono (by omega)) n (by rfl)))
   (aa (cv Sw (by rfl) (bY (oN (pv 0))) (aJ (i:=2) gz.nd (by rfl) (by left;rfl)) (aa (psS 3 gz.nd (pcH cW n (pa1 (pv 2))))
   (aa (aP (bz (aC (ff (bN (dq (bG.mono (by omega)) n (pv 1) (pa1 (pv 3))))) (ad (bj (mP (bv.mono (by omega)) n (pv 1)))) ao)))
   (ad (bj (dq (bB.mono (by omega)) n (pv 1) (pa1 (pv 3))))))))
   (ad (ah (pv 1))))),?_⟩
 walk_at"k";intro x F v ar a';refine⟨H,x,F,rfl,ae,v,bZ v (ag ar _),?_⟩
 intro H1 i b O R s1 l1;refine⟨rfl,?_⟩
 have aF:=s1.tup p;walk_at"g"
 refine⟨yA (xs:=ts.map V.ref) (fun j Z d=>∃y z,Z=[some (.ref blk),some (.ref x),y,z]/\aD (aA H d)/\∃r,a9 K C d x F i b r (dP (bk.take j)).1 (dP (bk.take j)).2)
  ⟨_,_,rfl,⟨s1⟩,[],by simpa [dP] using l1⟩ ?_ ?_ ?_⟩
 .rintro j Z d _ ⟨y,z,rfl,⟨s2⟩,_⟩
  exact s2.tup p
 .rintro j u Z d hj ⟨y,z,rfl,⟨s2⟩,r,l2⟩
  obtain⟨t,et,rfl⟩:=dX hj;obtain⟨G,Y,ht⟩:=U.get et;have ba:j<bk.length:=(RX.mp Y).1;have aW:=s2.tup ht;have L:=ab G (Sa Y);have a7:=wR L;have aS:=Cn G;have aN:=HL G;have T:=wN bk j (by lia)
  have a6:=C4 bk j (by lia)
  have W:=wL Y;have bc:(dP (bk.take j)).1.length<=200:=by
   have:=GZ (dP (bk.take j)).1
   split at T <;> lia
  generalize dP (bk.take j)=st at*;walk_at"g";intro g N H3 X l J;generalize grp G=a at*;have l3:=l2.same X;have au:=l3.at_;have aG:a.length<=100:=by lia
  walk_at"g";refine⟨⟨fun Z' e=>Z'=[some (.ref blk),some (.ref x),some (.ref t),some (.ref g)]/\aD (aA H e)/\SqT K e g (N.map V.ref)/\gf K e N a/\∃o,a9 K C e x F i b o (fW st.1 a) st.2,?_,?_⟩⟩
  .walk_at"g";intro e I;have l4:=l3.same I;have k:=l4.at_;walk_at"g"
   by_cases c:lnW st.1 %8+lnW a<=8
   .refine KE c ?_
    refine⟨rfl,⟨(s2.trans X).trans I⟩,I.tup l,J.same I,r,?_⟩
    unfold fW;rw[R9 c];exact l4
   .rw[RW c];refine D3 ?_
    have aw:st.1.length<=900:=by lia
    walk_at"g";intro H5 o m l5;refine⟨rfl,⟨B3.same ((s2.trans X).trans I) v O R m⟩,m.tup l4 (I.tup l),(J.same I).b3 l4 m,o,?_⟩
    unfold fW;rw[R6 c];exact l5
  .rintro Z' e ⟨rfl,⟨I⟩,hg4,how4,o,l4⟩
   have k:=l4.at_;have aR:(fW st.1 a).length<=st.1.length+8:=by
    unfold fW
    split
    .lia
    .rw[RZ];unfold A6;rw[SO]
     lia
   have aT:(fW st.1 a).length+a.length<=1000:=by lia
   have aX:st.2.length<1000:=by lia
   walk_at"g";intro H5 m l5;refine⟨_,_,rfl,⟨B3.same I v O R m⟩,o++N,?_⟩
   rw[W];exact l5
 .rintro Z d ⟨y,z,rfl,⟨s2⟩,r,l2⟩
  rw[be,U.len,Sl] at l2;walk_at"g";exact q x F i b r d s2 v O R l2
def sE(n b:Nat):Prop:=n<=2^b/\∀j,j<b->2^j<n
def HR:Sp:=fun vs H Q _=>∃n:Nat,vs=[.int n]/\n<=1048576/\∀b,sE n b->Q (.int b) H
def Nz(K:Frag)(C:Addr):Sp:=fun vs H Q _=>∃(x I i b:Addr) (J:List Addr) (o:List Ins) (bs:List Nat),vs=[.ref x]/\a9 K C H x I i b J o bs/\Q (.int ((lnW o+7) / 8:Nat)) H
def DG(K:Frag):Sp:=fun vs H Q _=>∃(t:Addr) (o:Ins) (n:Nat),vs=[.ref t,.int n]/\SqT K H t (aO o.1 o.2)/\VI o/\n<=2000/\∀I C,aA H C->SqT K C I (aO (plc n o).1 (plc n o).2)->Q (.ref I) C
noncomputable abbrev stp(n:Nat):List Ins:=List.replicate n (0,[])
def Cy:Sp:=fun vs H Q _=>∃n:Nat,vs=[.int n]/\n<=2000/\∀(p:Addr) (o:Hp),aA H o->H p=none->o p=some (.lst ((bf (stp n)).map V.int))->Q (.ref p) o
def Q4(K:Frag)(C:Addr):Sp:=fun vs H Q _=>∃(x J i b:Addr) (U:List Addr) (o:List Ins) (bs:List Nat) (n:Nat),vs=[.ref x,.int n]/\a9 K C H x J i b U o bs/\lnW o<=n/\n<=2000/\
 ∀(p:Addr) (I:Hp),aA H I->H p=none->I p=some (.lst ((bf (jY n o)).map V.int))->Q (.ref p) I
theorem AN(B : Bi mg)(D : u_ K mg)(k : Has P w K mg base 1 "power_of_two" sJ nD) : Has P w K mg base 2 "least_bits" rF HR := by
  refine D.has lQ (by intro _ _ _ _; walk_at"ln") (fun f d A C s H vs Q E i h => ?_)
  obtain⟨n, rfl, l, q⟩ := h
  refine⟨_, (aa (psS 1 lQ.nd ac)
      (aa (aP (qG Sw (pcT jC (pcH k i (pa1 (pv 1))) (pv 0)) (ad (psS 1 lQ.nd (ax aZ (pv 1) ac)))))
      (ad (ah (pv 1))))), ?_⟩
  walk_at"k"
  refine⟨?_⟩
  refine⟨fun m Z I => I = H ∧ ∃b : Nat, Z = [some (.int n), some (.int b)] ∧ b ≤ 20 ∧ (∀j, j<b → 2 ^ j<n) ∧ m = 20 - b, ⟨_, rfl, 0, rfl, by lia, fun j z => absurd z (by lia), rfl⟩, ?_⟩
  rintro m Z I ⟨rfl, b, rfl, p, J, rfl⟩
  have U : b ≤ 64 := by lia
  walk_at"g"
  refine bO (fun c => ?_) (fun c => ?_)
  . have a : 2 ^ b<n := by exact_mod_cast c
    have o : b<20 := by
      by_cases z : b = 20
      . subst z
        exact absurd a (by lia)
      . lia
    walk_at"n"
    refine⟨fun r I => aD _, fun _ _ z => z.out, ?_⟩
    walk_at"g"
    refine⟨⟨20 - (b + 1), by lia, rfl, b + 1, rfl, o, fun j z => ?_, rfl⟩⟩
    by_cases e : j = b
    . rw[e]; exact a
    . exact J j (by lia)
  . walk_at"g"
    exact q b ⟨by have : ¬ ((2 ^ b : Nat) : Int)<n := by exact_mod_cast c
                  lia, J⟩
theorem AL{C:Addr}(B:Bi mg)(c:eV K mg "LaidBlock" C)(n:cz K C)(D:vG K mg):Has P w K mg base 1 "bundles_of" sU (Nz K C):=by
 refine D.has AG (by intro _ _ _ _;walk_at"ln") (fun f U A I s H vs Q E d h=> ?_)
 obtain⟨x,j,i,b,a,o,bs,rfl,l,q⟩:=h;have k:=c.cl;have n3:=n.length;have J:=l.at_;have cd:Hw ((lnW o:Int)+7) 8:=⟨by decide,by decide⟩
 refine⟨_,(ad (ah (ax jn (ax aZ (ce (pv 0) (by rfl)) ac) ac))),?_⟩
 walk_at"k";have e:((lnW o:Int)+7) / 8=((lnW o+7) / 8:Nat):=by lia
 show Q (V.int (((lnW o:Int)+7) / 8)) H
 rw[e];exact q
theorem Ir(B:Bi mg)(D:Ea K mg):Has P w K mg base 1 "placed" FL (DG K):=by
 refine D.has Jn (by intro _ _ _ _;walk_at"ln") (fun f L A m s H vs Q E O h=> ?_)
 obtain⟨t,⟨k,e⟩,n,rfl,u,p,N,q⟩:=h;dsimp only at u;have c:k<19:=p.lt19
 refine⟨_,(aa (aP (bz (aC (PW.pt (gX (pcT aK (pX ay (pv 0) ac) av) (eY (pcT aK (pX ay (pv 0) ac) av)))) (ad (ah (ax yB (bK uK (pv 0) cQ (cq (lj (v:= -1) (by rfl)))) (az (pa1 (ax cK (pX ay (pv 0) (lj (v:= -1) (by rfl))) (pv 1))))))) ao)))
   (ad (ah (pv 0)))),?_⟩
 try dsimp only[oJ]
 by_cases C:k=13
 .obtain⟨z,rfl,z0,z1⟩:=p.jmp C;subst C;have y:atI (aO 13 [z]) 0=some (.str "jump"):=rfl;have F:atI (aO 13 [z]) (-1)=some (.int z):=rfl;have l:fC (aO 13 [z]) none (some (-1))=[.str "jump"]:=rfl;have hw:¬(HT.sIx (aO 13 [z]).length 0 none=0/\HT.sIx (aO 13 [z]).length (aO 13 [z]).length (some (-1))=(aO 13 [z]).length):=by show ¬(HT.sIx 2 0 none=0/\HT.sIx 2 2 (some (-1))=2);decide
  have G:AZ z (n:Int):= .inr ⟨by lia,by lia⟩
  walk_at"n";refine⟨⟨fun d b=>aD False,?_,fun _ _ z=>z.out.elim⟩⟩
  walk_at"g";intro a U;rw[l];walk_at"g";intro r o;have j:upd (upd H a (.tup [.str "jump"])) r (.tup [.int (z*n)]) a=some (.tup [.str "jump"]):=by rw[aj (aq ae o)];exact ae
  walk_at"g";refine⟨(fun z=>by cases z),fun _ i J=> ?_⟩
  exact q i _ (((ag U _).trans (ag o _)).trans (ag J _)) (SqT.of ae)
 by_cases I:k=14
 .obtain⟨x,z,rfl,x0,x1,z0,z1⟩:=p.jif I;subst I;have y:atI (aO 14 [x,z]) 0=some (.str "jumpif"):=rfl;have F:atI (aO 14 [x,z]) (-1)=some (.int z):=rfl;have l:fC (aO 14 [x,z]) none (some (-1))=[.str "jumpif",.int x]:=rfl;have hw:¬(HT.sIx (aO 14 [x,z]).length 0 none=0/\HT.sIx (aO 14 [x,z]).length (aO 14 [x,z]).length (some (-1))=(aO 14 [x,z]).length):=by show ¬(HT.sIx 3 0 none=0/\HT.sIx 3 3 (some (-1))=3);decide
  have G:AZ z (n:Int):= .inr ⟨by lia,by lia⟩
  walk_at"n";refine⟨⟨fun d b=>aD False,?_,fun _ _ z=>z.out.elim⟩⟩
  walk_at"g";intro a U;rw[l];walk_at"g";intro r o;have j:upd (upd H a (.tup [.str "jumpif",.int x])) r (.tup [.int (z*n)]) a=some (.tup [.str "jumpif",.int x]):=by rw[aj (aq ae o)];exact ae
  walk_at"g";refine⟨(fun z=>by cases z),Sd rfl,(fun z=>by cases z),fun _ i J=> ?_⟩
  exact q i _ (((ag U _).trans (ag o _)).trans (ag J _)) (SqT.of ae)
 have y:atI (aO k e) 0=some (.str (aV k)):=nj;have M:plc n (k,e)=(k,e):=by unfold plc;rw[R6 C,R6 I]
 rw[M] at q;walk_at"n";refine⟨⟨fun d b=>d=[some (.ref t),some (.int n)]/\b=H,?_,?_⟩⟩
 .walk_at"g";refine vK (fun z=>C ((Iv k c).mp z)) ?_
  walk_at"g";refine vK (fun z=>I ((EL k c).mp z)) ?_
  exact⟨rfl,rfl⟩
 .rintro d b ⟨rfl,rfl⟩
  walk_at"g";exact q t b (fun _ _ z=>z) u
theorem Bf:∀n:Nat,bf (stp n)=List.replicate n 0
 | 0=>rfl
 | n+1=>by
  show bf ((0,[])::stp n)=_
  rw[FS,Bf n]
  rfl
theorem Bx{o:Type}(x:o):∀n,(List.replicate n [x]).flatten=List.replicate n x
 | 0=>rfl
 | n+1=>by rw[S0,UG,Bx x n,S0];rfl
theorem Lk(B:Bi mg)(D:HM K mg)(a:Has P w K mg base 5 "words_of" cI (Oj K)):Has P w K mg base 6 "stops" rF Cy:=by
 refine D.has KK (by intro _ _ _ _;walk_at"ln") (fun f b A o s H vs Q E c h=> ?_)
 obtain⟨n,rfl,e,q⟩:=h;refine⟨_,(ad (ah (ax yR (pcH a c (pa1 (az (pa1 av)))) (pv 0)))),?_⟩
 walk_at"k";intro t C;refine⟨t,0,[],rfl,by decide,(fun z=>by cases z),SqT.of ae,?_⟩
 intro d i U k J;have j:((i9 0 []).map V.int).length*(n:Int).toNat<=sizeLine:=by
  show 1*n<=sizeLine
  exact RY (by lia) (show 2000<=sizeLine by decide)
 walk_at"g";intro p I;refine q p _ (((ag C _).trans J).trans (ag I _)) ((ag C _).free (J.free I)) ?_
 rw[ae,Bf,List.map_replicate];show some (HO.lst (List.replicate n [V.int 0]).flatten)=_
 rw[Bx]
theorem Ac{C:Addr}(B:Bi mg)(c:eV K mg "LaidBlock" C)(n:cz K C)(D:sY K mg)(i6:Has P w K mg base 5 "words_of" cI (Oj K))(yW:Has P w K mg base 1 "placed" FL (DG K))
  (rX:Has P w K mg base 6 "stops" rF Cy):Has P w K mg base 7 "block_words" DT (Q4 K C):=by
 refine D.has kA (by intro _ _ _ _;walk_at"ln") (fun f aN A F s H vs Q E N h=> ?_)
 obtain⟨x,dx,i,b,js,I,bs,o,rfl,l,aG,aw,q⟩:=h;have hc:=c.cl;have n1:=n.instructions
 refine⟨_,(aa (psS 2 kA.nd (a8 dJ))
   (aa (cv Sw (by rfl) (bY (nV (ce (pv 0) (by rfl)))) (aJ (i:=3) kA.nd (by rfl) (by left;rfl)) (ad (bj (bU Sr Ul Um rZ (pv 2) (pa1 (pcH i6 N (pa1 (pcH yW N (pa2 (pv 3) (pv 1))))))))))
   (ad (ah (ax dL (pv 2) (pcH rX N (pa1 (ax iX (pv 1) (aI aH (by rfl) B.len bD (pa1 (pv 2))))))))))),?_⟩
 walk_at"k";intro p X;generalize G:upd H p _=H0;have R:=upA G;have s0:=upS X G;clear G;have l0:=l.same s0;have ab:=l0.at_;have ar:=l0.li;walk_at"g";refine⟨z_ (xs:=js.map V.ref) (fun j Z d=>aD (∃y,Z=[some (.ref x),some (.int o),some (.ref p),y]/\aA H d/\d p=some (.lst ((bf ((I.take j).map (plc o))).map V.int)))) ⟨_,rfl,s0,R⟩ ?_ ?_ ?_⟩
 .rintro j Z d _ ⟨y,rfl,s1,_⟩
  exact SqL.of (s1 _ _ l.li)
 .rintro j u Z d hj ⟨y,rfl,s1,hp1⟩
  obtain⟨t,et,rfl⟩:=dX hj;obtain⟨U,T,ht⟩:=l.ow.get et;have aL:j<I.length:=(RX.mp T).1;have aR:=s1.tup ht;have v:=l.va U (Sa T);have aS:tyV K "list" (.ref p) d:= .inl ⟨rfl,_,SqL.of hp1⟩;have O:lnW (I.take (j+1))<=2000:=by
   have e:=congrArg lnW (UE (j+1) I);rw[jh] at e
   lia
  have aT:(plc o U).1<19:=by rw[J0];exact v.lt19
  have kk:(plc o U).1=1->2<=(plc o U).2.length:=fun z=>by
   rw[J0] at z;have e:plc o U=U:=by unfold plc;rw[R6 (by lia),R6 (by lia)]
   rw[e];exact v.put2 z
  have W:bf ((I.take (j+1)).map (plc o))=bf ((I.take j).map (plc o))++i9 (plc o U).1 (plc o U).2:=by
   rw[gq T,R5,oM];show _++(i9 _ _++[])=_
   rw[SJ]
   all_goals rfl
  have m:(bf ((I.take (j+1)).map (plc o))).length<=2000:=by rw[d8,yE];exact O
  rw[W] at m;walk_at"g";intro t2 H2 k aF;have J:=k _ _ hp1;have Y:tyV K "list" (.ref p) H2:= .inl ⟨rfl,_,SqL.of J⟩;walk_at"g";intro p3 H3 a h3 s3;have L:=s3 _ _ J;have hz:((bf ((I.take j).map (plc o))).map V.int).length+((i9 (plc o U).1 (plc o U).2).map V.int).length<=sizeLine:=by
   rw[be,be, <-RZ];exact RY m (by decide)
  walk_at"g";refine⟨_,rfl,bZ X ((s1.trans k).trans s3),?_⟩
  rw[ae,W,R5]
 .rintro Z d ⟨y,rfl,s1,hp1⟩
  rw[be,l.ow.len,Sl] at hp1;have m:((bf (I.map (plc o))).map V.int).length=lnW I:=by rw[be,d8,yE]
  have r:((o:Int) - (((bf (I.map (plc o))).map V.int).length:Nat))=((o - lnW I:Nat):Int):=by rw[m];lia
  have M:o - lnW I<=2000:=by lia
  walk_at"g";refine⟨(congrArg (fun z=>[V.int z]) r:[V.int ((o:Int) - (((bf (I.map (plc o))).map V.int).length:Nat))]=[V.int ((o - lnW I:Nat):Int)]),M,?_⟩
  intro p2 H2 k au h2;have J:=k _ _ hp1;have hz:((bf (I.map (plc o))).map V.int).length+((bf (stp (o - lnW I))).map V.int).length<=sizeLine:=by
   rw[m,be,d8,sf];exact RY (show lnW I+(o - lnW I)<=2000 by lia) (by decide)
  walk_at"g";intro p3 a;refine q p3 _ ((s1.trans k).trans (ag a _)) (s1.free (k.free a)) ?_
  rw[ae, <-R5, <-oM]
  rfl
def Lds(K:Frag)(C:Addr)(H:Hp)(xs:List Addr)(o:List Bk):Prop:=xs.length=o.length/\∀(j:Nat) (x:Addr) (d:Bk),xs[j]? =some x->o[j]? =some d->
 ∃I i b J,a9 K C H x I i b J d.1 d.2
theorem Lds.same{K:Frag}{C:Addr}{H o:Hp}{xs:List Addr}{I:List Bk}(s:aA H o)(h:Lds K C H xs I):Lds K C o xs I:=by
 refine⟨h.1,fun j x d J a=> ?_⟩
 obtain⟨U,i,b,c,l⟩:=h.2 j x d J a;exact⟨U,i,b,c,l.same s⟩
noncomputable abbrev pk(n a:Nat):List Key:=[.inl (n:Int),.inl (a:Int)]
theorem JL{n a C o:Nat}(h:pk n a=pk C o):n=C/\a=o:=by
 injection h with h1 h2
 injection h2 with h2 _
 injection h1 with h1
 injection h2 with h2
 lia
theorem Mh{o:Type}[DecidableEq o]{kvs:List (o × V)}{k:o}{v:V}(h:∀C∈kvs,C.1≠k):nr kvs k v=kvs++[(k,v)]:=by
 unfold nr;rw[R6];intro z;obtain⟨C,J,I⟩:=List.any_eq_true.mp z;exact h C J (SE I)
noncomputable def vp(n u:Nat):Nat->List Nat->List (List Key × V)
 | _,[]=>[]
 | a,b::r=>(pk u a,.int ((u*n+b:Nat):Int))::vp n u (a+1) r
noncomputable def uT(n:Nat):Nat->List (List Nat)->List (List Key × V)
 | _,[]=>[]
 | u,bs::r=>vp n u 0 bs++uT n (u+1) r
theorem Aj(n u:Nat):∀(a:Nat) (bs:List Nat),(vp n u a bs).length=bs.length
 | _,[]=>rfl
 | a,b::r=>congrArg (· +1) (Aj n u (a+1) r)
theorem zw{n u:Nat}:∀{a:Nat}{bs:List Nat}{o:List Key × V},o∈vp n u a bs->∃j,o.1=pk u j/\a<=j/\j<a+bs.length
 | a,b::r,o,h=>by
  rcases Se.mp h with rfl | h
  .exact⟨a,rfl,R3 _,by rw[R4];lia⟩
  .obtain⟨j,h1,h2,h3⟩:=zw h;exact⟨j,h1,by lia,by rw[R4];lia⟩
theorem DV{n:Nat}:∀{u:Nat}{o:List (List Nat)}{C:List Key × V},C∈uT n u o->∃v j,C.1=pk v j/\u<=v/\v<u+o.length
 | u,bs::r,C,h=>by
  rcases SR.mp h with h | h
  .obtain⟨j,h1,h2,h3⟩:=zw h;exact⟨u,j,h1,R3 _,by rw[R4];lia⟩
  .obtain⟨v,j,h1,h2,h3⟩:=DV h;exact⟨v,j,h1,by lia,by rw[R4];lia⟩
theorem BC(n u b:Nat):∀(a:Nat) (bs:List Nat),vp n u a (bs++[b])=vp n u a bs++[(pk u (a+bs.length),.int ((u*n+b:Nat):Int))]
 | a,[]=>rfl
 | a,c::r=>by
  show _::vp n u (a+1) (r++[b])=_
  rw[BC n u b (a+1) r,R4,show a+1+r.length=a+(r.length+1) by lia]
  rfl
theorem Bz(n:Nat)(bs:List Nat):∀(u:Nat) (l:List (List Nat)),uT n u (l++[bs])=uT n u l++vp n (u+l.length) 0 bs
 | u,[]=>by show vp n u 0 bs++[]=_;rw[SJ];rfl
 | u,c::r=>by
  show vp n u 0 c++uT n (u+1) (r++[bs])=_
  rw[Bz n bs (u+1) r,R4,show u+1+r.length=u+(r.length+1) by lia, <-SQ]
  rfl
theorem DJ(n:Nat):∀(u:Nat) (l:List (List Nat)),(∀bs∈l,bs.length<=30)->(uT n u l).length<=30*l.length
 | _,[],_=>R3 _
 | u,c::r,h=>by
  show(vp n u 0 c++uT n (u+1) r).length<=_
  have I:=DJ n (u+1) r (fun x o=>h x (R8 _ o))
  have C:=h c Sn;rw[RZ,Aj,R4]
  lia
def E1(K:Frag)(C:Addr):Sp:=fun vs H Q _=>∃(U:Addr) (J:List Addr) (o:List Bk) (n:Nat),vs=[.ref U,.int n]/\SqL K H U (J.map V.ref)/\Lds K C H J o/\o.length<=16/\(∀d∈o,d.2.length<=30)/\n<=2000/\
 ∀(p:Addr) (I:Hp),aA H I->H p=none->I p=some (.dT (uT n 0 (o.map (·.2))))->Q (.ref p) I
theorem Cj{C:Addr}(B:Bi mg)(c:eV K mg "LaidBlock" C)(n:cz K C)(D:xt K mg):Has P w K mg base 1 "places_of" EZ (E1 K C):=by
 refine D.has fR (by intro _ _ _ _;walk_at"ln") (fun f bc A ab s H vs Q E hr h=> ?_)
 obtain⟨bl,Y,J,o,rfl,N,F,a6,M,a',q⟩:=h;have hc:=c.cl;have n2:=n.begins;have aL:∀j,(uT o 0 ((J.take j).map (·.2))).length<=500:=fun j=>by
  have G:=DJ o 0 ((J.take j).map (·.2)) (fun bs hb=>by
   obtain⟨d,hd,rfl⟩:=SY.mp hb
   exact M d (Vy hd))
  rw[be,Sg] at G
  lia
 refine⟨_,(aa (psS 2 fR.nd LW)
   (aa (cv Sw (by rfl) (bY (Hn (by rfl) B.enumerate (pa1 (pv 0)))) (mB (n:=2) (by rfl) (bH (aJ (i:=3) fR.nd (by rfl) (by left;rfl)) (bH (aJ (i:=4) fR.nd (by rfl) (by left;rfl)) jg))) (ad (cv Sw (by rfl) (bY (Hn (by rfl) B.enumerate (pa1 (ce (pv 4) (by rfl))))) (mB (n:=2) (by rfl) (bH (aJ (i:=5) fR.nd (by rfl) (by left;rfl)) (bH (aJ (i:=6) fR.nd (by rfl) (by left;rfl)) jg))) (ad (M1 (QF hr) (pv 2) (az (pa2 (pv 3) (pv 5))) (ax aZ (ax cK (pv 3) (pv 1)) (pv 6)) (by rfl))))))
   (ad (ah (pv 2))))),?_⟩
 walk_at"k";intro p hp;generalize e_:upd H p _=H0;have aG:=upA e_;have s0:=upS hp e_;clear e_;have aT:=s0.seq N;walk_at"g"
 refine⟨D8 (xs:=Y.map V.ref) (fun k Z I=>aD (∃y1 X U m,Z=[some (.ref bl),some (.int o),some (.ref p),y1,X,U,m]/\aA H I/\I p=some (.dT (uT o 0 ((J.take k).map (·.2))))))
  ⟨_,_,_,_,rfl,s0,aG⟩ ?_ ?_ ?_⟩
 .rintro k Z I ⟨y1,X,U,m,rfl,s1,_⟩
  exact s1.seq N
 .rintro k u r Z I L ⟨y1,X,U,m,rfl,s1,hp1⟩ hr1
  obtain⟨x,ex,rfl⟩:=dX L;have bb:k<Y.length:=(RX.mp ex).1;have T:k<J.length:=by have:=F.1;lia
  obtain⟨d,ed⟩:∃d,J[k]? =some d:=⟨_,R1 T⟩;obtain⟨dx,i,b,js,l⟩:=F.2 k x d ex ed;have aX:=M d (Sa ed);have aR:k<16:=by lia
  have s2:=s1.trans (ag hr1 (.tup [.int k,.ref x]));have au:=ag hr1 (.tup [.int k,.ref x]) _ _ hp1;have ba:upd I r (.tup [.int k,.ref x]) r=some (.tup [.int k,.ref x]):=ae;generalize upd I r (.tup [.int k,.ref x])=H2 at*;have aW:=s2 _ _ l.at_;have aS:=s2 _ _ l.lb;have aN:=aL k;walk_at"g"
  refine⟨D8 (xs:=d.2.map vn) (fun a Z I=>aD (∃U m,Z=[some (.ref bl),some (.int o),some (.ref p),some (.int k),some (.ref x),U,m]/\aA H I/\I p=some (.dT (uT o 0 ((J.take k).map (·.2))++vp o k 0 (d.2.take a)))))
   ⟨_,_,rfl,s2,by rw[au];show _=some (HO.dT (_++[]));rw[SJ]⟩ ?_ ?_ ?_⟩
  .rintro a Z I ⟨U,m,rfl,s3,_⟩
   exact SqL.of (s3 _ _ l.lb)
  .rintro a v r3 Z H3 ha ⟨U,m,rfl,s3,hp3⟩ hr3
   obtain⟨y,eb,rfl⟩:=dX ha;have R:a<d.2.length:=(RX.mp eb).1;have s4:=s3.trans (ag hr3 (.tup [.int a,.int y]));have aw:=ag hr3 (.tup [.int a,.int y]) _ _ hp3;have a7:upd H3 r3 (.tup [.int a,.int y]) r3=some (.tup [.int a,.int y]):=ae;generalize upd H3 r3 (.tup [.int a,.int y])=H4 at*;have cm:AZ (k:Int) (o:Int):= .inl ⟨by lia,by lia⟩
   walk_at"g";intro r5 W;have ar:=ag W (.tup [.int k,.int a]) _ _ aw;have aF:(uT o 0 ((J.take k).map (·.2))++vp o k 0 (d.2.take a)).length<sizeLine:=by
    rw[RZ,Aj,Sg];exact Sb (show _<1000 by lia) (by decide)
   have dp:Jb (upd H4 r5 (.tup [.int k,.int a])) p (.ref r5) (.int ((k:Int)*o+y)) _:=Jb.t (k:=pk k a) ar ae aF;have O:∀kv∈uT o 0 ((J.take k).map (·.2))++vp o k 0 (d.2.take a),kv.1≠pk k a:=fun kv L z=>by
    rcases SR.mp L with L | L
    .obtain⟨v,j,G,h2,h3⟩:=DV L;rw[z] at G;have:=(JL G).1;rw[be,Sg] at h3
     lia
    .obtain⟨j,G,h2,h3⟩:=zw L;rw[z] at G;have:=(JL G).2;rw[Sg] at h3
     lia
   walk_at"g";refine⟨_,_,rfl,bZ hp (s4.trans (ag W _)),?_⟩
   rw[ae,Mh O,gq eb,BC,Sg,Ub (Uu R),SQ,Nat.zero_add];have e:(k:Int)*o+y=((k*o+y:Nat):Int):=by push_cast;rfl
   rw[e]
  .rintro Z I ⟨U,m,rfl,s3,hp3⟩
   rw[be,Sl] at hp3;refine⟨_,_,_,_,rfl,s3,?_⟩
   rw[hp3,gq ed,R5];show _=some (HO.dT (uT o 0 ((J.take k).map (·.2)++[d.2])))
   rw[Bz,be,Sg,Ub (Uu T),Nat.zero_add]
 .rintro Z I ⟨y1,X,U,m,rfl,s1,hp1⟩
  rw[be,F.1,Sl] at hp1;walk_at"g";exact q p I s1 hp hp1
noncomputable def bun(d:Bk):Nat:=(lnW d.1+7) / 8
structure xv (M:Nat) (ds:List Bk):Prop where
 mem:∃d∈ds,bun d=M
 le:∀d∈ds,bun d<=M
def Go(H o:Hp)(r:Addr)(C:List Bk)(rk rb I:Int)(m s:Nat):Prop:=∃a1 a2 a3,o r=some (.tup [.ref a1,.ref a2,.ref a3])/\o a1=some (.tup [.int rk,.int rb,.int m,.int s,.int I])/\
 o a2=some (.lst ((bf (vo (8*2^s) (2^m*(8*2^s)) C)).map V.int))/\o a3=some (.dT (uT (8*2^s) 0 (C.map (·.2))))/\H r=none/\H a1=none/\H a2=none/\H a3=none
def G3(K:Frag)(C f:Addr):Sp:=fun vs H Q E=>∃(a e:Addr) (J:List Addr) (o:List Bk) (U b c:Int) (M:Nat),vs=[.ref a,.ref e,.int c]/\SqL K H a (J.map V.ref)/\Lds K C H J o/\SqT K H e [.int U,.int b]/\
 0<o.length/\o.length<=16/\(∀d∈o,lnW d.1<=300/\d.2.length<=30)/\xv M o/\
 ∀m s,sE o.length m->sE M s->(7<m+s->∀I,aA H I->E (.ref f) none I)/\(m+s<=7->∀r I,aA H I->Go H I r o U b c m s->Q (.ref r) I)
theorem vU{C CT:Addr}(B:Bi mg)(J:GW K CT)(wy:mg "TooLong"=some (.ref CT))(D:nE K mg)(aw:Has P w K mg base 1 "power_of_two" sJ nD)(jH:Has P w K mg base 2 "least_bits" rF HR)
  (nI:Has P w K mg base 1 "bundles_of" sU (Nz K C)) (mw:Has P w K mg base 7 "block_words" DT (Q4 K C)) (rX:Has P w K mg base 6 "stops" rF Cy) (pR:Has P w K mg base 1 "places_of" EZ (E1 K C)):
  dA P w K mg base 8 "code_of_blocks" Bp [] (G3 K C CT):=by
 refine D.hasO cC (by intro _ _ _ _;walk_at"ln") (fun f b6 A aR s H vs Q E L h=> ?_)
 obtain⟨bl,rm,G,o,rk,rb,gt,M,rfl,n,U,bg,h0,b0,hd,hM,q⟩:=h;have Y:(G.map V.ref).length=o.length:=by rw[be];exact U.1
 have bQ:(G.map V.ref).length<=1048576:=by lia
 refine⟨_,(aa (bE (psS 3 cC.nd (pcH jH L (pa1 (aI aH (by rfl) B.len bD (pa1 (pv 0)))))))
   (aa (bE (psS 4 cC.nd (pcH jH L (pa1 (aI (Iz (by rfl)) (by rfl) B.max OE (pa1 (PE.nox (ly (by rfl) (by rfl) (by rfl) (bk (sc0:=af fS) (N0:=["blocks","room","gates","m","s","size","code","block"]) ["block"] 1 []) (nV (pv 0)) (fun _ _ _ _=>(aJ (i:=0) (show List.Nodup (["block"]:List Str) by decide) (by rfl) (by left;rfl))) (fun _ _ _ _=>(pcH nI L (pa1 (pv 0))))))))))))
   (aa (aC (pcT HF (ax aZ (pv 3) (pv 4)) ac) (ad (IE J (by rfl) wy)) ao)
   (aa (bE (psS 5 cC.nd (ax cK ac (pcH aw L (pa1 (pv 4))))))
   (aa (bE (psS 6 cC.nd (a8 dJ)))
   (aa (bE (cv Sw (by rfl) (bY (nV (pv 0))) (aJ (i:=7) cC.nd (by rfl) (by left;rfl)) (ad (bj (bU Sr Ul Um rZ (pv 6) (pa1 (pcH mw L (pa2 (pv 7) (pv 5)))))))))
   (aa (bE (bj (bU Sr Ul Um rZ (pv 6) (pa1 (pcH rX L (pa1 (ax iX (ax cK (pcH aw L (pa1 (pv 3))) (pv 5)) (aI aH (by rfl) B.len bD (pa1 (pv 6))))))))))
   (ad (bE (ah (az (pa3 (az (pa5 (pX ay (pv 1) ac) (pX ay (pv 1) ac) (pv 3) (pv 4) (pv 2))) (pv 6) (pcH pR L (pa2 (pv 0) (pv 5))))))))))))))),?_⟩
 walk_at"o";intro m hm;rw[Y] at hm;walk_at"g";intro p hp;refine r_ (xs:=G.map V.ref) (fun j ys k=>aD (aA H k)/\k p=some (.lst ys)/\ys=((o.take j).map fun d=>V.int (bun d:Nat))) ⟨⟨ag hp _⟩,ae,rfl⟩ ?_ ?_ ?_
 .rintro j ys k ⟨⟨v⟩,_⟩
  exact v.seq n
 .rintro j u ys k F hF hj ⟨⟨v⟩,O,rfl⟩
  obtain⟨x,ex,rfl⟩:=dX hj;have bo:j<G.length:=(RX.mp ex).1;obtain⟨d,ed⟩:∃d,o[j]? =some d:=⟨_,R1 (by have:=U.1;lia)⟩
  obtain⟨dx,i,b,js,l⟩:=U.2 j x d ex ed;have l1:=l.same v;have hz:((o.take j).map fun d=>V.int (bun d:Nat)).length<sizeLine:=by
   rw[be,Sg];exact Sb (show min j o.length<100 by lia) (by decide)
  walk_at"g";refine hF _ _ ⟨⟨bZ hp v⟩,ae,?_⟩
  rw[gq ed,R5]
  rfl
 rintro ys H1 ⟨⟨v⟩,O,rfl⟩
 rw[Y,Sl] at O;have hq:SqL K H1 p ((o.map fun d=>((bun d:Nat):Int)).map V.int):=by
  rw[Vh];exact SqL.of O
 refine⟨p,o.map fun d=>((bun d:Nat):Int),rfl,hq,(fun z=>by rw[Uq] at z;rw[z] at h0;exact absurd h0 (by decide)),?_⟩
 intro mx h1 h2;have a':mx=(M:Nat):=by
  obtain⟨d,R,rfl⟩:=SY.mp h1;obtain⟨d',W,b5⟩:=hM.mem;have a1:=hM.le d R;have a2:=h2 _ (SY.mpr ⟨d',W,rfl⟩)
  lia
 subst a';have b7:M<=1048576:=by
  obtain⟨d,R,W⟩:=hM.mem;have:=(hd d R).1;unfold bun at W
  lia
 walk_at"g";intro I hs;obtain⟨qE,qQ⟩:=q m I hm hs;walk_at"g";refine bO (fun c=> ?_) (fun c=> ?_)
 .exact qE (by lia) H1 v
 have ms:m+I<=7:=by lia
 have b2:I<=64:=by lia
 have b1:m<=64:=by lia
 have hS:8*2^I<=1024:=by
  have:2^I<=2^7:=TC (by decide) (by lia)
  lia
 have eS:(8:Int)*2^I=((8*2^I:Nat):Int):=by push_cast;rfl
 walk_at"g";dsimp only;rw[eS];have X:∀d∈o,lnW d.1<=8*2^I:=fun d hd=>by
  have a1:=hM.le d hd;have a2:=hs.1;unfold bun at a1
  lia
 have bW:2^m*(8*2^I)=8*2^(m+I):=by rw[Nat.pow_add];ac_rfl
 have bJ:2^(m+I)<=2^7:=TC (by decide) ms
 have a7:o.length*(8*2^I)<=2^m*(8*2^I):=Ug _ hm.1;generalize aL:8*2^I=S at*;intro a au;generalize T:upd H1 a _=H2;have bt:=upA T;have aG:=upS au T;clear T;have s2:=v.trans aG;have e:H a=none:=v.free au;have bG:=s2.seq n;have aW:∀j,(bf ((o.take j).flatMap fun d=>jY S d.1)).length<=16*1024:=fun j=>by
  rw[d8,vC (fun d hd=>X d (Vy hd)),Sg]
  exact Nat.mul_le_mul (by lia) hS
 walk_at"g";refine⟨z_ (xs:=G.map V.ref) (fun j Z k=>aD (∃y,Z=[some (.ref bl),some (.ref rm),some (.int gt),some (.int m),some (.int I),some (.int (S:Nat)),some (.ref a),y]/\aA H k/\k a=some (.lst ((bf ((o.take j).flatMap fun d=>jY S d.1)).map V.int)))) ⟨_,rfl,s2,bt⟩ ?_ ?_ ?_⟩
 .rintro j Z k _ ⟨y,rfl,s3,_⟩
  exact s3.seq n
 .rintro j u Z k hj ⟨y,rfl,s3,hw⟩
  obtain⟨x,ex,rfl⟩:=dX hj;have bo:j<G.length:=(RX.mp ex).1;obtain⟨d,ed⟩:∃d,o[j]? =some d:=⟨_,R1 (by have:=U.1;lia)⟩
  obtain⟨dx,i,b,js,l⟩:=U.2 j x d ex ed;have l3:=l.same s3;have bw:lnW d.1<=S:=X d (Sa ed);have ba:S<=2000:=by lia
  have bx:tyV K "list" (.ref a) k:= .inl ⟨rfl,_,SqL.of hw⟩;have b4:=aW j;walk_at"g";intro p4 H4 s4 bb h4;have bc:=s4 _ _ hw;have hz:((bf ((o.take j).flatMap fun d=>jY S d.1)).map V.int).length+((bf (jY S d.1)).map V.int).length<=sizeLine:=by
   rw[be,be,d8 (jY S d.1),Bm bw];exact RY (show _<=20000 by lia) (by decide)
  walk_at"g";refine⟨_,rfl,bZ e (s3.trans s4),?_⟩
  rw[ae,gq ed,US,oM,R5]
  simp
 .rintro Z H3 ⟨y,rfl,s3,hw⟩
  rw[Y,Sl] at hw;have ew:((bf (o.flatMap fun d=>jY S d.1)).map V.int).length=o.length*S:=by rw[be,d8,vC X]
  have cm:AZ ((2:Int)^m) (S:Int):= .inr ⟨by lia,by lia⟩
  have eN:(2:Int)^m*(S:Int) - (((bf (o.flatMap fun d=>jY S d.1)).map V.int).length:Nat)=((2^m*S - o.length*S:Nat):Int):=by
   rw[ew,Int.ofNat_sub a7]
   push_cast
   rfl
  have hN:2^m*S - o.length*S<=2000:=by lia
  have bx:tyV K "list" (.ref a) H3:= .inl ⟨rfl,_,SqL.of hw⟩;walk_at"g";refine⟨(congrArg (fun z=>[V.int z]) eN:[V.int ((2:Int)^m*(S:Int) - (((bf (o.flatMap fun d=>jY S d.1)).map V.int).length:Nat))]=[V.int ((2^m*S - o.length*S:Nat):Int)]),hN,?_⟩
  intro p4 H4 s4 bb h4;have bc:=s4 _ _ hw;have hz:((bf (o.flatMap fun d=>jY S d.1)).map V.int).length+((bf (stp (2^m*S - o.length*S))).map V.int).length<=sizeLine:=by
   rw[ew,be,d8,sf];exact RY (show o.length*S+(2^m*S - o.length*S)<=2000 by lia) (by decide)
  walk_at"g";have aF:(bf (o.flatMap fun d=>jY S d.1)).map V.int++(bf (stp (2^m*S - o.length*S))).map V.int=(bf (vo S (2^m*S) o)).map V.int:=by
   rw[<- R5, <-oM]
   rfl
  rw[aF];generalize aT:(bf (vo S (2^m*S) o)).map V.int=ws at*;have s5:aA H (upd H4 a (.lst ws)):=bZ e (s3.trans s4);have aS:upd H4 a (.lst ws) a=some (.lst ws):=ae;generalize upd H4 a (.lst ws)=H5 at*;have bR:=s5.tup bg;walk_at"g";intro a1 ar;generalize T:upd H5 a1 _=H6;have a6:=upA T;have N:=upS ar T;clear T;have s6:=s5.trans N;have aN:=N _ _ aS;have bB:=s6.seq n;have bT:=U.same s6;have bS:∀d∈o,d.2.length<=30:=fun d z=>(hd d z).2
  have ba:S<=2000:=by lia
  walk_at"g";intro p7 H7 s7 aX h7;walk_at"g";intro r ab;have s8:=ag ab (.tup [.ref a1,.ref a,.ref p7]);exact qQ ms r _ ((s6.trans s7).trans s8) ⟨a1,a,p7,ae,s8 _ _ (s7 _ _ a6),(by rw[aL,aT];exact s8 _ _ (s7 _ _ aN)),(by rw[aL];exact s8 _ _ h7),(s6.trans s7).free ab,s5.free ar,e,s6.free aX⟩
noncomputable def jI(p:Addr)(H:Hp):Hp:=fun a=>if a=p then none else H a
theorem DK{p:Addr}{H:Hp}{o:HO}:jI p (upd H p o)=jI p H:=by
 funext a
 unfold jI upd
 split <;> rfl
theorem Bl{p:Addr}{H:Hp}:aA (jI p H) H:=fun a o h=>by
 unfold jI at h
 split at h
 .cases h
 .exact h
theorem SqT.del{K:Frag}{H:Hp}{p t:Addr}{xs ys:List V}(C:H p=some (.lst ys))(h:SqT K H t xs):SqT K (jI p H) t xs:=by
 rcases h with(h | ⟨o,h⟩) | h
 .refine .inl (.inl ?_)
  show My.jI p H t=_
  unfold My.jI;rw[R6 (dj h C (by intro z;cases z))]
  exact h
 .refine .inl (.inr ⟨o,?_⟩)
  show My.jI p H t=_
  unfold My.jI;rw[R6 (dj h C (by intro z;cases z))]
  exact h
 .exact .inr h
theorem a9.del{K:Frag}{C:Addr}{H:Hp}{p x o i b:Addr}{I:List Addr}{is:List Ins}{bs:List Nat}{ys:List V}(l:a9 K C H x o i b I is bs)(J:H p=some (.lst ys))(U:i≠p)(a:b≠p):a9 K C (jI p H) x o i b I is bs:=by
 refine⟨?_,?_,?_,l.ib,l.ow.mono fun _ _ z=>SqT.del J z,l.va⟩
 .unfold My.jI;rw[R6 (dj l.at_ J (by intro z;cases z))]
  exact l.at_
 .unfold My.jI;rw[R6 U];exact l.li
 .unfold My.jI;rw[R6 a];exact l.lb
theorem Lds.snoc{K:Frag}{C:Addr}{H:Hp}{xs:List Addr}{U:List Bk}{x c i b:Addr}{J:List Addr}{d:Bk}(h:Lds K C H xs U)(l:a9 K C H x c i b J d.1 d.2):Lds K C H (xs++[x]) (U++[d]):=by
 refine⟨by rw[RZ,RZ,h.1];rfl,fun a y e o I=> ?_⟩
 by_cases z:a<xs.length
 .rw[SW z] at o;rw[SW (by have:=h.1;lia)] at I
  exact h.2 a y e o I
 .have za:a=xs.length:=by
   have:=(RX.mp o).1;rw[RZ,WI] at this
   lia
  subst za;rw[SU (by lia),Vi] at o
  rw[h.1,SU (by lia),Vi] at I
  cases o
  cases I
  exact⟨c,i,b,J,l⟩
def GSt(K:Frag)(H:Hp)(o:List Addr)(C:List (List Ins)):Prop:=o.length=C.length/\∀(j:Nat) (b:Addr) (bk:List Ins),o[j]? =some b->C[j]? =some bk->GBk K H b bk
structure GuB (gs:List (List Ins)):Prop where
 n0:0<gs.length
 n16:gs.length<=16
 va:∀bk∈gs,(∀kn∈bk,VI kn)/\bk.length<=30
def LA(K:Frag)(c:Addr):Sp:=fun vs H Q E=>∃(gst b:Addr) (C:List Addr) (I:List (List Ins)) (U J a:Int) (M:Nat),vs=[.ref gst,.ref b,.int a]/\SqT K H gst (C.map V.ref)/\GSt K H C I/\SqT K H b [.int U,.int J]/\
 GuB I/\xv M (I.map dP)/\
 ∀m s,sE I.length m->sE M s->(7<m+s->∀o,aA H o->E (.ref c) none o)/\(m+s<=7->∀r o,aA H o->Go H o r (I.map dP) U J a m s->Q (.ref r) o)
theorem M3{C CT:Addr}(B:Bi mg)(D:Km K mg)(j7:Has P w K mg base 4 "masked_block" sU (No K C))(cS:dA P w K mg base 8 "code_of_blocks" Bp [] (G3 K C CT)):
  dA P w K mg base 9 "make" tH [] (LA K CT):=by
 refine D.hasO MU (by intro _ _ _ _;walk_at"ln") (fun f aS A L s H vs Q E Z h=> ?_)
 obtain⟨gst,rm,n,c,rk,rb,gt,M,rfl,hg,J,R,G,hM,q⟩:=h;have aG:=G.n16;refine⟨_,(ad (ah (b_ (cS.mono (by omega)) Z (by rfl) (ij (by rfl)) (pa3 (PE.nox (ly (by rfl) (by rfl) (by rfl) (bk (sc0:=af Cd) (N0:=["guest","room","gates"]) ["block"] 1 []) (oN (pv 0)) (fun _ _ _ _=>(aJ (i:=0) (show List.Nodup (["block"]:List Str) by decide) (by rfl) (by left;rfl))) (fun _ _ _ _=>(pcH j7 Z (pa1 (pv 0)))))) (pv 1) (pv 2))))),?_⟩
 walk_at"o";intro p X;refine qV (xs:=n.map V.ref) (fun j v U=>aD (aA H U)/\∃I,U p=some (.lst v)/\v=I.map V.ref/\Lds K C (jI p U) I ((c.take j).map dP)) ⟨⟨ag X _⟩,[],ae,rfl,rfl,fun j x d e=>by simp at e⟩ ?_ ?_ ?_
 .rintro j v U ⟨⟨s1⟩,_⟩
  exact s1.tup hg
 .rintro j u v U F hF hj ⟨⟨s1⟩,I,hp1,rfl,lds⟩
  obtain⟨b,W,rfl⟩:=dX hj;have aR:j<n.length:=(RX.mp W).1;obtain⟨bk,O⟩:∃bk,c[j]? =some bk:=⟨_,R1 (by have:=J.1;lia)⟩
  have aN:=(J.2 j b bk W O).same s1;obtain⟨hv,aF⟩:=G.va bk (Sa O);have T:I.length=j:=by
   rw[lds.1,be,Sg];have:=J.1
   lia
  have hz:(I.map V.ref).length<sizeLine:=by
   rw[be,T];exact Sb (show j<100 by have:=J.1;lia) (by decide)
  walk_at"g";intro x dx i b' js Y k hx hi hb l;have N:=k _ _ hp1;walk_at"g";refine hF _ _ ⟨⟨bZ X (s1.trans k)⟩,I++[x],ae,by rw[R5];rfl,?_⟩
  have sd:aA (jI p U) (jI p (upd Y p (.lst (I.map V.ref++[V.ref x])))):=fun a o h=>by
   unfold jI at*
   by_cases z:a=p
   .rw[R9 z] at h;cases h
   .rw[R6 z] at h ⊢;rw[aj z];exact k _ _ h
  have l2:a9 K C (jI p (upd Y p (.lst (I.map V.ref++[V.ref x])))) x dx i b' js (dP bk).1 (dP bk).2:=by
   rw[DK];exact l.del N (SD (aq hp1 hi)) (SD (aq hp1 hb))
  rw[gq O,R5];exact(lds.same sd).snoc l2
 .rintro v H1 ⟨⟨s1⟩,I,hp1,rfl,lds⟩
  rw[be,J.1,Sl] at lds;have ab:=lds.same (Bl (H:=H1) (p:=p));have hq:SqL K H1 p (I.map V.ref):=SqL.of hp1;have au:=s1.tup R;have y:(c.map dP).length=c.length:=by rw[be]
  have aw:0<(c.map dP).length:=by rw[y];exact G.n0
  have ar:(c.map dP).length<=16:=by lia
  have aL:∀d∈c.map dP,lnW d.1<=300/\d.2.length<=30:=fun d hd=>by
   obtain⟨bk,h1,rfl⟩:=SY.mp hd;have h2:=(G.va bk h1).2;have h3:=Mq bk;have h4:=C4 bk bk.length (R3 _);rw[Sl] at h4
   lia
  walk_at"g";intro m sx hm hs;rw[y] at hm;obtain⟨q1,q2⟩:=q m sx hm hs;refine⟨fun z U k=>q1 z U (s1.trans k),fun z r U k ca=>q2 z r U (s1.trans k) ?_⟩
  obtain⟨a1,a2,a3,c1,c2,c3,c4,f1,f2,f3,f4⟩:=ca;exact⟨a1,a2,a3,c1,c2,c3,c4,s1.free f1,s1.free f2,s1.free f3,s1.free f4⟩
structure Kn where
 sp:List SpM.Span
 ft:Option (Int × Int)
noncomputable def kn0:Kn:=⟨w8,none⟩
noncomputable abbrev bnO(o:Ins):Int × Int:=(o.2.getD 1 0,o.2.getD 2 0)
noncomputable def thG(rk:Nat)(rb:Int)(s:Kn)(o:Ins):List Ins:=
 if ¬(o.1=11\/o.1=12) then grp o
 else if ¬J4 rk rb o.2 s.sp then[o]
 else if s.ft=some (bnO o) then[(o.1,[o.2.getD 0 0,6,0])]
 else grp o
noncomputable def Be(m:Ins)(o:Option (Int × Int)):Bool:=decide (m.1=18) || (decide (mk8 m.1) && (decide (m.2.getD 0 0=6) || (match o with | none=>false | some f=>decide (m.2.getD 0 0=f.1))))
noncomputable def Jy(rk:Nat)(rb:Int)(o:Ins)(s:Kn)(m:Ins):Kn:=⟨zO rk rb 0 0 m.1 m.2 s.sp,if m.1=16 then some (bnO o) else if Be m s.ft=true then none else s.ft⟩
noncomputable def Dq(rk:Nat)(rb:Int)(o:Ins)(s:Kn)(g:List Ins):Kn:=g.foldl (Jy rk rb o) s
noncomputable def knB(is:List Ins)(s:Kn):Kn:=if lnW is %8=0 then kn0 else s
noncomputable def thS(rk : Nat)(rb : Int)(st : Bk × Kn)(o : Ins) : Bk × Kn :=
  ((fW st.1.1 (thG rk rb st.2 o) ++ thG rk rb (knB (fW st.1.1 (thG rk rb st.2 o)) st.2) o, st.1.2 ++ [lnW (fW st.1.1 (thG rk rb st.2 o))]),
   Dq rk rb o (knB (fW st.1.1 (thG rk rb st.2 o)) st.2) (thG rk rb (knB (fW st.1.1 (thG rk rb st.2 o)) st.2) o))
noncomputable def thB(rk:Nat)(rb:Int)(b:List Ins):Bk × Kn:=b.foldl (thS rk rb) (([],[]),kn0)
theorem yO{rk:Nat}{rb:Int}{b:List Ins}{j:Nat}{o:Ins}(h:b[j]? =some o):thB rk rb (b.take (j+1))=thS rk rb (thB rk rb (b.take j)) o:=by
 unfold thB;rw[Us,h,UI]
 rfl
theorem r6(rk:Nat)(rb:Int)(s:Kn)(o:Ins):thG rk rb s o=grp o\/((o.1=11\/o.1=12)/\¬J4 rk rb o.2 s.sp/\thG rk rb s o=[o])\/((o.1=11\/o.1=12)/\s.ft=some (bnO o)/\thG rk rb s o=[(o.1,[o.2.getD 0 0,6,0])]):=by
 unfold thG
 split
 .exact .inl rfl
 .rename_i h
  have h:o.1=11\/o.1=12:=Decidable.not_not.mp h
  split
  .rename_i h2;exact .inr (.inl ⟨h,h2,rfl⟩)
  .split
   .rename_i h3;exact .inr (.inr ⟨h,h3,rfl⟩)
   .exact .inl rfl
theorem JG{o:Ins}(h:VI o)(C:o.1=11\/o.1=12):VI (o.1,[o.2.getD 0 0,6,0]):=by
 obtain⟨k,J⟩:=o;obtain⟨a,b,n,e,a0,a1,U,I,n0,n1⟩:=aQ.acc h C;dsimp only at e C;subst e;exact .inr (.inr (.inr (.inl ⟨by show 10<=k;lia,by show k<=12;lia,a,6,0,rfl,a0,a1,by decide,by decide,by decide,by decide⟩)))
theorem wQ{rk:Nat}{rb:Int}{s:Kn}{C:Ins}(h:VI C):∀g∈thG rk rb s C,VI g:=by
 intro g o;rcases r6 rk rb s C with e | ⟨hk,_,e⟩|⟨hk,_,e⟩
 .rw[e] at o;exact wR h g o
 .rw[e,SN] at o;rw[o];exact h
 .rw[e,SN] at o;rw[o];exact JG h hk
theorem Ia(rk:Nat)(rb:Int)(s:Kn)(o:Ins):1<=lnW (thG rk rb s o)/\lnW (thG rk rb s o)<=3:=by
 rcases r6 rk rb s o with e | ⟨hk,_,e⟩|⟨hk,_,e⟩
 .rw[e];exact Cn o
 .rw[e,yy];have:=rS o.1;lia
 .rw[e,yy];have:=rS o.1;exact⟨this.1,by show kS o.1<=3;lia⟩
theorem Ij(rk:Nat)(rb:Int)(s:Kn)(o:Ins):(thG rk rb s o).length<=3:=by
 rcases r6 rk rb s o with e | ⟨hk,_,e⟩|⟨hk,_,e⟩
 .rw[e];exact HL o
 .rw[e];simp
 .rw[e];simp
theorem Mp{C:Ins}(h:C.1≠16):∀g∈grp C,g.1=16->C.1=11\/C.1=12:=by
 intro g o e;unfold grp at o
 split at o
 .simp only[Se,SS,Ue] at o
  rcases o with rfl | rfl
  .exact absurd (show(17:Nat)=16 from e) (by decide)
  .exact absurd (show(15:Nat)=16 from e) (by decide)
 .split at o
  .assumption
  .rw[SN] at o;rw[o] at e;exact absurd e h
theorem MM{rk:Nat}{rb:Int}{s:Kn}{o:Ins}(h:o.1≠16):∀g∈thG rk rb s o,g.1=16->o.1=11\/o.1=12:=by
 intro g C e;rcases r6 rk rb s o with z | ⟨hk,_,z⟩|⟨hk,_,z⟩
 .rw[z] at C;exact Mp h g C e
 .exact hk
 .exact hk
theorem MJ(is g:List Ins):(fW is g).length<=is.length+8:=by
 unfold fW
 split
 .lia
 .rw[RZ];unfold A6;rw[SO]
  lia
theorem Af(rk:Nat)(rb:Int)(b:List Ins):∀j,j<=b.length->lnW (thB rk rb (b.take j)).1.1<=if j %2=0 then 4*j else 4*(j - 1)+3
 | 0,_=>by simp [thB,lnW]
 | j+1,h=>by
  have ih:=Af rk rb b j (by lia)
  have e:b[j]? =some b[j]:=R1 (by lia)
  rw[yO e];show lnW (fW _ _++thG rk rb _ b[j])<=_
  rw[jh];have I:=(DF (thB rk rb (b.take j)).1.1 (thG rk rb (thB rk rb (b.take j)).2 b[j])).2;have o:=Ia rk rb (thB rk rb (b.take j)).2 b[j];have C:=Ia rk rb (knB (fW (thB rk rb (b.take j)).1.1 (thG rk rb (thB rk rb (b.take j)).2 b[j])) (thB rk rb (b.take j)).2) b[j];generalize lnW (fW (thB rk rb (b.take j)).1.1 (thG rk rb (thB rk rb (b.take j)).2 b[j]))=x at*;generalize lnW (thB rk rb (b.take j)).1.1=y at*
  by_cases c:j %2=0
  .rw[R9 c] at ih;rw[R6 (by lia)]
   lia
  .rw[R6 c] at ih;rw[R9 (by lia)]
   lia
theorem Oa(rk:Nat)(rb:Int)(b:List Ins):lnW (thB rk rb b).1.1<=4*b.length+3:=by
 have:=Af rk rb b b.length (R3 _);rw[Sl] at this
 split at this <;> lia
theorem GB(rk:Nat)(rb:Int)(b:List Ins):∀j,j<=b.length->(thB rk rb (b.take j)).1.2.length=j
 | 0,_=>by simp [thB]
 | j+1,h=>by
  have e:b[j]? =some b[j]:=R1 (by lia)
  rw[yO e];show((thB rk rb (b.take j)).1.2++[_]).length=_
  rw[RZ,GB rk rb b j (by lia)]
  rfl
noncomputable abbrev kfs(pl sa:Addr)(o:V):List (Str × V):=[("plan",.ref pl),("spans",.ref sa),("fitted",o)]
def FtA(K:Frag)(H:Hp)(v:V):Option (Int × Int)->Prop
 | none=>v= .non
 | some f=>∃t,v= .ref t/\SqT K H t (([f.1,f.2]:List Int).map V.int)
theorem FtA.mono{K:Frag}{H C:Hp}{v:V}{o:Option (Int × Int)}(f:∀t xs,SqT K H t xs->SqT K C t xs)(h:FtA K H v o):FtA K C v o:=by
 cases o with
 | none=>exact h
 | some z=>obtain⟨t,e,h⟩:=h;exact⟨t,e,f _ _ h⟩
structure mO (K:Frag) (C:Addr) (H:Hp) (x dx:Addr) (rk:Nat) (rb:Int) (s:Kn):Prop where
 ex:∃pl sa fv,H x=some (.ins C dx (kfs pl sa fv))/\Pl H pl rk rb 0 0 0/\SpT K H sa s.sp/\FtA K H fv s.ft
 s8:Sp8 s.sp
theorem SpT.keep{H o:Hp}{a:Addr}{sp:List SpM.Span}(f:∀t xs,SqT K H t xs->SqT K o t xs)(g:∀t xs,H t=some (.tup xs)->o t=some (.tup xs))(h:SpT K H a sp):SpT K o a sp:=let ⟨as,h1,h2⟩:=h;⟨as,f _ _ h1,h2.mono g⟩
theorem mO.same{K:Frag}{C:Addr}{H o:Hp}{x I:Addr}{rk:Nat}{rb:Int}{s:Kn}(e:aA H o)(h:mO K C H x I rk rb s):mO K C o x I rk rb s:=by
 obtain⟨⟨pl,sa,U,c,J,b,d⟩,a⟩:=h;exact⟨⟨pl,sa,U,e _ _ c,J.mv e,b.same e,d.mono (fun _ _ z=>e.tup z)⟩,a⟩
theorem h9{K:Frag}{H I:Hp}{x t:Addr}{C U:Addr}{fs:List (Str × V)}{xs:List V}(b:But x H I)(J:H x=some (.ins C U fs))(h:SqT K H t xs):SqT K I t xs:=by
 rcases h with(h | ⟨o,h⟩) | h
 .exact .inl (.inl (b _ _ (dj h J (by intro z;cases z)) h))
 .exact .inl (.inr ⟨o,b _ _ (dj h J (by intro z;cases z)) h⟩)
 .exact .inr h
theorem vf{H o:Hp}{x a:Addr}{C U:Addr}{fs:List (Str × V)}{k:Nat}{I:Int}{m s:Nat}{g:Int}(b:But x H o)(J:H x=some (.ins C U fs))(h:Pl H a k I m s g):Pl o a k I m s g:=
 ⟨b _ _ (dj h.at_ J (by intro z;cases z)) h.at_,h.room,h.ms⟩
theorem u5{H o:Hp}{x a:Addr}{C J:Addr}{fs:List (Str × V)}{sp:List SpM.Span}(b:But x H o)(I:H x=some (.ins C J fs))(h:SpT K H a sp):SpT K o a sp:=
 h.keep (fun _ _ z=>h9 b I z) (fun _ _ z=>b _ _ (dj z I (by intro z;cases z)) z)
theorem wH:∀k,k<19->(V.str (aV k)=V.str "gate"↔k=18):=by decide +kernel
theorem DW:∀k,k<19->(V.str (aV k)=V.str "fit"↔k=16):=by decide +kernel
def HI(K:Frag)(C:Addr):Sp:=fun vs H Q _=>∃(U:Hp) (x a b:Addr) (J:Nat) (I:Int),vs=[.ref x,.ref b]/\H x=some (.ins C a [])/\U x=none/\aA U H/\SqT K H b [.int J,.int I]/\SpM.Room J I/\
 ∀o,aA U o->mO K C o x a J I kn0->Q .non o
def D4(K:Frag)(C:Addr):Sp:=fun vs H Q _=>∃(x U:Addr) (J:Nat) (I:Int) (s:Kn),vs=[.ref x]/\mO K C H x U J I s/\∀o,But x H o->mO K C o x U J I kn0->Q .non o
def Nw(K:Frag)(C:Addr):Sp:=fun vs H Q _=>∃(x b t:Addr) (U:Nat) (J:Int) (s:Kn) (I:Ins),vs=[.ref x,.ref t]/\mO K C H x b U J s/\SqT K H t (aO I.1 I.2)/\VI I/\
 ∀(g:Addr) (a:List Addr) (o:Hp),aA H o->SqT K o g (a.map V.ref)->gf K o a (thG U J s I)->Q (.ref g) o
def JX(K:Frag)(C:Addr):Sp:=fun vs H Q _=>∃(x J t:Addr) (I:Nat) (o:Int) (s:Kn) (m:Ins),vs=[.ref x,.ref t]/\mO K C H x J I o s/\SqT K H t (aO m.1 m.2)/\VI m/\Q (.bl (Be m s.ft)) H
def NK(K:Frag)(C:Addr):Sp:=fun vs H Q _=>∃(x b t g:Addr) (c:List Addr) (a:Nat) (U:Int) (s:Kn) (o:Ins) (I:List Ins),vs=[.ref x,.ref t,.ref g]/\mO K C H x b a U s/\SqT K H t (aO o.1 o.2)/\VI o/\SqT K H g (c.map V.ref)/\gf K H c I/\(∀m∈I,VI m)/\
 (∀m∈I,m.1=16->o.1=11\/o.1=12)/\I.length<=10/\∀J,But x H J->mO K C J x b a U (Dq a U o s I)->Q .non J
theorem vP{C:Addr}(B:Bi mg)(c:eV K mg "Known" C)(n:oE K C)(D:iJ K C)(O:Has P w K mg base 2 "first_spans" [] (Mf K)):cV P w K mg base 3 C "__init__" E_ (HI K C):=by
 refine D.has c.cl wk (by intro _ _ _ _;walk_at"ln") (fun f L A k s H vs Q E N h=> ?_)
 obtain⟨M,x,e,Z,I,J,rfl,l,y,W,F,G,q⟩:=h;have hc:=c.cl;have n1:=n.plan;have n2:=n.spans;have n3:=n.fitted;have i0:atI [V.int I,V.int J] 0=some (.int I):=bq (j:=0) rfl;have X:atI [V.int I,V.int J] 1=some (.int J):=bq (j:=1) rfl
 refine⟨_,(aa (cG (pv 0) (az (pa5 (pX ay (pv 1) ac) (pX ay (pv 1) ac) ac ac ac)) (by rfl))
   (aa (cG (pv 0) (iN (O.mono (by omega)) N (by rfl)) (by rfl))
   (ad (cG (pv 0) cO (by rfl))))),?_⟩
 walk_at"k";intro pl b;have z:x≠pl:=aq l b;have m:upd H pl (.tup [.int I,.int J,.int 0,.int 0,.int 0]) x=some (.ins C e []):=by rw[aj z];exact l
 have r:=ag b (.tup [.int I,.int J,.int 0,.int 0,.int 0]);have p:upd H pl (.tup [.int I,.int J,.int 0,.int 0,.int 0]) pl=some (.tup [.int I,.int J,.int 0,.int 0,.int 0]):=ae;generalize upd H pl (.tup [.int I,.int J,.int 0,.int 0,.int 0])=Y at*;walk_at"g";intro sa U d i;have u:U x=some (.ins C e [("plan",.ref pl)]):=d _ _ ae;have T:U pl=some (.tup [.int I,.int J,.int 0,.int 0,.int 0]):=d _ _ (by rw[aj (SD z)];exact p)
 have R:aA M U:=fun a o h=>d _ _ (by rw[aj (aq h y)];exact r _ _ (W _ _ h))
 clear d r m p l;walk_at"g";have b3:But x U (upd (upd U x (.ins C e (bP "spans" (.ref sa) [("plan",.ref pl)]))) x (.ins C e (bP "fitted" .non (bP "spans" (.ref sa) [("plan",.ref pl)])))):=fun a o v h=>by rw[aj v,aj v];exact h
 refine q _ (fun a o h=>b3 _ _ (aq h y) (R _ _ h)) ⟨⟨pl,sa,.non,?_,vf b3 u ⟨T,G,by decide⟩,u5 b3 u i,rfl⟩,N6⟩
 rw[ae]
 rfl
theorem x8{C:Addr}(B:Bi mg)(c:eV K mg "Known" C)(n:oE K C)(D:jX K C)(v:Has P w K mg base 2 "first_spans" [] (Mf K)):cV P w K mg base 3 C "forget" fw (D4 K C):=by
 refine D.has c.cl xQ (by intro _ _ _ _;walk_at"ln") (fun f p A d s H vs Q E u h=> ?_)
 obtain⟨x,l,F,G,st,rfl,⟨⟨pl,sa,k,r,b,m,z⟩,L⟩,q⟩:=h;have M:=c.cl;have n2:=n.spans;have n3:=n.fitted
 refine⟨_,(aa (cG (pv 0) (iN (v.mono (by omega)) u (by rfl)) (by rfl))
   (ad (cG (pv 0) cO (by rfl)))),?_⟩
 walk_at"k";intro I i e J;have j:=e _ _ r;have y:=b.mv e;walk_at"g";have b3:But x i (upd (upd i x (.ins C l (bP "spans" (.ref I) (kfs pl sa k)))) x (.ins C l (bP "fitted" .non (bP "spans" (.ref I) (kfs pl sa k))))):=fun a o U h=>by rw[aj U,aj U];exact h
 refine q _ (fun a o U h=>b3 _ _ U (e _ _ h)) ⟨⟨pl,I,.non,?_,vf b3 j y,u5 b3 j J,rfl⟩,N6⟩
 rw[ae]
 rfl
theorem sR{C:Addr}(B:Bi mg)(c:eV K mg "Known" C)(n:oE K C)(D:gJ K C)(dg:Has P w K mg base 1 "is_access" cI (J3 K))(aS:Has P w K mg base 1 "access_by_mask" cI (K6 K))(W:Has P w K mg base 2 "masked_group" cI (OO K))
  (df:Has P w K mg base 2 "may_reach_out" jm (K0 K)):cV P w K mg base 3 C "thin_group" dC (Nw K C):=by
 refine D.has c.cl sM (by intro _ _ _ _;walk_at"ln") (fun f aG A y s H vs Q E m h=> ?_)
 obtain⟨x,dx,t,rk,rb,st,d,rfl,⟨⟨pl,sa,fv,hx,aw,au,R⟩,h8⟩,Z,X,q⟩:=h;have aL:d.1<19:=X.lt19;have hc:=c.cl;have n1:=n.plan;have n2:=n.spans;have n3:=n.fitted
 refine⟨_,(aa (aC (ff (bN (pcH dg m (pa1 (pv 1))))) (ad (ah (pcH W m (pa1 (pv 1))))) ao)
   (aa (aC (ff (bN (pcH df m (pa3 (ce (pv 0) (by rfl)) (pv 1) (ce (pv 0) (by rfl)))))) (ad (ah (az (pa1 (pv 1))))) ao)
   (aa (aC (pcT (LV (GX m)) (ce (pv 0) (by rfl)) (bK uK (pv 1) (cq ac) cQ)) (ad (ah (az (pa1 (pcH aS m (pa1 (pv 1))))))) ao)
   (ad (ah (pcH W m (pa1 (pv 1)))))))),?_⟩
 walk_at"k"
 by_cases I:d.1=11\/d.1=12
 rotate_left
 .rw[RW I];walk_at"g";intro g l u k e G;refine q g l u k e ?_
  unfold thG;rw[R9 I];exact G
 rw[R0 I];walk_at"g"
 by_cases ho:J4 rk rb d.2 st.sp
 rotate_left
 .rw[RW ho];walk_at"g";intro g e;refine q g [t] _ (ag e _) (SqT.of ae) ?_
  unfold thG;rw[R6 (Vt I),R9 ho];exact⟨(ag e _).tup Z,True.intro⟩
 rw[R0 ho];walk_at"g";obtain⟨a,b,o,U,a0,a1,b0,b1,ar,ab⟩:=X.acc I;refine⟨(fun z=>by rw[U] at z;exact absurd (show(2:Nat)=0 from z.1) (by decide)),fun p hp=> ?_⟩
 have r:fC (aO d.1 d.2) (some 2) none=([b,o]:List Int).map V.int:=by rw[U];rfl
 rw[r];have k:=ag hp (.tup (([b,o]:List Int).map V.int));have Y:SqT K (upd H p (.tup (([b,o]:List Int).map V.int))) p (([b,o]:List Int).map V.int):=SqT.of ae;generalize upd H p (.tup (([b,o]:List Int).map V.int))=u at*;have O:=k.tup Z;have T:bnO d=(b,o):=by unfold bnO;rw[U];rfl
 have fin:st.ft≠some (b,o)->∀g l i,aA u i->SqT K i g (l.map V.ref)->gf K i l (grp d)->Q (.ref g) i:=fun j g l i M e G=>by
  refine q g l i (k.trans M) e ?_
  unfold thG;rw[R6 (Vt I),R6 (Vt ho),R6 (by rw[T];exact j)]
  exact G
 have J:=R.mono (fun _ _ z=>k.tup z)
 cases hf:st.ft with
 | none=>
  rw[hf] at J;obtain rfl:fv= .non:=J;refine .inl ⟨rfl,p,_,rfl,Y,?_⟩
  walk_at"g";exact fin (by rw[hf];intro z;cases z)
 | some fb=>
  rw[hf] at J;obtain⟨tf,rfl,F⟩:=J;refine .inr ⟨tf,p,_,_,rfl,rfl,F,Y,?_⟩
  by_cases he:fb=(b,o)
  .subst he;rw[show(if false=true then !decide (([b,o]:List Int)=[b,o]) else decide (([b,o]:List Int)=[b,o]))=true from by rw[R6 (by decide),R0 rfl]]
   have aF:SqT K u t (aO d.1 (a::[b,o])):=by rw[<- U];exact O
   walk_at"g";intro g1 N;generalize L:upd u g1 _=i;have v:=upA L;have M:=upS N L;clear L;have q2:SqT K i g1 (aO d.1 [a,6,0]):=SqT.of v;walk_at"g";intro g e;refine q g [g1] _ ((k.trans M).trans (ag e _)) (SqT.of ae) ?_
   unfold thG;rw[R6 (Vt I),R6 (Vt ho),R9 (by rw[T];exact hf),U]
   exact⟨(ag e _).tup q2,True.intro⟩
  .have j:([fb.1,fb.2]:List Int)≠[b,o]:=fun z=>he (by
    injection z with z1 z2
    injection z2 with z2 _
    exact Prod.ext z1 z2)
   rw[show(if false=true then !decide (([fb.1,fb.2]:List Int)=[b,o]) else decide (([fb.1,fb.2]:List Int)=[b,o]))=false from by rw[R6 (by decide),RW j]]
   walk_at"g";exact fin (by rw[hf];intro z;exact he (Sj z))
theorem sK{C:Addr}(B:Bi mg)(c:eV K mg "Known" C)(n:oE K C)(D:gN K C)(m:Has P w K mg base 1 "made_box" cI (Nk K)):cV P w K mg base 2 C "is_lost_by" DI (JX K C):=by
 refine D.has c.cl jA (by intro _ _ _ _;walk_at"ln") (fun f u A d s H vs Q E v h=> ?_)
 obtain⟨x,O,t,F,M,st,o,rfl,⟨⟨pl,sa,i,L,l,k,I⟩,N⟩,G,y,q⟩:=h;have a:o.1<19:=y.lt19;have R:=c.cl;have n3:=n.fitted;have T:atI (aO o.1 o.2) 0=some (.str (aV o.1)):=nj
 refine⟨_,(aa (psS 2 jA.nd (pcH m v (pa1 (pv 1))))
   (ad (ah (Bg (pcE aK (pX ay (pv 1) ac) av) (Bg (pcE aK (pv 2) ac) (gg (gL (Gf (HC (ce (pv 0) (by rfl)))) (gg (pcE aK (pv 2) (pX ay (ce (pv 0) (by rfl)) ac)))))))))),?_⟩
 walk_at"k";have b:¬(o.1=18/\mk8 o.1):=by unfold mk8;lia
 have J:Be o st.ft=(decide (o.1=18) || (decide (mk8 o.1) && (decide (o.2.getD 0 0=6) || (match st.ft with | none=>false | some f=>decide (o.2.getD 0 0=f.1))))):=rfl
 refine⟨fun hm=> ?_,fun hm=> ?_⟩
 .have U:o.1≠18:=fun z=>b ⟨z,hm⟩
  rw[RW U,R0 hm,V6,Uo] at J;walk_at"g";refine vK (fun z=>U ((wH o.1 a).mp z)) ?_
  walk_at"g";refine bO (fun c6=> ?_) (fun c6=> ?_)
  .have c6:o.2.getD 0 0=6:=by injection c6
   rw[R0 c6,Bool.true_or] at J;rw[J] at q;walk_at"g";exact q
  have c6:¬o.2.getD 0 0=6:=fun z=>c6 (by rw[z])
  rw[RW c6,V6] at J;walk_at"g"
  cases hf:st.ft with
  | none=>
   rw[hf] at I J q;obtain rfl:i= .non:=I;rw[J] at q;walk_at"g";exact q
  | some fb=>
   rw[hf] at I J q;obtain⟨r,rfl,e⟩:=I;have p:atI (([fb.1,fb.2]:List Int).map V.int) 0=some (.int fb.1):=bq (j:=0) rfl;rw[J] at q;walk_at"g";rw[show decide (V.int (o.2.getD 0 0)=V.int fb.1)=decide (o.2.getD 0 0=fb.1) from UR.mpr ⟨fun z=>(by injection z),fun z=>by rw[z]⟩]
   exact q
 .rw[RW hm,To,Xa] at J;walk_at"g";refine bO (fun c=> ?_) (fun c=> ?_)
  .have U:o.1=18:=(wH o.1 a).mp c;rw[R0 U] at J;rw[J] at q;walk_at"g";exact q
  have U:¬o.1=18:=fun z=>c ((wH o.1 a).mpr z)
  rw[RW U] at J;rw[J] at q;walk_at"g"
  cases hf:st.ft with
  | none=>
   rw[hf] at I;obtain rfl:i= .non:=I;refine KE rfl ?_
   exact q
  | some fb=>
   rw[hf] at I;obtain⟨r,rfl,e⟩:=I;have p:atI (([fb.1,fb.2]:List Int).map V.int) 0=some (.int fb.1):=bq (j:=0) rfl;refine NP rfl ?_
   walk_at"g";exact q
theorem pZ{C:Addr}(B:Bi mg)(c:eV K mg "Known" C)(n:oE K C)(D:gm K C)(dH:Has P w K mg base 8 "spans_behind" jm (Og K))(gE:cV P w K mg base 2 C "is_lost_by" DI (JX K C)):
  cV P w K mg base 9 C "learn_group" D6 (NK K C):=by
 refine D.has c.cl jj (by intro _ _ _ _;walk_at"ln") (fun f bo A aG s H vs Q E hr h=> ?_)
 obtain⟨x,k,t,g,ts,J,I,st,l,gs,rfl,hk,ht,hv,hg,hi,aT,aL,bb,q⟩:=h;have hc:=c.cl;have n1:=n.plan;have n2:=n.spans;have n3:=n.fitted;have hR:SpM.Room J I:=by obtain⟨_,_,_,_,z,_⟩:=hk.ex;exact z.room
 obtain⟨a6,bl,bg,N,_⟩:=hk.ex
 refine⟨_,(ad (cv Sw (by rfl) (bY (oN (pv 2))) (aJ (i:=3) jj.nd (by rfl) (by left;rfl)) (aa (cG (pv 0) (pcH dH hr (pa3 (ce (pv 0) (by rfl)) (pv 3) (ce (pv 0) (by rfl)))) (by rfl))
   (ad (aP (bz (aC (pcT aK (pX ay (pv 3) ac) av) (ad (cG (pv 0) (bK uK (pv 1) (cq ac) cQ) (by rfl))) (ad (aP (bz (aC (bN (dq (gE.mono (by omega)) hr (pv 0) (pa1 (pv 3)))) (ad (cG (pv 0) cO (by rfl))) ao))))))))))),?_⟩
 walk_at"k"
 refine⟨yA (xs:=ts.map V.ref) (fun j Z d=>∃y,Z=[some (.ref x),some (.ref t),some (.ref g),y]/\aD (But x H d)/\mO K C d x k J I (Dq J I l st (gs.take j)))
  ⟨_,rfl,⟨But.refl _ _⟩,hk⟩ ?_ ?_ ?_⟩
 .rintro j Z d _ ⟨y,rfl,⟨v⟩,_⟩
  exact h9 v N hg
 .rintro j u Z d hj ⟨y,rfl,⟨b2⟩,hk2⟩
  obtain⟨tm,et,rfl⟩:=dX hj;obtain⟨m,em,hm⟩:=hi.get et;have au:=aT m (Sa em);have aW:=aL m (Sa em);have ar:m.1<19:=au.lt19;have aF:=h9 b2 N hm;have aS:=h9 b2 N ht;have aN:Dq J I l st (gs.take (j+1))=Jy J I l (Dq J I l st (gs.take j)) m:=by
   unfold Dq;rw[Us,em,UI]
   rfl
  generalize Dq J I l st (gs.take j)=v at*;obtain⟨⟨pl,sa,G,hx,aR,bc,aX⟩,h8⟩:=id hk2;have i0:atI (aO m.1 m.2) 0=some (.str (aV m.1)):=nj;walk_at"g";intro e H2 W aw;have X:=W _ _ hx;have b3:But x H2 (upd H2 x (.ins C k (bP "spans" (.ref e) (kfs pl sa G)))):=fun a o U h=>by rw[aj U];exact h
  have B3:But x H (upd H2 x (.ins C k (bP "spans" (.ref e) (kfs pl sa G)))):=fun a o U h=>b3 _ _ U (W _ _ (b2 _ _ U h))
  have x3:upd H2 x (.ins C k (bP "spans" (.ref e) (kfs pl sa G))) x=some (.ins C k (kfs pl e G)):=ae;have F:=vf b3 X (aR.mv W);have r:=u5 b3 X aw;have ab:=(aX.mono (fun _ _ z=>W.tup z)).mono (fun _ _ z=>h9 b3 X z)
  have a7:=h9 b3 X (W.tup aF);have ba:=h9 b3 X (W.tup aS);have e8:Sp8 (zO J I 0 0 m.1 m.2 v.sp):=Pf hR (by decide) au h8
  walk_at"g";generalize upd H2 x (.ins C k (bP "spans" (.ref e) (kfs pl sa G)))=H3 at*;have a':mO K C H3 x k J I ⟨zO J I 0 0 m.1 m.2 v.sp,v.ft⟩:=⟨⟨pl,e,G,x3,F,r,ab⟩,e8⟩;walk_at"n";refine⟨fun Z' d=>aD (∃y,Z'=[some (.ref x),some (.ref t),some (.ref g),y]/\aD (But x H d)/\mO K C d x k J I (Dq J I l st (gs.take (j+1)))),?_,fun Z' d h=>h.out⟩
  walk_at"g";rw[aN];refine bO (fun M=> ?_) (fun M=> ?_)
  .have m16:m.1=16:=(DW m.1 ar).mp M;obtain⟨a,b,T,O,_⟩:=hv.acc (aW m16);walk_at"g";refine⟨(fun z=>by rw[O] at z;exact absurd (show(2:Nat)=0 from z.1) (by decide)),fun p hp=> ?_⟩
   have Y:fC (aO l.1 l.2) (some 2) none=([b,T]:List Int).map V.int:=by rw[O];rfl
   rw[Y];have s4:=ag hp (.tup (([b,T]:List Int).map V.int));have p4:SqT K (upd H3 p (.tup (([b,T]:List Int).map V.int))) p (([b,T]:List Int).map V.int):=SqT.of ae;generalize upd H3 p (.tup (([b,T]:List Int).map V.int))=H4 at*;have x4:=s4 _ _ x3;walk_at"g";have L:But x H4 (upd H4 x (.ins C k (bP "fitted" (.ref p) (kfs pl e G)))):=fun a o U h=>by rw[aj U];exact h
   refine aD.mk ⟨_,rfl,⟨fun a o U h=>L _ _ U (s4 _ _ (B3 _ _ U h))⟩,⟨⟨pl,e,.ref p,?_,vf L x4 (F.mv s4),u5 L x4 (r.same s4),?_⟩,e8⟩⟩
   .rw[ae]
    rfl
   .unfold Jy;rw[R9 m16];have eb:bnO l=(b,T):=by unfold bnO;rw[O];rfl
    rw[eb];exact⟨p,rfl,h9 L x4 p4⟩
  .have m16:¬m.1=16:=fun z=>M ((DW m.1 ar).mpr z)
   walk_at"n";refine⟨fun Z' d=>aD (∃y,Z'=[some (.ref x),some (.ref t),some (.ref g),y]/\aD (But x H d)/\mO K C d x k J I (Jy J I l v m)),?_,fun Z' d h=>h⟩
   walk_at"g";refine N9 (fun R=> ?_) (fun R=> ?_)
   .have R:Be m v.ft=true:=R;walk_at"g";have L:But x H3 (upd H3 x (.ins C k (bP "fitted" .non (kfs pl e G)))):=fun a o U h=>by rw[aj U];exact h
    refine aD.mk ⟨_,rfl,⟨fun a o U h=>L _ _ U (B3 _ _ U h)⟩,⟨⟨pl,e,.non,?_,vf L x3 F,u5 L x3 r,?_⟩,e8⟩⟩
    .rw[ae]
     rfl
    .unfold Jy;rw[R6 m16,R9 R]
     rfl
   .have R:¬Be m v.ft=true:=by rw[show Be m v.ft=false from R];decide
    refine aD.mk ⟨_,rfl,⟨B3⟩,⟨⟨pl,e,G,x3,F,r,?_⟩,e8⟩⟩
    unfold Jy;rw[R6 m16,R6 R];exact ab
 .rintro Z d ⟨y,rfl,⟨b2⟩,hk2⟩
  rw[be,hi.len,Sl] at hk2;walk_at"g";exact q _ b2 hk2
theorem mO.b3{K:Frag}{C a:Addr}{H J:Hp}{x m i b y c:Addr}{e:List Addr}{is:List Ins}{bs:List Nat}{rk:Nat}{rb:Int}{s:Kn}(l:a9 K C H x m i b e is bs)(p:B3 x i b H J)(ne:y≠x)(h:mO K a H y c rk rb s):mO K a J y c rk rb s:=by
 obtain⟨⟨pl,sa,f,U,I,k,n⟩,j⟩:=h;have d:∀t o,H t=some (.tup o)->J t=some (.tup o):=fun t o h=>p _ _ (dj h l.at_ (by intro z;cases z)) (dj h l.li (by intro z;cases z)) (dj h l.lb (by intro z;cases z)) h
 exact⟨⟨pl,sa,f,p _ _ ne (dj U l.li (by intro z;cases z)) (dj U l.lb (by intro z;cases z)) U,⟨d _ _ I.at_,I.room,I.ms⟩,k.keep (fun _ _ z=>p.tup l z) d,n.mono (fun _ _ z=>p.tup l z)⟩,j⟩
theorem a9.buty{K:Frag}{C a:Addr}{H J:Hp}{x U i b y c:Addr}{I:List Addr}{is:List Ins}{bs:List Nat}{fs:List (Str × V)}(p:But y H J)(o:H y=some (.ins a c fs))(ne:x≠y)(l:a9 K C H x U i b I is bs):a9 K C J x U i b I is bs:=
 ⟨p _ _ ne l.at_,p _ _ (dj l.li o (by intro z;cases z)) l.li,p _ _ (dj l.lb o (by intro z;cases z)) l.lb,l.ib,l.ow.mono fun _ _ z=>h9 p o z,l.va⟩
def ND(K:Frag)(C:Addr):Sp:=fun vs H Q _=>∃(blk U:Addr) (bk:List Ins) (I:Nat) (o:Int),vs=[.ref blk,.ref U]/\GBk K H blk bk/\(∀a∈bk,VI a/\a.1≠16)/\bk.length<=30/\SqT K H U [.int I,.int o]/\SpM.Room I o/\
 ∀(x c i b:Addr) (d:List Addr) (J:Hp),aA H J->H x=none->H i=none->H b=none->a9 K C J x c i b d (thB I o bk).1.1 (thB I o bk).1.2->Q (.ref x) J
theorem wT{C U:Addr}(B:Bi mg)(a_:eV K mg "LaidBlock" C)(jc:eV K mg "Known" U)(D:oX K mg)(bJ:cV P w K mg base 1 C "__init__" fw (Df K C))(iU:cV P w K mg base 3 U "__init__" E_ (HI K U))
  (d7:cV P w K mg base 3 U "thin_group" dC (Nw K U)) (ka:cV P w K mg base 3 U "forget" fw (D4 K U)) (fZ:cV P w K mg base 9 U "learn_group" D6 (NK K U)) (bn:cV P w K mg base 1 C "is_at_bundle" fw (Kf K C))
  (bG:cV P w K mg base 2 C "has_space" oS (C0 K C)) (bv:cV P w K mg base 3 C "fill_bundle" fw (GJ K C)) (bB:cV P w K mg base 3 C "take_group" oS (Dw K C)):
  Has P w K mg base 10 "thinned_block" EC (ND K C):=by
 refine D.has dM (by intro _ _ _ _;walk_at"ln") (fun f cn A a6 s H vs Q E l h=> ?_)
 obtain⟨blk,rm,bk,J,I,rfl,gb,bo,b0,bc,hR,q⟩:=h;obtain⟨ts,aL,R⟩:=id gb
 refine⟨_,(aa (psS 2 dM.nd (By a_ (bJ.mono (by omega)) l (by rfl)))
   (aa (psS 3 dM.nd (yP jc (iU.mono (by omega)) l (by rfl) (pa1 (pv 1))))
   (aa (cv Sw (by rfl) (bY (oN (pv 0))) (aJ (i:=4) dM.nd (by rfl) (by left;rfl)) (aa (aP (bz (aC (ff (bN (dq (bG.mono (by omega)) l (pv 2) (pa1 (dq (d7.mono (by omega)) l (pv 3) (pa1 (pv 4))))))) (ad (bj (mP (bv.mono (by omega)) l (pv 2)))) ao)))
   (aa (aP (bz (aC (bN (mP (bn.mono (by omega)) l (pv 2))) (ad (bj (mP (ka.mono (by omega)) l (pv 3)))) ao)))
   (aa (psS 5 dM.nd (dq (d7.mono (by omega)) l (pv 3) (pa1 (pv 4))))
   (aa (bj (dq (bB.mono (by omega)) l (pv 2) (pa1 (pv 5))))
   (ad (bj (dq (fZ.mono (by omega)) l (pv 3) (pa2 (pv 4) (pv 5))))))))))
   (ad (ah (pv 2)))))),?_⟩
 walk_at"k";intro x dx hx bt cg;refine⟨H,x,dx,rfl,ae,hx,bZ hx (ag bt _),?_⟩
 intro H1 i b hi hb s1 l1;refine⟨rfl,?_⟩
 have O:=s1.tup bc;walk_at"g";intro y N hy aG bT;refine⟨H1,y,N,rm,J,I,rfl,ae,hy,bZ hy (ag aG _),(bZ hy (ag aG _)).tup O,hR,?_⟩
 intro H2 Y k2;refine⟨rfl,?_⟩
 have l2:=l1.same Y;have F:x≠y:=aq l1.at_ hy;have au:H y=none:=s1.free hy;have G:=s1.trans Y;have aN:=G.tup aL;clear l1 Y s1 O;walk_at"g"
 refine⟨yA (xs:=ts.map V.ref) (fun j Z H'=>aD (∃u v js,Z=[some (.ref blk),some (.ref rm),some (.ref x),some (.ref y),u,v]/\aA H H'/\a9 K C H' x dx i b js (thB J I (bk.take j)).1.1 (thB J I (bk.take j)).1.2/\mO K U H' y N J I (thB J I (bk.take j)).2))
  (aD.mk ⟨none,none,[],rfl,G,by simpa [thB] using l2,by simpa [thB] using k2⟩) ?_ ?_ ?_⟩
 .rintro j Z H' _ ⟨u,v,js,rfl,Y,_⟩
  exact Y.tup aL
 .clear l2 k2 G aN;clear H2;rintro j u0 Z H2 hj ⟨u,v,js,rfl,G,l2,k2⟩
  obtain⟨t,et,rfl⟩:=dX hj;obtain⟨k,ek,ht⟩:=R.get et;have cm:j<bk.length:=(RX.mp ek).1;obtain⟨ar,aX⟩:=bo k (Sa ek);have aw:=Af J I bk j (by lia)
  have cc:=GB J I bk j (by lia)
  have aS:=yO (rk:=J) (rb:=I) ek;have cp:(thB J I (bk.take j)).1.1.length<=200:=by
   have:=GZ (thB J I (bk.take j)).1.1
   split at aw <;> lia
  clear aw;generalize thB J I (bk.take j)=st at*;have bb:=G.tup ht;have aF:=l2.at_;obtain⟨T,ab,X,ba⟩:∃pl sa fv,H2 y=some (.ins U N (kfs pl sa fv)):=let ⟨p,s,f,z,_⟩:=k2.ex;⟨p,s,f,z⟩
  walk_at"g";refine⟨fun Z' n=>aD (Z'=[some (.ref blk),some (.ref rm),some (.ref x),some (.ref y),some (.ref t),v]/\aA H n/\(∃W,a9 K C n x dx i b W (fW st.1.1 (thG J I st.2 k)) st.1.2)/\mO K U n y N J I st.2),?_,?_⟩
  .walk_at"g";intro g us H3 s3 b6 bw;have bl:=wQ (rk:=J) (rb:=I) (s:=st.2) ar;have a7:=Ij J I st.2 k;generalize thG J I st.2 k=gs at*;have l3:=l2.same s3;have bx:=l3.at_;have bS:gs.length<=100:=by lia
   walk_at"g";intro n s4;have l4:=l3.same s4;have M:=l4.at_;have k4:=k2.same (s3.trans s4);walk_at"g"
   by_cases c:lnW st.1.1 %8+lnW gs<=8
   .rw[R0 c];walk_at"g";refine aD.mk ⟨rfl,(G.trans s3).trans s4,⟨js,?_⟩,k4⟩
    unfold fW;rw[R9 c];exact l4
   .rw[RW c];have bR:st.1.1.length<=900:=by lia
    walk_at"g";intro H5 W p5 l5;refine aD.mk ⟨rfl,B3.same ((G.trans s3).trans s4) hx hi hb p5,⟨W,?_⟩,k4.b3 l4 p5 (SD F)⟩
    unfold fW;rw[R6 c];exact l5
  clear l2 k2 G bb ba aF;clear H2;rintro Z4 n ⟨rfl,S4,⟨aW,l4⟩,k4⟩
  have b1:=MJ st.1.1 (thG J I st.2 k);have r:∀d,d=fW st.1.1 (thG J I st.2 k)->thB J I (bk.take (j+1))=((d++thG J I (knB d st.2) k,st.1.2++[lnW d]),Dq J I k (knB d st.2) (thG J I (knB d st.2) k)):=fun d e=>by rw[aS,e];rfl
  generalize cb:fW st.1.1 (thG J I st.2 k)=d at*;have r:=r d rfl;clear aS;have M:=l4.at_;obtain⟨T,ab,X,m⟩:∃pl sa fv,n y=some (.ins U N (kfs pl sa fv)):=let ⟨p,s,f,z,_⟩:=k4.ex;⟨p,s,f,z⟩
  walk_at"g";refine⟨fun Z' H5=>aD (Z'=[some (.ref blk),some (.ref rm),some (.ref x),some (.ref y),some (.ref t),v]/\aA H H5/\a9 K C H5 x dx i b aW d st.1.2/\mO K U H5 y N J I (knB d st.2)),?_,?_⟩
  .walk_at"g"
   by_cases c:lnW d %8=0
   .rw[R0 c];walk_at"g";intro H5 b5 k5;refine aD.mk ⟨rfl,fun a o h=>b5 _ _ (aq h au) (S4 _ _ h),l4.buty b5 m F,?_⟩
    unfold knB;rw[R9 c];exact k5
   .rw[RW c];walk_at"g";refine aD.mk ⟨rfl,S4,l4,?_⟩
    unfold knB;rw[R6 c];exact k4
  clear l4 k4 S4 M m;clear n;rintro Z4 n ⟨rfl,S4,l4,k4⟩
  have a':=S4.tup ht;obtain⟨T,ab,X,m⟩:∃pl sa fv,n y=some (.ins U N (kfs pl sa fv)):=let ⟨p,s,f,z,_⟩:=k4.ex;⟨p,s,f,z⟩
  generalize knB d st.2=ks at*;walk_at"g";intro g us H5 s5 aT L;have bl:=wQ (rk:=J) (rb:=I) (s:=ks) ar;have a7:=Ij J I ks k;have b2:=MM (rk:=J) (rb:=I) (s:=ks) aX;generalize thG J I ks k=gs at*;have l5:=l4.same s5;have aR:=l5.at_;have k5:=k4.same s5;have S5:=S4.trans s5;have b4:d.length+gs.length<=1000:=by lia
  have b':st.1.2.length<1000:=by lia
  clear l4 k4 a' m S4 s5;walk_at"g";intro H6 p6 l6;have S6:=B3.same S5 hx hi hb p6;have k6:=k5.b3 l5 p6 (SD F);have b8:=S6.tup ht;have b9:=p6.tup l5 aT;have bQ:=L.b3 l5 p6;obtain⟨T,ab,X,bg⟩:∃pl sa fv,H6 y=some (.ins U N (kfs pl sa fv)):=let ⟨p,s,f,z,_⟩:=k6.ex;⟨p,s,f,z⟩
  have bW:gs.length<=10:=by lia
  clear l5 k5 aT L S5 aR;walk_at"g";intro H7 b7 k7;refine aD.mk ⟨_,_,aW++us,rfl,fun a o h=>b7 _ _ (aq h au) (S6 _ _ h),?_,?_⟩
  .rw[r];exact l6.buty b7 bg F
  .rw[r];exact k7
 .rintro Z H' ⟨u,v,js,rfl,Y,l2,_⟩
  rw[be,R.len,Sl] at l2;walk_at"g";exact q x dx i b js H' Y hx hi hb l2
noncomputable def thD(rk:Nat)(rb:Int)(bk:List Ins):Bk:=(thB rk rb bk).1
def Ku(K:Frag)(c:Addr):Sp:=fun vs H Q E=>∃(gst b:Addr) (J:List Addr) (o:List (List Ins)) (I:Nat) (U a:Int) (M:Nat),vs=[.ref gst,.ref b,.int a]/\SqT K H gst (J.map V.ref)/\GSt K H J o/\SqT K H b [.int I,.int U]/\
 GuB o/\(∀bk∈o, ∀d∈bk,d.1≠16)/\SpM.Room I U/\xv M (o.map (thD I U))/\
 ∀m s,sE o.length m->sE M s->(7<m+s->∀C,aA H C->E (.ref c) none C)/\(m+s<=7->∀r C,aA H C->Go H C r (o.map (thD I U)) I U a m s->Q (.ref r) C)
theorem Mv{C CT:Addr}(B:Bi mg)(D:Lx K mg)(jt:Has P w K mg base 10 "thinned_block" EC (ND K C))(cS:dA P w K mg base 8 "code_of_blocks" Bp [] (G3 K C CT)):
  dA P w K mg base 11 "thin" tH [] (Ku K CT):=by
 refine D.hasO Md (by intro _ _ _ _;walk_at"ln") (fun f aW A W s H vs Q E hr h=> ?_)
 obtain⟨gst,rm,y,n,U,I,gt,M,rfl,hg,c,L,T,Z,hR,hM,q⟩:=h;have aN:=T.n16;refine⟨_,(ad (ah (b_ (cS.mono (by omega)) hr (by rfl) (ij (by rfl)) (pa3 (PE.nox (ly (by rfl) (by rfl) (by rfl) (bk (sc0:=af CS) (N0:=["guest","room","gates"]) ["block","room"] 1 [1]) (oN (pv 0)) (fun _ _ _ _=>(aJ (i:=0) (show List.Nodup (["block","room"]:List Str) by decide) (by rfl) (by left;rfl))) (fun _ _ _ _=>(pcH jt hr (pa2 (pv 0) (pv 1)))))) (pv 1) (pv 2))))),?_⟩
 walk_at"o";intro p hp;refine qV (xs:=y.map V.ref) (fun j G k=>aD (aA H k)/\∃J,k p=some (.lst G)/\G=J.map V.ref/\Lds K C (jI p k) J ((n.take j).map (thD U I))) ⟨⟨ag hp _⟩,[],ae,rfl,rfl,fun j x d e=>by simp at e⟩ ?_ ?_ ?_
 .rintro j G k ⟨⟨s1⟩,_⟩
  exact s1.tup hg
 .rintro j u G k F hF hj ⟨⟨s1⟩,J,hp1,rfl,lds⟩
  obtain⟨b,eb,rfl⟩:=dX hj;have aT:j<y.length:=(RX.mp eb).1;obtain⟨bk,R⟩:∃bk,n[j]? =some bk:=⟨_,R1 (by have:=c.1;lia)⟩
  have aS:=(c.2 j b bk eb R).same s1;obtain⟨hv,aG⟩:=T.va bk (Sa R);have aL:∀O∈bk,VI O/\O.1≠16:=fun O hk=>⟨hv O hk,Z bk (Sa R) O hk⟩
  have au:=s1.tup L;have Y:J.length=j:=by
   rw[lds.1,be,Sg];have:=c.1
   lia
  have hz:(J.map V.ref).length<sizeLine:=by
   rw[be,Y];exact Sb (show j<100 by have:=c.1;lia) (by decide)
  walk_at"g";intro x dx i b' js H2 v hx hi hb l;have X:=v _ _ hp1;walk_at"g";refine hF _ _ ⟨⟨bZ hp (s1.trans v)⟩,J++[x],ae,by rw[R5];rfl,?_⟩
  have sd:aA (jI p k) (jI p (upd H2 p (.lst (J.map V.ref++[V.ref x])))):=fun a o h=>by
   unfold jI at*
   by_cases z:a=p
   .rw[R9 z] at h;cases h
   .rw[R6 z] at h ⊢;rw[aj z];exact v _ _ h
  have l2:a9 K C (jI p (upd H2 p (.lst (J.map V.ref++[V.ref x])))) x dx i b' js (thD U I bk).1 (thD U I bk).2:=by
   rw[DK];exact l.del X (SD (aq hp1 hi)) (SD (aq hp1 hb))
  rw[gq R,R5];exact(lds.same sd).snoc l2
 .rintro G H1 ⟨⟨s1⟩,J,hp1,rfl,lds⟩
  rw[be,c.1,Sl] at lds;have ab:=lds.same (Bl (H:=H1) (p:=p));have hq:SqL K H1 p (J.map V.ref):=SqL.of hp1;have aw:=s1.tup L;have N:(n.map (thD U I)).length=n.length:=by rw[be]
  have aF:0<(n.map (thD U I)).length:=by rw[N];exact T.n0
  have ar:(n.map (thD U I)).length<=16:=by lia
  have aR:∀d∈n.map (thD U I),lnW d.1<=300/\d.2.length<=30:=fun d hd=>by
   obtain⟨bk,h1,rfl⟩:=SY.mp hd;have h2:=(T.va bk h1).2;have h3:=Oa U I bk;have h4:=GB U I bk bk.length (R3 _);rw[Sl] at h4;show lnW (thB U I bk).1.1<=300/\(thB U I bk).1.2.length<=30
   lia
  walk_at"g";intro m sx hm hs;rw[N] at hm;obtain⟨q1,q2⟩:=q m sx hm hs;refine⟨fun z k v=>q1 z k (s1.trans v),fun z r k v ca=>q2 z r k (s1.trans v) ?_⟩
  obtain⟨a1,a2,a3,c1,c2,c3,c4,f1,f2,f3,f4⟩:=ca;exact⟨a1,a2,a3,c1,c2,c3,c4,s1.free f1,s1.free f2,s1.free f3,s1.free f4⟩
noncomputable abbrev S(l:List Nat):Str:=⟨l.toArray⟩
theorem HP{a b:List Nat}(h:S a=S b):a=b:=by
 have:=congrArg (fun z:Str=>z.cps.toList) h
 simpa using this
theorem bX(l:List Nat):(S l).length=l.length:=by
 show l.toArray.size=l.length
 exact R7
theorem vW(a b:List Nat):S a++S b=S (a++b):=by
 show(⟨a.toArray++b.toArray⟩:Str)=⟨(a++b).toArray⟩
 rw[List.append_toArray]
theorem Na(x:Str):x=S x.cps.toList:=by
 obtain⟨⟨l⟩⟩:=x
 rfl
theorem JR:Str.ofString ""=S []:=by decide +kernel
theorem DH:Str.ofString " "=S [32]:=by decide +kernel
theorem EM:Str.ofString "\n"=S [10]:=by decide +kernel
noncomputable def aB(c:Nat):List Nat->List (List Nat)
 | []=>[[]]
 | a::r=>if a=c then[]::aB c r else match aB c r with
  | []=>[[a]]
  | h::t=>(a::h)::t
theorem jK(c:Nat):∀l, ∃h t,aB c l=h::t
 | []=>⟨[],[],rfl⟩
 | a::r=>by
  obtain⟨h,t,e⟩:=jK c r
  by_cases z:a=c
  .exact⟨[],aB c r,by rw[aB,R9 z]⟩
  .exact⟨a::h,t,by rw[aB,R6 z,e]⟩
theorem G_(c:Nat)(r:List Nat):aB c (c::r)=[]::aB c r:=by rw[aB,R9 rfl]
theorem lf{c a:Nat}{r h:List Nat}{t:List (List Nat)}(z:a≠c)(e:aB c r=h::t):aB c (a::r)=(a::h)::t:=by rw[aB,R6 z,e]
theorem tR{c:Nat}:∀{p r h:List Nat}{t:List (List Nat)},c ∉ p->aB c r=h::t->aB c (p++r)=(p++h)::t
 | [],_,_,_,_,e=>e
 | a::p,_,_,_,hp,e=>lf (fun z=>hp (by rw[z];exact Sn)) (tR (fun z=>hp (R8 _ z)) e)
theorem GL{c:Nat}{p:List Nat}(h:c ∉ p):aB c p=[p]:=by
 have:=tR (r:=[]) (h:=[]) (t:=[]) h rfl;rw[SJ] at this;exact this
theorem Gs{c:Nat}{p r:List Nat}(h:c ∉ p):aB c (p++c::r)=p::aB c r:=by
 have:=tR (r:=c::r) (h:=[]) (t:=aB c r) h (G_ c r);rw[SJ] at this;exact this
noncomputable def c9(c:Nat):List (List Nat)->List Nat
 | []=>[]
 | [x]=>x
 | x::y::r=>x++c::c9 c (y::r)
theorem y6{c:Nat}:∀{ps:List (List Nat)},ps≠[]->(∀p∈ps,c ∉ p)->aB c (c9 c ps)=ps
 | [],h,_=>absurd rfl h
 | [x],_,hf=>GL (hf x Sn)
 | x::y::r,_,hf=>by
  show aB c (x++c::c9 c (y::r))=_
  rw[Gs (hf x Sn),y6 (by intro z;cases z) (fun p o=>hf p (R8 _ o))]
theorem G6(c:Nat):∀ps:List (List Nat),Str.join (S [c]) (ps.map S)=S (c9 c ps)
 | []=>rfl
 | [x]=>rfl
 | x::y::r=>by
  show S x++S [c]++Str.join (S [c]) ((y::r).map S)=_
  rw[G6 c (y::r),vW,vW,SQ]
  rfl
theorem u7(c:Nat)(ps:List (List Nat)):Txt.join (S [c]) (ps.map S)=S (c9 c ps):=by
 show Builtin.Str.glued _ _=_
 rw[StrLaws.glued_eq_join];exact G6 c ps
theorem PM(xs:List Str):∃ps:List (List Nat),xs=ps.map S:=⟨xs.map (·.cps.toList),by
 rw[Vh]
 conv=>lhs;rw[<- List.map_id xs]
 exact VH fun x _=>Na x⟩
theorem ng(c:Nat)(l:List Nat):Txt.split (S l) (S [c])=(aB c l).map S:=by
 obtain⟨J,e⟩:=PM (Txt.split (S l) (S [c]));have I:=StrLaws.join_split (S l) (S [c]);have C:=StrLaws.split_free (S l) c;have o:=PyProof.Rows.split_pos (S l) (S [c]);have U:Txt.split (S l) ⟨#[c]⟩=J.map S:=e;rw[U] at C;rw[e,G6] at I;rw[e,be] at o;rw[e, <-HP I,y6 (fun z=>by rw[z] at o;exact absurd o (by decide)) (fun p a=>C (S p) (List.mem_map_of_mem a))]
theorem cE(c:Nat):∀l,(aB c l).length<=l.length+1
 | []=>R3 _
 | a::r=>by
  have ih:=cE c r;obtain⟨h,t,e⟩:=jK c r
  by_cases z:a=c
  .rw[aB,R9 z,R4,R4]
   lia
  .rw[lf z e,R4,R4];rw[e,R4] at ih
   lia
theorem fB{c:Nat}:∀{l p:List Nat},p∈aB c l->p.length<=l.length/\∀a∈p,a∈l
 | [],p,h=>by
  rw[SN.mp h];exact⟨R3 _,fun a h=>h⟩
 | a::r,p,h=>by
  obtain⟨C,t,e⟩:=jK c r
  by_cases z:a=c
  .rw[aB,R9 z] at h;rcases Se.mp h with rfl | h
   .exact⟨SK _,fun a h=>nomatch h⟩
   .obtain⟨h1,h2⟩:=fB h;exact⟨by rw[R4];lia,fun b o=>R8 _ (h2 b o)⟩
  .rw[lf z e] at h;rcases Se.mp h with rfl | h
   .obtain⟨h1,h2⟩:=fB (c:=c) (l:=r) (p:=C) (by rw[e];exact Sn)
    refine⟨by rw[R4,R4];lia,fun b o=> ?_⟩
    rcases Se.mp o with rfl | o
    .exact Sn
    .exact R8 _ (h2 b o)
   .obtain⟨h1,h2⟩:=fB (c:=c) (l:=r) (p:=p) (by rw[e];exact R8 _ h)
    exact⟨by rw[R4];lia,fun b o=>R8 _ (h2 b o)⟩
noncomputable def Az:List Nat:=[48,49,50,51,52,53,54,55,56,57,97,98,99,100,101,102]
theorem Nv:Str.ofString "0123456789abcdef"=S Az:=by decide +kernel
noncomputable def AY(d:Nat):Nat:=Az.getD d 0
noncomputable def xX(c:Nat):Option Nat:=if 48<=c/\c<=57 then some (c - 48) else if 97<=c/\c<=102 then some (c - 87) else none
noncomputable def nw:Nat->Nat->List Nat
 | 0,_=>[]
 | n+1,w=>nw n (w / 16)++[AY (w %16)]
theorem vw:∀n w,(nw n w).length=n
 | 0,_=>rfl
 | n+1,w=>by rw[nw,RZ,vw n];rfl
noncomputable def yc:Nat->List Nat->Option Nat
 | v,[]=>some v
 | v,c::r=>match xX c with
  | none=>none
  | some d=>yc (v*16+d) r
noncomputable def rdW(l:List Nat):Option Nat:=if l.length=8 then yc 0 l else none
theorem mt{l:List Nat}{c i:Nat}:StrLaws.At (S l) (S [c]) (S l).length i↔l[i]? =some c:=by
 unfold StrLaws.At;rw[StrLaws.subAt_eq,bX,bX];show i+1<=l.length/\((l.drop i).take 1 == [c])=true↔_
 rw[Tc]
 constructor
 .rintro⟨C,o⟩
  rw[SG (by lia)] at o
  rw[R1 (by lia)]
  show some _=_
  injection o with o
  rw[o]
 .intro h;obtain⟨C,o⟩:=RX.mp h;refine⟨by lia,?_⟩
  rw[SG C,o]
  rfl
theorem Mo:∀i,i<16->xX (Az.getD i 0)=some i:=by decide +kernel
theorem Ic{c d:Nat}(h:xX c=some d):Az[d]? =some c:=by
 unfold xX at h;have k1:∀c,c<103->(48<=c/\c<=57)->Az[c - 48]? =some c:=by decide +kernel
 have k2:∀c,c<103->(97<=c/\c<=102)->Az[c - 87]? =some c:=by decide +kernel
 split at h
 .rename_i z
  cases h
  exact k1 c (by lia) z
 .split at h
  .rename_i z
   cases h
   exact k2 c (by lia) z
  .cases h
theorem K9(c:Nat):Txt.find (S Az) (S [c])=(match xX c with | none=> -1 | some d=>(d:Int)):=by
 rcases PyProof.Rows.find_whole (S Az) (S [c]) with⟨e,h⟩|⟨i,e,h,_⟩
 .rw[e]
  cases q:xX c with
  | none=>rfl
  | some d=>exact absurd (mt.mpr (Ic q)) (h d)
 .rw[e];have C:=mt.mp h;obtain⟨I,J⟩:=RX.mp C;have o:i<16:=I;have:=Mo i o;rw[Sz,C] at this;have q:xX c=some i:=this;rw[q]
noncomputable def pcs(r:List Nat):List (List Nat):=(aB 32 r).filter fun p=> !p.isEmpty
noncomputable def Nr:Nat->List (List Nat)->List (Nat × List Nat)
 | _,[]=>[]
 | ln,r::rs=>(pcs r).map (fun p=>(ln,p))++Nr (ln+1) rs
noncomputable def toks(o:Nat)(t:List Nat):List (Nat × List Nat):=Nr o (aB 10 t)
noncomputable def io:List (List Nat)->Option (List Nat)
 | []=>some []
 | p::r=>match rdW p with
  | none=>none
  | some w=>(io r).map (w:: ·)
noncomputable def fK:Nat->List (List Nat)->Except Nat (List Nat)
 | _,[]=> .ok []
 | ln,r::rs=>match io (pcs r) with
  | none=> .error ln
  | some ws=>(fK (ln+1) rs).map (ws++ ·)
noncomputable def rdC(t:List Nat):Except Nat (List Nat):=fK 1 (aB 10 t)
noncomputable def Dy(o:List Nat):List Nat:=c9 32 (o.map (nw 8))
noncomputable def chk(o:List Nat)(i:Nat):List Nat:=(o.drop (8*i)).take 8
noncomputable def Bo(o:List Nat):List (List Nat):=(List.range ((o.length+7) / 8)).map fun i=>Dy (chk o i)
noncomputable def Jf(o:List Nat):List Nat:=c9 10 (Bo o)
theorem Jg{n v:Nat}{o:List Nat}{w:List Nat}(h:w=nw (n+1) v++o):w=nw n (v / 16)++AY (v %16)::o:=by
 rw[h,nw,SQ]
 rfl
theorem L9{d:Nat}(h:d<16):Az[d]? =some (AY d):=by
 unfold AY;rw[Sz,R1 (show d<Az.length from h)]
 rfl
theorem Ec(o:List Nat):(Dy o).length<=9*o.length:=by
 have C:∀l:List Nat,(c9 32 (l.map (nw 8))).length<=9*l.length:=by
  intro l
  induction l with
  | nil=>exact R3 _
  | cons a r ih=>
   cases r with
   | nil=>
    show(nw 8 a).length<=9
    rw[vw]
    decide
   | cons b r=>
    show(nw 8 a++32::c9 32 ((b::r).map (nw 8))).length<=_
    rw[RZ,vw,R4,R4]
    lia
 exact C o
noncomputable def zY(n:Nat):List Nat:=(Nat.toDigits 10 n).map Char.toNat
noncomputable def nS(i:Int):List Nat:=if i<0 then 45::zY i.natAbs else zY i.toNat
theorem Nq(i:Int):Str.ofString (toString i)=S (nS i):=by
 suffices h:(Str.ofString (toString i)).cps.toList=nS i by rw[Na (Str.ofString (toString i)),h]
 cases i with
 | ofNat m=>
  have e:=PySem.W.KIN.signs_num m;unfold nS;rw[R6 (by show ¬(Int.ofNat m)<0;exact Int.not_lt.mpr (Int.natCast_nonneg m))]
  exact e
 | negSucc m=>
  unfold nS;rw[R9 (Int.negSucc_lt_zero m),PyProof.Rows.signs_ofString];show("-"++Nat.repr (m+1)).toList.map Char.toNat=_
  rw[String.toList_append,R5,Nat.toList_repr]
  rfl
theorem uo{n:Nat}(h:n<10):zY n=[48+n]:=by
 have:∀n,n<10->zY n=[48+n]:=by decide +kernel
 exact this n h
theorem LR{n:Nat}(h:10<=n):zY n=zY (n / 10)++[48+n %10]:=by
 have hm:n %10<10:=Nat.mod_lt n (by decide)
 have t:Nat.toDigits 10 (n / 10)++Nat.toDigits 10 (n %10)=Nat.toDigits 10 (10*(n / 10)+n %10):=Nat.toDigits_append_toDigits (by decide) (by lia) hm
 rw[Nat.div_add_mod] at t;have o:=uo hm;unfold zY at o ⊢;rw[<- t,R5,o]
theorem zI{n:Nat}(k:Nat)(h:n<10^(k+1)):(zY n).length<=k+1:=by
 induction k generalizing n with
 | zero=>rw[uo (by simpa using h)];exact R3 _
 | succ k ih=>
  by_cases o:n<10
  .rw[uo o];show 1<=_
   lia
  .rw[LR (by lia),RZ]
   have:=ih (n:=n / 10) (by rw[Wx] at h;lia)
   show _+1<=_
   lia
noncomputable def figs(l:List Nat):Bool:=decide (1<=l.length) && (decide (l.length<=10) && (l.all (fun c=>decide (48<=c/\c<=57)) && (l == [48] || !(l.head? == some 48))))
noncomputable def rdN(l:List Nat):Option Int:=
 if l.head? =some 45 then(if l.drop 1=[48]\/figs (l.drop 1)=false then none else some (-(PySem.NumText.digitsVal (l.drop 1):Int)))
 else if figs l=true then some (PySem.NumText.digitsVal l:Int) else none
theorem Kc(n:Nat):nS (n:Int)=zY n:=by
 unfold nS;rw[R6 (by lia)]
 rfl
theorem FQ{i:Int}(C: -10^10<i)(o:i<10^10):(nS i).length<=11:=by
 unfold nS
 split
 .have:=zI (n:=i.natAbs) 9 (by lia)
  show(zY i.natAbs).length+1<=11
  lia
 .have:=zI (n:=i.toNat) 9 (by lia)
  lia
noncomputable def sgL(k:Nat):List Nat:=(aV k).cps.toList
theorem Kt(k:Nat):aV k=S (sgL k):=Na _
noncomputable def o6(l:List Nat):Option Nat:=(List.range 19).find? fun k=>sgL k==l && !(k==16 || k==17)
theorem J7:∀k,k<19->k≠16->k≠17->o6 (sgL k)=some k:=by decide +kernel
noncomputable def wfS(k:Nat):List Str:=if k=1 then["a","v"] else aM k
noncomputable def inB(f:Str)(n:Int):Bool:=if f="v" then decide (0<=n/\n<4294967296) else if f="move" then decide (-131072<=n/\n<131072) else if f="n" then decide (0<=n/\n<262144) else decide (0<=n/\n<=5)
noncomputable def ul:List Str->List (List Nat)->Option (List Int)
 | f::fs,p::ps=>match rdN p with
  | none=>none
  | some n=>if inB f n=true then(ul fs ps).map (n:: ·) else none
 | _,_=>some []
noncomputable def rdI(o:List Nat):Option (Nat × List Int):=
 match o6 ((aB 32 o).headD []) with
 | none=>none
 | some k=>if (aB 32 o).length=(wfS k).length+1 then(ul (wfS k) (aB 32 o).tail).map fun C=>(k,C) else none
noncomputable def xT(l:List Nat):List Nat:=l.takeWhile (· != 59)
noncomputable def Dk(l:List Nat):List Nat:=((l.dropWhile (· == 32)).reverse.dropWhile (· == 32)).reverse
noncomputable def mZ(l:List Nat):List Nat:=Dk (xT l)
theorem vQ:∀{l:List Nat}{i:Nat},l[i]? =some 59->(∀k,k<i->l[k]? ≠some 59)->l.takeWhile (· != 59)=l.take i
 | [],i,h,_=>by simp at h
 | a::r,0,h,_=>by
  have:a=59:=by simpa using h
  subst this
  rfl
 | a::r,i+1,h,hn=>by
  have o:a≠59:=fun z=>hn 0 (by lia) (by rw[z];rfl)
  rw[TQ,R9 (VU.mpr o),List.take_succ_cons,vQ (by simpa using h) fun k C=>by simpa using hn (k+1) (by lia)]
theorem vv:∀{l:List Nat},(∀i:Nat,l[i]? ≠some 59)->l.takeWhile (· != 59)=l
 | [],_=>rfl
 | a::r,h=>by
  have o:a≠59:=fun z=>h 0 (by rw[z];rfl)
  rw[TQ,R9 (VU.mpr o),vv fun i=>by simpa using h (i+1)]
theorem OY:Str.ofString ";"=S [59]:=by decide +kernel
theorem Kh(l:List Nat):(Txt.partition (S l) (S [59])).1=S (xT l):=by
 rcases PyProof.Rows.partition_head (S l) (S [59]) with⟨e,h⟩|⟨i,e,h,C⟩
 .rw[e];unfold xT;rw[vv fun i z=>h i (mt.mpr z)]
 .rw[e];unfold xT;rw[vQ (mt.mp h) fun k o z=>C k o (mt.mpr z)]
  show(⟨l.toArray.extract 0 i⟩:Str)=_
  congr 1
  rw[UP]
  simp
theorem twl(p:Nat->Bool)(l:List Nat):l.drop (l.takeWhile p).length=l.dropWhile p:=by
 induction l with
 | nil=>rfl
 | cons a r ih=>
  by_cases h:p a=true
  .rw[TQ,R9 h,UT,R9 h];exact ih
  .rw[TQ,R6 h,UT,R6 h]
   rfl
theorem Jj(l:List Nat):Txt.stripChars (S l) (S [32])=S (Dk l):=by
 unfold Txt.stripChars;rw[PyProof.Rows.stripBy_eq];have o:(S [32]).cps.contains=(fun c=>c==32):=by
  funext c
  show #[32].contains c=_
  simp only[List.contains_toArray]
  simp [S_]
  rfl
 rw[o];unfold Dk stripLo stripHi;rw[R9 rfl,R9 rfl];show(⟨l.toArray.extract (l.takeWhile (fun c=>c==32)).length ((S l).length - ((l.drop (l.takeWhile (fun c=>c==32)).length).reverse.takeWhile (fun c=>c==32)).length)⟩:Str)=_
 rw[bX,UP]
 congr 2
 rw[twl,List.extract_eq_drop_take];have C:=twl (fun c=>c==32) (l.dropWhile (fun c=>c==32)).reverse
 rw[<- C,List.drop_reverse,List.reverse_reverse,twl]
 congr 1
 rw[<- twl (fun c=>c==32) l,SH]
 lia
noncomputable def FT(k:Nat):List Nat:=[98,108,111,99,107,32]++zY k
noncomputable def tkR(bs:List (List Ins))(o:List Nat):Option (List (List Ins)):=
 if o=FT bs.length then some (bs++[[]]) else match rdI o with
 | none=>none
 | some kn=>if bs=[] then none else some (bs.dropLast++[bs.getLastD []++[kn]])
noncomputable def wq:Nat->List (List Nat)->List (Nat × List Nat)
 | _,[]=>[]
 | ln,r::rs=>if mZ r=[] then wq (ln+1) rs else(ln,mZ r)::wq (ln+1) rs
noncomputable def gB:List (List Ins)->List (Nat × List Nat)->Except Nat (List (List Ins))
 | bs,[]=> .ok bs
 | bs,x::r=>match tkR bs x.2 with
  | none=> .error x.1
  | some bs'=>gB bs' r
noncomputable def rdG(t:List Nat):Except Nat (List (List Ins)):=match gB [] (wq 1 (aB 10 t)) with
 | .error e=> .error e
 | .ok bs=>if bs=[] then .error ((aB 10 t).length+1) else .ok bs
theorem Mi(bs:List (List Ins)):tkR bs (FT bs.length)=some (bs++[[]]):=R9 rfl
def RnA(H:Hp):List Addr->List (Nat × List Int)->Prop
 | [],[]=>True
 | t::ts,p::ps=>H t=some (.tup (aO p.1 p.2))/\RnA H ts ps
 | _,_=>False
theorem RnA.mono{H o:Hp}(C:∀a xs,H a=some (.tup xs)->o a=some (.tup xs)):∀{I:List Addr}{ps:List (Nat × List Int)},RnA H I ps->RnA o I ps
 | [],[],_=>True.intro
 | _::_,_::_,h=>⟨C _ _ h.1,RnA.mono C h.2⟩
 | [],_::_,h=>h.elim
 | _::_,[],h=>h.elim
theorem RnA.len{H:Hp}:∀{o:List Addr}{ps:List (Nat × List Int)},RnA H o ps->o.length=ps.length
 | [],[],_=>rfl
 | _::_,_::_,h=>congrArg (· +1) (RnA.len h.2)
 | [],_::_,h=>h.elim
 | _::_,[],h=>h.elim
theorem RnA.push{H:Hp}{t:Addr}{p:Nat × List Int}(o:H t=some (.tup (aO p.1 p.2))):∀{C:List Addr}{ps:List (Nat × List Int)},RnA H C ps->RnA H (C++[t]) (ps++[p])
 | [],[],_=>⟨o,True.intro⟩
 | _::_,_::_,h=>⟨h.1,RnA.push o h.2⟩
 | [],_::_,h=>h.elim
 | _::_,[],h=>h.elim
theorem RnA.get{H:Hp}:∀{I:List Addr}{ps:List (Nat × List Int)},RnA H I ps->∀(j:Nat) o,ps[j]? =some o->∃C,I[j]? =some C/\H C=some (.tup (aO o.1 o.2))
 | [],[],_,j,o,e=>by simp at e
 | t::_,p::_,h,j,o,e=>by
  cases j with
  | zero=>
   obtain rfl:p=o:=by simpa using e
   exact⟨t,rfl,h.1⟩
  | succ j=>exact RnA.get h.2 j o (by simpa using e)
 | [],_::_,h,_,_,_=>h.elim
 | _::_,[],h,_,_,_=>h.elim
theorem Jr:∀k,k<19->inV (.str (aV k)) [.str "stop",.str "jump",.str "through"]=decide (k=0\/k=13\/k=15):=by decide +kernel
theorem IT{o:Type}{f:o->V}{xs:List o}{i:Nat}{u:V}(h:(xs.map f)[i]? =some u):∃x,xs[i]? =some x/\f x=u:=by
 rw[Sx] at h
 cases e:xs[i]? with
 | none=>rw[e] at h;cases h
 | some x=>rw[e] at h;exact⟨x,rfl,Sj h⟩
def RlA(H:Hp):List Addr->List (List (Nat × List Int))->Prop
 | [],[]=>True
 | a::as,blk::r=>(∃o,H a=some (.tup (o.map V.ref))/\RnA H o blk)/\RlA H as r
 | _,_=>False
theorem RlA.mono{H I:Hp}(o:∀a xs,H a=some (.tup xs)->I a=some (.tup xs)):∀{J:List Addr}{ps:List (List (Nat × List Int))},RlA H J ps->RlA I J ps
 | [],[],_=>True.intro
 | _::_,_::_,h=>by
  obtain⟨⟨C,U,b⟩,r⟩:=h;exact⟨⟨C,o _ _ U,b.mono o⟩,RlA.mono o r⟩
 | [],_::_,h=>h.elim
 | _::_,[],h=>h.elim
theorem RlA.len{H:Hp}:∀{o:List Addr}{ps:List (List (Nat × List Int))},RlA H o ps->o.length=ps.length
 | [],[],_=>rfl
 | _::_,_::_,h=>congrArg (· +1) (RlA.len h.2)
 | [],_::_,h=>h.elim
 | _::_,[],h=>h.elim
theorem RlA.push{H:Hp}{t:Addr}{p:List (Nat × List Int)}(C:∃o,H t=some (.tup (o.map V.ref))/\RnA H o p):∀{I:List Addr}{ps:List (List (Nat × List Int))},RlA H I ps->RlA H (I++[t]) (ps++[p])
 | [],[],_=>⟨C,True.intro⟩
 | _::_,_::_,h=>⟨h.1,RlA.push C h.2⟩
 | [],_::_,h=>h.elim
 | _::_,[],h=>h.elim
theorem RlA.get{H:Hp}:∀{I:List Addr}{ps:List (List (Nat × List Int))},RlA H I ps->∀(j:Nat) blk,ps[j]? =some blk->∃J o,I[j]? =some J/\H J=some (.tup (o.map V.ref))/\RnA H o blk
 | [],[],_=>fun j C e=>by cases j <;> cases e
 | t::_,p::_,h=>fun j C e=>by
  cases j with
  | zero=>
   have a:p=C:=Sj e;subst a;obtain⟨o,U,b⟩:=h.1;exact⟨t,o,rfl,U,b⟩
  | succ j=>exact RlA.get h.2 j C e
 | [],_::_,h=>h.elim
 | _::_,[],h=>h.elim
theorem FC{H o:Hp}{a:Addr}(s:aA H o)(h:o a=none):H a=none:=by
 cases e:H a with
 | none=>rfl
 | some u=>rw[s _ _ e] at h;cases h
theorem tk1{o:Type}{xs:List o}{i:Nat}{x:o}(h:xs[i]? =some x):xs.take (i+1)=xs.take i++[x]:=by
 rw[List.take_add_one,h]
 rfl
theorem OG{C I o:Type}{g:I->o}{f:C->I}{xs:List C}{i:Nat}{u:o}(h:((xs.map f).map g)[i]? =some u):∃x,xs[i]? =some x/\g (f x)=u:=by
 rw[Sx,Sx] at h
 cases e:xs[i]? with
 | none=>rw[e] at h;cases h
 | some x=>rw[e] at h;exact⟨x,rfl,Sj h⟩
noncomputable def bx1(k:Nat)(ns:List Int):List Int:=if 10<=k/\k<=12 then ns.take 2 else ns
noncomputable def bx2(k:Nat)(ns:List Int):List Int:=if k=1\/k=14 then ns.take 1 else bx1 k ns
noncomputable def bx3(k:Nat)(ns:List Int):List Int:=if k=13\/k=18 then[] else bx2 k ns
def IB(k:Nat)(ns:List Int)(n g:Int):Prop:=¬(k=16\/k=17)/\6 ∉ bx3 k ns/\7 ∉ bx3 k ns/\((k=13\/k=14)->ns.getLastD 0<n)/\(k=18->ns.getD 0 0<g)
noncomputable instance {k:Nat}{ns:List Int}{n g:Int}:Decidable (IB k ns n g):=inferInstanceAs (Decidable (_/\_/\_/\_/\_))
theorem PR(k:Nat)(ns:List Int):fC (aO k ns) (some 1) none=ns.map V.int:=by
 unfold fC aO;show((V.str (aV k)::ns.map V.int).drop (HT.sIx _ 0 (some ((1:Nat):Int)))).take _=_
 rw[HT.sIx_nat]
 simp only[R4]
 rw[show min 1 ((ns.map V.int).length+1)=1 by lia]
 show((ns.map V.int)).take ((ns.map V.int).length+1 - 1)=_
 rw[Nat.add_sub_cancel,Sl]
theorem OF(k:Nat)(ns:List Int)(o:Option Int):¬(HT.sIx (aO k ns).length 0 (some 1)=0/\HT.sIx (aO k ns).length (aO k ns).length o=(aO k ns).length):=fun z=>by
 have z1:=z.1;have e:HT.sIx (aO k ns).length 0 (some ((1:Nat):Int))=min 1 (aO k ns).length:=HT.sIx_nat _ 0 1;have l:(aO k ns).length=ns.length+1:=by unfold aO;rw[R4,be]
 have C:HT.sIx (aO k ns).length 0 (some 1)=min 1 (aO k ns).length:=e
 lia
theorem Kp{bx o:Int}{k:Nat}{ns:List Int}(h:aQ bx o k ns):(10<=k/\k<=12->∃a b c,ns=[a,b,c])/\(k=1\/k=14->∃a b,ns=[a,b])/\(k=13\/k=14->∃r z,ns=r++[z])/\(k=18->∃z,ns=[z])/\ns.length<=3:=by
 rcases h with⟨rfl,rfl⟩|⟨rfl,x,v,rfl,_⟩|⟨J,I,x,y,z,rfl,_⟩|⟨J,I,x,y,z,rfl,_⟩|⟨C,z,rfl,_⟩|⟨rfl,x,z,rfl,_⟩|⟨rfl,y,rfl,_⟩|⟨C,x,y,rfl,_⟩
 .exact⟨fun h=>by lia,fun h=>by lia,fun h=>by lia,fun h=>by lia,by decide⟩
 .exact⟨fun h=>by lia,fun h=>⟨_,_,rfl⟩,fun h=>by lia,fun h=>by lia,(show 2<=3 by decide)⟩
 .exact⟨fun h=>by lia,fun h=>by lia,fun h=>by lia,fun h=>by lia,(show 3<=3 by decide)⟩
 .exact⟨fun h=>⟨_,_,_,rfl⟩,fun h=>by lia,fun h=>by lia,fun h=>by lia,(show 3<=3 by decide)⟩
 .exact⟨fun h=>by lia,fun h=>by lia,fun h=>⟨[],_,rfl⟩,fun h=>⟨_,rfl⟩,(show 1<=3 by decide)⟩
 .exact⟨fun h=>by lia,fun h=>⟨_,_,rfl⟩,fun h=>⟨[x],_,rfl⟩,fun h=>by lia,(show 2<=3 by decide)⟩
 .exact⟨fun h=>by lia,fun h=>by lia,fun h=>by lia,fun h=>by lia,(show 1<=3 by decide)⟩
 .exact⟨fun h=>by lia,fun h=>by lia,fun h=>by lia,fun h=>by lia,(show 2<=3 by decide)⟩
def NY(K:Frag):Sp:=fun vs H Q _=>∃(a:Addr) (k:Nat) (o:List Int) (n g:Int),vs=[.ref a,.int n,.int g]/\aQ 8 262144 k o/\SqT K H a (aO k o)/\∀C,aA H C->Q (.bl (decide (IB k o n g))) C
structure TbG (K:Frag) (mg:Str->Option Value) (prm:Params):Prop where
 fields:∃a kvs,mg "FIELDS"=some (.ref a)/\(a==sysModules)=false/\SqD prm K a kvs/\∀k,k<19->∃b,kvs.lookup (aV k)=some (.ref b)/\e9 K b ((aM k).map V.str)
 last:∃a,mg "LAST_SORTS"=some (.ref a)/\e9 K a [.str "stop",.str "jump",.str "through"]
noncomputable def hgP(p:Str × Int):Bool:= !(inV (.str p.1) [.str "a",.str "b",.str "c"]) || decide (0<=p.2/\p.2<=5)
noncomputable def hgb(k:Nat)(ns:List Int):Bool:=((aM k).zip ns).all hgP
noncomputable def hkn(k:Nat)(ns:List Int)(n g:Int):Bool:=decide (((k=13\/k=14)->0<=ns.getLastD 0/\ns.getLastD 0<n)/\(k=18->ns.getD 0 0<g))
def QS:Sp:=fun vs H Q _=>∃k:Nat,vs=[.str (aV k)]/\k<19/\Q (.bl (decide (k≠16/\k≠17))) H
def N3:Sp:=fun vs H Q _=>∃n:Int,vs=[.int n]/\Q (.bl (decide (0<=n/\n<=5))) H
def P3(K:Frag):Sp:=fun vs H Q _=>∃(a:Addr) (k:Nat) (C:List Int),vs=[.ref a]/\k<19/\SqT K H a (aO k C)/\∀o,aA H o->Q (.bl (hgb k C)) o
def Qz(K:Frag):Sp:=fun vs H Q _=>∃(a:Addr) (k:Nat) (o:List Int) (n g:Int),vs=[.ref a,.int n,.int g]/\aQ 8 262144 k o/\SqT K H a (aO k o)/\Q (.bl (hkn k o n g)) H
structure TbR (K:Frag) (mg:Str->Option Value) (prm:Params):Prop where
 fields:∃a kvs,mg "FIELDS"=some (.ref a)/\(a==sysModules)=false/\SqD prm K a kvs/\(∀k,k<19->∃b,kvs.lookup (aV k)=some (.ref b)/\e9 K b ((aM k).map V.str))/\∀z,(∀k,k<19->z≠aV k)->kvs.lookup z=none
 last:∃a,mg "LAST_SORTS"=some (.ref a)/\e9 K a [.str "stop",.str "jump",.str "through"]
 figs:∃td,mg "FIGURES"=some (.str (Str.ofString "0123456789") td)
theorem TbR.g{o:Params}(T:TbR K mg o):TbG K mg o:=by
 obtain⟨a,C,U,I,J,b,_⟩:=T.fields;exact⟨⟨a,C,U,I,J,b⟩,T.last⟩
noncomputable def Ds:List Nat:=[48,49,50,51,52,53,54,55,56,57]
theorem OB:Str.ofString "0123456789"=S Ds:=by decide +kernel
theorem KB(c:Nat):(∃i:Nat,Ds[i]? =some c)↔48<=c/\c<=57:=by
 constructor
 .rintro⟨i,h⟩
  have hm:=Sa h;unfold Ds at hm
  simp only[Se,SS,Ue] at hm
  omega
 .rintro⟨h0,h1⟩
  refine⟨c - 48,?_⟩
  have:∀c,c<58->48<=c->Ds[c - 48]? =some c:=by decide +kernel
  exact this c (by lia) h0
theorem MO(c:Nat):(Builtin.Str.occurrences (S Ds) (S [c]) 0 (S Ds).length 1).isEmpty= !decide (48<=c/\c<=57):=by
 rcases StrLaws.occ_head (S Ds) (S [c]) 1 (R3 1) with⟨C,I⟩|⟨i,r,C,o,I⟩
 .rw[C,RW (fun h=>by
   obtain⟨i,o⟩:=(KB c).mpr h
   exact I i (mt.mpr o))]
  rfl
 .rw[C,R0 ((KB c).mp ⟨i,mt.mp o⟩)]
  rfl
theorem zh(l:List Nat)(c:Nat):Txt.startswith (S l) (S [c])=(l.head? == some c):=by
 unfold Txt.startswith;rw[bX,bX,StrLaws.subAt_eq]
 cases l with
 | nil=>rfl
 | cons a r=>
  show(decide (0+1<=r.length+1) && (((a::r).drop 0).take 1 == [c]))=((some a)==some c)
  rw[R0 (by lia)]
  show(true && ([a] == [c]))=_
  by_cases z:a=c
  .subst z
   simp
  .simp [z]
theorem Gv:Str.ofString "0"=S [48]:=by decide +kernel
theorem L4:Str.ofString "-"=S [45]:=by decide +kernel
theorem zW(a b:List Nat):decide (V.str (S a)=V.str (S b))=(a==b):=by
 by_cases z:a=b
 .rw[z,R0 rfl,Tf]
 .rw[RW (fun e=>z (HP (by injection e))),Sy.mpr z]
def NG:Sp:=fun vs H Q _=>∃l:List Nat,vs=[.str (S l)]/\l.length<=100000/\Q (.bl (figs l)) H
theorem zR(B:Bi mg)(D:sW K mg){td:Tok}(d:mg "FIGURES"=some (.str (Str.ofString "0123456789") td)):Has P w K mg base 1 "are_figures" si NG:=by
 refine D.has rA (by intro _ _ _ _;walk_at"ln") (fun f n A U s H vs Q E L h=> ?_)
 obtain⟨l,rfl,j,q⟩:=h;have M:(S l).length<=sizeLine:=by rw[bX];exact RY j (by decide)
 have u:=zh l 48;have k:Txt.startswith (S l) (Str.ofString "0")=(l.head? == some 48):=by rw[Gv];exact u
 have m:decide (V.str (S l)=V.str (Str.ofString "0"))=(l == [48]):=by rw[Gv];exact zW l [48]
 have f0:∀c,l[0]? =some c->True:=fun _ _=>True.intro
 refine⟨_,(aa (aP (bz (aC (PW.pt (gX (pcT jC (aI ol (by rfl) B.len bD (pa1 (pv 0))) ac) (eY (pcT HF (aI ol (by rfl) B.len bD (pa1 (pv 0))) ac)))) (ad (ah tI)) ao)))
   (aa (cv Sw (by rfl) (bY (K1 (pv 0))) (aJ (i:=1) rA.nd (by rfl) (by left;rfl)) (ad (aC (n9 Ci (pv 1) (cZ (v:= .str (Str.ofString "0123456789")) (by rfl) d (by exact⟨_,rfl⟩)) (by rfl)) (ad (ah tI)) ao)))
   (ad (ah (Bg (pcE aK (pv 0) av) (gg (Ou (bU So UJ UK mh (pv 0) (pa1 av))))))))),?_⟩
 try dsimp only[oJ]
 walk_at"n";refine⟨fun F a=>aD (a=H/\F=[some (.str (S l)),none]/\1<=l.length/\l.length<=10),?_,?_⟩
 .walk_at"g";rw[bX];refine bO (fun c=> ?_) (fun c=> ?_)
  .have o:figs l=false:=by unfold figs;rw[RW (by lia)];rfl
   rw[o] at q;walk_at"g";exact q
  .walk_at"g";rw[bX];refine bO (fun c2=> ?_) (fun c2=> ?_)
   .have o:figs l=false:=by unfold figs;rw[RW (show ¬l.length<=10 by lia)];cases decide (1<=l.length) <;> rfl
    rw[o] at q;walk_at"g";exact q
   .exact aD.mk ⟨rfl,rfl,by lia,by lia⟩
 rintro G p ⟨rfl,rfl,y,I⟩
 walk_at"g";refine⟨HW (fun i Z a=>aD (a=p/\∃(x:Option V),Z=[some (.str (S l)),x]/\(l.take i).all (fun c=>decide (48<=c/\c<=57))=true)) ⟨rfl,_,rfl,rfl⟩ ?_ ?_⟩
 .rintro i c Z H2 hc ⟨rfl,x,rfl,ha⟩
  have C:l[i]? =some c:=by simpa using hc
  have r:=MO c;have J:(!(!(Builtin.Str.occurrences (Str.ofString "0123456789") ⟨#[c]⟩ 0 (Str.ofString "0123456789").length 1).isEmpty))= !decide (48<=c/\c<=57):=by
   rw[OB];show(!(!(Builtin.Str.occurrences (S Ds) (S [c]) 0 (S Ds).length 1).isEmpty))=_
   rw[r,Bool.not_not]
  walk_at"g";rw[J]
  by_cases z:48<=c/\c<=57
  .rw[R0 z];walk_at"g";refine aD.mk ⟨rfl,_,rfl,?_⟩
   rw[tk1 C,List.all_append,ha];show(true && (decide (48<=c/\c<=57) && true))=true
   rw[R0 z]
   rfl
  .rw[RW z];have o:figs l=false:=by
    unfold figs;have:l.all (fun c=>decide (48<=c/\c<=57))=false:=by
     cases e:l.all (fun c=>decide (48<=c/\c<=57)) with
     | false=>rfl
     | true=>exact absurd (SE (S7.mp e c (Sa C))) z
    rw[this]
    cases decide (1<=l.length) <;> cases decide (l.length<=10) <;> rfl
   rw[o] at q;walk_at"g";exact q
 .rintro Z H2 ⟨rfl,x,rfl,ha⟩
  have b:(S l).cps.size=l.length:=R7;rw[b,Sl] at ha;have o:figs l=(l == [48] || !(l.head? == some 48)):=by
   unfold figs;rw[R0 y,R0 I,ha]
   rfl
  rw[o] at q;walk_at"g";rw[m]
  cases e:(l == [48]) with
  | true=>
   rw[e] at q;exact q
  | false=>
   rw[e] at q;rw[R6 (by decide)]
   walk_at"g";rw[k];exact q
def KN:Sp:=fun vs H Q _=>∃l:List Nat,vs=[.str (S l)]/\l.length<=100000/\Q (match rdN l with | none=> .non | some n=> .int n) H
theorem yL(B:Bi mg)(D:sZ K mg)(j:Has P w K mg base 1 "are_figures" si NG):Has P w K mg base 2 "read_number" si KN:=by
 refine D.has rn (by intro _ _ _ _;walk_at"ln") (fun f y A i s H vs Q E k h=> ?_)
 obtain⟨l,rfl,m,q⟩:=h;have T:(S l).length<=sizeLine:=by rw[bX];exact RY m (by decide)
 have p:Txt.startswith (S l) (Str.ofString "-")=(l.head? == some 45):=by rw[L4];exact zh l 45
 have C:∀l:List Nat,figs l=true->PySem.intText? (S l)=some ((PySem.NumText.digitsVal l:Nat):Int)/\l.length<=10:=fun l h=>by
  unfold figs at h;rw[Su,Su,Su] at h;obtain⟨J,d,G,_⟩:=h;have J:=SE J;have d:=SE d;refine⟨PySem.intText_digits (x:=S l) (fun c L=>SE (S7.mp G c L)) (fun z=> ?_) (by rw[bX];lia),d⟩
  have n:l=[]:=z;rw[n] at J
  cases J
 refine⟨_,(aa (aC (ff (bN (bU So UJ UK mh (pv 0) (pa1 av)))) (ad (ah (Fq (bN (pcH j k (pa1 (pv 0)))) (cj wg (by rfl) B.int Gd (pa1 (pv 0))) cO))) ao)
   (aa (psS 1 rn.nd (bK LE (pv 0) (cq ac) cQ))
   (aa (aP (bz (aC (PW.pt (gX (pcT aK (pv 1) av) (eY (ff (bN (pcH j k (pa1 (pv 1)))))))) (ad (ah cO)) ao)))
   (ad (ah (Lg GR (cj wg (by rfl) B.int Gd (pa1 (pv 1))))))))),?_⟩
 walk_at"k";dsimp only;rw[p]
 by_cases c:l.head? =some 45
 .rw[Tc.mpr c];have U:rdN l=if l.drop 1=[48]\/figs (l.drop 1)=false then none else some (-((PySem.NumText.digitsVal (l.drop 1):Nat):Int)):=by unfold rdN;rw[R9 c]
  rw[U] at q
  have u:u9 (S l) (some 1) none=S (l.drop 1):=Pa (l:=l) (a:=1) (by
   cases l with
   | nil=>cases c
   | cons a r=>show 1<=r.length+1;lia)
  have b:(l.drop 1).length<=100000:=by rw[SH];lia
  have M:(S (l.drop 1)).length<=sizeLine:=by rw[bX];exact RY b (by decide)
  walk_at"g";dsimp only;rw[u];have v:decide (V.str (S (l.drop 1))=V.str (Str.ofString "0"))=(l.drop 1 == [48]):=by rw[Gv];exact zW _ [48]
  walk_at"g";refine⟨fun N F=>aD (F=H/\N=[some (.str (S l)),some (.str (S (l.drop 1)))]/\¬(l.drop 1=[48]\/figs (l.drop 1)=false)),?_,?_⟩
  .walk_at"g";rw[v]
   cases e:(l.drop 1 == [48]) with
   | true=>
    rw[R9 (.inl (Tc.mp e))] at q;walk_at"g";exact q
   | false=>
    walk_at"g"
    cases o:figs (l.drop 1) with
    | true=>
     walk_at"g";exact aD.mk ⟨rfl,rfl,fun z=>z.elim (fun z=>absurd z (Sy.mp e)) (fun z=>by first | cases z | (rw[o] at z;cases z))⟩
    | false=>
     rw[R9 (.inr o)] at q;walk_at"g";exact q
  rintro O R ⟨rfl,rfl,I⟩
  have o:figs (l.drop 1)=true:=by
   cases e:figs (l.drop 1) with
   | true=>rfl
   | false=>exact absurd (.inr e) I
  rw[R6 I] at q;obtain⟨n1,n2⟩:=C _ o;have n3:(S (l.drop 1)).length<=640:=by rw[bX];lia
  walk_at"g";exact q
 .rw[Sy.mpr c];have U:rdN l=if figs l=true then some ((PySem.NumText.digitsVal l:Nat):Int) else none:=by unfold rdN;rw[R6 c]
  rw[U] at q;walk_at"g";dsimp only
  cases o:figs l with
  | true=>
   rw[R9 o] at q;obtain⟨n1,n2⟩:=C _ o;have n3:(S l).length<=640:=by rw[bX];lia
   walk_at"g";exact q
  | false=>
   rw[R6 (by rw[o];decide)] at q
   walk_at"g";exact q
theorem zE{l:List Nat}{k:Nat}(h:o6 l=some k):k<19/\k≠16/\k≠17/\l=sgL k:=by
 unfold o6 at h;have C:=List.mem_of_find?_eq_some h;have o:=List.find?_some h;rw[WQ] at C;rw[Su,Tc,Bool.not_eq_true',Bool.or_eq_false_iff,Sy,Sy] at o;exact⟨C,o.2.1,o.2.2,o.1.symm⟩
def K3:Sp:=fun vs H Q _=>∃l:List Nat,vs=[.str (S l)]/\Q (.bl (o6 l).isSome) H
theorem Px:Str.ofString "fit"=S (sgL 16):=by decide +kernel
theorem P4:Str.ofString "aim"=S (sgL 17):=by decide +kernel
theorem wG(B:Bi mg)(T:TbR K mg w.params)(D:o7 K mg):Has P w K mg base 1 "is_guest_sort" m9 K3:=by
 obtain⟨y,U,x,C,L,i,a⟩:=T.fields;refine D.has wU (by intro _ _ _ _;walk_at"ln") (fun f r A d s H vs Q E M h=> ?_)
 obtain⟨l,rfl,q⟩:=h;have F:decide (V.str (S l)=V.str (Str.ofString "fit"))=(l==sgL 16):=by rw[Px];exact zW l _
 have n:decide (V.str (S l)=V.str (Str.ofString "aim"))=(l==sgL 17):=by rw[P4];exact zW l _
 refine⟨_,(ad (ah (gL (Gf (L0 (pv 0) (cZ (v:= .ref y) (by rfl) x (by rfl)))) (gL (pcE mQ (pv 0) av) (gg (pcE mQ (pv 0) av)))))),?_⟩
 try dsimp only[oJ]
 by_cases o:∃k,k<19/\l=sgL k
 .obtain⟨k,I,rfl⟩:=o;obtain⟨b,j,u⟩:=i k I;have c:(U.lookup (S (sgL k))).isSome=true:=by rw[<- Kt,j];rfl
  walk_at"g";rw[c,R9 rfl];walk_at"g";rw[F]
  by_cases c6:k=16
  .subst c6;have J:o6 (sgL 16)=none:=by decide +kernel
   rw[J] at q;rw[Tf];walk_at"g";exact q
  .have n6:(sgL k==sgL 16)=false:=by
    have:∀k,k<19->k≠16->(sgL k==sgL 16)=false:=by decide +kernel
    exact this k I c6
   rw[n6];walk_at"g";rw[n]
   by_cases m:k=17
   .subst m;have J:o6 (sgL 17)=none:=by decide +kernel
    rw[J] at q;rw[Tf];exact q
   .have n7:(sgL k==sgL 17)=false:=by
     have:∀k,k<19->k≠17->(sgL k==sgL 17)=false:=by decide +kernel
     exact this k I m
    rw[J7 k I c6 m] at q;rw[n7];exact q
 .have c:(U.lookup (S l)).isSome=false:=by
   rw[a (S l) fun k I z=>o ⟨k,I,HP (z.trans (Kt k))⟩]
   rfl
  have J:o6 l=none:=by
   cases e:o6 l with
   | none=>rfl
   | some k=>
    obtain⟨G,_,_,p⟩:=zE e;exact absurd ⟨k,G,p⟩ o
  rw[J] at q;walk_at"g";rw[c,R6 (by decide)]
  exact q
theorem PX(h:Has P w K mg base 1 "is_guest_sort" m9 K3):Has P w K mg base 1 "is_guest_sort" m9 QS:=by
 refine h.imp fun vs H Q E h=> ?_
 obtain⟨k,rfl,o,q⟩:=h;refine⟨sgL k,by rw[<- Kt],?_⟩
 have:∀k,k<19->(o6 (sgL k)).isSome=decide (k≠16/\k≠17):=by decide +kernel
 rw[this k o];exact q
def TK(H C:Hp):Prop:=∀a o,H a=some (.tup o)->C a=some (.tup o)
theorem Nj{H o:Hp}(s:aA H o):TK H o:=fun _ _ h=>s _ _ h
def Qb(K:Frag):Sp:=fun vs H Q _=>∃k:Nat,vs=[.str (S (sgL k))]/\k<19/\∀p o,SqT K o p ((wfS k).map V.str)->(∀C,TK o C->SqT K C p ((wfS k).map V.str))->aA H o->Q (.ref p) o
theorem v_(B:Bi mg)(T:TbR K mg w.params)(D:m8 K mg):Has P w K mg base 1 "written_fields" m9 (Qb K):=by
 obtain⟨x,m,r,o,y,U,e⟩:=T.fields;refine D.has vg (by intro _ _ _ _;walk_at"ln") (fun f n A J s H vs Q E z h=> ?_)
 obtain⟨k,rfl,d,q⟩:=h;obtain⟨b,a,C⟩:=U k d;rw[Kt] at a;have l:decide (V.str (S (sgL k))=V.str (Str.ofString "put"))=decide (k=1):=by
  have:∀k,k<19->decide (V.str (S (sgL k))=V.str (Str.ofString "put"))=decide (k=1):=by decide +kernel
  exact this k d
 refine⟨_,(aa (aC (pcT aK (pv 0) av) (ad (ah (az (aU (by rfl))))) ao)
   (ad (ah (D_ Ib (cZ (v:= .ref x) (by rfl) r (by rfl)) (pv 0) (by intro _ _;rfl))))),?_⟩
 walk_at"k";dsimp only;rw[l]
 by_cases c:k=1
 .rw[R0 c];have I:wfS k=[Str.ofString "a",Str.ofString "v"]:=by unfold wfS;rw[R9 c]
  rw[I] at q;walk_at"g";intro p j;exact q p _ (SqT.of ae) (fun i u=>SqT.of (u _ _ ae)) (ag j _)
 .rw[RW c];have I:wfS k=aM k:=by unfold wfS;rw[R6 c]
  rw[I] at q;walk_at"g";exact q b H C.sq (fun i _=>C.sq) (aA.refl _)
def Qm:Sp:=fun vs H Q _=>∃(f:Str) (n:Int),vs=[.str f,.int n]/\Q (.bl (inB f n)) H
theorem sQ(B:Bi mg)(D:kM K mg)(b:Has P w K mg base 1 "is_guest_box" A4 N3):Has P w K mg base 2 "is_within_bounds" Ar Qm:=by
 refine D.has sj (by intro _ _ _ _;walk_at"ln") (fun f i A U s H vs Q E j h=> ?_)
 obtain⟨fl,n,rfl,q⟩:=h;have C:∀{p r:Prop} [Decidable p] [Decidable r],Q (.bl (decide (p/\r))) H->(p->Q (.bl (decide r)) H)/\(¬ p->Q (.bl false) H):=fun {p r} _ _ h=>by
  refine⟨fun c=> ?_,fun c=> ?_⟩
  .by_cases d:r
   .rw[R0 ⟨c,d⟩] at h;rw[R0 d];exact h
   .rw[RW (fun z=>d z.2)] at h
    rw[RW d];exact h
  .rw[RW (fun z=>c z.1)] at h
   exact h
 have a:∀x:Str,decide (V.str fl=V.str x)=decide (fl=x):=fun x=>by
  by_cases z:fl=x
  .rw[z,R0 rfl,R0 rfl]
  .rw[RW z,RW (fun e=>z (by injection e))]
 unfold inB at q
 refine⟨_,(aa (aC (pcT aK (pv 0) av) (ad (ah (gL (pcE oR ac (pv 1)) (gg (pcE jC (pv 1) (dG (v:=4294967296) (by rfl))))))) ao)
   (aa (aC (pcT aK (pv 0) av) (ad (ah (gL (pcE oR (Lg GR (dG (v:=131072) (by rfl))) (pv 1)) (gg (pcE jC (pv 1) (dG (v:=131072) (by rfl))))))) ao)
   (aa (aC (pcT aK (pv 0) av) (ad (ah (gL (pcE oR ac (pv 1)) (gg (pcE jC (pv 1) (dG (v:=262144) (by rfl))))))) ao)
   (ad (ah (pcH b j (pa1 (pv 1)))))))),?_⟩
 walk_at"k";dsimp only;rw[a]
 by_cases c1:fl=Str.ofString "v"
 .rw[R0 c1];rw[R9 c1] at q;obtain⟨J,I⟩:=C q;walk_at"g";refine bO (fun c=> ?_) (fun c=> ?_)
  .walk_at"g";exact J c
  .exact I c
 rw[RW c1];rw[R6 c1] at q;walk_at"g";dsimp only;rw[a]
 by_cases c2:fl=Str.ofString "move"
 .rw[R0 c2];rw[R9 c2] at q;obtain⟨J,I⟩:=C q;walk_at"g";refine bO (fun c=> ?_) (fun c=> ?_)
  .walk_at"g";exact J c
  .exact I c
 rw[RW c2];rw[R6 c2] at q;walk_at"g";dsimp only;rw[a]
 by_cases c3:fl=Str.ofString "n"
 .rw[R0 c3];rw[R9 c3] at q;obtain⟨J,I⟩:=C q;walk_at"g";refine bO (fun c=> ?_) (fun c=> ?_)
  .walk_at"g";exact J c
  .exact I c
 rw[RW c3];rw[R6 c3] at q;walk_at"g";exact q
def Pt(K:Frag):Sp:=fun vs H Q _=>∃l:List Nat,vs=[.str (S l)]/\l.length<=100000/\(rdI l=none->∀o,aA H o->Q .non o)/\(∀C,rdI l=some C->∀p o,o p=some (.tup (aO C.1 C.2))->aA H o->Q (.ref p) o)
theorem sB(B:Bi mg)(D:jR K mg)(jw:Has P w K mg base 1 "is_guest_sort" m9 K3)(wn:Has P w K mg base 1 "written_fields" m9 (Qb K))(eM:Has P w K mg base 2 "read_number" si KN)(uy:Has P w K mg base 2 "is_within_bounds" Ar Qm):Has P w K mg base 3 "read_instruction" kF (Pt K):=by
 refine D.has bp (by intro _ _ _ _;walk_at"ln") (fun f bb A aw s H vs Q E hr h=> ?_)
 obtain⟨l,rfl,hl,q0,q1⟩:=h;have hz:(S l).length<=sizeLine:=by rw[bX];exact RY hl (by decide)
 have hy:((Str.ofString " ").length==0)=false:=by decide +kernel
 have es:Txt.split (S l) (Str.ofString " ")=(aB 32 l).map S:=by rw[DH];exact ng 32 l
 have a':(Txt.split (S l) (Str.ofString " ")).length<=sizeLine:=by
  rw[es,be];exact RY (cE 32 l) (RY (show l.length+1<=100001 by lia) (by decide))
 have X:=cE 32 l;obtain⟨ph,pt,ep⟩:=jK 32 l
 refine⟨_,(aa (psS 1 bp.nd (bU So TV TX q_ (pv 0) (pa1 av)))
   (aa (psS 2 bp.nd (pX bA (pv 1) ac))
   (aa (aC (ff (bN (pcH jw hr (pa1 (pv 2))))) (ad (ah cO)) ao)
   (aa (psS 3 bp.nd (pcH wn hr (pa1 (pv 2))))
   (aa (aC (pcT mQ (aI aH (by rfl) B.len bD (pa1 (pv 1))) (ax aZ (aI aH (by rfl) B.len bD (pa1 (pv 3))) ac)) (ad (ah cO)) ao)
   (aa (psS 4 bp.nd (a8 dJ))
   (aa (aP (cv Sw (by rfl) (Hf (by rfl) B.zip (pa2 (pv 3) (bK iq (pv 1) (cq ac) cQ))) (mB (n:=2) (by rfl) (bH (aJ (i:=5) bp.nd (by rfl) (by left;rfl)) (bH (aJ (i:=6) bp.nd (by rfl) (by left;rfl)) jg))) (aa (psS 7 bp.nd (pcH eM hr (pa1 (pv 6))))
   (aa (aP (bz (aC (PW.pt (gX (jT (kf (pv 7))) (eY (ff (bN (pcH uy hr (pa2 (pv 5) (pv 7)))))))) (ad (ah cO)) ao)))
   (ad (bj (bU Sr SL SM da (pv 4) (pa1 (pv 7)))))))))
   (ad (ah (cj gv (by rfl) B.tuple ji (pa1 (ax dL (a8 (pa1 (pv 2))) (pv 4))))))))))))),?_⟩
 walk_at"k";intro Y aS;rw[es];have s1:=ag aS (.lst (((aB 32 l).map S).map V.str));have l1:upd H Y (.lst (((aB 32 l).map S).map V.str)) Y=some (.lst (((aB 32 l).map S).map V.str)):=ae;generalize upd H Y (.lst (((aB 32 l).map S).map V.str))=H1 at*;have v:∀p∈aB 32 l,p.length<=100000:=fun p hp=>RY (fB hp).1 hl
 have U:rdI l=match o6 ph with | none=>none | some k=>if pt.length+1=(wfS k).length+1 then(ul (wfS k) pt).map fun o=>(k,o) else none:=by
  unfold rdI;rw[ep]
  rfl
 rw[ep] at l1 v X;have a0:atI (((ph::pt).map S).map V.str) 0=some (.str (S ph)):=nj;walk_at"g";dsimp only
 cases ek:o6 ph with
 | none=>
  rw[ek] at U;walk_at"g";exact q0 U _ s1
 | some k=>
  rw[ek] at U;obtain⟨hk,_,_,rfl⟩:=zE ek;have U:rdI l=if pt.length+1=(wfS k).length+1 then(ul (wfS k) pt).map fun o=>(k,o) else none:=U
  walk_at"g";intro M H2 f2 ab s2;have l2:=s2 _ _ l1;have L:=s1.trans s2;have aX:(!decide (V.int ((((((sgL k::pt).map S).map V.str).length:Nat)):Int)=V.int (((((wfS k).map V.str).length:Nat):Int)+1)))= !decide (pt.length=(wfS k).length):=by
   rw[be,be,R4,be]
   by_cases z:pt.length=(wfS k).length
   .rw[R0 z,R0 (by rw[z];rfl)]
   .rw[RW z,RW (fun e=>z (by injection e with e;lia))]
  walk_at"g";dsimp only;rw[aX]
  by_cases c:pt.length=(wfS k).length
  .rw[R0 c];rw[R9 (by rw[c])] at U
   walk_at"g";intro N ar;generalize b:upd H2 N _=H3;have n3:=upA b;have C:=upS ar b;clear b;have s3:=L.trans C;have l3:=C _ _ l2;have f3:=ab _ (Nj C);have W:H N=none:=FC L ar;have aT:∀d,TK H3 d->SqT K d M ((wfS k).map V.str):=fun d s4=>ab d (fun a u h=>s4 a u (C _ _ h))
   walk_at"n";refine⟨?_⟩
   walk_at"g";intro O m;have ec:fC (((sgL k::pt).map S).map V.str) (some 1) none=(pt.map S).map V.str:=by
    unfold fC;show((V.str (S (sgL k))::(pt.map S).map V.str).drop (HT.sIx _ 0 (some ((1:Nat):Int)))).take _=_
    rw[HT.sIx_nat];rw[show min 1 (((sgL k::pt).map S).map V.str).length=1 by rw[be,be,R4];lia]
    show((pt.map S).map V.str).take (((pt.map S).map V.str).length+1 - 1)=_
    rw[Nat.add_sub_cancel,Sl]
   rw[ec];have s4:=s3.trans (ag m (.lst ((pt.map S).map V.str)));have n4:=ag m (.lst ((pt.map S).map V.str)) _ _ n3;have c4:upd H3 O (.lst ((pt.map S).map V.str)) O=some (.lst ((pt.map S).map V.str)):=ae;have R:∀d,TK (upd H3 O (.lst ((pt.map S).map V.str))) d->SqT K d M ((wfS k).map V.str):=fun d s4=>aT d (fun a u h=>s4 a u ((ag m (.lst ((pt.map S).map V.str))) _ _ h))
   have aG:O≠N:=(aq n3 m).symm;generalize upd H3 O (.lst ((pt.map S).map V.str))=d at*;refine⟨false,true,M,O,rfl,⟨_,R _ (fun _ _ h=>h)⟩,⟨_,SqL.of c4⟩,?_⟩
   refine BR (xs:=(wfS k).map V.str) (ys:=(pt.map S).map V.str) (fun i Z G=>aD (∃(x5 x6 x7:Option V) (o:List Int),Z=[some (.str (S l)),some (.ref Y),some (.str (S (sgL k))),some (.ref M),some (.ref N),x5,x6,x7]/\aA H G/\(∀j,TK G j->SqT K j M ((wfS k).map V.str))/\G O=some (.lst ((pt.map S).map V.str))/\G N=some (.lst (o.map V.int))/\o.length=i/\ul (wfS k) pt=(ul ((wfS k).drop i) (pt.drop i)).map (o++ ·))) ⟨_,_,_,[],rfl,s4,R,c4,n4,rfl,by rw[VT,VT];cases ul (wfS k) pt <;> rfl⟩ ?_ ?_ ?_
   .rintro i Z j ⟨x5,x6,x7,o,rfl,s5,f5,c5,n5,hn,he⟩
    exact⟨f5 _ (fun _ _ h=>h),SqL.of c5⟩
   .rintro i x y r Z j hx hy ⟨x5,x6,x7,o,rfl,s5,f5,c5,n5,hn,he⟩ hr'
    obtain⟨I,ex,rfl⟩:=IT hx;obtain⟨J,ey,rfl⟩:=OG hy;have s6:=s5.trans (ag hr' (.tup [.str I,.str (S J)]));have c6:=ag hr' (.tup [.str I,.str (S J)]) _ _ c5;have n6:=ag hr' (.tup [.str I,.str (S J)]) _ _ n5;have f6:∀q,TK (upd j r (.tup [.str I,.str (S J)])) q->SqT K q M ((wfS k).map V.str):=fun q s7=>f5 q (fun a u h=>s7 a u (ag hr' _ _ _ h))
    have t6:upd j r (.tup [.str I,.str (S J)]) r=some (.tup [.str I,.str (S J)]):=ae;generalize upd j r (.tup [.str I,.str (S J)])=H6 at*;have ba:J.length<=100000:=v J (R8 _ (Sa ey));obtain⟨aR,au⟩:=RX.mp ex;obtain⟨a6,aL⟩:=RX.mp ey;rw[SG aR,SG a6,au,aL] at he;have he:ul (wfS k) pt=(match rdN J with | none=>none | some n=>if inB I n=true then(ul ((wfS k).drop (i+1)) (pt.drop (i+1))).map (n:: ·) else none).map (o++ ·):=he
    have wl:(wfS k).length<=3:=by
     have:∀k,k<19->(wfS k).length<=3:=by decide +kernel
     exact this k hk
    walk_at"g"
    cases en:rdN J with
    | none=>
     rw[en] at he;have e0:rdI l=none:=by rw[U,he];rfl
     walk_at"n";refine⟨fun Z' G=>aD False,?_,?_⟩
     .walk_at"g";exact q0 e0 _ s6
     .rintro Z7 q ⟨z⟩
      exact z.elim
    | some n=>
     rw[en] at he;walk_at"n";refine⟨fun Z' G=>aD (Z'=[some (.str (S l)),some (.ref Y),some (.str (S (sgL k))),some (.ref M),some (.ref N),some (.str I),some (.str (S J)),some (.int n)]/\G=H6/\inB I n=true),?_,?_⟩
     .walk_at"g"
      cases ei:inB I n with
      | false=>
       have he:ul (wfS k) pt=none:=by
        rw[he];show(if inB I n=true then _ else none:Option (List Int)).map _=none
        rw[ei]
        rfl
       have e0:rdI l=none:=by rw[U,he];rfl
       walk_at"g";exact q0 e0 _ s6
      | true=>
       walk_at"g";exact aD.mk ⟨rfl,rfl,by first | rfl | exact ei⟩
     .rintro Z7 q ⟨rfl,rfl,ei⟩
      have he:ul (wfS k) pt=(ul ((wfS k).drop (i+1)) (pt.drop (i+1))).map ((o++[n])++ ·):=by
       rw[he];show(if inB I n=true then(ul ((wfS k).drop (i+1)) (pt.drop (i+1))).map (n:: ·) else none:Option (List Int)).map (o++ ·)=_
       rw[R9 ei]
       cases ul ((wfS k).drop (i+1)) (pt.drop (i+1)) with
       | none=>rfl
       | some zs=>
        show some (o++n::zs)=some (o++[n]++zs)
        rw[SQ]
        rfl
      have bc:tyV K "list" (.ref N) q:= .inl ⟨rfl,_,SqL.of n6⟩;have a7:(o.map V.int).length<sizeLine:=by
       rw[be,hn];exact SB (show i<=3 by lia) (by decide)
      walk_at"g";refine aD.mk ⟨_,_,_,o++[n],rfl,bZ W s6,fun H8 s8=> ?_,?_,?_,by rw[RZ,hn];rfl,he⟩
      .refine f6 H8 fun a u h=>s8 a u ?_
       rw[aj (dj h n6 (fun z=>by cases z))]
       exact h
      .rw[aj aG];exact c6
      .rw[ae,R5]
       rfl
   .rintro Z j ⟨x5,x6,x7,o,rfl,s5,f5,c5,n5,hn,he⟩
    have hm:min ((wfS k).map V.str).length ((pt.map S).map V.str).length=(wfS k).length:=by
     rw[be,be,be,c];exact Nat.min_self _
    rw[hm,Wr] at he;have he:ul (wfS k) pt=some o:=by
     rw[he];show some (o++[])=_
     rw[SJ]
    rw[he] at U;rw[hm] at hn;have wl:(wfS k).length<=3:=by
     have:∀k,k<19->(wfS k).length<=3:=by decide +kernel
     exact this k hk
    walk_at"g";intro p6 aW;generalize b:upd j p6 _=H6;have l6:=upA b;have F:=upS aW b;clear b;have n6:=F _ _ n5;have s6:=s5.trans F;have a7:[V.str (S (sgL k))].length+(o.map V.int).length<=sizeLine:=by
     rw[be,hn];exact RY (show 1+(wfS k).length<=4 by lia) (by decide)
    walk_at"g";intro p7 aN;generalize b:upd H6 p7 _=q;have l7:=upA b;have T:=upS aN b;clear b;have s7:=s6.trans T;walk_at"g";refine .inl ⟨SqL.of l7,fun p8 aF=> ?_⟩
    refine q1 (k,o) U p8 _ ?_ (s7.trans (ag aF _))
    rw[ae];unfold aO;rw[Kt]
    rfl
  .rw[RW c];rw[R6 (fun z=>c (by lia))] at U
   walk_at"g";exact q0 U _ L
theorem x_(B:Bi mg)(D:rg K mg):Has P w K mg base 1 "is_guest_box" A4 N3:=by
 refine D.has ya (by intro _ _ _ _;walk_at"ln") (fun f C A o s H vs Q E I h=> ?_)
 obtain⟨n,rfl,q⟩:=h;refine⟨_,(ad (ah (gL (pcE oR ac (pv 0)) (gg (pcE oR (pv 0) ac))))),?_⟩
 walk_at"k"
 by_cases c:0<=n
 .rw[R0 c,R9 rfl];rw[show decide (0<=n/\n<=5)=decide (n<=5) by simp [c]] at q
  walk_at"g";exact q
 .rw[RW c,R6 (by decide)]
  rw[RW (fun z=>c z.1)] at q
  exact q
theorem uS(B:Bi mg)(T:TbG K mg w.params)(D:kX K mg)(X:Has P w K mg base 1 "is_guest_box" A4 N3):Has P w K mg base 2 "has_guest_boxes" cI (P3 K):=by
 obtain⟨hV,ab,hZ,U,vR,G⟩:=T.fields;refine D.has gM (by intro _ _ _ _;walk_at"ln") (fun f ar A F s H vs Q E hr h=> ?_)
 obtain⟨a,k,C,rfl,hk,ha,q⟩:=h;obtain⟨b,au,j⟩:=G k hk;have i0:atI (aO k C) 0=some (.str (aV k)):=nj
 refine⟨_,(aa (aP (cv Sw (by rfl) (Hf (by rfl) B.zip (pa2 (D_ Ib (cZ (v:= .ref hV) (by rfl) hZ (by rfl)) (pX ay (pv 0) ac) (by intro _ _;rfl)) (bK uK (pv 0) (cq ac) cQ))) (mB (n:=2) (by rfl) (bH (aJ (i:=1) gM.nd (by rfl) (by left;rfl)) (bH (aJ (i:=2) gM.nd (by rfl) (by left;rfl)) jg))) (ad (aC (PW.pt (uF (n9 rY (pv 1) (az (aU (by rfl))) (by rfl)) (oH (ff (bN (pcH X hr (pa1 (pv 2)))))))) (ad (ah tI)) ao))))
   (ad (ah tI))),?_⟩
 try dsimp only[oJ]
 refine⟨?_⟩
 walk_at"g";refine⟨OF k C _,fun p N=> ?_⟩
 refine⟨false,false,b,p,rfl,⟨_,j.sq⟩,⟨_,SqT.of ae⟩,?_⟩
 rw[PR];refine BR (xs:=(aM k).map V.str) (ys:=C.map V.int) (fun i Z d=>aD (aA (upd H p (.tup (C.map V.int))) d/\(∃x y,Z=[some (.ref a),x,y])/\(((aM k).zip C).take i).all hgP=true)) ⟨aA.refl _,⟨_,_,rfl⟩,rfl⟩ ?_ ?_ ?_
 .rintro i Z d ⟨hs,_⟩
  exact⟨j.sq,hs.tup (SqT.of ae)⟩
 .rintro i x y r Z d hx hy ⟨hs,⟨u,v,rfl⟩,ho⟩ hr'
  obtain⟨J,ex,rfl⟩:=IT hx;obtain⟨I,Y,rfl⟩:=IT hy;walk_at"g";intro M m;have L:=(dE (o:= .tup [.str J,.int I]) hr' hs).trans (ag m (.tup [.str "a",.str "b",.str "c"]));have t2:SqT K (upd (upd d r (.tup [.str J,.int I])) M (.tup [.str "a",.str "b",.str "c"])) M [.str "a",.str "b",.str "c"]:=SqT.of ae;generalize upd (upd d r (.tup [.str J,.int I])) M (.tup [.str "a",.str "b",.str "c"])=H2 at*;have O:((aM k).zip C)[i]? =some (J,I):=by rw[VZ];exact⟨ex,Y⟩
  have R:((((aM k).zip C).take (i+1)).all hgP)=hgP (J,I):=by
   rw[Us,O,List.all_append,ho]
   simp
  have no:hgP (J,I)=false->hgb k C=false:=fun z=>by
   cases e:hgb k C with
   | false=>rfl
   | true=>
    have:=S7.mp e _ (Sa O);rw[z] at this
    cases this
  walk_at"g";rw[R6 (show ¬false=true by decide)]
  cases e1:inV (.str J) [.str "a",.str "b",.str "c"] with
  | false=>
   have l:hgP (J,I)=true:=by unfold hgP;rw[e1];rfl
   exact⟨L,⟨_,_,rfl⟩,R.trans l⟩
  | true=>
   walk_at"g"
   by_cases c:0<=I/\I<=5
   .have l:hgP (J,I)=true:=by unfold hgP;rw[e1,R0 c];rfl
    rw[R0 c];exact⟨L,⟨_,_,rfl⟩,R.trans l⟩
   .have l:hgP (J,I)=false:=by unfold hgP;rw[e1,RW c];rfl
    rw[RW c];rw[no l] at q;exact q _ ((ag N _).trans L)
 .rintro Z d ⟨hs,⟨x,y,rfl⟩,ho⟩
  walk_at"g";have W:((aM k).zip C).take (min ((aM k).map V.str).length (C.map V.int).length)=(aM k).zip C:=by
   rw[be,be, <-List.length_zip,Sl]
  rw[W] at ho;have e:hgb k C=true:=ho;rw[e] at q;exact q _ ((ag N _).trans hs)
theorem FU:∀k,k<19->decide (V.str (aV k)=V.str "jump")=decide (k=13):=by decide +kernel
theorem Ah:∀k,k<19->decide (V.str (aV k)=V.str "jumpif")=decide (k=14):=by decide +kernel
theorem Oq:∀k,k<19->decide (V.str (aV k)=V.str "gate")=decide (k=18):=by decide +kernel
theorem sO(B:Bi mg)(D:j4 K mg):Has P w K mg base 1 "has_known_number" tj (Qz K):=by
 refine D.has jD (by intro _ _ _ _;walk_at"ln") (fun f p A b s H vs Q E T h=> ?_)
 obtain⟨a,k,i,n,g,rfl,j,W,q⟩:=h;have X:atI (aO k i) 0=some (.str (aV k)):=nj;have o:=j.lt;obtain⟨x,l,d,U,F⟩:=Kp j
 refine⟨_,(aa (psS 3 jD.nd (pX ay (pv 0) ac))
   (aa (aP (bz (aC (PW.pt (gX (pcT aK (pv 3) av) (eY (pcT aK (pv 3) av)))) (ad (ah (gL (pcE oR ac (pX ay (pv 0) (lj (v:= -1) (by rfl)))) (gg (pcE jC (pX ay (pv 0) (lj (v:= -1) (by rfl))) (pv 1)))))) ao)))
   (aa (aC (pcT aK (pv 3) av) (ad (ah (pcE jC (pX ay (pv 0) ac) (pv 2)))) ao)
   (ad (ah tI))))),?_⟩
 walk_at"k";refine⟨fun L G=>aD (L=[some (.ref a),some (.int n),some (.int g),some (.str (aV k))]/\G=H/\¬(k=13\/k=14)),?_,?_⟩
 .by_cases z:k=13\/k=14
  .obtain⟨r,y,rfl⟩:=d z;have O:atI (aO k (r++[y])) (-1)=some (.int y):=by
    have e:aO k (r++[y])=aO k r++[V.int y]:=by unfold aO;rw[R5];rfl
    rw[e];exact KH _ _
   have m:(r++[y]).getLastD 0=y:=by rw[List.getLastD_concat]
   have u:hkn k (r++[y]) n g=decide (0<=y/\y<n):=by
    unfold hkn;rw[m]
    by_cases c:0<=y/\y<n
    .rw[R0 c,R0 ⟨fun _=>c,fun h=>by lia⟩]
    .rw[RW c,RW (fun h=>c (h.1 z))]
   rw[u] at q;have tail:(if decide (0<=y)=true then Q (.bl (decide (y<n))) H else Q (.bl false) H):=by
    by_cases c:0<=y
    .rw[R0 c,R9 rfl];rw[show decide (0<=y/\y<n)=decide (y<n) by simp [c]] at q
     exact q
    .rw[RW c,R6 (by decide)]
     rw[RW (fun z=>c z.1)] at q
     exact q
   have I:(0<=y->Q (.bl (decide (y<n))) H)/\(¬ 0<=y->Q (.bl false) H):=⟨fun c=>by rw[R0 c,R9 rfl] at tail;exact tail,fun c=>by rw[RW c,R6 (by decide)] at tail;exact tail⟩
   walk_at"g";rw[FU k o]
   by_cases J:k=13
   .rw[R0 J];walk_at"g";refine bO (fun c=> ?_) (fun c=> ?_)
    .walk_at"g";exact I.1 c
    .exact I.2 c
   .have c14:k=14:=by lia
    rw[RW J];walk_at"g";rw[Ah k o,R0 c14];walk_at"g";refine bO (fun c=> ?_) (fun c=> ?_)
    .walk_at"g";exact I.1 c
    .exact I.2 c
  .walk_at"g";rw[FU k o,RW (fun h=>z (.inl h))]
   walk_at"g";rw[Ah k o,RW (fun h=>z (.inr h))]
   exact aD.mk ⟨rfl,rfl,z⟩
 rintro M R ⟨rfl,rfl,z⟩
 walk_at"g";rw[Oq k o]
 by_cases C:k=18
 .obtain⟨y,rfl⟩:=U C;rw[R0 C];have N:atI (aO k [y]) 1=some (.int y):=LG;have eq:hkn k [y] n g=decide (y<g):=by
   unfold hkn
   by_cases c:y<g
   .rw[R0 c,R0 ⟨fun h=>absurd h z,fun _=>c⟩]
   .rw[RW c,RW (fun h=>c (h.2 C))]
  rw[eq] at q;walk_at"g";exact q
 .rw[RW C];have eq:hkn k i n g=true:=by
   unfold hkn;rw[R0 ⟨fun h=>absurd h z,fun h=>absurd h C⟩]
  rw[eq] at q;walk_at"g";exact q
theorem Rl{a b c:Bool}{p:Prop}[Decidable p](h:p↔(a=true/\b=true/\c=true)):decide p=(a && (b && c)):=by
 by_cases o:p
 .rw[R0 o,(h.mp o).1,(h.mp o).2.1,(h.mp o).2.2]
  rfl
 .rw[RW o]
  cases a <;> cases b <;> cases c <;> first | rfl | exact absurd (h.mpr ⟨rfl,rfl,rfl⟩) o
theorem lK{x:Int}{f:Str}(o:inV (.str f) [.str "a",.str "b",.str "c"]=true)(C:0<=x)(I:x<8):(hgP (f,x)=true↔6≠x/\7≠x):=by
 unfold hgP;rw[o]
 simp only[Bool.not_true,V6,TL]
 lia
theorem Ky{x:Int}{f:Str}(o:inV (.str f) [.str "a",.str "b",.str "c"]=false):hgP (f,x)=true:=by
 unfold hgP;rw[o]
 rfl
theorem Qh{k:Nat}{ns:List Int}(i:aQ 8 262144 k ns):hgb k ns=true↔6 ∉ bx3 k ns/\7 ∉ bx3 k ns:=by
 have a:inV (.str "a") [.str "a",.str "b",.str "c"]=true:=by decide +kernel
 have b:inV (.str "b") [.str "a",.str "b",.str "c"]=true:=by decide +kernel
 have j:inV (.str "c") [.str "a",.str "b",.str "c"]=true:=by decide +kernel
 have hm:inV (.str "move") [.str "a",.str "b",.str "c"]=false:=by decide +kernel
 have d:inV (.str "n") [.str "a",.str "b",.str "c"]=false:=by decide +kernel
 rcases i with⟨rfl,rfl⟩|⟨rfl,x,v,rfl,I,C,v0,v1⟩|⟨f,e,x,y,z,rfl,I,C,J,U,z0,z1⟩|⟨f,e,x,y,z,rfl,I,C,J,U,z0,z1⟩|⟨c,z,rfl,z0,z1⟩|⟨rfl,x,z,rfl,I,C,z0,z1⟩|⟨rfl,y,rfl,J,U⟩|⟨c,x,y,rfl,I,C,J,U⟩
 .exact⟨fun _=>⟨by decide,by decide⟩,fun _=>rfl⟩
 .have e1:hgb 1 [x,v]=(hgP ("a",x) && true):=rfl;have o:bx3 1 [x,v]=[x]:=rfl;rw[e1,o,T3,lK a I C]
  simp
 .have e1:hgb k [x,y,z]=(hgP ("a",x) && (hgP ("b",y) && (hgP ("c",z) && true))):=by
   obtain rfl | rfl | rfl | rfl | rfl | rfl | rfl | rfl:k=2\/k=3\/k=4\/k=5\/k=6\/k=7\/k=8\/k=9:=by lia
   all_goals rfl
  have o:bx3 k [x,y,z]=[x,y,z]:=by
   unfold bx3 bx2 bx1;rw[R6 (by lia),R6 (by lia),R6 (by lia)]
  rw[e1,o,T3,Su,Su,lK a I C,lK b J U,lK j z0 (by lia)]
  simp only[Se,SS,Ue]
  lia
 .have e1:hgb k [x,y,z]=(hgP ("a",x) && (hgP ("b",y) && (hgP ("move",z) && true))):=by
   obtain rfl | rfl | rfl:k=10\/k=11\/k=12:=by lia
   all_goals rfl
  have o:bx3 k [x,y,z]=[x,y]:=by
   unfold bx3 bx2 bx1;rw[R6 (by lia),R6 (by lia),R9 ⟨f,e⟩]
   rfl
  rw[e1,o,Ky hm,T3,T3,Su,lK a I C,lK b J U]
  simp only[Se,SS,Ue]
  lia
 .have e1:hgb k [z]=(hgP ("n",z) && true):=by
   rcases c with rfl | rfl <;> rfl
  have o:bx3 k [z]=[]:=by
   unfold bx3;rw[R9 c]
  rw[e1,o,Ky d]
  simp
 .have e1:hgb 14 [x,z]=(hgP ("a",x) && (hgP ("n",z) && true)):=rfl;have o:bx3 14 [x,z]=[x]:=rfl;rw[e1,o,Ky d,T3,T3,lK a I C]
  simp
 .have e1:hgb 15 [y]=(hgP ("b",y) && true):=rfl;have o:bx3 15 [y]=[y]:=rfl;rw[e1,o,T3,lK b J U]
  simp
 .have e1:hgb k [x,y]=(hgP ("a",x) && (hgP ("b",y) && true)):=by
   rcases c with rfl | rfl <;> rfl
  have o:bx3 k [x,y]=[x,y]:=by
   unfold bx3 bx2 bx1;rw[R6 (by lia),R6 (by lia),R6 (by lia)]
  rw[e1,o,T3,Su,lK a I C,lK b J U]
  simp only[Se,SS,Ue]
  lia
theorem ME{k:Nat}{ns:List Int}(b:aQ 8 262144 k ns)(h:k=13\/k=14):0<=ns.getLastD 0:=by
 rcases b with⟨rfl,rfl⟩|⟨rfl,x,v,rfl,C,o,v0,v1⟩|⟨c,a,x,y,z,rfl,C,o,I,J,z0,z1⟩|⟨c,a,x,y,z,rfl,C,o,I,J,z0,z1⟩|⟨U,z,rfl,z0,z1⟩|⟨rfl,x,z,rfl,C,o,z0,z1⟩|⟨rfl,y,rfl,I,J⟩|⟨U,x,y,rfl,C,o,I,J⟩
 all_goals first | lia | exact z0
theorem O6{k:Nat}{ns:List Int}(n g:Int)(o:aQ 8 262144 k ns):decide (IB k ns n g)=(decide (k≠16/\k≠17) && (hgb k ns && hkn k ns n g)):=by
 refine Rl ?_
 have C:=Qh o;have I:=ME o;unfold IB hkn;rw[C,TL,TL]
 constructor
 .rintro⟨a1,a2,a3,a4,a5⟩
  exact⟨⟨fun z=>a1 (.inl z),fun z=>a1 (.inr z)⟩,⟨a2,a3⟩,fun z=>⟨I z,a4 z⟩,a5⟩
 .rintro⟨a1,⟨a2,a3⟩,a4,a5⟩
  exact⟨fun z=>z.elim a1.1 a1.2,a2,a3,fun z=>(a4 z).2,a5⟩
theorem Dj(B:Bi mg)(D:xK K mg)(l:Has P w K mg base 1 "is_guest_sort" m9 QS)(i:Has P w K mg base 2 "has_guest_boxes" cI (P3 K))(j:Has P w K mg base 1 "has_known_number" tj (Qz K)):Has P w K mg base 3 "may_stand" tj (NY K):=by
 refine D.has Da (by intro _ _ _ _;walk_at"ln") (fun f d A C s H vs Q E I h=> ?_)
 obtain⟨a,k,J,n,g,rfl,b,m,q⟩:=h;have U:=b.lt;rw[O6 n g b] at q;have r:atI (aO k J) 0=some (.str (aV k)):=nj
 refine⟨_,(aa (aC (ff (bN (pcH l I (pa1 (pX ay (pv 0) ac))))) (ad (ah tI)) ao)
   (ad (ah (gL (pcH i I (pa1 (pv 0))) (gg (pcH j I (pa3 (pv 0) (pv 1) (pv 2)))))))),?_⟩
 walk_at"k"
 by_cases c:k≠16/\k≠17
 .rw[R0 c];rw[R0 c,Uo] at q;walk_at"g";intro p o;have a1:=o.tup m
  cases e:hgb k J with
  | false=>
   rw[e,To] at q;walk_at"g";exact q _ o
  | true=>
   rw[e,Uo] at q;walk_at"g";exact q _ o
 .rw[RW c];rw[RW c,To] at q;walk_at"g";exact q _ (aA.refl _)
def BM(k:Nat):Prop:=k=0\/k=13\/k=15
noncomputable instance {k:Nat}:Decidable (BM k):=inferInstanceAs (Decidable (_\/_\/_))
noncomputable def okI(n g:Int)(len i:Nat)(o:Ins):Bool:=(decide (BM o.1)==decide (i+1=len)) && decide (IB o.1 o.2 n g)
noncomputable def Hu(n g:Int)(blk:List Ins)(i:Nat):Option Int:=if okI n g blk.length i (blk.getD i (0,[]))=true then none else some (i:Int)
noncomputable def nP(n g:Int)(blk:List Ins):Option Int:=if blk.length=0 then some (-1) else(List.range blk.length).findSome? (Hu n g blk)
noncomputable def Fv(g:Int)(C:List (List Ins))(k:Nat):Option (Int × Int):=(nP C.length g (C.getD k [])).map (fun o=>((k:Int),o))
noncomputable def l_(g:Int)(o:List (List Ins)):Option (Int × Int):=(List.range o.length).findSome? (Fv g o)
theorem nR{o:Type}{f:Nat->Option o}:∀{n:Nat},(∀j,j<n->f j=none)->(List.range n).findSome? f=none
 | 0,_=>rfl
 | n+1,h=>by
  rw[Uc,WO,nR (fun j C=>h j (by lia))]
  show List.findSome? f [n]=none
  rw[List.findSome?_cons,h n (by lia)]
  rfl
theorem ug{o:Type}{f:Nat->Option o}{k:Nat}{y:o}(h:∀j,j<k->f j=none)(C:f k=some y):∀{n:Nat},k<n->(List.range n).findSome? f=some y
 | 0,hk=>absurd hk (by lia)
 | n+1,hk=>by
  rw[Uc,WO]
  by_cases e:k<n
  .rw[ug h C e]
   rfl
  .obtain rfl:k=n:=by lia
   rw[nR h];show List.findSome? f [k]=some y
   rw[List.findSome?_cons,C]
structure GuH (K:Frag) (H:Hp) (ga:Addr) (bas:List Addr) (gs:List (List Ins)):Prop where
 at_:H ga=some (.tup (bas.map V.ref))
 bl:RlA H bas gs
 val:∀blk∈gs,(∀kn∈blk,aQ 8 262144 kn.1 kn.2)/\blk.length<=25
 few:gs.length<=16
theorem GuH.same{H C:Hp}{J:Addr}{o:List Addr}{I:List (List Ins)}(h:GuH K H J o I)(s:aA H C):GuH K C J o I:=
 ⟨s _ _ h.at_,h.bl.mono (fun _ _ z=>s _ _ z),h.val,h.few⟩
theorem GuH.get{H:Hp}{d:Addr}{I:List Addr}{C:List (List Ins)}(h:GuH K H d I C){j:Nat}(f:j<C.length):∃J o,atI (I.map V.ref) (j:Int)=some (.ref J)/\H J=some (.tup (o.map V.ref))/\RnA H o (C.getD j [])/\(∀U∈C.getD j [],aQ 8 262144 U.1 U.2)/\(C.getD j []).length<=25:=by
 have e:C[j]? =some (C.getD j []):=by
  rw[Sz,R1 f]
  rfl
 obtain⟨J,o,b,c,a⟩:=h.bl.get j _ e;obtain⟨v1,v2⟩:=h.val _ (Sa e);exact⟨J,o,bq (by rw[Sx,b];rfl),c,a,v1,v2⟩
theorem RnA.at51{H:Hp}{o:List Addr}{blk:List Ins}(h:RnA H o blk){i:Nat}(I:i<blk.length):∃C,o[i]? =some C/\H C=some (.tup (aO (blk.getD i (0,[])).1 (blk.getD i (0,[])).2))/\(blk.getD i (0,[]))∈blk:=by
 have e:blk[i]? =some (blk.getD i (0,[])):=by
  rw[Sz,R1 I]
  rfl
 obtain⟨C,J,U⟩:=h.get i _ e;exact⟨C,J,U,Sa e⟩
theorem sG{C F:Addr}(B:Bi mg)(D:dU K C F):yn P w K mg base 1 C F ["self","block","at"] (Hj C ["block","at"]):=by
 refine D.has sF (fun vs H Q E h=> ?_) (fun f d A I s H vs Q E i h=> ?_)
 .obtain⟨e,U,rfl,o,_⟩:=h;show U.length+1=3
  rw[o]
  rfl
 obtain⟨e,U,rfl,o,he,q⟩:=h;obtain⟨k,_,_,j,_⟩:=D.ex
 match U,o with
 | [b,a],_=>
 refine⟨_,(aa (Cc (pv 0) (pv 1) (by rfl))
   (ad (Cc (pv 0) (pv 2) (by rfl)))),?_⟩
 walk_at"k";refine .inl ⟨he,fun c J ne=> ?_⟩
 walk_at"g";refine .inr ⟨c,[("block",b)],?_,ae,(show 1<100 by decide),?_⟩
 .rw[aj (SD ne),ae]
 .rw[MN];exact q c J ne
theorem xm{H:Hp}{e o:Addr}{I J C:HO}(ne:o≠e):del (upd (upd (upd H e I) e J) o C) e o=some C:=by
 unfold del;rw[R6 ne,ae]
theorem kY{H:Hp}{e C:Addr}{I U J:HO}(he:H e=none)(o:upd H e I C=none):aA H (del (upd (upd (upd H e I) e U) C J) e):=fun a u h=>by
 have n1:a≠e:=aq h he;have n2:a≠C:=fun z=>by rw[<- z,aj n1,h] at o;cases o
 unfold del;rw[R6 n1,aj n2,aj n1,aj n1];exact h
theorem RI{k i:Nat}{o:List Addr}{len:Nat}(C:k<19)(I:(o.map V.ref).length=len)(b:Bool)(a:(decide (BM k)==decide (i+1=len))=b):(!decide (V.bl (inV (.str (aV k)) [.str "stop",.str "jump",.str "through"])=V.bl (decide (V.int (i:Int)=V.int ((((o.map V.ref).length:Nat):Int) - 1)))))= !b:=by
 have J:decide (V.int (i:Int)=V.int ((((o.map V.ref).length:Nat):Int) - 1))=decide (i+1=len):=by
  rw[I]
  by_cases z:i+1=len
  .rw[R0 z,R0 (by rw[<- z];congr 1;lia)]
  .rw[RW z,RW (fun y=>z (by injection y with y;lia))]
 rw[J,Jr k C, <-a];have U:decide (k=0\/k=13\/k=15)=decide (BM k):=rfl;rw[U]
 cases decide (BM k) <;> cases decide (i+1=len) <;> rfl
def QJ(K:Frag)(C:Addr):Sp:=fun vs H Q E=>∃(b:Addr) (U:List Addr) (I:List (List Ins)) (j:Nat) (g:Int),vs=[.ref b,.int j,.int g]/\GuH K H b U I/\j<I.length/\
 (nP I.length g (I.getD j [])=none->∀o,aA H o->Q .non o)/\(∀J,nP I.length g (I.getD j [])=some J->∀a o,o a=some (xdo a [("block",.int j),("at",.int J)])->aA H o->E (.ref C) (some a) o)
theorem yN{R bg:Addr}(B:Bi mg)(T:TbG K mg w.params)(r8:mg "NoGuest"=some (.ref R))(kG:yn P w K mg base 1 R bg ["self","block","at"] (Hj R ["block","at"]))(D:tN K mg)(pI:Has P w K mg base 3 "may_stand" tj (NY K)):dA P w K mg base 4 "check_block" Fg [] (QJ K R):=by
 obtain⟨nU,oq,BO⟩:=T.last;refine D.hasO fH (by intro _ _ _ _;walk_at"ln") (fun f aG A W s H vs Q E hr h=> ?_)
 obtain⟨ga,au,o,j,g,rfl,hG,hj,q0,X⟩:=h;obtain⟨ba,I,eb,hb,m,hv,aw⟩:=hG.get hj;have ab:=hG.at_;generalize o.getD j []=blk at*
 refine⟨_,(aa (bE (psS 3 fH.nd (pX ay (pv 0) (pv 1))))
   (aa (aC (pcT aK (aI aH (by rfl) B.len bD (pa1 (pv 3))) ac) (ad (jM (kG.mono (by omega)) hr (by rfl) r8 (by decide) (pa2 (pv 1) (lj (v:= -1) (by rfl))))) ao)
   (ad (cv (by exact UL) (by rfl) (bY (LM (by rfl) B.enumerate (pa1 (pv 3)))) (mB (n:=2) (by rfl) (bH (aJ (i:=4) fH.nd (by rfl) (by left;rfl)) (bH (aJ (i:=5) fH.nd (by rfl) (by left;rfl)) jg))) (aa (bE (psS 6 fH.nd (pcE aK (pv 4) (ax iX (aI aH (by rfl) B.len bD (pa1 (pv 3))) ac))))
   (ad (aC (PW.pt (gX (pcT mQ (HB rY (pX ay (pv 5) ac) (cZ (v:= .ref nU) (by rfl) oq (by rfl)) (by rfl)) (pv 6)) (eY (ff (bN (pcH pI hr (pa3 (pv 5) (aI aH (by rfl) B.len bD (pa1 (pv 0))) (pv 2)))))))) (ad (jM (kG.mono (by omega)) hr (by rfl) r8 (by decide) (pa2 (pv 1) (pv 4)))) ao))))))),?_⟩
 try dsimp only[PL]
 have il:=m.len;have U:(I.map V.ref).length=blk.length:=by rw[be];exact il
 walk_at"g";rw[U]
 by_cases N:blk.length=0
 .have eb0:nP o.length g blk=some (-1):=by unfold nP;rw[R9 N]
  rw[R0 (show V.int (blk.length:Int)=V.int 0 by rw[N];rfl)]
  walk_at"g";intro e he;refine⟨e,_,rfl,rfl,ae,fun c J ne=>⟨rfl,some c,?_,?_⟩⟩
  .rw[aj (SD ne),ae]
  .exact X _ eb0 c _ (xm ne) (kY he J)
 .rw[RW (show ¬V.int (blk.length:Int)=V.int 0 by intro z;injection z with z;lia)]
  have lz:(I.map V.ref).length<1000000000:=by rw[U];lia
  have l:SqT K H ba (I.map V.ref):=SqT.of hb;walk_at"g";refine⟨IP (xs:=I.map V.ref) (fun i Z H'=>aD (∃(M O L:Option V),Z=[some (.ref ga),some (.int j),some (.int g),some (.ref ba),M,O,L]/\aA H H'/\∀a,a<i->Hu o.length g blk a=none)) ⟨_,_,_,rfl,aA.refl _,fun _ h=>absurd h (by lia)⟩ ?_ ?_ ?_⟩
  .rintro i Z H1 ⟨M,O,L,rfl,s1,ok1⟩
   exact s1.tup l
  .rintro i x p1 Z H1 hx ⟨M,O,L,rfl,s1,ok1⟩ hp1
   obtain⟨ia,y,rfl⟩:=IT hx;have F:i<blk.length:=by have:=(RX.mp y).1;lia
   obtain⟨C,e1,e2,mem⟩:=m.at51 F;obtain rfl:C=ia:=Sj (e1.symm.trans y);have vk:=hv _ mem;have b:Hu o.length g blk i=if okI o.length g blk.length i (blk.getD i (0,[]))=true then none else some (i:Int):=rfl
   generalize blk.getD i (0,[])=kn at*;obtain⟨k,d⟩:=kn;have r:=vk.lt;have q:=s1.trans (ag hp1 (.tup [.int i,.ref C]));have i0:atI (aO k d) 0=some (.str (aV k)):=nj;have t1:upd H1 p1 (.tup [.int i,.ref C]) p1=some (.tup [.int i,.ref C]):=ae;generalize upd H1 p1 (.tup [.int i,.ref C])=H2 at*;have b2:=q.tup l;have g2:=q _ _ ab;have n2:=q _ _ e2;have u:okI o.length g blk.length i (k,d)=false->nP o.length g blk=some (i:Int):=fun z=>by
    unfold nP;rw[R6 N];exact ug ok1 (by rw[b,z];rfl) F
   have cd:= @RI k i I blk.length r U;walk_at"g"
   cases ea:(decide (BM k)==decide (i+1=blk.length)) with
   | false=>
    have G:okI o.length g blk.length i (k,d)=false:=by unfold okI;rw[ea];rfl
    refine NP (cd false ea) ?_
    walk_at"g";intro e he;refine⟨e,_,rfl,rfl,ae,fun c J ne=>⟨rfl,some c,?_,?_⟩⟩
    .rw[aj (SD ne),ae]
    .exact X _ (u G) c _ (xm ne) (q.trans (kY he J))
   | true=>
    refine Pw (cd true ea) ?_
    walk_at"g";intro H3 s3;have ar:(au.map V.ref).length=o.length:=by rw[be];exact hG.bl.len
    rw[ar];have p:=q.trans s3
    by_cases hm:IB k d o.length g
    .have G:okI o.length g blk.length i (k,d)=true:=by unfold okI;rw[ea,R0 hm];rfl
     rw[R0 hm];have Y:∀a,a<i+1->Hu o.length g blk a=none:=fun a aF=>by
      by_cases z:a=i
      .rw[z,b,R9 G]
      .exact ok1 a (by lia)
     walk_at"g";exact aD.mk ⟨_,_,_,rfl,p,Y⟩
    .have G:okI o.length g blk.length i (k,d)=false:=by unfold okI;rw[ea,RW hm];rfl
     rw[RW hm];walk_at"g";intro e he;refine⟨e,_,rfl,rfl,ae,fun c J ne=>⟨rfl,some c,?_,?_⟩⟩
     .rw[aj (SD ne),ae]
     .exact X _ (u G) c _ (xm ne) (p.trans (kY he J))
  .rintro Z H1 ⟨M,O,L,rfl,s1,ok1⟩
   rw[U] at ok1;exact q0 (by unfold nP;rw[R6 N];exact nR ok1) _ s1
def PZ(K:Frag)(C:Addr):Sp:=fun vs H Q E=>∃(b:Addr) (J:List Addr) (a:List (List Ins)) (g:Int),vs=[.ref b,.int g]/\GuH K H b J a/\
 (l_ g a=none->∀o,aA H o->Q .non o)/\(∀k I,l_ g a=some (k,I)->∀U o,o U=some (xdo U [("block",.int k),("at",.int I)])->aA H o->E (.ref C) (some U) o)
theorem Ab{n:Addr}(B:Bi mg)(D:lH K mg)(F:dA P w K mg base 4 "check_block" Fg [] (QJ K n)):dA P w K mg base 5 "check_guest" EA [.int 16] (PZ K n):=by
 refine D.hasO pN (by intro _ _ _ _;walk_at"ln") (fun f u A d s H vs Q E G h=> ?_)
 obtain⟨r,C,I,g,rfl,c,q,L⟩:=h;have v:=c.at_;have b:(C.map V.ref).length=I.length:=by rw[be];exact c.bl.len
 have p:=c.few;have O:aD (-2^62<=(((C.map V.ref).length:Nat):Int)/\(((C.map V.ref).length:Nat):Int)<2^62):=aD.mk ⟨by rw[b];lia,by rw[b];lia⟩
 refine⟨_,(ad (cv (by exact UL) (by rfl) (bY (iL (by rfl) B.range (pa1 (aI aH (by rfl) B.len bD (pa1 (pv 0)))))) (aJ (i:=2) pN.nd (by rfl) (by left;rfl)) (ad (bj (b_ (F.mono (by omega)) G (by rfl) (ij (by rfl)) (pa3 (pv 0) (pv 2) (pv 1))))))),?_⟩
 walk_at"o";refine⟨g_ (fun i Z M=>aD (∃(x:Option V),Z=[some (.ref r),some (.int g),x]/\aA H M/\∀o,o<i->Fv g I o=none)) ⟨_,rfl,aA.refl _,fun _ h=>absurd h (by lia)⟩ ?_ ?_⟩
 .rintro i Z H1 hi ⟨x,rfl,s1,ok1⟩
  have a:i<I.length:=by
   have:i<((((C.map V.ref).length:Nat):Int)).toNat:=by
    first
     | exact hi
     | simpa using hi
   lia
  have y:=c.same s1;have l:Fv g I i=(nP I.length g (I.getD i [])).map (fun U=>((i:Int),U)):=rfl
  rw[Int.zero_add];walk_at"g";refine⟨fun e m j=> ?_,fun U e N m k j=> ?_⟩
  .have J:∀o,o<i+1->Fv g I o=none:=fun o a=>by
    by_cases z:o=i
    .rw[z,l,e]
     rfl
    .exact ok1 o (by lia)
   exact aD.mk ⟨_,rfl,s1.trans j,J⟩
  .exact L i U (ug ok1 (by rw[l,e];rfl) a) N m k (s1.trans j)
 .rintro Z H1 ⟨x,rfl,s1,ok1⟩
  have J:∀o,o<I.length->Fv g I o=none:=fun o a=>ok1 o (by
   first
    | exact(show o<((((C.map V.ref).length:Nat):Int)).toNat by lia)
    | (simp;lia))
  exact q (nR J) _ s1
theorem uL{C F:Addr}(B:Bi mg)(D:fu K C F):yn P w K mg base 1 C F ["self","line"] (Hj C ["line"]):=by
 refine D.has uB (fun vs H Q E h=> ?_) (fun f a A I s H vs Q E d h=> ?_)
 .obtain⟨e,U,rfl,o,_⟩:=h;show U.length+1=2
  rw[o]
  rfl
 obtain⟨e,U,rfl,o,he,q⟩:=h;obtain⟨j,_,_,i,_⟩:=D.ex
 match U,o with
 | [b],_=>
 refine⟨_,(ad (Cc (pv 0) (pv 1) (by rfl))),?_⟩
 walk_at"k";refine .inl ⟨he,fun c J ne=> ?_⟩
 exact q c J ne
theorem Hi{i:Int}(C: -10^10<i)(o:i<10^10):i.natAbs.log2<1920:=by
 by_cases z:i.natAbs=0
 .rw[z]
  decide
 .rw[Nat.log2_lt z];exact Sb (show i.natAbs<10^10 by lia) (by decide)
theorem KG{k:Nat}(h:k<10^10):(FT k).length<=16:=by
 unfold FT;rw[RZ];have:=zI 9 h;show 6+_<=16
 lia
theorem MD:Str.ofString "block "=S [98,108,111,99,107,32]:=by decide +kernel
structure BkH (H0 H:Hp) (pb:Addr) (ls:List Addr) (bs:List (List Ins)):Prop where
 at_:H pb=some (.lst (ls.map V.ref))
 nd:ls.Nodup
 npb:pb ∉ ls
 fr:∀a∈ls,H0 a=none
 frp:H0 pb=none
 len:ls.length=bs.length
 blk:∀(j:Nat) a b,ls[j]? =some a->bs[j]? =some b->∃ias,H a=some (.lst (ias.map V.ref))/\RnA H ias b
theorem BkH.grow{U H C:Hp}{J:Addr}{I:List Addr}{bs:List (List Ins)}(h:BkH U H J I bs)(s:aA H C):BkH U C J I bs:=
 ⟨s _ _ h.at_,h.nd,h.npb,h.fr,h.frp,h.len,fun j a b e f=>by
  obtain⟨o,d,c⟩:=h.blk j a b e f
  exact⟨o,s _ _ d,c.mono fun _ _ z=>s _ _ z⟩⟩
theorem BkH.new{l H:Hp}{U p:Addr}{I:List Addr}{bs:List (List Ins)}(h:BkH l H U I bs)(e:H p=none)(m:l p=none):BkH l (upd (upd H p (.lst [])) U (.lst (I.map V.ref++[.ref p]))) U (I++[p]) (bs++[[]]):=by
 have n1:U≠p:=aq h.at_ e;have k:p ∉ I:=fun z=>by
  obtain⟨j,J⟩:=List.getElem?_of_mem z;have i:=(RX.mp J).1;obtain⟨c,d,_⟩:=h.blk j p _ J (R1 (by rw[<- h.len];exact i))
  rw[e] at d
  cases d
 refine⟨by rw[ae,R5];rfl,?_,?_,?_,h.frp,by rw[RZ,RZ,h.len];rfl,?_⟩
 .rw[List.nodup_append];refine⟨h.nd,by simp,fun a o b C=> ?_⟩
  rw[SN] at C;exact fun z=>k (by rw[<- C, <-z];exact o)
 .intro z;rcases SR.mp z with z | z
  .exact h.npb z
  .exact n1 (SN.mp z)
 .intro a o;rcases SR.mp o with o | o
  .exact h.fr a o
  .rw[SN.mp o];exact m
 .intro j a b o C
  by_cases J:j<I.length
  .rw[SW J] at o;rw[SW (by rw[<- h.len];exact J)] at C
   obtain⟨c,d,n⟩:=h.blk j a b o C;have q:a≠U:=fun z=>h.npb (by rw[<- z];exact Sa o)
   refine⟨c,by rw[aj q,aj (aq d e)];exact d,n.mono fun x r z=> ?_⟩
   rw[aj (dj z h.at_ (fun z=>by cases z)),aj (aq z e)]
   exact z
  .have i:=(RX.mp o).1;rw[RZ] at i;have f:j=I.length:=by have:[p].length=1:=rfl;lia
   subst f;rw[SU (R3 _),Vi] at o;rw[h.len,SU (R3 _),Vi] at C
   cases o
   cases C
   exact⟨[],by rw[aj (SD n1),ae];rfl,True.intro⟩
theorem BkH.add{n H:Hp}{f a q:Addr}{C:List Addr}{bs:List (List Ins)}{b:List Ins}{o:List Addr}{J:Ins}(h:BkH n H f C (bs++[b]))(k:C[bs.length]? =some a)(r:H a=some (.lst (o.map V.ref)))(l:RnA H o b)(s:H q=some (.tup (aO J.1 J.2))):
  BkH n (upd H a (.lst (o.map V.ref++[.ref q]))) f C (bs++[b++[J]]):=by
 have y:f≠a:=fun z=>h.npb (by rw[z];exact Sa k)
 have i:∀x e,H x=some (.tup e)->upd H a (.lst (o.map V.ref++[.ref q])) x=some (.tup e):=fun x e z=>by
  rw[aj (dj z r (fun z=>by cases z))]
  exact z
 refine⟨by rw[aj y];exact h.at_,h.nd,h.npb,h.fr,h.frp,by rw[h.len,RZ,RZ];rfl,fun j c d I hd=> ?_⟩
 by_cases m:j<bs.length
 .rw[SW m] at hd;obtain⟨p,B,u⟩:=h.blk j c d I (by rw[SW m];exact hd)
  have v:c≠a:=fun z=>by
   have A:=(RX.mp I);have:=(List.getElem?_inj A.1 h.nd).mp (show C[j]? =C[bs.length]? by rw[I,k,z])
   lia
  exact⟨p,by rw[aj v];exact B,u.mono i⟩
 .have hl:=(RX.mp hd).1;rw[RZ] at hl;have U:j=bs.length:=by have:[b++[J]].length=1:=rfl;lia
  subst U;rw[SU (R3 _),Vi] at hd
  cases hd
  obtain rfl:a=c:=Sj (k.symm.trans I);exact⟨o++[q],by rw[ae,R5];rfl,(l.mono i).push (i _ _ s)⟩
theorem BkH.same{C H:Hp}{U a:Addr}{J:List Addr}{bs:List (List Ins)}{o:HO}(h:BkH C H U J bs)(s:aA C H)(I:a∈J\/a=U):aA C (upd H a o):=by
 refine bZ ?_ s
 rcases I with I | rfl
 .exact h.fr a I
 .exact h.frp
def P0:Sp:=fun vs H Q _=>∃l:List Nat,vs=[.str (S l)]/\l.length<=100000/\∀o,aA H o->Q (.str (S (mZ l))) o
theorem EX(B:Bi mg)(D:yY K mg):Has P w K mg base 1 "bare_row" kF P0:=by
 refine D.has DN (by intro _ _ _ _;walk_at"ln") (fun f b A o s H vs Q E i h=> ?_)
 obtain⟨l,rfl,C,q⟩:=h;have j:(S l).length<=sizeLine:=by rw[bX];exact RY C (by decide)
 have e:((Str.ofString ";").length==0)=false:=by decide +kernel
 have a:(Txt.partition (S l) (Str.ofString ";")).1=S (xT l):=by rw[OY];exact Kh l
 have c:Txt.stripChars (S (xT l)) (Str.ofString " ")=S (mZ l):=by rw[DH];exact Jj _
 have I:(S (xT l)).length<=sizeLine:=by
  rw[bX];exact RY (RY (Tu (Vj _)) C) (by decide)
 refine⟨_,(ad (ah (bU So PySem.F.slot_str_strip PySem.F.type_str_strip JN (pX ay (bU So VV VW vz (pv 0) (pa1 av)) ac) (pa1 av)))),?_⟩
 walk_at"k";intro p J;rw[a];have U:=ag J (.tup [.str (S (xT l)),.str (Txt.partition (S l) (Str.ofString ";")).2.1,.str (Txt.partition (S l) (Str.ofString ";")).2.2]);have d:upd H p (.tup [.str (S (xT l)),.str (Txt.partition (S l) (Str.ofString ";")).2.1,.str (Txt.partition (S l) (Str.ofString ";")).2.2]) p=some (.tup [.str (S (xT l)),.str (Txt.partition (S l) (Str.ofString ";")).2.1,.str (Txt.partition (S l) (Str.ofString ";")).2.2]):=ae;generalize upd H p (.tup [.str (S (xT l)),.str (Txt.partition (S l) (Str.ofString ";")).2.1,.str (Txt.partition (S l) (Str.ofString ";")).2.2])=H1 at*;walk_at"g";dsimp only;rw[c];exact q _ U
def Pu(C:Addr):Sp:=fun vs H Q E=>∃(J:Hp) (c:Addr) (e:List Addr) (bs:List (List Ins)) (r:List Nat) (d:Int),vs=[.ref c,.str (S r),.int d]/\BkH J H c e bs/\aA J H/\bs.length<=100000/\(∀b∈bs,b.length<=100000)/\r.length<=100000/\
 (∀I,tkR bs r=some I->∀o a,BkH J o c a I->aA J o->Q .non o)/\(tkR bs r=none->∀U o,o U=some (xdo U [("line",.int d)])->aA J o->E (.ref C) (some U) o)
theorem DZ{M bg:Addr}(B:Bi mg)(D:zb K mg)(ii:mg "NoText"=some (.ref M))(bR:yn P w K mg base 1 M bg ["self","line"] (Hj M ["line"]))(uI:Has P w K mg base 3 "read_instruction" kF (Pt K)):dA P w K mg base 4 "take_row" Ey [] (Pu M):=by
 refine D.hasO rd (by intro _ _ _ _;walk_at"ln") (fun f aw A T s H vs Q E hr h=> ?_)
 obtain⟨H0,R,x,bs,r,ln,rfl,k,y,X,Z,aN,q0,q1⟩:=h;have u:=k.at_;have U:(x.map V.ref).length=bs.length:=by rw[be];exact k.len
 have lg:(((bs.length:Nat):Int)).natAbs.log2<1920:=Hi (by lia) (by lia)
 have et:Str.empty++Str.ofString "block "++Str.ofString (toString ((bs.length:Nat):Int))=S (FT bs.length):=by
  rw[Nq,MD,Kc];show S []++S _++S _=_
  rw[vW,vW]
  rfl
 have aS:(Str.empty++Str.ofString "block "++Str.ofString (toString ((bs.length:Nat):Int))).length<=sizeLine:=by
  rw[et,bX];exact RY (KG (by lia)) (by decide)
 have er:decide (V.str (S r)=V.str (Str.empty++Str.ofString "block "++Str.ofString (toString ((bs.length:Nat):Int))))=decide (r=FT bs.length):=by
  rw[et,zW]
  by_cases z:r=FT bs.length
  .rw[R0 z,z,Tf]
  .rw[RW z,Sy.mpr z]
 have ar:tyV K "list" (.ref R) H:= .inl ⟨rfl,_,SqL.of u⟩;have au:(x.map V.ref).length<sizeLine:=by
  rw[U];exact SB X (by decide)
 refine⟨_,(aa (bE (psS 3 rd.nd (aI aH (by rfl) B.len bD (pa1 (pv 0)))))
   (ad (aP (bz (aC (pcT aK (pv 1) (Nd (pv 3) (by decide))) (ad (bE (bj (bU Sr SL SM da (pv 0) (pa1 (a8 dJ)))))) (aa (bE (psS 4 rd.nd (pcH uI hr (pa1 (pv 1)))))
   (aa (aP (bz (aC (PW.pt (gX (jT (kf (pv 4))) (eY (pcT aK (pv 3) ac)))) (ad (jM (bR.mono (by omega)) hr (by rfl) ii (by decide) (pa1 (pv 2)))) ao)))
   (ad (bE (bj (bU Sr SL SM da (pX bA (pv 0) (ax iX (pv 3) ac)) (pa1 (pv 4))))))))))))),?_⟩
 walk_at"o"
 try dsimp only
 rw[U];walk_at"n";refine⟨fun N m=>aD (∃C a,tkR bs r=some C/\BkH H0 m R a C/\aA H0 m),?_,?_⟩
 .walk_at"g";dsimp only;rw[er]
  by_cases c:r=FT bs.length
  .rw[R0 c];have l:tkR bs r=some (bs++[[]]):=by rw[c];exact Mi bs
   walk_at"g";intro p L;have ab:=ag L (.lst []) _ _ u;walk_at"g";exact aD.mk ⟨_,_,l,k.new L (FC y L),bZ k.frp (y.trans (ag L _))⟩
  .rw[RW c];walk_at"g";refine⟨fun v i d=> ?_,fun kn l p1 i h1 d=> ?_⟩
   .have l:tkR bs r=none:=by unfold tkR;rw[R6 c,v]
    walk_at"n";refine⟨fun N m=>aD False,?_,?_⟩
    .walk_at"g";show ∀e:Addr,i e=none->_
     intro e he;refine⟨e,_,rfl,rfl,ae,fun F j ne=>⟨rfl,some F,?_,?_⟩⟩
     .rw[aj (SD ne),ae]
     .exact q1 l F _ (xm ne) ((y.trans d).trans (kY he j))
    .rintro Z2 H2 ⟨z⟩
     exact z.elim
   .by_cases cb:bs=[]
    .have v:tkR bs r=none:=by
      unfold tkR;rw[R6 c,l];show(if bs=[] then none else _)=_
      rw[R9 cb]
     have W:decide (V.int ((bs.length:Nat):Int)=V.int 0)=true:=by rw[cb];rfl
     walk_at"n";refine⟨fun N m=>aD False,?_,?_⟩
     .walk_at"g";dsimp only;rw[W];walk_at"g";show ∀e:Addr,i e=none->_
      intro e he;refine⟨e,_,rfl,rfl,ae,fun F j ne=>⟨rfl,some F,?_,?_⟩⟩
      .rw[aj (SD ne),ae]
      .exact q1 v F _ (xm ne) ((y.trans d).trans (kY he j))
     .rintro Z2 H2 ⟨z⟩
      exact z.elim
    .obtain⟨o,b,rfl⟩:∃o b,bs=o++[b]:=⟨_,_,(List.dropLast_concat_getLast cb).symm⟩;have v:tkR (o++[b]) r=some (o++[b++[kn]]):=by
      unfold tkR;rw[R6 c,l];show(if o++[b]=[] then none else some ((o++[b]).dropLast++[(o++[b]).getLastD []++[kn]]))=_
      rw[R6 cb,List.dropLast_concat,List.getLastD_concat]
     have W:decide (V.int (((o++[b]).length:Nat):Int)=V.int 0)=false:=RW (fun z=>by
      injection z with z
      rw[RZ] at z;have:[b].length=1:=rfl
      lia)
     have I:=k.grow d;have O:o.length<x.length:=by
      rw[k.len,RZ];have:[b].length=1:=rfl
      lia
     obtain⟨q,J⟩:∃q,x[o.length]? =some q:=⟨_,R1 O⟩;obtain⟨Y,n,G⟩:=I.blk o.length q b J (by rw[SU (R3 _),Vi];rfl)
     have ix:atI (x.map V.ref) ((((o++[b]).length:Nat):Int) - 1)=some (.ref q):=by
      have e:(((o++[b]).length:Nat):Int) - 1=((o.length:Nat):Int):=by
       rw[RZ];have:[b].length=1:=rfl
       lia
      rw[e];exact bq (by rw[Sx,J];rfl)
     have aL:=I.at_;have aF:tyV K "list" (.ref q) i:= .inl ⟨rfl,_,SqL.of n⟩;have aR:(Y.map V.ref).length<sizeLine:=by
      rw[be,G.len];exact SB (Z b (by simp)) (by decide)
     walk_at"n";refine⟨fun N m=>aD (N=[some (.ref R),some (.str (S r)),some (.int ln),some (.int (((o++[b]).length:Nat):Int)),some (.ref p1)]/\m=i),?_,?_⟩
     .walk_at"g";dsimp only;rw[W];walk_at"g";exact aD.mk ⟨rfl,rfl⟩
     .rintro Z2 H2 ⟨rfl,rfl⟩
      walk_at"g";exact aD.mk ⟨_,_,v,I.add J n G h1,I.same (y.trans d) (.inl (Sa J))⟩
 .rintro Z1 i ⟨C,a,e1,b1,d⟩
  exact q0 C e1 i a b1 d
theorem M2{bs C:List (List Ins)}{r:List Nat}(h:tkR bs r=some C){n:Nat}(J:bs.length<=n)(I:∀b∈bs,b.length<=n):C.length<=n+1/\∀b∈C,b.length<=n+1:=by
 unfold tkR at h
 split at h
 .cases h
  refine⟨by rw[RZ];exact Nat.add_le_add_right J 1,fun b o=> ?_⟩
  rcases SR.mp o with o | o
  .exact V3 (I b o)
  .rw[SN.mp o];exact SK _
 .split at h
  .cases h
  .split at h
   .cases h
   .rename_i kn _ hn
    cases h
    refine⟨?_,fun b o=> ?_⟩
    .rw[RZ,List.length_dropLast];show bs.length - 1+1<=_
     lia
    .rcases SR.mp o with o | o
     .exact V3 (I b ((List.dropLast_sublist bs).subset o))
     .rw[SN.mp o,RZ];have:(bs.getLastD []).length<=n:=by
       cases e:bs with
       | nil=>exact absurd e hn
       | cons x y=>
        rw[List.getLastD_cons,List.getLastD_eq_getLast?]
        cases e2:y.getLast? with
        | none=>exact I x (by rw[e];exact Sn)
        | some z=>exact I z (by rw[e];exact R8 _ (List.mem_of_mem_getLast? e2))
      exact Nat.add_le_add_right this 1
def QH(C:Addr):Sp:=fun vs H Q E=>∃t:List Nat,vs=[.str (S t)]/\t.length<=50000/\(∀U,rdG t= .ok U->∀p I o,o p=some (.tup (I.map V.ref))->RlA o I U->aA H o->Q (.ref p) o)/\
 (∀a:Nat,rdG t= .error a->∀J o,o J=some (xdo J [("line",.int (a:Int))])->aA H o->E (.ref C) (some J) o)
theorem zu{aG bg:Addr}(B:Bi mg)(D:tM K mg)(ii:mg "NoText"=some (.ref aG))(bR:yn P w K mg base 1 aG bg ["self","line"] (Hj aG ["line"]))(G7:Has P w K mg base 1 "bare_row" kF P0)(GE:dA P w K mg base 4 "take_row" Ey [] (Pu aG)):dA P w K mg base 5 "read_blocks" gr [] (QH aG):=by
 refine D.hasO dR (by intro _ _ _ _;walk_at"ln") (fun f bo A aw s H vs Q E hr h=> ?_)
 obtain⟨l,rfl,hl,q0,q1⟩:=h;have hz:(S l).length<=sizeLine:=by rw[bX];exact RY hl (by decide)
 have hy:((Str.ofString "\n").length==0)=false:=by decide +kernel
 have es:Txt.split (S l) (Str.ofString "\n")=(aB 10 l).map S:=by rw[EM];exact ng 10 l
 have bc:(Txt.split (S l) (Str.ofString "\n")).length<=sizeLine:=by
  rw[es,be];exact RY (cE 10 l) (RY (show l.length+1<=100001 by lia) (by decide))
 have aT:=cE 10 l
 refine⟨_,(aa (bE (psS 1 dR.nd (a8 dJ)))
   (aa (bE (psS 2 dR.nd (bU So TV TX q_ (pv 0) (pa1 av))))
   (aa (cv (by exact UL) (by rfl) (bY (FO (by rfl) B.enumerate (pa1 (pv 2)))) (mB (n:=2) (by rfl) (bH (aJ (i:=3) dR.nd (by rfl) (by left;rfl)) (bH (aJ (i:=4) dR.nd (by rfl) (by left;rfl)) jg))) (aa (bE (psS 5 dR.nd (pcH G7 hr (pa1 (pv 4)))))
   (ad (aP (bz (aC (pcT mQ (pv 5) av) (ad (bj (b_ (GE.mono (by omega)) hr (by rfl) (ij (by rfl)) (pa3 (pv 1) (pv 5) (pv 3))))) ao))))))
   (aa (aC (pcT aK (aI aH (by rfl) B.len bD (pa1 (pv 1))) ac) (ad (jM (bR.mono (by omega)) hr (by rfl) ii (by decide) (pa1 (ax aZ (aI aH (by rfl) B.len bD (pa1 (pv 2))) ac)))) ao)
   (ad (bE (ah (cj ig (by rfl) B.tuple ji (pa1 (PE.nox (ly (by rfl) (by rfl) (by rfl) (bk (sc0:=af je) (N0:=["text","blocks","rows","line","row","bare"]) ["block"] 1 []) (nV (pv 1)) (fun _ _ _ _=>(aJ (i:=0) (show List.Nodup (["block"]:List Str) by decide) (by rfl) (by left;rfl))) (fun _ _ _ _=>(cj (yu (K:=K) (by rfl)) (by rfl) B.tuple ji (pa1 (pv 0))))))))))))))),?_⟩
 walk_at"o";intro I X;generalize G:upd H I _=H1;have l1:=upA G;have s1:=upS X G;clear G;walk_at"g";intro L m;rw[es];have s2:=s1.trans (ag m (.lst (((aB 10 l).map S).map V.str)));have l2:=ag m (.lst (((aB 10 l).map S).map V.str)) _ _ l1;have p2:upd H1 L (.lst (((aB 10 l).map S).map V.str)) L=some (.lst (((aB 10 l).map S).map V.str)):=ae;have a7:L≠I:=(aq l1 m).symm;generalize upd H1 L (.lst (((aB 10 l).map S).map V.str))=v at*;have d0:del v I I=none:=by unfold del;rw[R9 rfl]
 have dp:del v I L=some (.lst (((aB 10 l).map S).map V.str)):=by unfold del;rw[R6 a7];exact p2
 have sd:aA (del v I) v:=fun a u h=>by
  unfold del at h
  split at h
  .cases h
  .exact h
 have s0:aA H (del v I):=fun a u h=>by
  unfold del;rw[R6 (aq h X)];exact s2 _ _ h
 have b2:BkH (del v I) v I [] []:=⟨l2,WR,(by intro z;cases z),(fun a h=>by cases h),d0,rfl,(fun j a b h=>by cases j <;> cases h)⟩
 generalize del v I=H0 at*;walk_at"g";refine⟨A8 (xs:=((aB 10 l).map S).map V.str) (fun i Z k=>aD (∃(R N O:Option V) (U:List Addr) (bs:List (List Ins)),Z=[some (.str (S l)),some (.ref I),some (.ref L),R,N,O]/\aA H0 k/\BkH H0 k I U bs/\bs.length<=i/\(∀b∈bs,b.length<=i)/\gB [] (wq 1 (aB 10 l))=gB bs (wq (i+1) ((aB 10 l).drop i)))) ⟨_,_,_,[],[],rfl,sd,b2,R3 _,(fun b h=>by cases h),rfl⟩ ?_ ?_ ?_⟩
 .rintro i Z H3 ⟨R,N,O,U,bs,rfl,s3,b3,n1,n2,he⟩
  exact SqL.of (s3 _ _ dp)
 .rintro i u pt Z H3 hi ⟨R,N,O,U,bs,rfl,s3,b3,n1,n2,he⟩ hpt
  obtain⟨r,er,rfl⟩:=OG hi;obtain⟨bb,aX⟩:=RX.mp er;rw[SG bb,aX] at he;have he:gB [] (wq 1 (aB 10 l))=gB bs (if mZ r=[] then wq (i+1+1) ((aB 10 l).drop (i+1)) else(i+1,mZ r)::wq (i+1+1) ((aB 10 l).drop (i+1))):=he
  have a':r.length<=100000:=RY (fB (Sa er)).1 (by lia)
  have p:=s3.trans (ag hpt (.tup [.int ((i+1:Nat):Int),.str (S r)]));have q:=b3.grow (ag hpt (.tup [.int ((i+1:Nat):Int),.str (S r)]));have t4:upd H3 pt (.tup [.int ((i+1:Nat):Int),.str (S r)]) pt=some (.tup [.int ((i+1:Nat):Int),.str (S r)]):=ae;generalize upd H3 pt (.tup [.int ((i+1:Nat):Int),.str (S r)])=H4 at*;have aL:(mZ r).length<=100000:=by
   unfold mZ Dk xT;rw[List.length_reverse];refine RY (Tu (Vk _)) ?_
   rw[List.length_reverse];refine RY (Tu (Vk _)) ?_
   exact RY (Tu (Vj _)) a'
  have ee:decide (V.str (S (mZ r))=V.str (Str.ofString ""))=decide (mZ r=[]):=by
   rw[JR,zW]
   by_cases z:mZ r=[]
   .rw[R0 z,z]
    rfl
   .rw[RW z,Sy.mpr z]
  walk_at"g";intro H5 s5;have aR:=p.trans s5;have b5:=q.grow s5;walk_at"g";refine⟨fun Z' k=>aD (∃(R N O:Option V) (U:List Addr) (bs:List (List Ins)),Z'=[some (.str (S l)),some (.ref I),some (.ref L),R,N,O]/\aA H0 k/\BkH H0 k I U bs/\bs.length<=i+1/\(∀b∈bs,b.length<=i+1)/\gB [] (wq 1 (aB 10 l))=gB bs (wq (i+1+1) ((aB 10 l).drop (i+1)))),?_,?_⟩
  .walk_at"g";dsimp only;rw[ee]
   by_cases c:mZ r=[]
   .rw[R0 c];rw[R9 c] at he;walk_at"g";exact aD.mk ⟨_,_,_,U,bs,rfl,aR,b5,by lia,fun b hb=>V3 (n2 b hb),he⟩
   .rw[RW c];rw[R6 c] at he;have he:gB [] (wq 1 (aB 10 l))=(match tkR bs (mZ r) with | none=> .error (i+1) | some y=>gB y (wq (i+1+1) ((aB 10 l).drop (i+1)))):=he
    walk_at"g";refine⟨fun b hb=>(by have:=n2 b hb;lia),aL,fun y ek H6 ba b6 s6=> ?_,fun ek dx H6 M s6=> ?_⟩
    .rw[ek] at he;obtain⟨m1,m2⟩:=M2 ek n1 n2;walk_at"g";exact aD.mk ⟨_,_,_,ba,y,rfl,s6,b6,m1,m2,he⟩
    .rw[ek] at he;refine q1 (i+1) ?_ dx H6 M (s0.trans s6)
     unfold rdG;rw[he]
  .rintro Z6 H6 h6
   exact h6
 .rintro Z H3 ⟨R,N,O,U,bs,rfl,s3,b3,n1,n2,he⟩
  rw[be,be] at he n1 n2;rw[Wr] at he;have he:gB [] (wq 1 (aB 10 l))= .ok bs:=he;have aN:=b3.at_;have m:=s3 _ _ dp;have ar:(U.map V.ref).length=bs.length:=by rw[be];exact b3.len
  have el:decide (V.int ((((U.map V.ref).length:Nat)):Int)=V.int 0)=decide (bs=[]):=by
   rw[ar]
   by_cases z:bs=[]
   .rw[R0 z,z]
    rfl
   .rw[RW z,RW (fun e=>z (by injection e with e;exact List.length_eq_zero_iff.mp (by lia)))]
  walk_at"g";dsimp only;rw[el]
  by_cases c:bs=[]
  .rw[R0 c];have e0:rdG l= .error ((aB 10 l).length+1):=by
    unfold rdG;rw[he];show(if bs=[] then _ else _)=_
    rw[R9 c]
   walk_at"g";show ∀e:Addr,H3 e=none->_
   intro e he;refine⟨e,_,rfl,rfl,ae,fun dx M ne=>⟨rfl,some dx,?_,?_⟩⟩
   .rw[aj (SD ne),ae]
   .refine q1 _ e0 dx _ ?_ (s0.trans (s3.trans (kY he M)))
    rw[xm ne,be,be]
    rfl
  .rw[RW c];have e0:rdG l= .ok bs:=by
    unfold rdG;rw[he];show(if bs=[] then _ else _)=_
    rw[R6 c]
   walk_at"g";intro pc W;refine r_ (xs:=U.map V.ref) (fun j Y k=>aD (∃C:List Addr,Y=C.map V.ref/\k pc=some (.lst Y)/\RlA k C (bs.take j)/\aA H3 k)) ⟨[],rfl,ae,True.intro,ag W _⟩ ?_ ?_ ?_
   .rintro j Y H4 ⟨C,rfl,c4,q,p⟩
    exact SqL.of (p _ _ aN)
   .rintro j u Y H4 F hF hj ⟨C,rfl,c4,q,p⟩
    obtain⟨la,T,rfl⟩:=IT hj;have a6:=(RX.mp T).1;obtain⟨b,eb⟩:∃b,bs[j]? =some b:=⟨_,R1 (by rw[<- b3.len];exact a6)⟩
    obtain⟨au,aW,aF⟩:=b3.blk j la b T eb;have bl:=p _ _ aW;have aS:(C.map V.ref).length<sizeLine:=by
     rw[be,q.len,Sg];exact SB (show _<=100001 by lia) (by decide)
    walk_at"g";intro p5 d;generalize G:upd H4 p5 _=H5;have t5:=upA G;have J:=upS d G;clear G;have c5:=J _ _ c4;have b5:=q.mono (fun _ _ z=>J _ _ z)
    have s5:=p.trans J;have ab:RnA H5 au b:=aF.mono (fun _ _ z=>J _ _ (p _ _ z))
    have tk:∀x xs,H5 x=some (.tup xs)->∀o,upd H5 pc o x=some (.tup xs):=fun x xs z o=>by
     rw[aj (dj z c5 (fun z=>by cases z))]
     exact z
    refine⟨c5,aS,hF _ _ (aD.mk ⟨C++[p5],by rw[R5];rfl,ae,?_,?_⟩)⟩
    .rw[tk1 eb];exact RlA.push ⟨au,tk _ _ t5 _,ab.mono (fun _ _ z=>tk _ _ z _)⟩ (b5.mono (fun _ _ z=>tk _ _ z _))
    .exact bZ W s5
   .rintro Y H4 ⟨C,rfl,c4,q,p⟩
    rw[be,b3.len,Sl] at q;walk_at"g";intro p5 d;exact q0 bs e0 p5 C _ ae (q.mono fun _ _ z=>ag d _ _ _ z) ((s0.trans s3).trans (p.trans (ag d _)))
def BT(o:List Nat):Prop:=∀w∈o,w<2^32
noncomputable def wV(w:Nat):V:= .int (w:Nat)
def Pz:Sp:=fun vs H Q _=>∃w:Nat,vs=[.int (w:Int)]/\w<2^32/\Q (.str (S (nw 8 w))) H
theorem DC(B:Bi mg)(D:xk K mg){td:Tok}(a:mg "DIGITS"=some (.str (Str.ofString "0123456789abcdef") td)):Has P w K mg base 1 "word_text" AM Pz:=by
 refine D.has fV (by intro _ _ _ _;walk_at"ln") (fun f U A C s H vs Q E l h=> ?_)
 obtain⟨n,rfl,I,q⟩:=h
 refine⟨_,(aa (psS 1 fV.nd av)
   (aa (psS 2 fV.nd (pv 0))
   (aa (cv Sw (by rfl) (bY (iL (by rfl) B.range (pa1 ac))) (aJ (i:=3) fV.nd (by rfl) (by left;rfl)) (aa (psS 1 fV.nd (ax fA (pX O8 (cZ (v:= .str (Str.ofString "0123456789abcdef")) (by rfl) a (by exact⟨_,rfl⟩)) (ax eU (pv 2) ac)) (pv 1)))
   (ad (psS 2 fV.nd (ax jn (pv 2) ac)))))
   (ad (ah (pv 1)))))),?_⟩
 walk_at"k";refine⟨g_ (n:=8) (fun i Z c=>aD (c=H/\∃(k v:Nat) (o:List Nat) (x:Option V),k+i=8/\nw 8 n=nw k v++o/\o.length=i/\v<2^32/\Z=[some (.int (n:Int)),some (.str (S o)),some (.int (v:Int)),x])) ⟨rfl,8,n,[],_,rfl,(SJ _).symm,rfl,I,by rw[<- JR];rfl⟩ ?_ ?_⟩
 .rintro i Z H1 hi ⟨rfl,k,v,o,x,hk,he,hl,hv,rfl⟩
  obtain⟨k,rfl⟩:∃j,k=j+1:=⟨k - 1,by lia⟩
  have hd:(v:Int) %16=((v %16:Nat):Int):=by lia
  have e:atI (Str.ofString "0123456789abcdef").cps.toList ((v:Int) %16)=some (AY (v %16)):=by
   rw[hd,Nv];exact bq (L9 (Nat.mod_lt _ (by decide)))
  have d:Hw (v:Int) 16:=⟨by lia,by lia⟩
  have b:(v:Int) / 16=((v / 16:Nat):Int):=by lia
  have J:(⟨#[AY (v %16)]⟩:Str)++S o=S (AY (v %16)::o):=vW [AY (v %16)] o;have m:(⟨#[AY (v %16)]⟩:Str).length+(S o).length<=sizeLine:=by
   rw[bX];exact RY (show 1+o.length<=9 by lia) (by decide)
  walk_at"g";exact aD.mk ⟨rfl,k,v / 16,AY (v %16)::o,_,by lia,Jg he,by rw[R4,hl],by lia,by rw[<- b, <-J];rfl⟩
 .rintro Z H1 ⟨rfl,k,v,o,x,hk,he,hl,hv,rfl⟩
  obtain rfl:k=0:=by lia
  walk_at"g";have:nw 8 n=o:=he;rw[<- this];exact q
theorem mgt{o:Type}{f:o->V}{xs:List o}{i:Nat}{u:V}(h:(xs.map f)[i]? =some u):∃x,xs[i]? =some x/\f x=u:=by
 rw[Sx] at h
 cases e:xs[i]? with
 | none=>rw[e] at h;cases h
 | some x=>rw[e] at h;exact⟨x,rfl,Sj h⟩
def Qi(K:Frag):Sp:=fun vs H Q _=>∃(a:Addr) (o:List Nat),vs=[.ref a]/\SqL K H a (o.map wV)/\BT o/\o.length<=3000/\∀C,aA H C->Q (.str (S (Dy o))) C
theorem Mg(o:List Nat):(((o.map (nw 8)).map S).map (·.length)).sum=8*o.length:=by
 induction o with
 | nil=>rfl
 | cons w r ih=>
  rw[Ss,Ss,Ss,TB,ih,bX,vw,R4]
  lia
theorem Fe(B:Bi mg)(D:zl K mg)(k:Has P w K mg base 1 "word_text" AM Pz):Has P w K mg base 2 "row_text" DE (Qi K):=by
 refine D.has Fp (by intro _ _ _ _;walk_at"ln") (fun f m A c s H vs Q E n h=> ?_)
 obtain⟨a,o,rfl,r,hw,v,q⟩:=h;refine⟨_,(ad (ah (bU So Th Ti nF av (pa1 (ly (by rfl) (by rfl) (by rfl) (bk (sc0:=af nK) (N0:=["words"]) ["word"] 1 []) (nV (pv 0)) (fun _ _ _ _=>(aJ (i:=0) (show List.Nodup (["word"]:List Str) by decide) (by rfl) (by left;rfl))) (fun _ _ _ _=>(pcH k n (pa1 (pv 0))))))))),?_⟩
 walk_at"k";intro p e;refine r_ (xs:=o.map wV) (fun j J U=>aD (aA H U/\U p=some (.lst J)/\J=(((o.take j).map (nw 8)).map S).map V.str)) ⟨ag e _,ae,rfl⟩ ?_ ?_ ?_
 .rintro j J U ⟨I,_⟩
  exact I.seq r
 .rintro j u J U F hF b ⟨I,C,rfl⟩
  obtain⟨x,d,rfl⟩:=mgt b;have z:=hw x (Sa d);have l:=(RX.mp d).1;have G:((((o.take j).map (nw 8)).map S).map V.str).length<sizeLine:=by
   rw[be,be,be,Sg];exact Sb (show min j o.length<3001 by lia) (by decide)
  walk_at"g";refine hF _ _ (aD.mk ⟨bZ e I,ae,?_⟩)
  rw[tk1 d,R5,R5,R5]
  rfl
 rintro J y ⟨I,C,rfl⟩
 rw[be,Sl] at C;have hs:=Mg o;have b:=u7 32 (o.map (nw 8));refine⟨_,p,(o.map (nw 8)).map S,rfl,rfl,SqL.of C,?_,?_⟩
 .rw[hs,be,be,DH,bX];show 8*o.length+o.length*1<=_
  lia
 .rw[DH,b];exact q _ I
def Qq(K:Frag):Sp:=fun vs H Q _=>∃(a:Addr) (o:List Nat),vs=[.ref a]/\SqL K H a (o.map wV)/\BT o/\o.length<=3000/\∀C,aA H C->Q (.str (S (Jf o))) C
theorem Mw(o:List Nat)(i:Nat):fC (o.map wV) (some ((0:Int)+(i:Int)*8)) (some ((0:Int)+(i:Int)*8+8))=(chk o i).map wV:=by
 have I:(0:Int)+(i:Int)*8=((8*i:Nat):Int):=by lia
 have J:(0:Int)+(i:Int)*8+8=((8*i+8:Nat):Int):=by lia
 rw[J,I];unfold fC chk;rw[HT.sIx_nat,HT.sIx_nat,be, <-Uk, <-Uj]
 congr 1
 by_cases h:8*i<=o.length
 .rw[Ub h]
  by_cases C:8*i+8<=o.length
  .rw[Ub C]
   congr 1
   lia
  .rw[Wq (by lia),Tt (by rw[SH];exact R3 _),Tt (by rw[SH];lia)]
 .rw[Va (show o.length<=8*i by lia),Xb,Wq (show o.length<=8*i by lia),Va (R3 _),Xb]
theorem Ol{o:List Nat}(h:BT o)(i:Nat):BT (chk o i):=fun w hw=>h w (List.mem_of_mem_drop (Vy hw))
theorem C8(o:List Nat)(i:Nat):(chk o i).length<=8:=by
 unfold chk;rw[Sg]
 lia
theorem Es(o:List Nat):∀n,((((List.range n).map fun i=>Dy (chk o i)).map S).map (·.length)).sum<=72*n
 | 0=>R3 _
 | n+1=>by
  have ih:=Es o n;rw[Uc,R5,R5,R5,WG];have J:=Ec (chk o n);have I:=C8 o n;have C:((([n].map fun i=>Dy (chk o i)).map S).map (·.length)).sum=(Dy (chk o n)).length:=by
   show(S _).length+0=_
   rw[bX]
   rfl
  rw[C]
  lia
theorem CD(B:Bi mg)(D:xy K mg)(M:Has P w K mg base 2 "row_text" DE (Qi K)):Has P w K mg base 3 "code_text" D9 (Qq K):=by
 refine D.has Cq (by intro _ _ _ _;walk_at"ln") (fun f y A d s H vs Q E z h=> ?_)
 obtain⟨a,o,rfl,N,hw,R,q⟩:=h;refine⟨_,(ad (ah (bU So Th Ti nF av (pa1 (ly (by rfl) (by rfl) (by rfl) (bk (sc0:=af lD) (N0:=["code"]) ["at","code"] 1 [0]) (Br (by rfl) B.range (pa3 ac (aI aH (by rfl) B.len bD (pa1 (pv 0))) ac)) (fun _ _ _ _=>(aJ (i:=0) (show List.Nodup (["at","code"]:List Str) by decide) (by rfl) (by left;rfl))) (fun _ _ _ _=>(pcH M z (pa1 (bK (J1 (K:=K) (by rfl)) (pv 1) (cq (pv 0)) (cq (ax aZ (pv 0) ac))))))))))),?_⟩
 try dsimp only[oJ]
 have e:((o.map wV).length:Int)=(o.length:Int):=by rw[be]
 walk_at"g";intro p l;rw[e,QQ];refine EV (fun j J u=>aD (aA H u/\u p=some (.lst J)/\J=(((List.range j).map fun i=>Dy (chk o i)).map S).map V.str)) ⟨ag l _,ae,rfl⟩ ?_ ?_
 .rintro j J c F hF m ⟨I,C,rfl⟩
  have L:=I.seq N;have X:((((List.range j).map fun i=>Dy (chk o i)).map S).map V.str).length<sizeLine:=by
   rw[be,be,be,Vg];exact Sb (show j<3001 by lia) (by decide)
  walk_at"g";intro k b;dsimp only;rw[Mw];have n:=ag b (.lst ((chk o j).map wV));have c2:SqL K (upd c k (.lst ((chk o j).map wV))) k ((chk o j).map wV):=SqL.of ae;have U:=n _ _ C;have G:=I.trans n;generalize upd c k (.lst ((chk o j).map wV))=T at*;have x:=Ol hw j;have O:(chk o j).length<=3000:=RY (C8 o j) (by decide)
  walk_at"g";intro W r;have v:=r _ _ U;walk_at"g";refine hF _ _ (aD.mk ⟨bZ l (G.trans r),ae,?_⟩)
  rw[Uc,R5,R5,R5]
  rfl
 rintro J c ⟨I,C,rfl⟩
 have hs:=Es o ((o.length+7) / 8);have m:=u7 10 (Bo o);refine⟨_,p,(Bo o).map S,rfl,rfl,SqL.of C,?_,?_⟩
 .rw[EM,bX];show((((List.range ((o.length+7) / 8)).map fun i=>Dy (chk o i)).map S).map (·.length)).sum+((Bo o).map S).length*1<=_
  rw[be];unfold Bo;rw[be,Vg]
  lia
 .rw[EM,m];exact q _ I
def QN:Sp:=fun vs H Q _=>∃l:List Nat,vs=[.str (S l)]/\l.length<=100000/\Q (match rdW l with | none=> .non | some w=>wV w) H
theorem DB(B:Bi mg)(D:xg K mg){td:Tok}(u:mg "DIGITS"=some (.str (Str.ofString "0123456789abcdef") td)):Has P w K mg base 1 "read_word" si QN:=by
 refine D.has hX (by intro _ _ _ _;walk_at"ln") (fun f r A J s H vs Q E R h=> ?_)
 obtain⟨l,rfl,k,q⟩:=h;have T:(S l).length<=sizeLine:=by rw[bX];exact RY k (by decide)
 refine⟨_,(aa (aC (pcT mQ (aI ol (by rfl) B.len bD (pa1 (pv 0))) ac) (ad (ah cO)) ao)
   (aa (psS 1 hX.nd ac)
   (aa (cv Sw (by rfl) (bY (K1 (pv 0))) (aJ (i:=2) hX.nd (by rfl) (by left;rfl)) (aa (psS 3 hX.nd (bU So PySem.F.slot_str_find PySem.F.type_str_find LY (cZ (v:= .str (Str.ofString "0123456789abcdef")) (by rfl) u (by exact⟨_,rfl⟩)) (pa1 (pv 2))))
   (aa (aC (pcT jC (pv 3) ac) (ad (ah cO)) ao)
   (ad (psS 1 hX.nd (ax aZ (ax cK (pv 1) ac) (pv 3)))))))
   (ad (ah (pv 1)))))),?_⟩
 walk_at"k"
 by_cases I:l.length=8
 .have ew:rdW l=yc 0 l:=by unfold rdW;rw[R9 I]
  rw[R0 (show V.int ((S l).length:Int)=V.int 8 by rw[bX,I];rfl)]
  walk_at"g";refine⟨HW (fun i Z G=>aD (G=H/\∃(v:Nat) (x y:Option V),yc 0 l=yc v (l.drop i)/\v<16^i/\Z=[some (.str (S l)),some (.int (v:Int)),x,y])) ⟨rfl,0,_,_,rfl,by decide,rfl⟩ ?_ ?_⟩
  .rintro i c Z H1 hc ⟨rfl,v,x,y,he,hv,rfl⟩
   have C:l[i]? =some c:=by simpa using hc
   have N:i<8:=by have:=(RX.mp C).1;lia
   have U:l.drop i=c::l.drop (i+1):=by
    obtain⟨M,n⟩:=RX.mp C;rw[SG M,n]
   rw[U] at he;have b:=K9 c;rw[<- Nv] at b;have o:16^i<=16^8:=TC (by decide) (by lia)
   have j:v<4294967296:=Sb hv o;have O:AZ (v:Int) 16:= .inl ⟨by lia,by lia⟩
   clear o;walk_at"g";dsimp only;rw[b]
   cases hq:xX c with
   | none=>
    have m:yc 0 l=none:=by
     rw[he];show(match xX c with | none=>none | some d=>yc (v*16+d) (l.drop (i+1)))=none
     rw[hq]
    rw[ew,m] at q;walk_at"g";exact q
   | some d=>
    have e:d<16:=by
     have:=Ic hq;exact(RX.mp this).1
    have p:yc 0 l=yc (v*16+d) (l.drop (i+1)):=by
     rw[he];show(match xX c with | none=>none | some d=>yc (v*16+d) (l.drop (i+1)))=_
     rw[hq]
    have L:(v:Int)*16+(d:Int)=((v*16+d:Nat):Int):=by lia
    refine vK (by show ¬((d:Nat):Int)<0;lia) ?_
    walk_at"g";exact aD.mk ⟨rfl,v*16+d,_,_,p,by rw[Wx];lia,by rw[<- L];rfl⟩
  .rintro Z H1 ⟨rfl,v,x,y,he,hv,rfl⟩
   have a:(S l).cps.size=l.length:=R7;rw[a,Wr] at he;rw[ew,he] at q;walk_at"g";exact q
 .have ew:rdW l=none:=by unfold rdW;rw[R6 I]
  rw[RW (show ¬V.int ((S l).length:Int)=V.int 8 from fun z=>I (by rw[bX] at z;injection z with z;lia))]
  rw[ew] at q;walk_at"g";exact q
theorem BI:∀{a:List (List Nat)}{o:List Nat}{p:List Nat}{w:Nat},io a=some o->rdW p=some w->io (a++[p])=some (o++[w])
 | [],o,p,w,h,hp=>by
  cases h
  show(match rdW p with | none=>none | some w=>(io []).map (w:: ·))=_
  rw[hp]
  rfl
 | x::a,o,p,w,h,hp=>by
  have C:(match rdW x with | none=>none | some w=>(io a).map (w:: ·))=some o:=h
  show(match rdW x with | none=>none | some w=>(io (a++[p])).map (w:: ·))=_
  cases e:rdW x with
  | none=>rw[e] at C;cases C
  | some y=>
   rw[e] at C;obtain⟨J,I,rfl⟩:=Vf.mp C;show(io (a++[p])).map (y:: ·)=_
   rw[BI I hp]
   rfl
theorem EY:∀{a r:List (List Nat)}{p:List Nat},rdW p=none->io (a++p::r)=none
 | [],r,p,hp=>by
  show(match rdW p with | none=>none | some w=>(io r).map (w:: ·))=_
  rw[hp]
 | x::a,r,p,hp=>by
  show(match rdW x with | none=>none | some w=>(io (a++p::r)).map (w:: ·))=_
  cases rdW x with
  | none=>rfl
  | some y=>
   show(io (a++p::r)).map (y:: ·)=none
   rw[EY hp]
   rfl
theorem QT{xs:List (List Nat)}{i:Nat}{u:Str}(h:(xs.map S)[i]? =some u):∃x,xs[i]? =some x/\S x=u:=by
 rw[Sx] at h
 cases e:xs[i]? with
 | none=>rw[e] at h;cases h
 | some x=>rw[e] at h;exact⟨x,rfl,Sj h⟩
noncomputable def wD(l:List Nat)(i:Nat):List (List Nat):=((aB 32 l).take i).filter fun p=> !p.isEmpty
theorem Pg{l:List Nat}{i:Nat}(h:(aB 32 l)[i]? =some []):wD l (i+1)=wD l i:=by
 unfold wD;rw[tk1 h,VX];show _++[]=_
 rw[SJ]
theorem OX{l p:List Nat}{i:Nat}(h:(aB 32 l)[i]? =some p)(o:p≠[]):wD l (i+1)=wD l i++[p]:=by
 unfold wD;rw[tk1 h,VX]
 cases p with
 | nil=>exact absurd rfl o
 | cons a b=>rfl
theorem Kk(l:List Nat):wD l (aB 32 l).length=pcs l:=by
 unfold wD pcs;rw[Sl]
theorem OM{l p:List Nat}{i:Nat}(h:(aB 32 l)[i]? =some p)(C:p≠[]):∃r,pcs l=wD l i++p::r:=by
 obtain⟨I,o⟩:=RX.mp h;refine⟨((aB 32 l).drop (i+1)).filter fun p=> !p.isEmpty,?_⟩
 unfold pcs wD
 conv=>lhs;rw[<- UE i (aB 32 l),SG I,o,VX,List.filter_cons]
 cases p with
 | nil=>exact absurd rfl C
 | cons a b=>rfl
def Ps(C:Addr):Sp:=fun vs H Q E=>∃(l:List Nat) (U:Int),vs=[.str (S l),.int U]/\l.length<=100000/\(∀J,io (pcs l)=some J->∀p o,o p=some (.lst (J.map wV))->H p=none->aA H o->Q (.ref p) o)/\
 (io (pcs l)=none->∀I o,o I=some (xdo I [("line",.int U)])->aA H o->E (.ref C) (some I) o)
theorem vy:∀{a:List (List Nat)}{o:List Nat},io a=some o->o.length=a.length
 | [],o,h=>by cases h;rfl
 | x::a,o,h=>by
  have C:(match rdW x with | none=>none | some w=>(io a).map (w:: ·))=some o:=h
  cases e:rdW x with
  | none=>rw[e] at C;cases C
  | some y=>
   rw[e] at C;obtain⟨J,I,rfl⟩:=Vf.mp C;rw[R4,R4,vy I]
theorem DS{b bg:Addr}(B:Bi mg)(D:zV K mg)(O:mg "NoText"=some (.ref b))(bR:yn P w K mg base 1 b bg ["self","line"] (Hj b ["line"]))(qW:Has P w K mg base 1 "read_word" si QN):dA P w K mg base 4 "read_row" Lo [] (Ps b):=by
 refine D.hasO lE (by intro _ _ _ _;walk_at"ln") (fun f ar A j s H vs Q E G h=> ?_)
 obtain⟨l,W,rfl,q,R,q1⟩:=h;have hz:(S l).length<=sizeLine:=by rw[bX];exact RY q (by decide)
 have hy:((Str.ofString " ").length==0)=false:=by decide +kernel
 have M:Txt.split (S l) (Str.ofString " ")=(aB 32 l).map S:=by rw[DH];exact ng 32 l
 have Y:(Txt.split (S l) (Str.ofString " ")).length<=sizeLine:=by
  rw[M,be];exact RY (cE 32 l) (RY (show l.length+1<=100001 by lia) (by decide))
 refine⟨_,(aa (bE (psS 2 lE.nd (a8 dJ)))
   (aa (cv (by exact UL) (by rfl) (bY (nV (bU So TV TX q_ (pv 0) (pa1 av)))) (aJ (i:=3) lE.nd (by rfl) (by left;rfl)) (ad (aC (pcT mQ (pv 3) av) (aa (bE (psS 4 lE.nd (pcH qW G (pa1 (pv 3)))))
   (aa (aC (jT (kf (pv 4))) (ad (jM (bR.mono (by omega)) G (by rfl) O (by decide) (pa1 (pv 1)))) ao)
   (ad (bE (bj (bU Sr SL SM da (pv 2) (pa1 (pv 4)))))))) ao)))
   (ad (bE (ah (pv 2)))))),?_⟩
 walk_at"o";intro U C;generalize c:upd H U _=F;have l1:=upA c;have T:=upS C c;clear c;walk_at"g";intro a I;rw[M];have s2:=T.trans (ag I (.lst (((aB 32 l).map S).map V.str)));have l2:=ag I (.lst (((aB 32 l).map S).map V.str)) _ _ l1;have p2:upd F a (.lst (((aB 32 l).map S).map V.str)) a=some (.lst (((aB 32 l).map S).map V.str)):=ae;have k:a≠U:=(aq l1 I).symm;generalize upd F a (.lst (((aB 32 l).map S).map V.str))=H2 at*;walk_at"g";refine⟨z_ (xs:=((aB 32 l).map S).map V.str) (fun i Z m=>aD (∃(x y:Option V) (o:List Nat),Z=[some (.str (S l)),some (.int W),some (.ref U),x,y]/\aA H m/\m a=some (.lst (((aB 32 l).map S).map V.str))/\m U=some (.lst (o.map wV))/\io (wD l i)=some o)) ⟨_,_,[],rfl,s2,p2,l2,rfl⟩ ?_ ?_ ?_⟩
 .rintro i Z H3 _ ⟨x,y,o,rfl,s3,p3,l3,hw⟩
  exact SqL.of p3
 .rintro i u Z H3 hi ⟨x,y,o,rfl,s3,p3,l3,hw⟩
  obtain⟨p,J,rfl⟩:∃p,(aB 32 l)[i]? =some p/\V.str (S p)=u:=by
   obtain⟨z,ez,rfl⟩:=mgt hi;obtain⟨p,J,rfl⟩:=QT ez;exact⟨p,J,rfl⟩
  have ab:=(RX.mp J).1
  by_cases z0:p=[]
  .subst z0;walk_at"g";rw[R0 (show V.str (S [])=V.str (Str.ofString "") by rw[JR])]
   walk_at"g";exact aD.mk ⟨_,_,o,rfl,s3,p3,l3,by rw[Pg J];exact hw⟩
  .have hpl:p.length<=100000:=RY (fB (Sa J)).1 q;have d:¬V.str (S p)=V.str (Str.ofString ""):=fun e=>z0 (HP (by injection e))
   walk_at"g";rw[RW d];have aF:=vy hw;have aL:(wD l i).length<=l.length+1:=by
    unfold wD;exact RY (Vm _ _) (RY (by rw[Sg];exact Wi _ _) (cE 32 l))
   have au:(o.map wV).length<sizeLine:=by
    rw[be];exact Sb (show o.length<200000 by lia) (by decide)
   have aw:tyV K "list" (.ref U) H3:= .inl ⟨rfl,_,SqL.of l3⟩
   cases hr2:rdW p with
   | none=>
    obtain⟨r,N⟩:=OM J z0;have X:io (pcs l)=none:=by rw[N];exact EY hr2
    walk_at"g";rw[hr2];walk_at"g";show ∀e:Addr,H3 e=none->_
    intro e he;refine⟨e,_,rfl,rfl,ae,fun L n ne=>⟨rfl,some L,?_,?_⟩⟩
    .rw[aj (SD ne),ae]
    .exact q1 X L _ (xm ne) (s3.trans (kY he n))
   | some v=>
    walk_at"g";rw[hr2];walk_at"g";refine aD.mk ⟨_,_,o++[v],rfl,bZ C s3,?_,?_,?_⟩
    .rw[aj k];exact p3
    .rw[ae,R5]
     rfl
    .rw[OX J z0];exact BI hw hr2
 .rintro Z H3 ⟨x,y,o,rfl,s3,p3,l3,hw⟩
  rw[be,be,Kk] at hw;walk_at"g";exact R o hw U _ l3 C s3
theorem wX:∀(a b:List (List Nat)) (o:Nat) {C:List Nat},fK o a= .ok C->fK o (a++b)=(fK (o+a.length) b).map (C++ ·)
 | [],b,o,C,h=>by
  cases h
  show fK o b=(fK (o+0) b).map ([]++ ·)
  rw[Nat.add_zero]
  cases fK o b <;> rfl
 | r::a,b,o,C,h=>by
  have I:(match io (pcs r) with | none=>Except.error o | some C=>(fK (o+1) a).map (C++ ·))= .ok C:=h
  show(match io (pcs r) with | none=>Except.error o | some C=>(fK (o+1) (a++b)).map (C++ ·))=_
  cases e:io (pcs r) with
  | none=>rw[e] at I;cases I
  | some vs=>
   rw[e] at I
   cases e2:fK (o+1) a with
   | error x=>rw[e2] at I;cases I
   | ok us=>
    rw[e2] at I
    cases I
    show(fK (o+1) (a++b)).map (vs++ ·)=_
    rw[wX a b (o+1) e2,R4,show o+1+a.length=o+(a.length+1) by lia]
    cases fK (o+(a.length+1)) b with
    | error x=>rfl
    | ok zs=>
     show Except.ok (vs++(us++zs))=Except.ok (vs++us++zs)
     rw[SQ]
def Qw(C:Addr):Sp:=fun vs H Q E=>∃l:List Nat,vs=[.str (S l)]/\l.length<=50000/\(∀J,rdC l= .ok J->∀p o,o p=some (.lst (J.map wV))->H p=none->aA H o->Q (.ref p) o)/\
 (∀U:Nat,rdC l= .error U->∀I o,o I=some (xdo I [("line",.int (U:Int))])->aA H o->E (.ref C) (some I) o)
theorem Bc(c:Nat):∀l,((aB c l).map fun r=>r.length+1).sum=l.length+1
 | []=>rfl
 | a::r=>by
  have ih:=Bc c r;obtain⟨h,t,e⟩:=jK c r
  by_cases z:a=c
  .rw[aB,R9 z,Ss,TB,ih,R4];show 0+1+_=_
   lia
  .rw[lf z e,Ss,TB,R4,R4];rw[e,Ss,TB] at ih
   lia
theorem Kv(r:List Nat):(pcs r).length<=r.length+1:=by
 unfold pcs;exact RY (Vm _ _) (cE 32 r)
theorem A5:∀{a:List (List Nat)}{I:Nat}{o:List Nat},fK I a= .ok o->o.length<=(a.map fun r=>r.length+1).sum
 | [],_,o,h=>by cases h;exact R3 _
 | r::a,I,o,h=>by
  have C:(match io (pcs r) with | none=>Except.error I | some o=>(fK (I+1) a).map (o++ ·))= .ok o:=h
  cases e:io (pcs r) with
  | none=>rw[e] at C;cases C
  | some vs=>
   rw[e] at C
   cases e2:fK (I+1) a with
   | error x=>rw[e2] at C;cases C
   | ok us=>
    rw[e2] at C
    cases C
    have b:=A5 e2;have J:=vy e;have U:=Kv r;show(vs++us).length<=_
    rw[RZ,Ss,TB]
    lia
theorem K5(xs:List (List Nat))(i:Nat):((xs.take i).map fun r=>r.length+1).sum<=(xs.map fun r=>r.length+1).sum:=by
 conv=>rhs;rw[<- UE i xs,R5,WG]
 lia
theorem MF(r:List Nat):(pcs r).length<=r.length+1:=by
 unfold pcs;exact RY (Vm _ _) (cE 32 r)
theorem Di{M:Addr}(B:Bi mg)(D:xj K mg)(F1:dA P w K mg base 4 "read_row" Lo [] (Ps M)):dA P w K mg base 5 "read_code" gr [] (Qw M):=by
 refine D.hasO jF (by intro _ _ _ _;walk_at"ln") (fun f aw A q s H vs Q E hr h=> ?_)
 obtain⟨l,rfl,X,Y,q1⟩:=h;have hz:(S l).length<=sizeLine:=by rw[bX];exact RY X (by decide)
 have hy:((Str.ofString "\n").length==0)=false:=by decide +kernel
 have R:Txt.split (S l) (Str.ofString "\n")=(aB 10 l).map S:=by rw[EM];exact ng 10 l
 have ar:(Txt.split (S l) (Str.ofString "\n")).length<=sizeLine:=by
  rw[R,be];exact RY (cE 10 l) (RY (show l.length+1<=100001 by lia) (by decide))
 refine⟨_,(aa (bE (psS 1 jF.nd (a8 dJ)))
   (aa (cv (by exact UL) (by rfl) (bY (FO (by rfl) B.enumerate (pa1 (bU So TV TX q_ (pv 0) (pa1 av))))) (mB (n:=2) (by rfl) (bH (aJ (i:=2) jF.nd (by rfl) (by left;rfl)) (bH (aJ (i:=3) jF.nd (by rfl) (by left;rfl)) jg))) (ad (bj (bU Sr Ul Um rZ (pv 1) (pa1 (b_ (F1.mono (by omega)) hr (by rfl) (ij (by rfl)) (pa2 (pv 3) (pv 2))))))))
   (ad (bE (ah (pv 1)))))),?_⟩
 walk_at"o";intro J C;generalize k:upd H J _=L;have l1:=upA k;have s1:=upS C k;clear k;walk_at"g";intro a I;rw[R];have s2:=s1.trans (ag I (.lst (((aB 10 l).map S).map V.str)));have l2:=ag I (.lst (((aB 10 l).map S).map V.str)) _ _ l1;have p2:upd L a (.lst (((aB 10 l).map S).map V.str)) a=some (.lst (((aB 10 l).map S).map V.str)):=ae;have v:a≠J:=(aq l1 I).symm;generalize upd L a (.lst (((aB 10 l).map S).map V.str))=H2 at*;walk_at"g";refine⟨A8 (xs:=((aB 10 l).map S).map V.str) (fun i Z G=>aD (∃(x y:Option V) (o:List Nat),Z=[some (.str (S l)),some (.ref J),x,y]/\aA H G/\G a=some (.lst (((aB 10 l).map S).map V.str))/\G J=some (.lst (o.map wV))/\fK 1 ((aB 10 l).take i)= .ok o)) ⟨_,_,[],rfl,s2,p2,l2,rfl⟩ ?_ ?_ ?_⟩
 .rintro i Z H3 ⟨x,y,o,rfl,s3,p3,l3,hw⟩
  exact SqL.of p3
 .rintro i u pt Z H3 hi ⟨x,y,o,rfl,s3,p3,l3,hw⟩ hpt
  obtain⟨r,e,rfl⟩:∃p,(aB 10 l)[i]? =some p/\V.str (S p)=u:=by
   obtain⟨z,ez,rfl⟩:=mgt hi;obtain⟨p,ep,rfl⟩:=QT ez;exact⟨p,ep,rfl⟩
  have U:=(RX.mp e).1;have aR:r.length<=100000:=RY (fB (Sa e)).1 (by lia)
  have F:=ag hpt (.tup [.int ((i+1:Nat):Int),.str (S r)]);have t4:upd H3 pt (.tup [.int ((i+1:Nat):Int),.str (S r)]) pt=some (.tup [.int ((i+1:Nat):Int),.str (S r)]):=ae;have N:=s3.trans F;have W:=F _ _ p3;have l4:=F _ _ l3;generalize upd H3 pt (.tup [.int ((i+1:Nat):Int),.str (S r)])=H4 at*;have aL:tyV K "list" (.ref J) H4:= .inl ⟨rfl,_,SqL.of l4⟩;have b:=wX ((aB 10 l).take i) [r] 1 hw;rw[<- tk1 e,Sg,Ub (Uu U)] at b;have aN:=A5 hw;have m:=K5 (aB 10 l) i;rw[Bc] at m;walk_at"g";refine⟨fun vs j p5 T O f5 c=> ?_,fun j dx T O c=> ?_⟩
  .have l5:=c _ _ l4;have aF:=vy j;have ab:=MF r;have au:(o.map wV).length+(vs.map wV).length<=sizeLine:=by
    rw[be,be];exact RY (show o.length+vs.length<=200000 by lia) (by decide)
   walk_at"g";refine aD.mk ⟨_,_,o++vs,rfl,bZ C (N.trans c),?_,?_,?_⟩
   .rw[aj v];exact c _ _ W
   .rw[ae,R5]
   .rw[b];show((match io (pcs r) with | none=>Except.error (1+i) | some o=>(fK (1+i+1) []).map (o++ ·)):Except Nat (List Nat)).map (o++ ·)=_
    rw[j];show Except.ok (o++(vs++[]))=_
    rw[SJ]
  .refine q1 (i+1) ?_ dx T O (N.trans c)
   obtain⟨h1,h2⟩:=RX.mp e;have d:aB 10 l=(aB 10 l).take i++r::(aB 10 l).drop (i+1):=by
    conv=>lhs;rw[<- UE i (aB 10 l),SG h1,h2]
   show fK 1 (aB 10 l)=_
   rw[d,wX _ _ 1 hw,Sg,Ub (Uu U)];show((match io (pcs r) with | none=>Except.error (1+i) | some o=>(fK (1+i+1) _).map (o++ ·)):Except Nat (List Nat)).map (o++ ·)=_
   rw[j];show Except.error (1+i)=Except.error (i+1)
   rw[Nat.add_comm]
 .rintro Z H3 ⟨x,y,o,rfl,s3,p3,l3,hw⟩
  rw[be,be,Sl] at hw;walk_at"g";exact Y o hw J _ l3 C s3
theorem wB(D:qM K mg):Has P w K mg base 1 "is_no_target" Fm AE:=D.has yi (fun _ _ _ _ h=>h.elim) (fun _ _ _ _ _ _ _ _ _ _ h=>h.elim)
theorem AS(D:xG K mg):Has P w K mg base 1 "is_no_way" EN AE:=D.has CI (fun _ _ _ _ h=>h.elim) (fun _ _ _ _ _ _ _ _ _ _ h=>h.elim)
def Qr(K:Frag):Sp:=fun vs H Q _=>∃(pl a sa:Addr) (c:Int),vs=[.ref pl,.int c,.ref a,.ref sa]/\SqT K H a (aO 0 [])/\Q .non H
theorem CM(B:Bi mg)(D:zM K mg)(j:Has P w K mg base 1 "made_box" cI (Nk K))(e:Has P w K mg base 2 "may_reach_out" jm (K0 K))(b:Has P w K mg base 1 "is_no_target" Fm AE)
  (U:Has P w K mg base 1 "is_no_way" EN AE):Has P w K mg base 3 "fault_of" E5 (Qr K):=by
 refine D.has xI (by intro _ _ _ _;walk_at"ln") (fun f k A J s H vs Q E I h=> ?_)
 obtain⟨pl,a,sa,c,rfl,F,q⟩:=h;have G:atI (aO 0 []) 0=some (.str (aV 0)):=nj;have y:aQ 8 262144 0 []:= .inl ⟨rfl,rfl⟩
 refine⟨_,(aa (psS 4 xI.nd (pX ay (pv 2) ac))
   (aa (aP (bz (aC (pcT aK (pcH j I (pa1 (pv 2))) ac) (ad (ah av)) ao)))
   (aa (aP (bz (aC (PW.pt (uF (PW.pt (gX (pcT aK (pv 4) av) (eY (pcT aK (pv 4) av)))) (oH (bN (pcH e I (pa3 (pv 0) (pv 2) (pv 3))))))) (ad (ah av)) ao)))
   (aa (aP (bz (aC (PW.pt (uF (PW.pt (gX (pcT aK (pv 4) av) (eY (pcT aK (pv 4) av)))) (oH (bN (pcH b I (pa2 (pX ay (pv 2) (lj (v:= -1) (by rfl))) (pv 1))))))) (ad (ah av)) ao)))
   (aa (aP (bz (aC (PW.pt (uF (pcT aK (pv 4) av) (oH (bN (pcH U I (pa2 (pX ay (pv 3) (pX ay (pv 2) ac)) (pv 1))))))) (ad (ah av)) ao)))
   (aa (aP (bz (aC (PW.pt (uF (pcT aK (pv 4) av) (oH (pcT zZ (pX ay (pv 2) ac) (pX ay (pv 0) ac))))) (ad (ah av)) ao)))
   (ad (ah cO)))))))),?_⟩
 walk_at"k";refine⟨fun C o=>aD (o=H/\C=[some (.ref pl),some (.int c),some (.ref a),some (.ref sa),some (.str (aV 0))]),?_,?_⟩
 .walk_at"g";refine⟨fun z=>absurd z (by decide),fun _=> ?_⟩
  walk_at"g";exact aD.mk ⟨rfl,rfl⟩
 rintro n l ⟨rfl,rfl⟩
 walk_at"g";refine⟨fun C o=>aD (o=l/\C=[some (.ref pl),some (.int c),some (.ref a),some (.ref sa),some (.str (aV 0))]),?_,?_⟩
 .walk_at"g";exact aD.mk ⟨rfl,rfl⟩
 rintro r d ⟨rfl,rfl⟩
 walk_at"g";refine⟨fun C o=>aD (o=d/\C=[some (.ref pl),some (.int c),some (.ref a),some (.ref sa),some (.str (aV 0))]),?_,?_⟩
 .walk_at"g";exact aD.mk ⟨rfl,rfl⟩
 rintro u i ⟨rfl,rfl⟩
 walk_at"g";refine⟨fun C o=>aD (o=i/\C=[some (.ref pl),some (.int c),some (.ref a),some (.ref sa),some (.str (aV 0))]),?_,?_⟩
 .walk_at"g";exact aD.mk ⟨rfl,rfl⟩
 rintro p m ⟨rfl,rfl⟩
 walk_at"g";refine⟨fun C o=>aD (o=m/\C=[some (.ref pl),some (.int c),some (.ref a),some (.ref sa),some (.str (aV 0))]),?_,?_⟩
 .walk_at"g";exact aD.mk ⟨rfl,rfl⟩
 rintro x L ⟨rfl,rfl⟩
 walk_at"g";exact q
def zC:List Int:=List.replicate 16 0
theorem K7:∀j,j<16->o9 zC (j:Nat)=some (0,[]):=by decide +kernel
def QM(K:Frag):Sp:=fun vs H Q _=>∃(pl cd sa:Addr) (i:Nat),vs=[.ref pl,.ref cd,.int (i:Int),.ref sa]/\SqL K H cd (zC.map V.int)/\i<16/\∀p o,aA H o->SqT K o p (aO 0 [])->Q (.ref p) o
theorem nM(B:Bi mg)(D:jk K mg)(m:Has P w K mg base 6 "instruction_at" IQ (Oo K))(l:Has P w K mg base 2 "is_no_word" DY (NF K))(d:Has P w K mg base 3 "fault_of" E5 (Qr K)):
  Has P w K mg base 7 "instruction_let_by" Fk (QM K):=by
 refine D.has eT (by intro _ _ _ _;walk_at"ln") (fun f j A I s H vs Q E J h=> ?_)
 obtain⟨pl,cd,sa,i,rfl,C,c,q⟩:=h;have k:∀y∈zC,0<=y:=by decide
 refine⟨_,(aa (psS 4 eT.nd (pcH m J (pa2 (pv 1) (pv 2))))
   (aa (aC (bN (pcH l J (pa2 (pv 4) (pv 2)))) (ad qA) ao)
   (aa (psS 5 eT.nd (pcH d J (pa4 (pv 0) (aI aH (by rfl) B.len bD (pa1 (pv 1))) (pv 4) (pv 3))))
   (aa (aC (jT (HC (pv 5))) (ad qA) ao)
   (ad (ah (pv 4))))))),?_⟩
 walk_at"k";intro v p a o;rw[K7 i c] at o;obtain⟨b,rfl,U⟩:=o;have n:=a.seq C;have e:decide (8<((i:Nat):Int) %8+(if (0:Nat)=1 then 2 else 1))=false:=RW (by show ¬8<((i:Nat):Int) %8+1;lia)
 walk_at"g";dsimp only;rw[e];walk_at"g";exact q b _ a U
def Pq(K:Frag):Sp:=fun vs H Q _=>∃(pl cd:Addr),vs=[.ref pl,.ref cd]/\Pl H pl 4 16 0 1 3/\SqL K H cd (zC.map V.int)/\∀v o,aA H o->Q v o
theorem xU(B:Bi mg)(T2:Tb2 K mg)(D:tE K mg)(aw:Has P w K mg base 1 "power_of_two" sJ nD)(bQ:Has P w K mg base 2 "first_spans" [] (Mf K))(qN:Has P w K mg base 7 "instruction_let_by" Fk (QM K))
  (dH:Has P w K mg base 8 "spans_behind" jm (Og K)) (bw:Has P w K mg base 1 "length_of" cI (II K)):Has P w K mg base 9 "spans_ahead" jE (Pq K):=by
 obtain⟨nU,oq,BO⟩:=T2.last;refine D.has cu (by intro _ _ _ _;walk_at"ln") (fun f aR A F s H vs Q E e h=> ?_)
 obtain⟨pl,cd,rfl,U,W,q⟩:=h;have aF:=U.at_;have p2:atI [V.int (4:Nat),V.int 16,V.int (0:Nat),V.int (1:Nat),V.int 3] 2=some (.int (0:Nat)):=bq (j:=2) rfl;have p3:atI [V.int (4:Nat),V.int 16,V.int (0:Nat),V.int (1:Nat),V.int 3] 3=some (.int (1:Nat)):=bq (j:=3) rfl;have hv:aQ 8 262144 0 []:= .inl ⟨rfl,rfl⟩;have i0:atI (aO 0 []) 0=some (.str (aV 0)):=nj
 refine⟨_,(aa (aC (pcT mQ (aI aH (by rfl) B.len bD (pa1 (pv 1))) (ax cK ac (pcH aw e (pa1 (ax aZ (pX ay (pv 0) ac) (pX ay (pv 0) ac)))))) (ad qA) ao)
   (aa (psS 2 cu.nd (a8 dJ))
   (aa (psS 3 cu.nd (iN (bQ.mono (by omega)) e (by rfl)))
   (aa (psS 4 cu.nd av)
   (aa (aP (qG Sw (pcT jC (aI aH (by rfl) B.len bD (pa1 (pv 2))) (aI aH (by rfl) B.len bD (pa1 (pv 1)))) (aa (aP (bz (aC (pcT aK (ax eU (aI aH (by rfl) B.len bD (pa1 (pv 2))) ac) ac) (ad (psS 3 cu.nd (iN (bQ.mono (by omega)) e (by rfl)))) ao)))
   (aa (psS 5 cu.nd (pcH qN e (pa4 (pv 0) (pv 1) (aI aH (by rfl) B.len bD (pa1 (pv 2))) (pv 3))))
   (aa (psS 4 cu.nd (pX ay (pv 5) ac))
   (aa (bj (bU Sr SL SM da (pv 2) (pa1 (pv 3))))
   (aa (psS 3 cu.nd (pcH dH e (pa3 (pv 0) (pv 5) (pv 3))))
   (ad (aP (bz (aC (pcT aK (pcH bw e (pa1 (pv 5))) ac) (ad (bj (bU Sr SL SM da (pv 2) (pa1 cO)))) ao)))))))))))
   (aa (aC (n9 vS (pv 4) (cZ (v:= .ref nU) (by rfl) oq (by rfl)) (by rfl)) (ad qA) ao)
   (ad (ah (pv 2))))))))),?_⟩
 walk_at"k";intro td l;generalize L:upd H td _=H1;have l1:=upA L;have s1:=upS l L;clear L;walk_at"g";intro sa H2 M t2;have l2:=M _ _ l1;have S2:=s1.trans M;clear l1 s1 M;walk_at"g";refine⟨fun m Z I=>∃(i:Nat) (vs:List V) (sa:Addr) (o:Str) (p:Option V),m=16 - i/\i<=16/\vs.length=i/\I td=some (.lst vs)/\SpT K I sa w8/\aA H I/\(0<i->o=aV 0)/\Z=[some (.ref pl),some (.ref cd),some (.ref td),some (.ref sa),some (.str o),p],⟨16,0,[],sa,_,_,rfl,by decide,rfl,l2,t2,S2,fun z=>absurd z (by decide),rfl⟩,?_⟩
 clear l2 t2 S2;clear H2 H1 sa;rintro m Z H3 ⟨i,vs,sa,o,p,rfl,hi,a,l3,t3,r,R,rfl⟩
 have X:=r.seq W;have N:=U.mv r;have q3:=SqL.of (K:=K) l3;walk_at"g";refine bO (fun c=> ?_) (fun c=> ?_)
 .have hlt:i<16:=by rw[a] at c;have c:((i:Nat):Int)<((16:Nat):Int):=c;lia
  walk_at"n";refine⟨fun u I=>aD (∃(J:Nat) (vs:List V) (sa:Addr) (o:Str) (p:Option V),i<J/\J<=16/\vs.length=J/\I td=some (.lst vs)/\SpT K I sa w8/\aA H I/\(0<J->o=aV 0)/\u=[some (.ref pl),some (.ref cd),some (.ref td),some (.ref sa),some (.str o),p]),fun u I h=> ?_,?_⟩
  .obtain⟨J,vs1,sa1,so1,i51,z1,z2,z3⟩:=h.out;exact⟨16 - J,by lia,J,vs1,sa1,so1,i51,rfl,z2,z3⟩
  walk_at"n";refine⟨fun u I=>aD (∃n:Addr,SpT K I n w8/\aA H3 I/\u=[some (.ref pl),some (.ref cd),some (.ref td),some (.ref n),some (.str o),p]),?_,?_⟩
  .walk_at"g";refine bO (fun c8=> ?_) (fun c8=> ?_)
   .walk_at"g";intro T H4 k y;exact aD.mk ⟨T,y,k,rfl⟩
   .exact aD.mk ⟨sa,t3,aA.refl _,rfl⟩
  rintro Z4 H4 ⟨C,y,k,rfl⟩
  have l4:=k _ _ l3;have S4:=r.trans k;have aN:=k.seq X;have ar:=N.mv k;have q4:=SqL.of (K:=K) l4;walk_at"g";intro ia b O G;have l5:=O _ _ l4;have t5:=y.same O;have S5:=S4.trans O;have aS:tyV K "list" (.ref td) b:= .inl ⟨rfl,_,SqL.of l5⟩;have au:vs.length<sizeLine:=SB (show vs.length<=16 by lia) (by decide)
  have S6:aA H (upd b td (.lst (vs++[.ref C]))):=fO l S5;have l6:upd b td (.lst (vs++[.ref C])) td=some (.lst (vs++[.ref C])):=ae;have t6:SpT K (upd b td (.lst (vs++[.ref C]))) C w8:=t5.wr l5;have x:SqT K (upd b td (.lst (vs++[.ref C]))) ia (aO 0 []):=But.tup (d:=td) But.upd l5 G;have aG:=U.mv S6;have h8:Sp8 w8:=N6;walk_at"g";generalize upd b td (.lst (vs++[.ref C]))=H6 at*;intro Y H7 s7 t7;have aL:=s7.tup x;walk_at"g";have ab:(0:Nat)<19:=by decide
  refine⟨_,?_,fun _ _ h=>h⟩
  walk_at"g";exact aD.mk ⟨i+1,vs++[.ref C],Y,_,_,by lia,by lia,by rw[RZ,a];rfl,s7 _ _ l6,t7,S6.trans s7,fun _=>rfl,rfl⟩
 .have e16:i=16:=by rw[a] at c;have c:¬((i:Nat):Int)<((16:Nat):Int):=c;lia
  obtain rfl:=R (by lia)
  walk_at"g";exact q _ _ r
def Qg(K:Frag):Sp:=fun vs H Q _=>∃(pl cd:Addr),vs=[.ref pl,.ref cd]/\Pl H pl 4 16 0 1 3/\SqL K H cd (zC.map V.int)/\∀o,aA H o->Q .non o
theorem Ji(B:Bi mg)(D:Hv K mg)(a:Has P w K mg base 9 "spans_ahead" jE (Pq K)):Has P w K mg base 10 "check" jE (Qg K):=by
 refine D.has J9 (by intro _ _ _ _;walk_at"ln") (fun f U A o s H vs Q E b h=> ?_)
 obtain⟨pl,cd,rfl,J,C,q⟩:=h;refine⟨_,(ad (bj (pcH a b (pa2 (pv 0) (pv 1))))),?_⟩
 walk_at"k";intro v c I;exact q _ I
end
section
variable {P : Program} {w : World} {K : Frag} {mg : Str → Option Value} {base : Heap}
noncomputable def bxG(bx:List Int)(i:Int):Int:=bx.getD i.toNat 0
noncomputable def Pr(pk:Nat)(C:Int)(o ps:Nat)(k:Nat)(ns bx:List Int):Int:=
 if k=1 then ns.getD 1 0 else if k=10 then(bxG bx (ns.getD 1 0)+ns.getD 2 0) %4294967296 else if k=16 then C+bxG bx (ns.getD 1 0) %2^pk else if k=17 then SpM.aimV o ps (bxG bx (ns.getD 1 0))
 else SpM.jv (QX k) (bxG bx (ns.getD 1 0)) (bxG bx (ns.getD 2 0))
def makes(k:Nat):Prop:=(1<=k/\k<=10)\/k=16\/k=17
structure BxN (nb:Nat) (bx:List Int):Prop where
 len:bx.length=nb
 rng:∀x∈bx,0<=x/\x<4294967296
abbrev Bxs(bx:List Int):Prop:=BxN 8 bx
noncomputable def QW(k:Nat)(ns bx:List Int)(p:Int):Int:=if k=13 then ns.getD 0 0 else if k=15 then bxG bx (ns.getD 0 0) else if bxG bx (ns.getD 0 0)≠0 then ns.getD 1 0 else p+1
def zX(kvs:List (Key × V)):Prop:=∀o∈kvs, ∃i v:Int,o=(.inl i,.int v)/\0<=v/\v<4294967296
noncomputable def Ry(kvs:List (Key × V))(r:Int):Int:=match E6 kvs (.inl r) with
 | some (.int v)=>v
 | _=>0
noncomputable def zQ(ns bx:List Int):Int:=(bxG bx (ns.getD 1 0)+ns.getD 2 0) %4294967296
def InR(pk:Nat)(o r:Int):Prop:=o<=r/\r<o+2^pk
noncomputable instance {pk:Nat}{pb r:Int}:Decidable (InR pk pb r):=inferInstanceAs (Decidable (_/\_))
theorem RT{H:Hp}{a b:Addr}{u o:HO}{xs:List V}(I:H b=some u)(C:∀ys,u≠ .tup ys/\∀o,u≠ .frz o (.tup ys))(h:SqT K H a xs):SqT K (upd H b o) a xs:=by
 unfold SqT at h ⊢;rcases h with h | h
 .refine .inl ?_
  rcases h with h | ⟨ob,h⟩
  .exact .inl (by rw[aj (fun z=>by rw[z,I] at h;exact(C _).1 (Sj h))];exact h)
  .exact .inr ⟨ob,by rw[aj (fun z=>by rw[z,I] at h;exact(C _).2 _ (Sj h))];exact h⟩
 .exact .inr h
theorem Cm{n j:Nat}(h:j<n):ixN n (j:Int)=some j:=by
 unfold ixN;rw[R9 (by lia),R9 (by lia),Tg]
noncomputable abbrev hfs(pl:Addr)(g:Int)(o C I rw:Addr):List (Str × V):=
 [("plan",.ref pl),("gates",.int g),("boxes",.ref o),("memory",.ref C),("replies",.ref I),("rows",.ref rw)]
structure Rep (K:Frag) (H:Hp) (ml:Addr) (v:V) (bs:List Int) (ws:List (Key × V)):Prop where
 ex:∃a b d:Addr,v= .ref a/\SqT K H a [.ref b,.ref d]/\SqT K H b (bs.map V.int)/\H d=some (.dK ws)/\d≠ml
 len:bs.length=7
 rng:∀x∈bs,0<=x/\x<4294967296
 mem:zX ws
 few:ws.length<=100
 nod:(ws.map (·.1)).Nodup
structure HSt where
 bx:List Int
 kvs:List (Key × V)
 rows:List (Int × List Int × List (Key × V))
structure Fx where
 pk:Nat
 pb:Int
 pm:Nat
 ps:Nat
 pg:Int
 reps:List (List Int × List (Key × V))
def y8(C H:Hp)(o:Addr):List (Addr × Addr)->List (Int × List Int × List (Key × V))->Prop
 | [],[]=>True
 | e::es,x::xs=>(C e.2=none/\e.2≠o/\H e.2=some (.dK x.2.2)/\∃t,H e.1=some (.tup [.int x.1,.ref t,.ref e.2])/\H t=some (.tup (x.2.1.map V.int)))/\y8 C H o es xs
 | _,_=>False
theorem y8.mono{f C H I:Hp}{i o:Addr}(J:∀a xs,H a=some (.tup xs)->I a=some (.tup xs))(U:∀a kvs,f a=none->a≠i->H a=some (.dK kvs)->C a=none/\I a=some (.dK kvs)/\a≠o):∀{j:List (Addr × Addr)}{xs:List (Int × List Int × List (Key × V))},y8 f H i j xs->y8 C I o j xs
 | [],[],_=>True.intro
 | _::_,_::_,h=>by
  obtain⟨⟨a,b,c,t,d,e⟩,r⟩:=h;obtain⟨c1,c2,c3⟩:=U _ _ a b c;exact⟨⟨c1,c3,c2,t,J _ _ d,J _ _ e⟩,y8.mono J U r⟩
 | [],_::_,h=>h.elim
 | _::_,[],h=>h.elim
structure HoH (C:Addr) (nb:Nat) (H0 H:Hp) (o dx pl rl:Addr) (g:Int) (st:HSt):Prop where
 ex:∃(bl ml rw:Addr) (es:List (Addr × Addr)),H o=some (.ins C dx (hfs pl g bl ml rl rw))/\H bl=some (.lst (st.bx.map V.int))/\H ml=some (.dK st.kvs)/\H rw=some (.lst ((es.map (·.1)).map V.ref))/\H0 o=none/\H0 bl=none/\H0 ml=none/\H0 rw=none/\bl≠rw/\(es.map (·.2)).Nodup/\y8 H0 H ml es st.rows
 same:aA H0 H
 bxs:BxN nb st.bx
 mem:zX st.kvs
theorem HoH.grow{C:Addr}{a:Nat}{b H c:Hp}{o d pl f:Addr}{g:Int}{st:HSt}(h:HoH C a b H o d pl f g st)(e:aA H c):HoH C a b c o d pl f g st:=by
 obtain⟨m,q,rw,r,ho,l,hm,U,i,p,k,j,J,n,I⟩:=h.ex;exact⟨⟨m,q,rw,r,e _ _ ho,e _ _ l,e _ _ hm,e _ _ U,i,p,k,j,J,n,I.mono (fun _ _ z=>e _ _ z) (fun _ _ z1 z2 z=>⟨z1,e _ _ z,z2⟩)⟩,h.same.trans e,h.bxs,h.mem⟩
theorem HoH.add{C:Addr}{d:Nat}{i H:Hp}{o j pl k:Addr}{g:Int}{st:HSt}(h:HoH C d i H o j pl k g st){b:Addr}(u:HO)(I:H b=none):HoH C d (upd i b u) (upd H b u) o j pl k g st:=by
 obtain⟨p,s,rw,x,ho,f,hm,J,l,r,n,m,c,q,U⟩:=h.ex;refine⟨⟨p,s,rw,x,gw I ho,gw I f,gw I hm,gw I J,by rw[aj (aq ho I)];exact l,by rw[aj (aq f I)];exact r,by rw[aj (aq hm I)];exact n,by rw[aj (aq J I)];exact m,c,q,U.mono (fun _ _ z=>gw I z) (fun _ _ z1 z2 z=>⟨by rw[aj (aq z I)];exact z1,gw I z,z2⟩)⟩,fun a v e=> ?_,h.bxs,h.mem⟩
 by_cases z:a=b
 .subst z;rw[ae] at e ⊢;exact e
 .rw[aj z] at e ⊢;exact h.same _ _ e
theorem HoH.write{C:Addr}{k:Nat}{J H:Hp}{o n pl p:Addr}{g:Int}{st:HSt}(h:HoH C k J H o n pl p g st){b:Addr}{u:HO}(m:HO)(l:J b=some u)(y:∀ys,u≠ .tup ys):HoH C k (upd J b m) (upd H b m) o n pl p g st:=by
 obtain⟨r,x,rw,A,ho,q,hm,i,U,j,f,c,d,s,I⟩:=h.ex;have ne:∀a,J a=none->a≠b:=fun a e=>(aq l e).symm
 refine⟨⟨r,x,rw,A,by rw[aj (ne _ U)];exact ho,by rw[aj (ne _ j)];exact q,by rw[aj (ne _ f)];exact hm,by rw[aj (ne _ c)];exact i,by rw[aj (ne _ U)];exact U,by rw[aj (ne _ j)];exact j,by rw[aj (ne _ f)];exact f,by rw[aj (ne _ c)];exact c,d,s,
  I.mono (fun a B z=>by rw[aj (fun z2=>by rw[z2,h.same _ _ l] at z;exact y _ (Sj z))];exact z) (fun a _ z1 z2 z=>⟨by rw[aj (ne _ z1)];exact z1,by rw[aj (ne _ z1)];exact z,z2⟩)⟩,fun a v e=> ?_,h.bxs,h.mem⟩
 by_cases z:a=b
 .subst z;rw[ae] at e ⊢;exact e
 .rw[aj z] at e ⊢;exact h.same _ _ e
theorem none_of{H o:Hp}{a:Addr}(e:aA H o)(h:o a=none):H a=none:=by
 cases z:H a with
 | none=>rfl
 | some u=>rw[e _ _ z] at h;cases h
def Hr(H:Hp):Option (Str × List Int)->V->Prop
 | none,v=>v= .non
 | some (x,ns),v=>∃q,v= .ref q/\H q=some (.tup (.str x::ns.map V.int))
def Hs(K:Frag)(C:Addr):Sp:=fun vs H Q _=>∃(b:Nat) (J:Hp) (o c pl d f e:Addr) (g:Int) (U:List Int) (I:List (Key × V)),vs=[.ref o,.ref pl,.int g,.ref d,.ref f,.ref e]/\H o=some (.ins C c [])/\J o=none/\aA J H/\
 SqT K J d (U.map V.int)/\J f=some (.dK I)/\BxN b U/\zX I/\∀a,HoH C b J a o c pl e g ⟨U,I,[]⟩->Q .non a
theorem sC{C:Addr}(B:Bi mg)(c:eV K mg "Holding" C)(n:m_ K C)(D:gK K C):cV P w K mg base 1 C "__init__" FM (Hs K C):=by
 refine D.has c.cl sH (by intro _ _ _ _;walk_at"ln") (fun f aT A L s H vs Q E hr h=> ?_)
 obtain⟨nb,m,o,J,pl,bt,md,p,g,k,b,rfl,ho,j,sm,aN,O,G,aw,q⟩:=h;have hc:=c.cl;have n1:=n.plan;have n2:=n.gates;have n4:=n.boxes;have n5:=n.memory;have n6:=n.replies;have n7:=n.rows
 refine⟨_,(aa (cG (pv 0) (pv 1) (by rfl))
   (aa (cG (pv 0) (pv 2) (by rfl))
   (aa (cG (pv 0) (cj Ck (by rfl) B.list MX (pa1 (pv 3))) (by rfl))
   (aa (cG (pv 0) (cj BP (by rfl) B.dict M0 (pa1 (pv 4))) (by rfl))
   (aa (cG (pv 0) (pv 5) (by rfl))
   (ad (cG (pv 0) (a8 dJ) (by rfl)))))))),?_⟩
 try dsimp only[oJ]
 have s3:aA m (upd (upd H o (.ins C J (bP "plan" (.ref pl) []))) o (.ins C J (bP "gates" (.int g) (bP "plan" (.ref pl) [])))):=fO j (fO j sm);have v:upd (upd H o (.ins C J (bP "plan" (.ref pl) []))) o (.ins C J (bP "gates" (.int g) (bP "plan" (.ref pl) []))) o=some (.ins C J [("plan",.ref pl),("gates",.int g)]):=ae;walk_at"g";intro I i;generalize upd (upd H o (.ins C J (bP "plan" (.ref pl) []))) o (.ins C J (bP "gates" (.int g) (bP "plan" (.ref pl) [])))=H3 at*;have aR:=gw (o:= .lst (k.map V.int)) i v;have X:upd H3 I (.lst (k.map V.int)) I=some (.lst (k.map V.int)):=ae;have s4:=dE (o:= .lst (k.map V.int)) i s3;have ar:m I=none:=none_of s3 i;have e:I≠o:=(aq v i).symm;generalize upd H3 I (.lst (k.map V.int))=z at*;have Z:aA m (upd z o (.ins C J (bP "boxes" (.ref I) [("plan",.ref pl),("gates",.int g)]))):=fO j s4;have x:upd z o (.ins C J (bP "boxes" (.ref I) [("plan",.ref pl),("gates",.int g)])) o=some (.ins C J [("plan",.ref pl),("gates",.int g),("boxes",.ref I)]):=ae;have aG:upd z o (.ins C J (bP "boxes" (.ref I) [("plan",.ref pl),("gates",.int g)])) I=some (.lst (k.map V.int)):=by rw[aj e];exact X
 have aL:=Z _ _ O;walk_at"g";generalize upd z o (.ins C J (bP "boxes" (.ref I) [("plan",.ref pl),("gates",.int g)]))=H5 at*;intro U d;have aS:=gw (o:= .dK b) d x;have W:=gw (o:= .dK b) d aG;have Y:upd H5 U (.dK b) U=some (.dK b):=ae;have s6:=dE (o:= .dK b) d Z;have ab:m U=none:=none_of Z d;have l:U≠o:=(aq x d).symm;generalize upd H5 U (.dK b)=r at*;walk_at"g";intro rw a;have u:upd (upd r o (.ins C J (bP "memory" (.ref U) [("plan",.ref pl),("gates",.int g),("boxes",.ref I)]))) o (.ins C J (bP "replies" (.ref p) (bP "memory" (.ref U) [("plan",.ref pl),("gates",.int g),("boxes",.ref I)]))) o=some (.ins C J [("plan",.ref pl),("gates",.int g),("boxes",.ref I),("memory",.ref U),("replies",.ref p)]):=ae;have s8:aA m (upd (upd r o (.ins C J (bP "memory" (.ref U) [("plan",.ref pl),("gates",.int g),("boxes",.ref I)]))) o (.ins C J (bP "replies" (.ref p) (bP "memory" (.ref U) [("plan",.ref pl),("gates",.int g),("boxes",.ref I)])))):=fO j (fO j s6);have y:upd (upd r o (.ins C J (bP "memory" (.ref U) [("plan",.ref pl),("gates",.int g),("boxes",.ref I)]))) o (.ins C J (bP "replies" (.ref p) (bP "memory" (.ref U) [("plan",.ref pl),("gates",.int g),("boxes",.ref I)]))) I=some (.lst (k.map V.int)):=by rw[aj e,aj e];exact W
 have T:upd (upd r o (.ins C J (bP "memory" (.ref U) [("plan",.ref pl),("gates",.int g),("boxes",.ref I)]))) o (.ins C J (bP "replies" (.ref p) (bP "memory" (.ref U) [("plan",.ref pl),("gates",.int g),("boxes",.ref I)]))) U=some (.dK b):=by rw[aj l,aj l];exact Y
 generalize upd (upd r o (.ins C J (bP "memory" (.ref U) [("plan",.ref pl),("gates",.int g),("boxes",.ref I)]))) o (.ins C J (bP "replies" (.ref p) (bP "memory" (.ref U) [("plan",.ref pl),("gates",.int g),("boxes",.ref I)])))=H8 at*;have aW:=gw (o:= .lst []) a u;have au:=gw (o:= .lst []) a y;have F:=gw (o:= .lst []) a T;have aF:upd H8 rw (.lst []) rw=some (.lst []):=ae;have s9:=dE (o:= .lst []) a s8;have R:m rw=none:=none_of s8 a;have M:rw≠o:=(aq u a).symm;have N:I≠rw:=aq y a;generalize upd H8 rw (.lst [])=H9 at*;walk_at"g";refine q _ ⟨⟨I,U,rw,[],ae,?_,?_,?_,j,ar,ab,R,N,WR,True.intro⟩,fO j s9,G,aw⟩
 .rw[aj e];exact au
 .rw[aj l];exact F
 .rw[aj M];exact aF
structure MSt where
 p:Int
 bx:List Int
 kvs:List (Key × V)
 rows:List (Int × List Int × List (Key × V))
noncomputable def vx(x:Fx)(k:Nat)(ns:List Int)(st:MSt):Option (Str × List Int) × MSt:=
 if k=0 then(some ("stopped",[]),st)
 else if k=18 then
  if x.pg<=ns.getD 0 0 then(some ("lost",[]),st)
  else match x.reps[st.rows.length]? with
   | none=>(some ("asks",[ns.getD 0 0]),{st with rows:=st.rows++[(ns.getD 0 0,st.bx,st.kvs)]})
   | some (bs,ws)=>(none,⟨st.p+1,bs++[bxG st.bx 7],Du st.kvs ws,st.rows++[(ns.getD 0 0,st.bx,st.kvs)]⟩)
 else if k=11\/k=12 then
  if InR x.pk x.pb (zQ ns st.bx) then
   if k=11 then(none,{st with p:=st.p+1,bx:=st.bx.set (ns.getD 0 0).toNat (Ry st.kvs (zQ ns st.bx))})
   else(none,{st with p:=st.p+1,kvs:=nr st.kvs (.inl (zQ ns st.bx)) (.int (bxG st.bx (ns.getD 0 0)))})
  else(some ("beyond",[zQ ns st.bx]),st)
 else if k=13\/k=14\/k=15 then(none,{st with p:=QW k ns st.bx st.p})
 else(none,{st with p:=st.p+(if k=1 then 2 else 1),bx:=st.bx.set (ns.getD 0 0).toNat (Pr x.pk x.pb x.pm x.ps k ns st.bx)})
structure En (K:Frag) (H0:Hp) (pl rl:Addr) (x:Fx):Prop where
 plan:Pl H0 pl x.pk x.pb x.pm x.ps x.pg
 there:∃u,H0 rl=some u
 reps:∃vs:List V,SqL K H0 rl vs/\vs.length=x.reps.length/\∀(i:Nat) (v:V) (bs:List Int) (ws:List (Key × V)),vs[i]? =some v->x.reps[i]? =some (bs,ws)->(∀ml,H0 ml=none->Rep K H0 ml v bs ws)
noncomputable def MSt.h(st:MSt):HSt:=⟨st.bx,st.kvs,st.rows⟩
noncomputable abbrev mfs(cd:Addr)(p:Int)(o:Addr)(t:Int):List (Str × V):=[("code",.ref cd),("place",.int p),("holding",.ref o),("turns",.int t)]
structure MaH (C C2:Addr) (H0 H:Hp) (m dm cd o dx pl rl:Addr) (g:Int) (st:MSt) (t:Int):Prop where
 ex:∃Hm,aA H0 Hm/\H0 m=none/\Hm m=some (.ins C2 dm (mfs cd st.p o t))/\HoH C 8 Hm H o dx pl rl g st.h
theorem MaH.same{C J:Addr}{I H:Hp}{m U cd o b pl c:Addr}{g:Int}{st:MSt}{t:Int}(h:MaH C J I H m U cd o b pl c g st t):aA I H:=by
 obtain⟨_,a,_,_,d⟩:=h.ex;exact a.trans d.same
theorem MaH.bxs{C I:Addr}{U H:Hp}{m J cd o a pl b:Addr}{g:Int}{st:MSt}{t:Int}(h:MaH C I U H m J cd o a pl b g st t):Bxs st.bx:=by
 obtain⟨_,_,_,_,d⟩:=h.ex;exact d.bxs
theorem MaH.mem{C I:Addr}{U H:Hp}{m J cd o a pl b:Addr}{g:Int}{st:MSt}{t:Int}(h:MaH C I U H m J cd o a pl b g st t):zX st.kvs:=by
 obtain⟨_,_,_,_,d⟩:=h.ex;exact d.mem
theorem MaH.at{C I:Addr}{U H:Hp}{m J cd o a pl b:Addr}{g:Int}{st:MSt}{t:Int}(h:MaH C I U H m J cd o a pl b g st t):H m=some (.ins I J (mfs cd st.p o t)):=by
 obtain⟨_,_,_,c,d⟩:=h.ex;exact d.same _ _ c
theorem MaH.grow{C I:Addr}{J H U:Hp}{m f cd o i pl j:Addr}{g:Int}{st:MSt}{t:Int}(h:MaH C I J H m f cd o i pl j g st t)(e:aA H U):MaH C I J U m f cd o i pl j g st t:=by
 obtain⟨k,a,b,c,d⟩:=h.ex;exact⟨k,a,b,c,d.grow e⟩
theorem MaH.put{C I:Addr}{U H:Hp}{m J cd o f pl i:Addr}{g:Int}{st:MSt}{t:Int}(h:MaH C I U H m J cd o f pl i g st t)(e t':Int):MaH C I U (upd H m (.ins I J (mfs cd e o t'))) m J cd o f pl i g {st with p:=e} t':=by
 obtain⟨j,a,b,c,d⟩:=h.ex;exact⟨_,fO b a,b,ae,d.write _ c (fun _ z=>by cases z)⟩
theorem pq{C:Addr}(c:eV K mg "Holding" C)(D:f_ K C):cV P w K mg base 5 C "carry_out" dC AE:=D.has c.cl qF (fun _ _ _ _ h=>h.elim) (fun _ _ _ _ _ _ _ _ _ _ h=>h.elim)
theorem ni{o:Addr}(c:eV K mg "Machine" o)(D:fe K o):cV P w K mg base 1 o "place_ahead" dC AE:=D.has c.cl oi (fun _ _ _ _ h=>h.elim) (fun _ _ _ _ _ _ _ _ _ _ h=>h.elim)
def NE(K:Frag)(C c:Addr):Sp:=fun vs H Q _=>∃(J:Hp) (m a d cd o e pl b:Addr) (st:MSt) (t:Int) (x:Fx) (k:Nat) (I:List Int),vs=[.ref m,.ref a]/\MaH C c J H m d cd o e pl b x.pg st t/\En K J pl b x/\aQ 8 262144 k I/\k=0/\SqT K H a (aO k I)/\st.kvs.length<=9000/\st.rows.length<=9000/\
 ∀v U,MaH C c J U m d cd o e pl b x.pg (vx x k I st).2 t->Hr U (vx x k I st).1 v->Q v U
theorem Ae{C I:Addr}(B:Bi mg)(F:eV K mg "Holding" C)(M:m_ K C)(c:eV K mg "Machine" I)(n:jL K I)(D:nJ K I)(L:Has P w K mg base 1 "length_of" cI (II K))(j:cV P w K mg base 5 C "carry_out" dC AE)
  (v:cV P w K mg base 1 I "place_ahead" dC AE):cV P w K mg base 6 I "do" dC (NE K C I):=by
 refine D.has c.cl lV (by intro _ _ _ _;walk_at"ln") (fun f p A J s H vs Q E U h=> ?_)
 obtain⟨O,m,a,R,cd,o,T,pl,Z,st,t,x,k,b,rfl,d,en,G,u,X,y,z,q⟩:=h;have N:=G.lt;have W:=c.cl;have i:=F.cl;have n1:=n.holding;have n2:=n.place;have r:=d.at;have Y:atI (aO k b) 0=some (.str (aV k)):=nj
 refine⟨_,(aa (psS 2 lV.nd (pX ay (pv 1) ac))
   (aa (aC (pcT aK (pv 2) av) (ad (ah (az (pa1 av)))) ao)
   (aa (aP (bz (aC (PW.pt (gX (pcT aK (pv 2) av) (gX (pcT aK (pv 2) av) (eY (pcT aK (pv 2) av))))) (aa (cG (pv 0) (dq (v.mono (by omega)) U (pv 0) (pa1 (pv 1))) (by rfl))
   (ad (ah cO))) ao)))
   (aa (psS 3 lV.nd (dq (j.mono (by omega)) U (ce (pv 0) (by rfl)) (pa1 (pv 1))))
   (aa (aP (bz (aC (jT (kf (pv 3))) (ad (cG (pv 0) (ax aZ (ce (pv 0) (by rfl)) (pcH L U (pa1 (pv 1)))) (by rfl))) ao)))
   (ad (ah (pv 3)))))))),?_⟩
 walk_at"k";subst u;refine bO (fun c0=> ?_) (fun c0=>absurd rfl c0)
 .have es:vx x 0 b st=(some (("stopped":Str),([]:List Int)),st):=R9 rfl;rw[es] at q;walk_at"g";intro l e;exact q _ _ (d.grow (ag e _)) ⟨l,rfl,ae⟩
noncomputable def hU(x:Fx)(o:List Int):Nat->MSt->Int->(Str × List Int) × MSt × Int
 | 0,st,t=>match o9 o st.p with
  | none=>(("lost",[]),st,t)
  | some _=>(("spent",[]),st,t)
 | n+1,st,t=>match o9 o st.p with
  | none=>(("lost",[]),st,t)
  | some (k,ns)=>match vx x k ns st with
   | (some e,st')=>(e,st',t+1)
   | (none,st')=>hU x o n st' (t+1)
structure BdS (x:Fx) (st:MSt) (t:Int):Prop where
 r:st.rows.length<=x.reps.length
 m:(st.kvs.length:Int)<=2000+t+100*(st.rows.length:Int)
structure MG (x:Fx):Prop where
 few:x.reps.length<=20
 wr:∀y∈x.reps,y.2.length<=100
theorem Lr(kvs:List (Key × V))(k:Key)(v:V):(nr kvs k v).length<=kvs.length+1:=by
 unfold nr
 split
 .rw[be];lia
 .rw[RZ];exact R3 _
theorem KS{x:Fx}{k:Nat}{ns:List Int}{st:MSt}{t:Int}(I:MG x)(h:BdS x st t)(o:(vx x k ns st).1=none):BdS x (vx x k ns st).2 (t+1):=by
 have C:=h.r;have b:=h.m
 revert o
 unfold vx
 split
 .intro o;cases o
 .split
  .split
   .intro o;cases o
   .split
    .intro o;cases o
    .rename_i bs ws e
     intro _;have U:st.rows.length<x.reps.length:=(RX.mp e).1;have hw:=I.wr _ (Sa e);have a:=tO ws st.kvs;refine⟨?_,?_⟩
     .show(st.rows++[_]).length<=_
      rw[RZ];exact U
     .show((Du st.kvs ws).length:Int)<=2000+(t+1)+100*((st.rows++[_]).length:Int)
      rw[RZ];have J:ws.length<=100:=hw
      simp only[R4,UX]
      lia
  .split
   .split
    .split
     .intro _;exact⟨C,by show(st.kvs.length:Int)<=2000+(t+1)+100*(st.rows.length:Int);lia⟩
     .intro _;have c:=Lr st.kvs (.inl (zQ ns st.bx)) (.int (bxG st.bx (ns.getD 0 0)));exact⟨C,by show((nr st.kvs _ _).length:Int)<=2000+(t+1)+100*(st.rows.length:Int);lia⟩
    .intro o;cases o
   .split
    .intro _;exact⟨C,by show(st.kvs.length:Int)<=2000+(t+1)+100*(st.rows.length:Int);lia⟩
    .intro _;exact⟨C,by show(st.kvs.length:Int)<=2000+(t+1)+100*(st.rows.length:Int);lia⟩
def Fl(K:Frag)(C b:Addr):Sp:=fun vs H Q _=>∃(J:Hp) (m c cd o d pl a:Addr) (st:MSt) (t:Int) (x:Fx) (I:List Int) (n:Nat),vs=[.ref m,.int (t+n)]/\MaH C b J H m c cd o d pl a x.pg st t/\En K J pl a x/\MG x/\BdS x st t/\0<=t/\t+n<=1000/\
 SqL K J cd (I.map V.int)/\(∀y∈I,0<=y/\y<4294967296)/\(∀i e,o9 I i=some e->e=(0,[]))/\∀v U,MaH C b J U m c cd o d pl a x.pg (hU x I n st t).2.1 (hU x I n st t).2.2->Hr U (some (hU x I n st t).1) v->Q v U
theorem uw{C d:Addr}(B:Bi mg)(c:eV K mg "Machine" d)(n:jL K d)(D:i7 K d)(cR:Has P w K mg base 6 "instruction_at" IQ (Oo K))(C3:cV P w K mg base 6 d "do" dC (NE K C d)):
  cV P w K mg base 7 d "run_on" FH (Fl K C d):=by
 refine D.has c.cl fk (by intro _ _ _ _;walk_at"ln") (fun f bb A ab s H vs Q E hr h=> ?_)
 obtain⟨W,m,N,cd,o,dx,pl,X,st,t,x,a,U,rfl,ma,en,fx,bd,t0,t1,aw,aN,aR,q⟩:=h;have hc:=c.cl;have n1:=n.code;have n2:=n.place;have n3:=n.turns;have aW:∀y∈a,0<=y:=fun y hy=>(aN y hy).1
 refine⟨_,(aa (psS 2 fk.nd cO)
   (aa (aP (qG Sw (jT (kf (pv 2))) (aa (psS 3 fk.nd (pcH cR hr (pa2 (ce (pv 0) (by rfl)) (ce (pv 0) (by rfl)))))
   (aa (aC (jT (kf (pv 3))) (ad (ah (az (pa1 av)))) ao)
   (aa (aC (pcT zZ (ce (pv 0) (by rfl)) (pv 1)) (ad (ah (az (pa1 av)))) ao)
   (aa (cG (pv 0) (ax aZ (ce (pv 0) (by rfl)) ac) (by rfl))
   (ad (psS 2 fk.nd (dq (C3.mono (by omega)) hr (pv 0) (pa1 (pv 3)))))))))))
   (ad (ah (pv 2))))),?_⟩
 walk_at"k"
 refine⟨fun mm Z F=>(∃(R:Nat) (I:MSt) (J:Int) (i:Option V),mm=R+1/\J+R=t+U/\0<=J/\MaH C d W F m N cd o dx pl X x.pg I J/\BdS x I J/\hU x a R I J=hU x a U st t/\Z=[some (.ref m),some (.int (t+U)),some .non,i])\/
  (∃(v:V) (i:Option V),mm=0/\v≠ .non/\MaH C d W F m N cd o dx pl X x.pg (hU x a U st t).2.1 (hU x a U st t).2.2/\Hr F (some (hU x a U st t).1) v/\Z=[some (.ref m),some (.int (t+U)),some v,i]),⟨U+1,.inl ⟨U,st,t,_,rfl,rfl,t0,ma,bd,rfl,rfl⟩⟩,?_⟩
 rintro mm Z H1 (⟨R,I,J,i,rfl,ht,tp,j,O,er,rfl⟩|⟨v,i,rfl,ar,j,ev,rfl⟩)
 .have ho:=j.at;have ba:=j.same.seq aw;refine⟨_,rfl,_,rfl,Hl rfl ?_⟩
  walk_at"n"
  refine⟨fun Z' F=>aD ((∃(n2:Nat) (I:MSt) (J:Int) (i:Option V),n2+1<R+1/\J+n2=t+U/\0<=J/\MaH C d W F m N cd o dx pl X x.pg I J/\BdS x I J/\hU x a n2 I J=hU x a U st t/\Z'=[some (.ref m),some (.int (t+U)),some .non,i])\/
   (∃(v:V) (i:Option V),v≠ .non/\MaH C d W F m N cd o dx pl X x.pg (hU x a U st t).2.1 (hU x a U st t).2.2/\Hr F (some (hU x a U st t).1) v/\Z'=[some (.ref m),some (.int (t+U)),some v,i])),fun Z' F h=> ?_,?_⟩
  .rcases h.out with⟨n2,st2,t2,i2,a1,a2,a3,a4,a5,a6,a7⟩|⟨v2,i2,a1,a2,a3,a4⟩
   .exact⟨n2+1,a1,.inl ⟨n2,st2,t2,i2,rfl,a2,a3,a4,a5,a6,a7⟩⟩
   .exact⟨0,by lia,.inr ⟨v2,i2,rfl,a1,a2,a3,a4⟩⟩
  walk_at"g";intro v H2 au hi;have l:=j.grow au;have aF:=l.at
  cases hins:o9 a I.p with
  | none=>
   rw[hins] at hi;have hv:v= .non:=hi;subst hv;have b:hU x a U st t=((("lost":Str),([]:List Int)),I,J):=by
    rw[<- er]
    cases R with
    | zero=>unfold hU;rw[hins]
    | succ n2=>unfold hU;rw[hins]
   rw[b] at q;walk_at"g";intro qq hq;exact q _ _ (l.grow (ag hq _)) ⟨qq,rfl,ae⟩
  | some kn=>
   obtain⟨k,G⟩:=kn;rw[hins] at hi;obtain⟨ia,rfl,aG⟩:=hi;have L:k=0/\G=[]:=by
    have:=aR _ _ hins;exact⟨congrArg Prod.fst this,congrArg Prod.snd this⟩
   have aT:aQ 8 262144 k G:= .inl L;have kz:=L.1;clear L;walk_at"g"
   cases R with
   | zero=>
    have b:hU x a U st t=((("spent":Str),([]:List Int)),I,J):=by
     rw[<- er];unfold hU;rw[hins]
    rw[b] at q;refine Hl (by lia) ?_
    walk_at"g";intro qq hq;exact q _ _ (l.grow (ag hq _)) ⟨qq,rfl,ae⟩
   | succ n2=>
    refine vK (by lia) ?_
    have aX:MaH C d W (upd H2 m (.ins d N (mfs cd I.p o (J+1)))) m N cd o dx pl X x.pg I (J+1):=l.put I.p (J+1);have aS:SqT K (upd H2 m (.ins d N (mfs cd I.p o (J+1)))) ia (aO k G):=RT aF (fun _=>⟨(fun z=>by cases z),(fun _ z=>by cases z)⟩) aG
    have f1:=O.r;have f2:=O.m;have f3:=fx.few;have a':I.kvs.length<=9000:=by lia
    have bc:I.rows.length<=9000:=by lia
    walk_at"g";intro v3 H3 M u;have b:hU x a U st t=match vx x k G I with | (some e,st2)=>(e,st2,J+1) | (none,st2)=>hU x a n2 st2 (J+1):=by
     rw[<- er]
     conv=>lhs;unfold hU
     rw[hins]
    have T:=KS (k:=k) (ns:=G) fx O;walk_at"g"
    cases hst:vx x k G I with
    | mk e1 st2=>
     rw[hst] at b M u T
     cases e1 with
     | none=>
      have aL:v3= .non:=u;subst aL;exact aD.mk (Or.inl ⟨n2,st2,J+1,_,by lia,by lia,by lia,M,T rfl,b.symm,rfl⟩)
     | some ee=>
      have Y:hU x a U st t=(ee,st2,J+1):=b;refine aD.mk (Or.inr ⟨v3,_,?_,by rw[Y];exact M,by rw[Y];exact u,rfl⟩)
      obtain⟨q3,rfl,_⟩:=u;intro z
      cases z
 .walk_at"g";rw[RW ar];walk_at"g";exact q _ _ j ev
def Ke(K:Frag)(C U:Addr):Sp:=fun vs H Q _=>∃(I J:Hp) (m b cd o c pl d:Addr) (p g:Int) (st:HSt),vs=[.ref m,.ref cd,.int p,.ref o]/\J m=some (.ins U b [])/\I m=none/\aA I J/\HoH C 8 J H o c pl d g st/\
 ∀a,MaH C U I a m b cd o c pl d g ⟨p,st.bx,st.kvs,st.rows⟩ 0->Q .non a
theorem sD{C I:Addr}(B:Bi mg)(c:eV K mg "Machine" I)(n:jL K I)(D:gU K I):cV P w K mg base 1 I "__init__" Ew (Ke K C I):=by
 refine D.has c.cl sk (by intro _ _ _ _;walk_at"ln") (fun f i A a s H vs Q E u h=> ?_)
 obtain⟨r,v,m,U,cd,o,x,pl,F,p,g,st,rfl,hm,J,j,b,q⟩:=h;have y:=c.cl;have n2:=n.code;have n3:=n.place;have n4:=n.holding;have n5:=n.turns;have ho:=b.same _ _ hm
 refine⟨_,(aa (cG (pv 0) (pv 1) (by rfl))
   (aa (cG (pv 0) (pv 2) (by rfl))
   (aa (cG (pv 0) (pv 3) (by rfl))
   (ad (cG (pv 0) ac (by rfl)))))),?_⟩
 walk_at"k";have l:=b.write (.ins I U [("code",.ref cd)]) hm (fun _ z=>by cases z)
 have e:=l.write (.ins I U [("code",.ref cd),("place",.int p)]) ae (fun _ z=>by cases z)
 have k:=e.write (.ins I U [("code",.ref cd),("place",.int p),("holding",.ref o)]) ae (fun _ z=>by cases z)
 have d:=k.write (.ins I U [("code",.ref cd),("place",.int p),("holding",.ref o),("turns",.int 0)]) ae (fun _ z=>by cases z)
 exact q _ ⟨⟨_,fO J (fO J (fO J (fO J j))),J,ae,d⟩⟩
structure OQ (H0 H:Hp) (q:Addr) (R:(Str × List Int) × MSt × Int):Prop where
 ex:∃(eq sq tb db rw:Addr) (es:List (Addr × Addr)),H q=some (.tup [.ref eq,.ref sq,.ref rw,.int R.2.2])/\H eq=some (.tup (.str R.1.1::R.1.2.map V.int))/\H sq=some (.tup [.int R.2.1.p,.ref tb,.ref db])/\H tb=some (.tup (R.2.1.bx.map V.int))/\H db=some (.dK R.2.1.kvs)/\
  H rw=some (.lst ((es.map (·.1)).map V.ref))/\H0 rw=none/\H0 db=none/\(es.map (·.2)).Nodup/\y8 H0 H db es R.2.1.rows
def LD(K:Frag):Sp:=fun vs H Q _=>∃(pl cd sa a U c:Addr) (p:Int) (I:List Int) (o:List (Key × V)) (x:Fx) (C:List Int) (n:Nat),vs=[.ref pl,.ref cd,.ref sa,.ref c,.int n]/\SqT K H sa [.int p,.ref a,.ref U]/\SqT K H a (I.map V.int)/\H U=some (.dK o)/\Bxs I/\zX o/\o.length<=2000/\
 En K H pl c x/\MG x/\n<=1000/\SqL K H cd (C.map V.int)/\(∀y∈C,0<=y/\y<4294967296)/\(∀i b,o9 C i=some b->b=(0,[]))/\∀q J,aA H J->OQ H J q (hU x C n ⟨p,I,o,[]⟩ 0)->zX (hU x C n ⟨p,I,o,[]⟩ 0).2.1.kvs->Bxs (hU x C n ⟨p,I,o,[]⟩ 0).2.1.bx->Q (.ref q) J
theorem OV{o:Addr}{n:Nat}:V.ref o::([V.int (n:Int)]++[])=[V.ref o,V.int ((0:Int)+(n:Int))]:=by rw[Int.zero_add];rfl
theorem Mu{C b:Addr}(B:Bi mg)(fQ:eV K mg "Holding" C)(nH:m_ K C)(eJ:eV K mg "Machine" b)(n:jL K b)(D:Np K mg)(uN:cV P w K mg base 1 C "__init__" FM (Hs K C))
  (uj:cV P w K mg base 1 b "__init__" Ew (Ke K C b)) (wx:cV P w K mg base 7 b "run_on" FH (Fl K C b)):Has P w K mg base 8 "run" Fw (LD K):=by
 refine D.has Ao (by intro _ _ _ _;walk_at"ln") (fun f bQ A X s H vs Q E hr h=> ?_)
 obtain⟨pl,cd,sa,bt,md,rl,p,bx,c,x,ws,nn,rfl,aN,aR,aw,T,aT,bG,en,fx,bc,Z,aX,a7,q⟩:=h;have hc:=eJ.cl;have bg:=fQ.cl;have n1:=n.place;have n2:=n.turns;have n3:=nH.boxes;have n4:=nH.memory;have n5:=nH.rows;have bw:=en.plan.at_;have p4:atI [V.int x.pk,V.int x.pb,V.int x.pm,V.int x.ps,V.int x.pg] 4=some (.int x.pg):=bq (j:=4) rfl
 refine⟨_,(aa (psS 5 Ao.nd (yP fQ (uN.mono (by omega)) hr (by rfl) (pa5 (pv 0) (pX ay (pv 0) ac) (pX ay (pv 2) ac) (pX ay (pv 2) ac) (pv 3))))
   (aa (psS 6 Ao.nd (yP eJ (uj.mono (by omega)) hr (by rfl) (pa3 (pv 1) (pX ay (pv 2) ac) (pv 5))))
   (aa (psS 7 Ao.nd (dq (wx.mono (by omega)) hr (pv 6) (pa1 (pv 4))))
   (aa (psS 8 Ao.nd (az (pa3 (ce (pv 6) (by rfl)) (cj ig (by rfl) B.tuple ji (pa1 (ce (pv 5) (by rfl)))) (ce (pv 5) (by rfl)))))
   (ad (ah (az (pa4 (pv 7) (pv 8) (ce (pv 5) (by rfl)) (ce (pv 6) (by rfl)))))))))),?_⟩
 walk_at"k";intro o dx ho aW ar;have a6:upd H dx (.own o) o=none:=by rw[aj (SD ar)];exact ho
 refine⟨8,H,o,dx,pl,bt,md,rl,x.pg,bx,c,rfl,ae,ho,dE a6 (ag aW _),aR,aw,T,aT,fun H1 U=>⟨rfl,?_⟩⟩
 have a':=U.same.tup aN;walk_at"g";intro m M l L z;have aL:upd H1 M (.own m) m=none:=by rw[aj (SD z)];exact l
 have a:H m=none:=none_of U.same l;have r:H M=none:=none_of U.same L;refine⟨H,_,m,M,cd,o,dx,pl,rl,p,x.pg,_,rfl,ae,a,?_,(U.add (.own m) L).add (.ins b M []) aL,fun H2 k=>⟨rfl,?_⟩⟩
 .exact dE (by rw[aj (SD z)];exact a) (ag r _)
 have ba:=k.at;walk_at"g";refine⟨OV,k,en,fx,⟨SK _,by show(c.length:Int)<=2000+0+100*((0:Nat):Int);lia⟩,V2 0,by lia,Z,aX,a7,fun v N I ev=> ?_⟩
 obtain⟨eq,rfl,aG⟩:=ev;generalize hU x ws nn ⟨p,bx,c,[]⟩ 0=R at*;have Y:=I.at;obtain⟨Hm,s0,m0,bB,hh⟩:=I.ex;obtain⟨bl,y,rw,es,au,hb,ab,aF,o0,b0,m1,w0,bb,nd,F⟩:=hh.ex;have bR:N bl=some (.lst (R.2.1.bx.map V.int)):=hb;have u:N y=some (.dK R.2.1.kvs):=ab;clear hb;walk_at"g";intro G d;have O:=gw (o:= .tup (R.2.1.bx.map V.int)) d Y;have aS:=gw (o:= .tup (R.2.1.bx.map V.int)) d au;walk_at"g";intro sq J;have bJ:=gw (o:= .tup [.int R.2.1.p,.ref G,.ref y]) J O;have bo:=gw (o:= .tup [.int R.2.1.p,.ref G,.ref y]) J aS;walk_at"g";intro qq W;have i:aA N (upd (upd (upd N G (.tup (R.2.1.bx.map V.int))) sq (.tup [.int R.2.1.p,.ref G,.ref y])) qq (.tup [.ref eq,.ref sq,.ref rw,.int R.2.2])):=dE W (dE J (ag d _));refine q qq _ (I.same.trans i) ⟨⟨eq,sq,G,y,rw,es,ae,i _ _ aG,gw W ae,gw W (gw J ae),i _ _ u,i _ _ aF,none_of s0 w0,none_of s0 m1,nd,F.mono (fun _ _ e=>i _ _ e) (fun _ _ z1 z2 e=>⟨none_of s0 z1,i _ _ e,z2⟩)⟩⟩ I.mem I.bxs
def Os(xs:List V)(ps:List (List Nat)):Prop:=xs.length=ps.length/\ps.length<=20/\(((ps.map S).map (·.length)).sum)<=1000/\∀(i:Nat) (v:V),xs[i]? =some v->∃p,ps[i]? =some p/\OT v=some (S p)
def JV(K:Frag):Sp:=fun vs H Q _=>∃(a:Addr) (I:List V) (o:List (List Nat)),vs=[.ref a]/\SqT K H a I/\Os I o/\∀C,aA H C->Q (.str (S (c9 32 o))) C
theorem JE(B:Bi mg)(D:EE K mg):Has P w K mg base 1 "row_of" BA (JV K):=by
 refine D.has Jl (by intro _ _ _ _;walk_at"ln") (fun f m A b s H vs Q E v h=> ?_)
 obtain⟨a,c,o,rfl,r,⟨e,l,hs,k⟩,q⟩:=h;refine⟨_,(ad (ah (bU So Th Ti nF av (pa1 (ly (by rfl) (by rfl) (by rfl) (bk (sc0:=af vb) (N0:=["pieces"]) ["piece"] 1 []) (oN (pv 0)) (fun _ _ _ _=>(aJ (i:=0) (show List.Nodup (["piece"]:List Str) by decide) (by rfl) (by left;rfl))) (fun _ _ _ _=>(cj Cw (by rfl) B.str F3 (pa1 (pv 0))))))))),?_⟩
 walk_at"k";intro p I;refine qV (xs:=c) (fun j C d=>aD (C=((o.take j).map S).map V.str/\d p=some (.lst C)/\aA H d)) ⟨rfl,ae,ag I _⟩ ?_ ?_ ?_
 .rintro j C H1 ⟨rfl,p1,s1⟩
  exact s1.tup r
 .rintro j u C H1 F hF J ⟨rfl,p1,s1⟩
  obtain⟨y,U,n⟩:=k _ _ J;have x:(((o.take j).map S).map V.str).length<sizeLine:=by
   rw[be,be,Sg];exact SB (show _<=20 by lia) (by decide)
  walk_at"g";refine hF _ _ (aD.mk ⟨?_,ae,bZ I s1⟩)
  rw[tk1 U,R5,R5]
  rfl
 .rintro C H1 ⟨rfl,p1,s1⟩
  rw[e,Sl] at p1;have J:=u7 32 o;refine⟨_,p,o.map S,rfl,rfl,SqL.of p1,?_,?_⟩
  .rw[DH,bX,be];show _+o.length*1<=_
   lia
  .rw[DH,J];exact q _ s1
noncomputable def Jv(ns:List Int):List Nat:=c9 32 ([112,108,97,110]::ns.map nS)
noncomputable def M5(ns:List Int)(o:List Nat):List Nat:=Jv ns++10::Jf o
theorem LL:Str.ofString "plan"=S [112,108,97,110]:=by decide +kernel
theorem KZ{n:Int}(C: -10^10<n)(o:n<10^10):OT (.int n)=some (S (nS n)):=by
 show(if n.natAbs.log2<1920 then some (Str.ofString (toString n)) else none)=_
 rw[R9 (Hi C o),Nq]
theorem HJ{ns:List Int}(J:ns.length<=15)(o:∀n∈ns, -10^10<n/\n<10^10)(hd:List Nat)(I:hd.length<=100):Os (.str (S hd)::ns.map V.int) (hd::ns.map nS):=by
 refine⟨by simp,by rw[R4,be];lia,?_,?_⟩
 .have:∀ns:List Int,(∀n∈ns, -10^10<n/\n<10^10)->((((ns.map nS).map S).map (·.length)).sum)<=11*ns.length:=fun ns=>by
   induction ns with
   | nil=>exact fun _=>R3 _
   | cons n r ih=>
    intro h;have:=ih fun m hm=>h m (R8 _ hm)
    obtain⟨n0,n1⟩:=h n Sn;have C:=FQ n0 n1;rw[Ss,Ss,Ss,TB,bX,R4]
    lia
  have:=this ns o;rw[Ss,Ss,TB,bX]
  lia
 .intro i v h
  cases i with
  | zero=>
   obtain rfl:V.str (S hd)=v:=Sj h;exact⟨hd,rfl,rfl⟩
  | succ i=>
   obtain⟨n,en,rfl⟩:=IT (show(ns.map V.int)[i]? =some v from h);obtain⟨n0,n1⟩:=o n (Sa en);refine⟨nS n,?_,KZ n0 n1⟩
   show(ns.map nS)[i]? =_
   rw[Sx,en]
   rfl
theorem mU{c n:Nat}:∀{ps:List (List Nat)},(∀p∈ps,p.length<=n)->(c9 c ps).length<=(n+1)*ps.length
 | [],_=>SK _
 | [p],h=>by
  have:=h p Sn;show p.length<=(n+1)*1
  lia
 | p::q::r,h=>by
  have:=h p Sn;have:=mU (c:=c) (ps:=q::r) fun x o=>h x (R8 _ o)
  show(p++c::c9 c (q::r)).length<=(n+1)*((q::r).length+1)
  rw[RZ,R4,Nat.mul_succ]
  lia
theorem KC(o:List Nat):(Jf o).length<=73*((o.length+7) / 8):=by
 unfold Jf;refine RY (mU (n:=72) fun p C=> ?_) ?_
 .obtain⟨i,_,rfl⟩:=SY.mp C;exact RY (Ec _) (RY (TU 9 (C8 o i)) (by decide))
 .unfold Bo;rw[be,Vg];exact R3 _
theorem JP{ns:List Int}(h:∀n∈ns, -10^10<n/\n<10^10):(Jv ns).length<=12*(ns.length+1):=by
 unfold Jv;refine RY (mU (n:=11) fun p o=> ?_) (by rw[R4,be];exact R3 _)
 rcases Se.mp o with rfl | o
 .decide
 .obtain⟨n,hn,rfl⟩:=SY.mp o;exact FQ (h n hn).1 (h n hn).2
def Ob(K:Frag):Sp:=fun vs H Q _=>∃(a b:Addr) (C:List Int) (o:List Nat),vs=[.ref a,.ref b]/\SqT K H a (C.map V.int)/\C.length=5/\aD (∀n∈C, -10^10<n/\n<10^10)/\SqL K H b (o.map wV)/\BT o/\o.length<=3000/\∀I,aA H I->Q (.str (S (M5 C o))) I
theorem yX(B:Bi mg)(D:tK K mg)(F:Has P w K mg base 1 "row_of" BA (JV K))(G:Has P w K mg base 3 "code_text" D9 (Qq K)):Has P w K mg base 4 "fenced_text" jE (Ob K):=by
 refine D.has zN (by intro _ _ _ _;walk_at"ln") (fun f N A i s H vs Q E u h=> ?_)
 obtain⟨a,b,o,J,rfl,X,k,p,hw,wo,wl,q⟩:=h;refine⟨_,(ad (ah (ax fA (ax fA (pcH F u (pa1 (ax yB (az (pa1 av)) (pv 0)))) av) (pcH G u (pa1 (pv 1)))))),?_⟩
 walk_at"k";intro m d;generalize U:upd H m _=c;have I:=upA U;have n:=upS d U;clear U;have k1:SqT K c m [.str (Str.ofString "plan")]:=SqT.of I;have R:=n.tup X;have L:[V.str (Str.ofString "plan")]≠[]:=fun z=>by cases z
 have C:o.map V.int≠[]:=fun z=>by rw[Uq] at z;rw[z] at k;cases k
 have x:[V.str (Str.ofString "plan")].length+(o.map V.int).length<=sizeLine:=by
  rw[be,k]
  decide
 walk_at"g";refine⟨fun z=>absurd z C,fun _ j l=> ?_⟩
 have v:=n.trans (ag l (.tup ([.str (Str.ofString "plan")]++o.map V.int)));have k2:SqT K (upd c j (.tup ([.str (Str.ofString "plan")]++o.map V.int))) j (.str (S [112,108,97,110])::o.map V.int):=SqT.of (by rw[ae,LL];rfl)
 generalize upd c j (.tup ([.str (Str.ofString "plan")]++o.map V.int))=Z at*;have pk:=HJ (show o.length<=15 by lia) p.out [112,108,97,110] (by decide)
 walk_at"g";intro H3 r;have T:=(v.trans r).seq hw;have Y:=JP p.out;have lt:=KC J;have M:(Str.ofString "\n").length=1:=by decide
 have hs:sizeLine=16777216:=Ut;have y:(S (c9 32 ([112,108,97,110]::o.map nS))).length+(Str.ofString "\n").length<=sizeLine:=by
  rw[bX,M];show(Jv o).length+1<=_
  lia
 walk_at"g";intro H4 O;have W:(S (c9 32 ([112,108,97,110]::o.map nS))++Str.ofString "\n").length+(S (Jf J)).length<=sizeLine:=by
  rw[EM,vW,bX,bX,RZ];show(Jv o).length+1+_<=_
  lia
 walk_at"g";have e:S (c9 32 ([112,108,97,110]::o.map nS))++Str.ofString "\n"++S (Jf J)=S (M5 o J):=by
  rw[EM,vW,vW];unfold M5 Jv;rw[SQ]
  rfl
 rw[e];exact q _ ((v.trans r).trans O)
noncomputable def Jt(k b:Int):Bool:=decide (k<=20) && (decide (b %2^k.toNat=0) && decide (b+2^k.toNat<=4294967296))
def Qn:Sp:=fun vs H Q _=>∃k b:Int,vs=[.int k,.int b]/\0<=k/\Q (.bl (Jt k b)) H
theorem FY(B:Bi mg)(D:BH K mg)(I:Has P w K mg base 1 "power_of_two" sJ nD):Has P w K mg base 2 "is_room" D0 Qn:=by
 refine D.has GO (by intro _ _ _ _;walk_at"ln") (fun f J A o s H vs Q E C h=> ?_)
 obtain⟨k,b,rfl,U,q⟩:=h;obtain⟨k,rfl⟩:=SI U;unfold Jt at q;refine⟨_,(ad (ah (gL (pcE oR (pv 0) ac) (gL (pcE aK (ax eU (pv 1) (pcH I C (pa1 (pv 0)))) ac) (gg (pcE oR (ax aZ (pv 1) (pcH I C (pa1 (pv 0)))) (dG (v:=4294967296) (by rfl)))))))),?_⟩
 walk_at"k";rw[Tg] at q;have a:(0:Int)<2^k:=Int.pow_pos (by decide)
 refine bO (fun c=> ?_) (fun c=> ?_)
 .have h64:k<=64:=by lia
  rw[R0 c,Uo] at q;walk_at"g";refine bO (fun d=> ?_) (fun d=> ?_)
  .injection d with d
   rw[R0 d,Uo] at q;walk_at"g";exact q
  .rw[RW (fun z=>d (congrArg V.int z)),To] at q
   exact q
 .rw[RW c,To] at q;exact q
noncomputable def AT(ns:List Int):Bool:=ns.all (fun n=>decide (0<=n)) && (Jt (ns.getD 0 0) (ns.getD 1 0) && (decide (ns.getD 2 0+ns.getD 3 0<=7) && decide (ns.getD 4 0<=16)))
def Q2(K:Frag):Sp:=fun vs H Q _=>∃(a:Addr) (o:List Int),vs=[.ref a]/\SqL K H a (o.map V.int)/\o.length=5/\Q (.bl (AT o)) H
theorem F2(B:Bi mg)(D:A3 K mg)(i:Has P w K mg base 2 "is_room" D0 Qn):Has P w K mg base 3 "is_plan" Fd (Q2 K):=by
 refine D.has Gu (by intro _ _ _ _;walk_at"ln") (fun f k A C s H vs Q E l h=> ?_)
 obtain⟨a,I,rfl,v,p,q⟩:=h;refine⟨_,(ad (ah (gL (pcE zZ (aI (Jq (by rfl)) (by rfl) B.min Gz (pa1 (pv 0))) ac) (gL (pcH i l (pa2 (pX bA (pv 0) ac) (pX bA (pv 0) ac))) (gL (pcE oR (ax aZ (pX bA (pv 0) ac) (pX bA (pv 0) ac)) ac) (gg (pcE oR (pX bA (pv 0) ac) ac))))))),?_⟩
 walk_at"k";obtain⟨n0,n1,n2,n3,n4,rfl⟩:∃n0 n1 n2 n3 n4,I=[n0,n1,n2,n3,n4]:=by
  match I,p with
  | [n0,n1,n2,n3,n4],_=>exact⟨n0,n1,n2,n3,n4,rfl⟩
 have r:atI ([n0,n1,n2,n3,n4].map V.int) 3=some (.int n3):=bq (j:=3) rfl;have u:atI ([n0,n1,n2,n3,n4].map V.int) 4=some (.int n4):=bq (j:=4) rfl;refine⟨fun z=>(by cases z),fun m hm o=> ?_⟩
 unfold AT at q;have J:[n0,n1,n2,n3,n4].all (fun n=>decide (0<=n))=decide (0<=m):=by
  by_cases z:0<=m
  .rw[R0 z,S7];intro n b;have:=o n b;exact R0 (by lia)
  .rw[RW z,List.all_eq_false];exact⟨m,hm,by rw[RW z];decide⟩
 rw[J] at q;have q:Q (.bl (decide (0<=m) && (Jt n0 n1 && (decide (n2+n3<=7) && decide (n4<=16))))) H:=q;have U:0<=m->0<=n0:=fun z=>Int.le_trans z (o n0 Sn)
 clear J hm o;walk_at"g";refine bO (fun c=> ?_) (fun c=> ?_)
 .have U:=U c;rw[R0 c,Uo] at q;walk_at"g"
  cases e:Jt n0 n1 with
  | false=>
   rw[e,To] at q;exact q
  | true=>
   rw[e,Uo] at q;walk_at"g";refine bO (fun d=> ?_) (fun d=> ?_)
   .rw[R0 d,Uo] at q;walk_at"g";exact q
   .rw[RW d,To] at q;exact q
 .rw[RW c,To] at q;exact q
noncomputable def u8:List (Option Int)->Option (List Int)
 | []=>some []
 | none::_=>none
 | some x::r=>(u8 r).map (x:: ·)
noncomputable def oV:Option Int->V
 | none=> .non
 | some n=> .int n
theorem HZ:∀l:List (Option Int),inV .non (l.map oV)=(u8 l).isNone
 | []=>rfl
 | none::r=>rfl
 | some x::r=>by
  show(eqV (.int x) .non || inV .non (r.map oV))=_
  rw[HZ r,u8]
  cases u8 r <;> rfl
theorem pW:∀{l:List (Option Int)}{ns:List Int},u8 l=some ns->l.map oV=ns.map V.int
 | [],ns,h=>by cases h;rfl
 | none::r,ns,h=>by cases h
 | some x::r,ns,h=>by
  rw[u8] at h
  cases e:u8 r with
  | none=>rw[e] at h;cases h
  | some ms=>
   rw[e] at h
   cases h
   rw[Ss,Ss,pW e]
   rfl
theorem MC(l:List (Option Int)):(l.map oV).all fY=true:=by
 rw[S7];intro v C;obtain⟨o,_,rfl⟩:=SY.mp C
 cases o <;> rfl
noncomputable def rdP(o:List Nat):Option (List Int):=
 if (aB 32 o).length=6/\(aB 32 o).head? =some [112,108,97,110] then
  match u8 ((aB 32 o).tail.map rdN) with
  | none=>none
  | some ns=>if AT ns=true then some ns else none
 else none
def Q1:Sp:=fun vs H Q _=>∃l:List Nat,vs=[.str (S l)]/\l.length<=50000/\(rdP l=none->∀o,aA H o->Q .non o)/\(∀C,rdP l=some C->∀p o,o p=some (.tup (C.map V.int))->H p=none->aA H o->Q (.ref p) o)
theorem Cf(B:Bi mg)(D:xl K mg)(eM:Has P w K mg base 2 "read_number" si KN)(Je:Has P w K mg base 3 "is_plan" Fd (Q2 K)):Has P w K mg base 4 "read_plan" kF Q1:=by
 refine D.has oz (by intro _ _ _ _;walk_at"ln") (fun f aF A R s H vs Q E hr h=> ?_)
 obtain⟨l,rfl,hl,J,a⟩:=h;have hz:(S l).length<=sizeLine:=by rw[bX];exact RY hl (by decide)
 have hy:((Str.ofString " ").length==0)=false:=by decide +kernel
 have es:Txt.split (S l) (Str.ofString " ")=(aB 32 l).map S:=by rw[DH];exact ng 32 l
 have aw:(Txt.split (S l) (Str.ofString " ")).length<=sizeLine:=by
  rw[es,be];exact RY (cE 32 l) (RY (show l.length+1<=50001 by lia) (by decide))
 have ab:=cE 32 l;obtain⟨I,pt,Y⟩:=jK 32 l;have er:rdP l=if pt.length=5/\I=[112,108,97,110] then match u8 (pt.map rdN) with | none=>none | some o=>if AT o=true then some o else none else none:=by
  unfold rdP;rw[Y]
  by_cases z:pt.length=5/\I=[112,108,97,110]
  .rw[R9 z,R9 ⟨by rw[R4,z.1],by rw[z.2];rfl⟩]
   rfl
  .rw[R6 z,R6 (fun y=>z ⟨by have:=y.1;rw[R4] at this;lia,Sj y.2⟩)]
 rw[er] at J a;have q:∀p∈pt,p.length<=100000:=fun p k=>RY (fB (l:=l) (c:=32) (by rw[Y];exact R8 _ k)).1 (RY hl (by decide))
 refine⟨_,(aa (psS 1 oz.nd (bU So TV TX q_ (pv 0) (pa1 av)))
   (aa (aP (bz (aC (PW.pt (gX (pcT mQ (aI aH (by rfl) B.len bD (pa1 (pv 1))) ac) (eY (pcT mQ (pX bA (pv 1) ac) av)))) (ad (ah cO)) ao)))
   (aa (Il (i:=2) (by rfl) (by rfl) (by rfl) (bk (sc0:=af kZ) (N0:=["row","pieces","numbers"]) ["piece"] 1 []) oz.nd (by rfl) (by left;rfl) (nV (bK iq (pv 1) (cq ac) cQ)) (fun _ _ _ _=>(aJ (i:=0) (show List.Nodup (["piece"]:List Str) by decide) (by rfl) (by left;rfl))) (fun _ _ _ _=>(pcH eM hr (pa1 (pv 0)))))
   (aa (aP (bz (aC (PW.pt (gX (n9 rY cO (pv 2) (by rfl)) (eY (ff (bN (pcH Je hr (pa1 (pv 2)))))))) (ad (ah cO)) ao)))
   (ad (ah (cj ig (by rfl) B.tuple ji (pa1 (pv 2))))))))),?_⟩
 walk_at"k";intro v T;rw[es,Y];have G:=ag T (.lst (((I::pt).map S).map V.str));have l1:upd H v (.lst (((I::pt).map S).map V.str)) v=some (.lst (((I::pt).map S).map V.str)):=ae;generalize upd H v (.lst (((I::pt).map S).map V.str))=H1 at*;have au:=SqL.of (K:=K) l1;walk_at"n";walk_at"n";refine⟨fun W C=>aD (C=H1/\W=[some (.str (S l)),some (.ref v),none]/\pt.length=5/\I=[112,108,97,110]),?_,?_⟩
 .have el:decide (V.int (((((I::pt).map S).map V.str).length:Nat):Int)=V.int 6)=decide (pt.length=5):=by
   rw[be,be,R4]
   by_cases z:pt.length=5
   .rw[R0 z,z]
    rfl
   .rw[RW z,RW (fun e=>z (by injection e with e;lia))]
  walk_at"g";dsimp only;rw[el]
  by_cases c5:pt.length=5
  .rw[R0 c5];have i0:atI (((I::pt).map S).map V.str) 0=some (.str (S I)):=nj;have e0:decide (V.str (S I)=V.str (Str.ofString "plan"))=(I == [112,108,97,110]):=by rw[LL,zW]
   walk_at"g";dsimp only;rw[e0]
   by_cases N:I=[112,108,97,110]
   .rw[Tc.mpr N];exact aD.mk ⟨rfl,rfl,c5,N⟩
   .rw[Sy.mpr N];exact J (R6 (fun z=>N z.2)) _ G
  .rw[RW c5];exact J (R6 (fun z=>c5 z.1)) _ G
 rintro Z2 H2 ⟨rfl,rfl,h5,rfl⟩
 have J:(match u8 (pt.map rdN) with | none=>none | some o=>if AT o=true then some o else none)=none->∀C,aA H C->Q .non C:=fun z=>J (by rw[R9 ⟨h5,rfl⟩];exact z)
 have a:∀o,(match u8 (pt.map rdN) with | none=>none | some o=>if AT o=true then some o else none)=some o->∀p C,C p=some (.tup (o.map V.int))->H p=none->aA H C->Q (.ref p) C:=fun o z=>a o (by rw[R9 ⟨h5,rfl⟩];exact z)
 have ec:fC ((([112,108,97,110]::pt).map S).map V.str) (some 1) none=(pt.map S).map V.str:=Qu _ _;walk_at"g";intro O d;rw[ec];have n:=G.trans (ag d (.lst ((pt.map S).map V.str)));have l2:upd H2 O (.lst ((pt.map S).map V.str)) O=some (.lst ((pt.map S).map V.str)):=ae;have Z:H O=none:=FC G d;generalize upd H2 O (.lst ((pt.map S).map V.str))=H3 at*;have X:=SqL.of (K:=K) l2;walk_at"g";intro p k;refine r_ (xs:=(pt.map S).map V.str) (fun j m C=>aD (m=((pt.take j).map rdN).map oV/\C p=some (.lst m)/\aA H3 C)) ⟨rfl,ae,ag k _⟩ ?_ ?_ ?_
 .rintro j m H4 ⟨rfl,p1,s4⟩
  exact s4.seq X
 .rintro j u m H4 F hF hj ⟨rfl,p1,s4⟩
  obtain⟨x,ex,rfl⟩:=OG hj;have ar:=q x (Sa ex);have hz:(((pt.take j).map rdN).map oV).length<sizeLine:=by
   rw[be,be,Sg];exact SB (show _<=5 by lia) (by decide)
  walk_at"g";refine hF _ _ (aD.mk ⟨?_,ae,bZ k s4⟩)
  rw[tk1 ex,R5,R5];show _=_++[oV (rdN x)]
  cases rdN x <;> rfl
 .rintro m H4 ⟨rfl,p1,s4⟩
  have l5:((pt.map S).map V.str).length=pt.length:=by rw[be,be]
  rw[l5,Sl] at p1;have fl:=MC (pt.map rdN);have L:=HZ (pt.map rdN);have sl:=SqL.of (K:=K) p1;have aG:H p=none:=FC n k;walk_at"n";walk_at"n";refine⟨fun W C=>aD (C=H4/\W=[some (.str (S l)),some (.ref v),some (.ref p)]/\∃o,u8 (pt.map rdN)=some o/\AT o=true),?_,?_⟩
  .cases U:u8 (pt.map rdN) with
   | none=>
    rw[U] at J L;walk_at"g";dsimp only;rw[show(if false=true then !inV .non ((pt.map rdN).map oV) else inV .non ((pt.map rdN).map oV))=true from L]
    exact J rfl _ (n.trans s4)
   | some o=>
    rw[U] at J a L;walk_at"g";dsimp only;rw[show(if false=true then !inV .non ((pt.map rdN).map oV) else inV .non ((pt.map rdN).map oV))=false from L]
    have nl:o.length=5:=by
     have:=congrArg List.length (pW U);rw[be,be,be] at this
     lia
    rw[pW U] at sl;walk_at"g"
    cases M:AT o with
    | false=>exact J (R6 (by rw[M];decide)) _ (n.trans s4)
    | true=>exact aD.mk ⟨rfl,rfl,o,rfl,M⟩
  rintro Z5 H5 ⟨rfl,rfl,o,U,M⟩
  rw[U] at a;rw[pW U] at sl;walk_at"g";intro r b;exact a o (R9 M) r _ ae (FC (n.trans s4) b) ((n.trans s4).trans (ag b _))
noncomputable def hdL(l:List Nat):List Nat:=l.takeWhile (· != 10)
noncomputable def tlL(l:List Nat):List Nat:=l.dropWhile (· != 10)
theorem NU:∀{l:List Nat}{i:Nat},l[i]? =some 10->(∀k,k<i->l[k]? ≠some 10)->hdL l=l.take i/\tlL l=l.drop i
 | [],i,h,_=>by simp at h
 | a::r,0,h,_=>by
  have:a=10:=by simpa using h
  subst this;exact⟨rfl,rfl⟩
 | a::r,i+1,h,hn=>by
  have o:a≠10:=fun z=>hn 0 (by lia) (by rw[z];rfl)
  obtain⟨C,I⟩:=NU (l:=r) (i:=i) (by simpa using h) fun k J=>by simpa using hn (k+1) (by lia)
  unfold hdL tlL at*;rw[TQ,R9 (VU.mpr o),List.take_succ_cons,C,UT,R9 (VU.mpr o),List.drop_succ_cons,I];exact⟨rfl,rfl⟩
theorem NB:∀{l:List Nat},(∀i:Nat,l[i]? ≠some 10)->hdL l=l/\tlL l=[]
 | [],_=>⟨rfl,rfl⟩
 | a::r,h=>by
  have o:a≠10:=fun z=>h 0 (by rw[z];rfl)
  obtain⟨C,I⟩:=NB (l:=r) fun i=>by simpa using h (i+1)
  unfold hdL tlL at*;rw[TQ,R9 (VU.mpr o),C,UT,R9 (VU.mpr o),I];exact⟨rfl,rfl⟩
theorem L1(l:List Nat):∃a b,Txt.partition (S l) (S [10])=(S (hdL l),S a,S b)/\a++b=tlL l:=by
 unfold Txt.partition;rcases StrLaws.occ_head (S l) (S [10]) 1 (R3 1) with⟨I,c⟩|⟨i,r,I,o,c⟩
 .rw[I];obtain⟨C,U⟩:=NB (l:=l) fun i z=>c i (mt.mpr z)
  exact⟨[],[],by rw[C];rfl,U.symm⟩
 .rw[I];have o:=mt.mp o;obtain⟨C,U⟩:=NU o fun k d z=>c k d (mt.mpr z)
  have J:=(RX.mp o).1;refine⟨[10],l.drop (i+1),?_,?_⟩
  .show((⟨l.toArray.extract 0 i⟩:Str),S [10],(⟨l.toArray.extract (i+1) l.length⟩:Str))=_
   rw[C]
   congr 2
   .congr 1
    rw[UP]
    simp
   .congr 2
    rw[UP]
    simp
    exact Tt (by rw[SH];lia)
  .rw[U,SG J,(RX.mp o).2]
   rfl
noncomputable def rdF(l:List Nat):Except Nat (List Int × List Nat):=match rdP (hdL l) with
 | none=> .error 1
 | some ns=>(rdC (tlL l)).map fun o=>(ns,o)
def OD(C:Addr):Sp:=fun vs H Q E=>∃l:List Nat,vs=[.str (S l)]/\l.length<=50000/\(∀U J,rdF l= .ok (U,J)->∀p a b o,o p=some (.tup [.ref a,.ref b])->o a=some (.tup (U.map V.int))->o b=some (.lst (J.map wV))->aA H o->Q (.ref p) o)/\
 (∀c:Nat,rdF l= .error c->∀I o,o I=some (xdo I [("line",.int (c:Int))])->aA H o->E (.ref C) (some I) o)
theorem zg{U Y:Addr}(B:Bi mg)(D:tF K mg)(N:mg "NoText"=some (.ref U))(bR:yn P w K mg base 1 U Y ["self","line"] (Hj U ["line"]))(R:Has P w K mg base 4 "read_plan" kF Q1)
  (pP:dA P w K mg base 5 "read_code" gr [] (Qw U)):dA P w K mg base 6 "read_fenced" gr [] (OD U):=by
 refine D.hasO kq (by intro _ _ _ _;walk_at"ln") (fun f X A u s H vs Q E v h=> ?_)
 obtain⟨l,rfl,k,O,z⟩:=h;obtain⟨pa,o,F,J⟩:=L1 l;rw[<- EM] at F;have hz:(S l).length<=sizeLine:=by rw[bX];exact RY k (by decide)
 have hy:((Str.ofString "\n").length==0)=false:=by decide +kernel
 have l1:(hdL l).length<=50000:=RY (Tu (Vj _)) k;have l2:(pa++o).length<=50000:=by rw[J];exact RY (Tu (Vk _)) k
 have l3:aD ((S pa).length+(S o).length<=sizeLine):=aD.mk <| by
  rw[bX,bX, <-RZ];exact RY l2 (by decide)
 refine⟨_,(aa (bE (psS 1 kq.nd (bU So VV VW vz (pv 0) (pa1 av))))
   (aa (bE (psS 2 kq.nd (pcH R v (pa1 (pX ay (pv 1) ac)))))
   (aa (aC (jT (kf (pv 2))) (ad (jM (bR.mono (by omega)) v (by rfl) N (by decide) (pa1 ac))) ao)
   (ad (ah (az (pa2 (pv 2) (b_ (pP.mono (by omega)) v (by rfl) (ij (by rfl)) (pa1 (ax fA (pX ay (pv 1) ac) (pX ay (pv 1) ac))))))))))),?_⟩
 walk_at"o";intro i q;rw[F];dsimp only;have p:=ag q (.tup [.str (S (hdL l)),.str (S pa),.str (S o)]);have L:upd H i (.tup [.str (S (hdL l)),.str (S pa),.str (S o)]) i=some (.tup [.str (S (hdL l)),.str (S pa),.str (S o)]):=ae;generalize upd H i (.tup [.str (S (hdL l)),.str (S pa),.str (S o)])=H1 at*;walk_at"g";refine⟨fun en y a=> ?_,fun x en p2 y j _ a=> ?_⟩
 .have ee:rdF l= .error 1:=by unfold rdF;rw[en]
  walk_at"g";show ∀e:Addr,y e=none->_
  intro e he;refine⟨e,_,rfl,rfl,ae,fun c I ne=>⟨rfl,some c,?_,?_⟩⟩
  .rw[aj (SD ne),ae]
  .exact z 1 ee c _ (xm ne) ((p.trans a).trans (kY he I))
 .have t2:=a _ _ L;have d:rdF l=(rdC (pa++o)).map fun r=>(x,r):=by unfold rdF;rw[en,J]
  have Z:S pa++S o=S (pa++o):=vW _ _;walk_at"g";refine⟨l3.out,?_⟩
  dsimp only;rw[Z];walk_at"g";refine⟨fun r n M W m _ b=> ?_,fun T n c W I b=> ?_⟩
  .rw[n] at d;walk_at"g";intro G C;exact O x r d G p2 M _ ae (ag C _ _ _ (b _ _ j)) (ag C _ _ _ m) (((p.trans a).trans b).trans (ag C _))
  .rw[n] at d;exact z T d c _ I ((p.trans a).trans b)
def Oz(K:Frag)(C N:Addr):Sp:=fun vs H Q E=>∃(t:List Nat) (g:Int),vs=[.str (S t),.int g]/\t.length<=50000/\(∀I,rdG t= .ok I->(∀blk∈I,(∀c∈blk,aQ 8 262144 c.1 c.2)/\blk.length<=25)/\I.length<=16)/\
 (∀I,rdG t= .ok I->l_ g I=none->∀p a o,o p=some (.tup (a.map V.ref))->RlA o a I->aA H o->Q (.ref p) o)/\
 (∀I k U,rdG t= .ok I->l_ g I=some (k,U)->∀J o,o J=some (xdo J [("block",.int k),("at",.int U)])->aA H o->E (.ref N) (some J) o)/\
 (∀b:Nat,rdG t= .error b->∀J o,o J=some (xdo J [("line",.int (b:Int))])->aA H o->E (.ref C) (some J) o)
theorem CP{q u:Addr}(B:Bi mg)(D:xq K mg)(M:dA P w K mg base 5 "read_blocks" gr [] (QH q))(y:dA P w K mg base 5 "check_guest" EA [.int 16] (PZ K u)):dA P w K mg base 6 "guest_for" BN [] (Oz K q u):=by
 refine D.hasO vt (by intro _ _ _ _;walk_at"ln") (fun f F A c s H vs Q E r h=> ?_)
 obtain⟨l,g,rfl,O,qv,v,L,G⟩:=h
 refine⟨_,(aa (psS 2 vt.nd (b_ (M.mono (by omega)) r (by rfl) (ij (by rfl)) (pa1 (pv 0))))
   (aa (bj (b_ (y.mono (by omega)) r (by rfl) (ij (by rfl)) (pa2 (pv 2) (pv 1))))
   (ad (bE (ah (pv 2)))))),?_⟩
 walk_at"o";refine⟨fun a C p J b n m U=> ?_,fun x C i b o U=>G x C i b o U⟩
 obtain⟨v1,v2⟩:=qv a C;have N:GuH K b p J a:=⟨n,m,v1,v2⟩;walk_at"g";refine⟨fun d j I=> ?_,fun k e d i j o I=>L a k e C d i j o (U.trans I)⟩
 walk_at"g";exact v a C d p J _ (I _ _ n) (m.mono fun _ _ z=>I _ _ z) (U.trans I)
theorem HA{is g:List Ins}(h:∀C∈is,VI C):∀C∈fW is g,VI C:=by
 intro C o;unfold fW at o
 split at o
 .exact h C o
 .rcases SR.mp o with o | o
  .exact h C o
  .rw[(T8.mp o).2];exact A2
theorem Nn{b:List Ins}(h:∀o∈b,VI o):∀o∈(dP b).1,VI o:=by
 have:∀(b:List Ins) (st:Bk),(∀o∈b,VI o)->(∀o∈st.1,VI o)->∀o∈(b.foldl (fun st o=>OR st (grp o)) st).1,VI o:=by
  intro b
  induction b with
  | nil=>exact fun st _ h=>h
  | cons x r ih=>
   intro st I hs;refine ih _ (fun o C=>I o (R8 _ C)) (fun o C=> ?_)
   rcases SR.mp (show o∈fW st.1 (grp x)++grp x from C) with C | C
   .exact HA hs o C
   .exact wR (I x Sn) o C
 exact this b _ h (fun o C=>by cases C)
theorem N7{rk:Nat}{rb:Int}{b:List Ins}(h:∀o∈b,VI o):∀o∈(thD rk rb b).1,VI o:=by
 have:∀(b:List Ins) (st:Bk × Kn),(∀o∈b,VI o)->(∀o∈st.1.1,VI o)->∀o∈(b.foldl (thS rk rb) st).1.1,VI o:=by
  intro b
  induction b with
  | nil=>exact fun st _ h=>h
  | cons x r ih=>
   intro st I hs;refine ih _ (fun o C=>I o (R8 _ C)) (fun o C=> ?_)
   rcases SR.mp (show o∈fW st.1.1 (thG rk rb st.2 x)++thG rk rb (knB (fW st.1.1 (thG rk rb st.2 x)) st.2) x from C) with C | C
   .exact HA hs o C
   .exact wQ (I x Sn) o C
 exact this b _ h (fun o C=>by cases C)
theorem MA{n:Nat}{C:Ins}(h:VI C):∀y∈i9 (plc n C).1 (plc n C).2,0<=y/\y<4294967296:=by
 obtain⟨k,J⟩:=C
 by_cases o:k=13
 .subst o;obtain⟨x,rfl,_⟩:=aQ.jmp h rfl;intro y I;have e:y=13*134217728+(x*(n:Int)) %262144:=by
   have:y∈[(13:Int)*134217728+(x*(n:Int)) %262144]:=I;exact SN.mp this
  lia
 .by_cases h14:k=14
  .subst h14;obtain⟨a,x,rfl,a0,a1,_⟩:=aQ.jif h rfl;intro y I;have e:y=14*134217728+a*16777216+(x*(n:Int)) %262144:=by
    have:y∈[(14:Int)*134217728+a*16777216+(x*(n:Int)) %262144]:=I;exact SN.mp this
   lia
  .have e:plc n (k,J)=(k,J):=by unfold plc;rw[R6 o,R6 h14]
   rw[e];exact Jm h
theorem JA{n tot:Nat}{J:List Bk}(h:∀d∈J, ∀I∈d.1,VI I):∀y∈bf (vo n tot J),0<=y/\y<4294967296:=by
 intro y C;obtain⟨I,o,C⟩:=List.mem_flatMap.mp C;have st:I=(0,[])->0<=y/\y<4294967296:=fun z=>by
  subst z;have:y=0:=SN.mp C
  lia
 rcases SR.mp o with o | o
 .obtain⟨d,hd,o⟩:=List.mem_flatMap.mp o;rcases SR.mp o with o | o
  .obtain⟨kn',hk',rfl⟩:=SY.mp o;exact MA (h d hd kn' hk') y C
  .exact st (T8.mp o).2
 .exact st (T8.mp o).2
noncomputable def wdN(n tot:Nat)(o:List Bk):List Nat:=(bf (vo n tot o)).map Int.toNat
theorem Kb{n tot:Nat}{o:List Bk}(h:∀d∈o, ∀I∈d.1,VI I):(bf (vo n tot o)).map V.int=(wdN n tot o).map wV/\BT (wdN n tot o):=by
 have r:=JA (n:=n) (tot:=tot) h;unfold wdN;generalize bf (vo n tot o)=J at*
 constructor
 .rw[Vh];refine VH fun y C=> ?_
  have:=r y C;show V.int y=V.int ((y.toNat:Nat):Int)
  rw[Ur this.1]
 .intro w hw;obtain⟨y,C,rfl⟩:=SY.mp hw;have:=r y C
  lia
theorem sE.le{n b c:Nat}(h:sE n b)(o:n<=2^c):b<=c:=by
 rcases U_ c b with z | z
 .have:=h.2 c z
  lia
 .exact z
theorem E4{C:List Bk}(h:C≠[]):∃M,xv M C:=by
 induction C with
 | nil=>exact absurd rfl h
 | cons d r ih=>
  by_cases z:r=[]
  .subst z;exact⟨bun d,⟨d,Sn,rfl⟩,fun x o=>by rw[SN.mp o];exact R3 _⟩
  .obtain⟨M,⟨e,he,hM⟩,hl⟩:=ih z
   by_cases c:bun d<=M
   .exact⟨M,⟨e,R8 _ he,hM⟩,fun x o=>by
     rcases Se.mp o with rfl | o
     .exact c
     .exact hl x o⟩
   .exact⟨bun d,⟨d,Sn,rfl⟩,fun x o=>by
     rcases Se.mp o with rfl | o
     .exact R3 _
     .have:=hl x o
      lia⟩
theorem RlA.gst{H:Hp}:∀{C:List Addr}{I:List (List Ins)},RlA H C I->GSt K H C I:=fun {C I} h=>by
 refine⟨h.len,fun j b bk J U=> ?_⟩
 obtain⟨c,o,f1,f2,f3⟩:=h.get j bk U;rw[J] at f1
 cases f1
 refine⟨o,SqT.of f2,?_⟩
 have:∀{o:List Addr}{bk:List Ins},RnA H o bk->gf K H o bk:=fun {o}=>by
  induction o with
  | nil=>
   intro bk h
   match bk,h with
   | [],_=>exact True.intro
  | cons a r ih=>
   intro bk h
   match bk,h with
   | x::y,⟨h1,h2⟩=>exact⟨SqT.of h1,ih h2⟩
 exact this f3
theorem HG{m s M:Nat}{o:List Bk}(I:xv M o)(J:sE o.length m)(C:sE M s):(wdN (8*2^s) (2^m*(8*2^s)) o).length=8*2^(m+s):=by
 unfold wdN;rw[be,d8,Jx]
 .rw[Nat.pow_add, <-V8,U9 (2^m) 8,V8]
 .intro d hd;have U:=I.le d hd;have a:=C.1;unfold bun at U
  lia
 .exact Ug _ J.1
def Mj(D:Nat->Int->List Ins->Bk)(d e c:Addr):Sp:=fun vs H Q E=>∃(t:List Nat) (J:Nat) (U g:Int),vs=[.str (S t),.int J,.int U,.int g]/\t.length<=50000/\SpM.Room J U/\aD (0<=g/\g<=16)/\
 (∀C,rdG t= .ok C->aD (GuB C/\∀bk∈C,bk.length<=25/\∀f∈bk,f.1≠16))/\
 (∀C,rdG t= .ok C->l_ g C=none->∀M m s,xv M (C.map (D J U))->sE C.length m->sE M s->(7<m+s->∀o,aA H o->E (.ref c) none o)/\
  (m+s<=7->∀o,aA H o->Q (.str (S (M5 [(J:Int),U,(m:Int),(s:Int),g] (wdN (8*2^s) (2^m*(8*2^s)) (C.map (D J U)))))) o))/\
 (∀C k a,rdG t= .ok C->l_ g C=some (k,a)->∀I o,o I=some (xdo I [("block",.int k),("at",.int a)])->aA H o->E (.ref e) (some I) o)/\
 (∀b:Nat,rdG t= .error b->∀I o,o I=some (xdo I [("line",.int (b:Int))])->aA H o->E (.ref d) (some I) o)
theorem NZ{rk m s:Nat}{rb g:Int}(o:SpM.Room rk rb)(J:0<=g/\g<=16)(C:m+s<=7):∀n∈[(rk:Int),rb,(m:Int),(s:Int),g], -10^10<n/\n<10^10:=by
 intro n I;have c:=o.k20;have U:=o.b0;have a:=o.bW;have b:=SpM.pp rk;have e:n=rk\/n=rb\/n=m\/n=s\/n=g:=by simpa using I
 lia
theorem C7{aG aR bT:Addr}(B:Bi mg)(D:xD K mg)(gY:dA P w K mg base 6 "guest_for" BN [] (Oz K aG aR))(G4:dA P w K mg base 9 "make" tH [] (LA K bT))
  (eQ:Has P w K mg base 4 "fenced_text" jE (Ob K)):dA P w K mg base 10 "made_text" sT [] (Mj (fun _ _=>dP) aG aR bT):=by
 refine D.hasO vY (by intro _ _ _ _;walk_at"ln") (fun f aF A v s H vs Q E N h=> ?_)
 obtain⟨l,e,b,g,rfl,hl,hR,hg,qv,q0,q1,q2⟩:=h
 refine⟨_,(aa (psS 4 vY.nd (b_ (G4.mono (by omega)) N (by rfl) (ij (by rfl)) (pa3 (b_ (gY.mono (by omega)) N (by rfl) (ij (by rfl)) (pa2 (pv 0) (pv 3))) (az (pa2 (pv 1) (pv 2))) (pv 3))))
   (ad (bE (ah (pcH eQ N (pa2 (pX ay (pv 4) ac) (pX ay (pv 4) ac))))))),?_⟩
 walk_at"o";refine⟨fun o J=> ?_,fun o J x p q j hp hB a=> ?_,fun o k T J x W j U a=>q1 o k T J x W j U a,fun ln J W j U a=>q2 ln J W j U a⟩
 .obtain⟨v1,v2⟩:=(qv o J).out;exact⟨fun bk u=>⟨(v1.va bk u).1,(v2 bk u).1⟩,v1.n16⟩
 obtain⟨v1,v2⟩:=(qv o J).out;walk_at"g";intro Z y;generalize F:upd j Z _=L;have i:=upA F;have I:=upS y F;clear F;have s2:=a.trans I;have k2:SqT K L Z [.int e,.int b]:=SqT.of i;have ab:SqT K L p (q.map V.ref):=SqT.of (I _ _ hp);have au:GSt K L q o:=RlA.gst (hB.mono fun _ _ z=>I _ _ z)
 have O:o.map dP≠[]:=fun z=>by rw[Uq] at z;have:=v1.n0;rw[z] at this;cases this
 obtain⟨M,hM⟩:=E4 O;walk_at"g";intro m C X Y;obtain⟨q3,q4⟩:=q0 o J x M m C hM X Y;refine⟨fun c G R=>q3 c G (s2.trans R),fun c r G R ca=> ?_⟩
 obtain⟨a1,a2,a3,c1,c2,c3,_⟩:=ca;have va:∀d∈o.map dP, ∀kn∈d.1,VI kn:=fun d hd=>by
  obtain⟨bk,u,rfl⟩:=SY.mp hd;exact Nn (v1.va bk u).1
 obtain⟨we,wo⟩:=Kb (n:=8*2^C) (tot:=2^m*(8*2^C)) va;have wl:=HG hM (by rw[be];exact X) Y
 have aw:(wdN (8*2^C) (2^m*(8*2^C)) (o.map dP)).length<=3000:=by
  rw[wl];exact RY (TU 8 (TC (show 2 >0 by decide) c)) (by decide)
 rw[we] at c3;have ar:SqT K G a1 ([(e:Int),b,(m:Int),(C:Int),g].map V.int):=SqT.of c2;have pb:aD (∀n∈[(e:Int),b,(m:Int),(C:Int),g], -10^10<n/\n<10^10):=aD.mk (NZ hR hg.out c);have p5:[(e:Int),b,(m:Int),(C:Int),g].length=5:=rfl;have q5:=q4 c;generalize wdN (8*2^C) (2^m*(8*2^C)) (o.map dP)=ws at*;generalize [(e:Int),b,(m:Int),(C:Int),g]=pn at*;walk_at"g";intro H4 s4;exact q5 H4 ((s2.trans R).trans s4)
theorem yp{aG aR bT:Addr}(B:Bi mg)(D:qw K mg)(gY:dA P w K mg base 6 "guest_for" BN [] (Oz K aG aR))(FZ:dA P w K mg base 11 "thin" tH [] (Ku K bT))
  (eQ:Has P w K mg base 4 "fenced_text" jE (Ob K)):dA P w K mg base 12 "thinned_text" sT [] (Mj (thD) aG aR bT):=by
 refine D.hasO oU (by intro _ _ _ _;walk_at"ln") (fun f aL A v s H vs Q E N h=> ?_)
 obtain⟨l,U,J,g,rfl,hl,hR,hg,qv,q0,q1,q2⟩:=h
 refine⟨_,(aa (psS 4 oU.nd (b_ (FZ.mono (by omega)) N (by rfl) (ij (by rfl)) (pa3 (b_ (gY.mono (by omega)) N (by rfl) (ij (by rfl)) (pa2 (pv 0) (pv 3))) (az (pa2 (pv 1) (pv 2))) (pv 3))))
   (ad (bE (ah (pcH eQ N (pa2 (pX ay (pv 4) ac) (pX ay (pv 4) ac))))))),?_⟩
 walk_at"o";refine⟨fun o a=> ?_,fun o a x p u q hp hB i=> ?_,fun o k T a x W q b i=>q1 o k T a x W q b i,fun ln a W q b i=>q2 ln a W q b i⟩
 .obtain⟨v1,v2⟩:=(qv o a).out;exact⟨fun bk e=>⟨(v1.va bk e).1,(v2 bk e).1⟩,v1.n16⟩
 obtain⟨v1,v2⟩:=(qv o a).out;have ab:∀bk∈o, ∀X∈bk,X.1≠16:=fun bk e=>(v2 bk e).2
 walk_at"g";intro p2 y;generalize F:upd q p2 _=L;have j:=upA F;have I:=upS y F;clear F;have s2:=i.trans I;have k2:SqT K L p2 [.int U,.int J]:=SqT.of j;have ar:SqT K L p (u.map V.ref):=SqT.of (I _ _ hp);have aw:GSt K L u o:=RlA.gst (hB.mono fun _ _ z=>I _ _ z)
 have O:o.map (thD U J)≠[]:=fun z=>by rw[Uq] at z;have:=v1.n0;rw[z] at this;cases this
 obtain⟨M,hM⟩:=E4 O;walk_at"g";intro m C Y Z;obtain⟨q3,q4⟩:=q0 o a x M m C hM Y Z;refine⟨fun c G R=>q3 c G (s2.trans R),fun c r G R ca=> ?_⟩
 obtain⟨a1,a2,a3,c1,c2,c3,_⟩:=ca;have va:∀d∈o.map (thD U J), ∀X∈d.1,VI X:=fun d hd=>by
  obtain⟨bk,e,rfl⟩:=SY.mp hd;exact N7 (v1.va bk e).1
 obtain⟨we,wo⟩:=Kb (n:=8*2^C) (tot:=2^m*(8*2^C)) va;have wl:=HG hM (by rw[be];exact Y) Z
 have aF:(wdN (8*2^C) (2^m*(8*2^C)) (o.map (thD U J))).length<=3000:=by
  rw[wl];exact RY (TU 8 (TC (show 2 >0 by decide) c)) (by decide)
 rw[we] at c3;have au:SqT K G a1 ([(U:Int),J,(m:Int),(C:Int),g].map V.int):=SqT.of c2;have pb:aD (∀n∈[(U:Int),J,(m:Int),(C:Int),g], -10^10<n/\n<10^10):=aD.mk (NZ hR hg.out c);have p5:[(U:Int),J,(m:Int),(C:Int),g].length=5:=rfl;have q5:=q4 c;generalize wdN (8*2^C) (2^m*(8*2^C)) (o.map (thD U J))=ws at*;generalize [(U:Int),J,(m:Int),(C:Int),g]=pn at*;walk_at"g";intro H4 s4;exact q5 H4 ((s2.trans R).trans s4)
theorem HD:∀(l:List Nat) (v w:Nat),yc v l=some w->w<(v+1)*16^l.length
 | [],v,w,h=>by
  cases h
  simp
 | c::r,v,w,h=>by
  rw[yc] at h
  cases e:xX c with
  | none=>rw[e] at h;cases h
  | some d=>
   rw[e] at h;have o:=HD r (v*16+d) w h;have hd:d<16:=by
    unfold xX at e
    split at e
    .cases e
     lia
    .split at e
     .cases e
      lia
     .cases e
   rw[R4,Wx];refine Sb o ?_
   rw[U9 (16^r.length) 16, <-V8];exact Ug _ (by lia)
theorem Oy{l:List Nat}{w:Nat}(h:rdW l=some w):w<2^32:=by
 unfold rdW at h
 split at h
 .next e=>
  have:=HD l 0 w h;rw[e] at this;exact this
 .cases h
theorem Io:∀{ps:List (List Nat)}{o:List Nat},io ps=some o->BT o
 | [],o,h=>by
  cases h
  exact fun w hw=>by cases hw
 | p::r,o,h=>by
  rw[io] at h
  cases e1:rdW p with
  | none=>rw[e1] at h;cases h
  | some x=>
   rw[e1] at h
   cases e2:io r with
   | none=>rw[e2] at h;cases h
   | some ys=>
    rw[e2] at h
    cases h
    intro w hw;rcases Se.mp hw with rfl | hw
    .exact Oy e1
    .exact Io e2 w hw
theorem Er:∀{a:List (List Nat)}{C:Nat}{o:List Nat},fK C a= .ok o->BT o
 | [],C,o,h=>by
  cases h
  exact fun w hw=>by cases hw
 | p::r,C,o,h=>by
  rw[fK] at h
  cases e1:io (pcs p) with
  | none=>rw[e1] at h;cases h
  | some x=>
   rw[e1] at h
   cases e2:fK (C+1) r with
   | error e=>rw[e2] at h;cases h
   | ok ys=>
    rw[e2] at h
    cases h
    intro w hw;rcases SR.mp hw with hw | hw
    .exact Io e1 w hw
    .exact Er e2 w hw
structure MB (x:Pn) (ns:List Int) (ws:List Nat):Prop where
 e:ns=[(x.pk:Int),x.pb,(x.pm:Int),(x.ps:Int),x.pg]
 room:SpM.Room x.pk x.pb
 ms:x.pm+x.ps<=7
 g:0<=x.pg/\x.pg<=16
 ws:BT ws
theorem Ll{l:List Nat}{ns:List Int}{C:List Nat}(h:rdF l= .ok (ns,C)):∃x,MB x ns C:=by
 unfold rdF at h
 cases o:rdP (hdL l) with
 | none=>rw[o] at h;cases h
 | some ms=>
  rw[o] at h
  cases e2:rdC (tlL l) with
  | error e=>rw[e2] at h;cases h
  | ok ys=>
   rw[e2] at h
   cases h
   have hw:=Er e2;unfold rdP at o
   split at o
   .next hc=>
    cases e3:u8 ((aB 32 (hdL l)).tail.map rdN) with
    | none=>rw[e3] at o;cases o
    | some ks=>
     rw[e3] at o;have o:(if AT ks=true then some ks else none)=some ns:=o
     split at o
     .next hp=>
      cases o
      have f:ns.length=5:=by
       have:=congrArg List.length (pW e3);rw[be,be,be,List.length_tail,hc.1] at this
       lia
      match ns,f,hp with
      | [n0,n1,n2,n3,n4],_,hp=>
       unfold AT Jt at hp
       simp only[V5,List.all_nil,Su,TL,List.getD_cons_zero,List.getD_cons_succ,T3] at hp
       obtain⟨⟨b,I,c,d,J⟩,⟨j,U,a⟩,k,i⟩:=hp;refine⟨⟨n0.toNat,n1,n2.toNat,n3.toNat,n4⟩,?_,⟨by show n0.toNat<=20;lia,I,Int.dvd_of_emod_eq_zero U,a⟩,by show n2.toNat+n3.toNat<=7;lia,⟨J,i⟩,hw⟩
       show _=[((n0.toNat:Nat):Int),n1,((n2.toNat:Nat):Int),((n3.toNat:Nat):Int),n4]
       rw[Ur b,Ur c,Ur d]
     .cases o
   .cases o
noncomputable abbrev wI(o:List Nat):List Int:=o.map fun w:Nat=>((w:Nat):Int)
def QD(C:Addr):Sp:=fun vs H Q E=>∃l:List Nat,vs=[.str (S l)]/\l.length<=50000/\(∀U I x,rdF l= .ok (U,I)->MB x U I->(x=⟨4,16,0,1,3⟩/\I=List.replicate 16 0)/\∀o,aA H o->Q (.str "within") o)/\
 (∀a:Nat,rdF l= .error a->∀J o,o J=some (xdo J [("line",.int (a:Int))])->aA H o->E (.ref C) (some J) o)
theorem yv{c F:Addr}(B:Bi mg)(D:qe K mg)(v:mg "NotWithin"=some (.ref F))
  (G:dA P w K mg base 6 "read_fenced" gr [] (OD c)) (N:Has P w K mg base 10 "check" jE (Qg K)):dA P w K mg base 11 "checked_text" gr [] (QD c):=by
 refine D.hasO jr (by intro _ _ _ _;walk_at"ln") (fun f y A I s H vs Q E d h=> ?_)
 obtain⟨l,rfl,T,m,M⟩:=h
 refine⟨_,(aa (psS 1 jr.nd (b_ (G.mono (by omega)) d (by rfl) (ij (by rfl)) (pa1 (pv 0))))
   (aa (FN (i:=2) (by rfl) v jr.nd (by rfl) (by rfl) (fun Z U Y hc=>(ad (bE (bj (pcH N d (pa2 (pX (HE (K:=K) (by rfl)) (pv 1) ac) (pX (HE (K:=K) (by rfl)) (pv 1) ac))))))) (fun e=>(ad qA)))
   (ad (bE (ah av))))),?_⟩
 walk_at"o";refine⟨fun k u e p a b o X R q C=> ?_,fun n e O o J C=>M n e O o J C⟩
 obtain⟨x,po⟩:=Ll e;obtain⟨⟨rfl,rfl⟩,z⟩:=m k u x e po;have r:Pl o a 4 16 0 1 3:=⟨by rw[R,po.e];rfl,po.room,po.ms⟩
 have j:SqL K o b (zC.map V.int):=SqL.of q;walk_at"g";intro W L;walk_at"g";exact z _ (C.trans L)
noncomputable abbrev fx0(x:Pn):Fx:=⟨x.pk,x.pb,x.pm,x.ps,x.pg,[]⟩
noncomputable abbrev st0(p:Int):MSt:=⟨p,[0,0,0,0,0,0,0,0],[],[]⟩
noncomputable def rnT(R:(Str × List Int) × MSt × Int):List Nat:=c9 32 (R.1.1.cps.toList::(R.1.2++R.2.1.bx).map nS)
structure RG (R:(Str × List Int) × MSt × Int):Prop where
 s:R.1.1.cps.toList.length<=100
 l:R.1.2.length<=5
 b:∀n∈R.1.2, -10^10<n/\n<10^10
def QK(C:Addr):Sp:=fun vs H Q E=>∃(l:List Nat) (n:Int) (t:Nat),vs=[.str (S l),.int n,.int t]/\l.length<=50000/\aD (0<=n/\n<=1000)/\t<=1000/\(∀U I x,rdF l= .ok (U,I)->MB x U I->(∀i a,o9 (wI I) i=some a->a=(0,[]))/\∀R,R=hU (fx0 x) (wI I) t (st0 (n*8*2^x.ps)) 0->RG R/\∀o,aA H o->Q (.str (S (rnT R))) o)/\
 (∀b:Nat,rdF l= .error b->∀J o,o J=some (xdo J [("line",.int (b:Int))])->aA H o->E (.ref C) (some J) o)
theorem EB{aG:Addr}(B:Bi mg)(D:Ag K mg)(aw:Has P w K mg base 1 "power_of_two" sJ nD)(mM:Has P w K mg base 1 "row_of" BA (JV K))(eI:dA P w K mg base 6 "read_fenced" gr [] (OD aG))
  (I:Has P w K mg base 8 "run" Fw (LD K)):dA P w K mg base 9 "run_text" FW [] (QK aG):=by
 refine D.hasO lx (by intro _ _ _ _;walk_at"ln") (fun f a6 A O s H vs Q E G h=> ?_)
 obtain⟨l,n,t,rfl,hl,m,ht,q0,q1⟩:=h
 refine⟨_,(aa (psS 3 lx.nd (b_ (eI.mono (by omega)) G (by rfl) (ij (by rfl)) (pa1 (pv 0))))
   (aa (bE (psS 4 lx.nd (ax cK (ax cK (pv 1) ac) (pcH aw G (pa1 (pX ay (pX ay (pv 3) ac) ac))))))
   (aa (bE (psS 5 lx.nd (pcH I G (pa5 (pX ay (pv 3) ac) (pX ay (pv 3) ac) (az (pa3 (pv 4) (ax Mc (az (pa1 ac)) ac) Lp)) (a8 dJ) (pv 2)))))
   (ad (bE (ah (pcH mM G (pa1 (ax yB (pX ay (pv 5) ac) (pX ay (pX ay (pv 5) ac) ac)))))))))),?_⟩
 walk_at"o";refine⟨fun ns L e p a b F hp ha hb N=> ?_,fun ln e dx F au N=>q1 ln e dx F au N⟩
 obtain⟨x,po⟩:=Ll e;obtain⟨a',q2⟩:=q0 ns L x e po;rw[po.e] at ha;have aN:x.ps<=64:=by have:=po.ms;lia
 have i3:atI ([(x.pk:Int),x.pb,(x.pm:Int),(x.ps:Int),x.pg].map V.int) 3=some (.int x.ps):=bq (j:=3) rfl;have a7:∀y∈wI L,0<=y/\y<4294967296:=fun y C=>by
  obtain⟨n,m,rfl⟩:=SY.mp C;have:=po.ws n m
  lia
 have aR:AZ n 8:= .inl (by have:=m.out;lia)
 have aS:AZ (n*8) (2^x.ps):= .inl (by have:=m.out;lia)
 walk_at"g";intro z1 c;have s2:=N.trans (ag c (.tup [.int 0]));have k2:SqT K (upd F z1 (.tup [.int 0])) z1 [.int 0]:=SqT.of ae;have nz:([V.int 0]:List V)≠[]:=fun z=>by cases z
 have a2:=ag c (.tup [.int 0]) _ _ ha;have b2:=ag c (.tup [.int 0]) _ _ hb;generalize upd F z1 (.tup [.int 0])=H2 at*;walk_at"g";intro z3 J;have s3:=s2.trans (ag J (.tup ([0,0,0,0,0,0,0,0].map V.int)));have k3:SqT K (upd H2 z3 (.tup ([0,0,0,0,0,0,0,0].map V.int))) z3 ([0,0,0,0,0,0,0,0].map V.int):=SqT.of ae;have a3:=ag J (.tup ([0,0,0,0,0,0,0,0].map V.int)) _ _ a2;have b3:=ag J (.tup ([0,0,0,0,0,0,0,0].map V.int)) _ _ b2;show _
 change iD _ _ _ (upd H2 z3 (.tup ([0,0,0,0,0,0,0,0].map V.int))) _
 generalize upd H2 z3 (.tup ([0,0,0,0,0,0,0,0].map V.int))=H3 at*;intro z4 M;generalize Y:upd H3 z4 _=H4;have d4:=upA Y;have o:=upS M Y;clear Y;have s4:=s3.trans o;have k4:=o.tup k3;have a4:=o _ _ a3;have b4:=o _ _ b3;walk_at"g";intro z5 Z;have n5:=ag Z (.tup [.int (n*8*2^x.ps),.ref z3,.ref z4]);have s5:=s4.trans n5;have k5:=n5.tup k4;have d5:=n5 _ _ d4;have a5:=n5 _ _ a4;have b5:=n5 _ _ b4;have t5:SqT K (upd H4 z5 (.tup [.int (n*8*2^x.ps),.ref z3,.ref z4])) z5 [.int (n*8*2^x.ps),.ref z3,.ref z4]:=SqT.of ae
 change iD _ _ _ (upd H4 z5 (.tup [.int (n*8*2^x.ps),.ref z3,.ref z4])) _
 generalize upd H4 z5 (.tup [.int (n*8*2^x.ps),.ref z3,.ref z4])=d at*;clear n5;walk_at"g";intro z6 ar;have U:=ag ar (.lst []);have s6:=s5.trans U;have k6:=U.tup k5;have d6:=U _ _ d5;have b6:=U _ _ b5;have t6:=U.tup t5;have l6:upd d z6 (.lst []) z6=some (.lst []):=ae;have ab:Pl (upd d z6 (.lst [])) a x.pk x.pb x.pm x.ps x.pg:=⟨U _ _ a5,po.room,po.ms⟩;have aT:SqL K (upd d z6 (.lst [])) b ((wI L).map V.int):=SqL.of (by rw[b6,Vh];rfl)
 have en:En K (upd d z6 (.lst [])) a z6 (fx0 x):=⟨ab,⟨_,l6⟩,[],SqL.of l6,rfl,fun i v _ _ h=>by cases i <;> cases h⟩
 have fx:MG (fx0 x):=⟨SK _,fun y C=>by cases C⟩
 have bx:Bxs [0,0,0,0,0,0,0,0]:=⟨rfl,fun y C=>by
  have:y=0:=by simpa using C
  lia⟩
 have mo:zX []:=fun y C=>by cases C
 obtain⟨q,q3⟩:=q2 _ rfl;clear U;generalize upd d z6 (.lst [])=H6 at*;walk_at"g";intro r H7 s7 ra _ bo;obtain⟨eq,sq,tb,db,rw,es,h1,h2,h3,h4,_⟩:=ra.ex;generalize hU (fx0 x) (wI L) t (st0 (n*8*2^x.ps)) 0=R at*;have aF:=s6.trans s7;have aW:V.str R.1.1::R.1.2.map V.int≠[]:=fun z=>by cases z
 have u:R.2.1.bx.length=8:=bo.len;have k:R.2.1.bx.map V.int≠[]:=fun z=>by rw[Uq] at z;rw[z] at u;cases u
 have aL:(V.str R.1.1::R.1.2.map V.int).length+(R.2.1.bx.map V.int).length<=sizeLine:=by
  rw[R4,be,be,u];exact RY (show _<=100 by have:=q.l;lia) (by decide)
 walk_at"g";refine⟨fun z=>absurd z k,fun _ W T=> ?_⟩
 have s9:=aF.trans (ag T (.tup ((.str R.1.1::R.1.2.map V.int)++R.2.1.bx.map V.int)));have k9:SqT K (upd H7 W (.tup ((.str R.1.1::R.1.2.map V.int)++R.2.1.bx.map V.int))) W (.str (S R.1.1.cps.toList)::(R.1.2++R.2.1.bx).map V.int):=SqT.of (by rw[ae,R5];rfl)
 generalize upd H7 W (.tup ((.str R.1.1::R.1.2.map V.int)++R.2.1.bx.map V.int))=H9 at*
 have pk:Os (.str (S R.1.1.cps.toList)::(R.1.2++R.2.1.bx).map V.int) (R.1.1.cps.toList::(R.1.2++R.2.1.bx).map nS):=HJ (by rw[RZ,u];have:=q.l;lia) (fun y C=>by
  rcases SR.mp C with C | C
  .exact q.b y C
  .have:=bo.rng y C
   lia) _ q.s
 walk_at"g";intro aX X;exact q3 _ (s9.trans X)
structure Nb (K:Frag) (mg:Str->Option Value) (aF aN aW aT aL:Addr):Prop where
 mF:mg "FenceError"=some (.ref aF)
 mN:mg "NoGuest"=some (.ref aN)
 mW:mg "NotWithin"=some (.ref aW)
 mT:mg "NoText"=some (.ref aT)
 mL:mg "TooLong"=some (.ref aL)
 xF:GW K aF
 xL:GW K aL
 cL:XC K aL aF none xqs
 cN:∃f,XC K aN aF f xqs
 cT:∃f,XC K aT aF f xqs
 kL:∀x b,(x,b)∈[(aW,false),(aN,false),(aT,false),(aL,true)]->W.kitOne K (.ref aL) (.ref x)=some b
 kN:∀x b,(x,b)∈[(aW,false),(aN,true),(aT,false),(aL,false)]->W.kitOne K (.ref aN) (.ref x)=some b
 kT:∀x b,(x,b)∈[(aW,false),(aN,false),(aT,true),(aL,false)]->W.kitOne K (.ref aT) (.ref x)=some b
 vL:W.kitOne K (.ref aL) (.type "ValueError")=some true
 vN:W.kitOne K (.ref aN) (.type "ValueError")=some true
 vT:W.kitOne K (.ref aT) (.type "ValueError")=some true
 bV:mg "ValueError"=none
inductive Ans where
 | told:Ans
 | text:Int->Ans
 | guest:Int->Int->Ans
 | long:Ans
 deriving DecidableEq
noncomputable def Ans.vs:Ans->List V
 | .told=>[.str "told",.bl true]
 | .text n=>[.str "text",.int n]
 | .guest a b=>[.str "guest",.int a,.int b]
 | .long=>[.str "long"]
structure GM (D:Nat->Int->List Ins->Bk) (t:List Nat) (g:Int) (a:Ans):Prop where
 er:∀ln,rdG t= .error ln->a= .text (ln:Nat)
 ok:∀gs,rdG t= .ok gs->GuB gs/\∀bk∈gs,bk.length<=25/\∀kn∈bk,kn.1≠16
 bad:∀gs k at_,rdG t= .ok gs->l_ g gs=some (k,at_)->a= .guest k at_
 good:∀gs,rdG t= .ok gs->l_ g gs=none->∀M m s,xv M (gs.map (D 8 256))->sE gs.length m->sE M s->(7<m+s->a= .long)/\(m+s<=7->a= .told)
structure QG (t:List Nat) (a:Ans):Prop where
 er:∀ln,rdF t= .error ln->a= .text (ln:Nat)
 ok:∀ns ws,rdF t= .ok (ns,ws)->a= .told/\ns=[4,16,0,1,3]/\ws=List.replicate 16 0
def G8(U I J:Addr)(H:Hp)(C:Addr)(a:Ans):Prop:=(∃n o,a= .text n/\H C=some (exh (.ref U) (some o) C)/\H o=some (xdo o [("line",.int n)]))\/
 (∃x y o,a= .guest x y/\H C=some (exh (.ref I) (some o) C)/\H o=some (xdo o [("block",.int x),("at",.int y)]))\/(a= .long/\H C=some (exh (.ref J) none C))
theorem G8.text{I J U:Addr}{H:Hp}{o C:Addr}{a:Ans}{n:Int}(h:a= .text n)(hd:H C=some (xdo C [("line",.int n)]))(he:H o=none):G8 I J U (upd H o (exh (.ref I) (some C) o)) o a:=
 .inl ⟨n,C,h,ae,by rw[aj (aq hd he)];exact hd⟩
theorem G8.guest{U I J:Addr}{H:Hp}{o C:Addr}{a:Ans}{x y:Int}(h:a= .guest x y)(hd:H C=some (xdo C [("block",.int x),("at",.int y)]))(he:H o=none):G8 U I J (upd H o (exh (.ref I) (some C) o)) o a:=
 .inr (.inl ⟨x,y,C,h,ae,by rw[aj (aq hd he)];exact hd⟩)
theorem G8.long{J I C:Addr}{H:Hp}{o:Addr}{a:Ans}(h:a= .long):G8 J I C (upd H o (exh (.ref C) none o)) o a:= .inr (.inr ⟨h,ae⟩)
theorem NV:SpM.Room 8 256:=⟨by decide,by decide,⟨1,by decide⟩,by decide⟩
theorem L3{i:Int}{o:Nat × List Int}(h:o9 (wI (List.replicate 16 0)) i=some o):o=(0,[]):=by
 have C:∀j,j<16->o9 (wI (List.replicate 16 0)) (j:Nat)=some (0,[]):=by decide +kernel
 by_cases c:0<=i/\i<16
 .have:=C i.toNat (by lia)
  rw[Ur c.1,h] at this
  cases this
  rfl
 .unfold o9 at h
  by_cases c0:i<0
  .rw[R9 c0] at h
   cases h
  .rw[R6 c0,UD (by show 16<=i.toNat;lia)] at h
   cases h
theorem Rc{x:Pn}{c:List Nat}(po:MB x [4,16,0,1,3] c):x=⟨4,16,0,1,3⟩:=by
 obtain⟨pk,d,U,I,pg⟩:=x;have e:=po.e
 simp only[List.cons.injEq] at e
 obtain⟨a,C,J,b,o,_⟩:=e;have a:(4:Int)=(pk:Int):=a;have J:(0:Int)=(U:Int):=J;have b:(1:Int)=(I:Int):=b;have C:(16:Int)=d:=C;have o:(3:Int)=pg:=o;subst C o;obtain rfl:pk=4:=by lia
 obtain rfl:U=0:=by lia
 obtain rfl:I=1:=by lia
 rfl
theorem PF(x:Fx):hU x (wI (List.replicate 16 0)) 3 (st0 0) 0=((Str.ofString "stopped",[]),st0 0,1):=by rfl
def Ka(K:Frag):Sp:=fun vs H Q _=>∃(n:Nat) (t:List Nat) (k b g:Int) (a:Ans),vs=[.int n,.str (S t),.int k,.int b,.int g]/\n<=3/\t.length<=50000/\(n<=1->k=8/\b=256/\0<=g/\g<=16)/\
 (n=0->GM (fun _ _=>dP) t g a)/\(n=1->GM thD t g a)/\(2<=n->QG t a)/\∀p o,o p=some (.tup a.vs)->aA H o->Q (.ref p) o
theorem B8{bg X dS O W:Addr}(B:Bi mg)(Ex:Nb K mg bg X dS O W)(D:xr K mg)
  (rc:dA P w K mg base 10 "made_text" sT [] (Mj (fun _ _=>dP) O X W)) (kD:dA P w K mg base 12 "thinned_text" sT [] (Mj thD O X W))
  (jW:dA P w K mg base 11 "checked_text" gr [] (QD O)) (tY:dA P w K mg base 9 "run_text" FW [] (QK O)):Has P w K mg base 13 "_law_said" Eu (Ka K):=by
 obtain⟨BQ,r8,qL,ii,wy,xF,xL,cL,⟨fN,cN⟩,⟨fT,cT⟩,kL,kN,kT,vL,vN,vT,I⟩:=Ex;refine D.has ck (by intro _ _ _ _;walk_at"ln") (fun f aF A au s H vs Q E hr h=> ?_)
 obtain⟨n,t,k,b,g,a,rfl,n3,ht,h8,U,h1,h2,q⟩:=h;have fL:Gn K (.ref W) bg:=⟨_,_,none,rfl,cL,.inr ⟨rfl,xF⟩⟩;have fN:Gn K (.ref X) bg:=⟨_,_,fN,rfl,cN,.inr ⟨rfl,xF⟩⟩;have fT:Gn K (.ref O) bg:=⟨_,_,fT,rfl,cT,.inr ⟨rfl,xF⟩⟩
 refine⟨_,(aa (psS 5 ck.nd (az dJ))
   (aa (psS 6 ck.nd cO)
   (aa (aP (bz (FN (i:=7) (by rfl) BQ ck.nd (by rfl) (by rfl) (fun Eb aw Ef hc=>(ad (aC (pcT aK (pv 0) ac) (ad (psS 5 ck.nd (b_ (rc.mono (by omega)) hr (by rfl) hc (pa4 (pv 1) (pv 2) (pv 3) (pv 4))))) (ad (aC (pcT aK (pv 0) ac) (ad (psS 5 ck.nd (b_ (kD.mono (by omega)) hr (by rfl) hc (pa4 (pv 1) (pv 2) (pv 3) (pv 4))))) (ad (aC (pcT aK (pv 0) ac) (ad (psS 5 ck.nd (b_ (jW.mono (by omega)) hr (by rfl) hc (pa1 (pv 1))))) (ad (psS 5 ck.nd (b_ (tY.mono (by omega)) hr (by rfl) hc (pa3 (pv 1) ac ac))))))))))) (fun e=>(ad (psS 6 ck.nd (pv 7)))))))
   (aa (aC (jT (kf (pv 6))) (ad (ah (az (pa2 av (aI B5 (by rfl) B.isinstance eO (pa2 (pv 5) (Ig (v:= .ty "str") (by rfl) B.str F3 (by rfl)))))))) ao)
   (aa (psS 8 ck.nd (a8 (pa3 (aI (se (K:=K) (by rfl)) (by rfl) B.isinstance eO (pa2 (pv 6) (cZ (v:= .ref O) (by rfl) ii (by rfl)))) (aI (se (K:=K) (by rfl)) (by rfl) B.isinstance eO (pa2 (pv 6) (cZ (v:= .ref X) (by rfl) r8 (by rfl)))) (aI (se (K:=K) (by rfl)) (by rfl) B.isinstance eO (pa2 (pv 6) (cZ (v:= .ref W) (by rfl) wy (by rfl)))))))
   (aa (aP (bz (aC (PW.pt (gX (bN (aI (se (K:=K) (by rfl)) (by rfl) B.isinstance eO (pa2 (pv 6) (cZ (v:= .ref dS) (by rfl) qL (by rfl))))) (gX (pcT mQ (bU Sr PySem.F.slot_list_count PySem.F.type_list_count IL (pv 8) (pa1 tI)) ac) (eY (ff (bN (aI (IM (K:=K) (by rfl)) (by rfl) B.isinstance eO (pa2 (pv 6) (Ig (v:= .ty "ValueError") (by rfl) I AB (by rfl)))))))))) (ad (ah (az (pa1 av)))) ao)))
   (aa (aC (bN (pX bA (pv 8) ac)) (ad (ah (az (pa2 av (C1 (K:=K) (by rfl) (pv 6) (by rfl)))))) ao)
   (aa (aC (bN (pX bA (pv 8) ac)) (ad (ah (az (pa3 av (C1 (K:=K) (by rfl) (pv 6) (by rfl)) (C1 (K:=K) (by rfl) (pv 6) (by rfl)))))) ao)
   (ad (ah (az (pa1 av)))))))))))),?_⟩
 walk_at"k";intro p1 ar;generalize r:upd H p1 _=H1;have G:=upS ar r;clear r;walk_at"g"
 refine⟨fun Z Y=>aD (aA H Y/\((∃z,a= .told/\Z=[some (.int n),some (.str (S t)),some (.int k),some (.int b),some (.int g),some (.str z),some .non,none,none])\/
  (∃v5 C,Z=[some (.int n),some (.str (S t)),some (.int k),some (.int b),some (.int g),v5,some (.ref C),none,none]/\G8 O X W Y C a))),?_,?_⟩
 .match n,n3 with
  | 0,_=>
   have U:=U rfl;obtain⟨rfl,rfl,g0,g1⟩:=h8 (by decide)
   walk_at"g";refine⟨NV,aD.mk ⟨g0,g1⟩,fun u J=>aD.mk (U.ok u J),fun u J T M m sx hM lm ls=>⟨fun c l o=>⟨fL,fun C he=> ?_⟩,fun c l o=> ?_⟩,fun u k ab J T dx l hd o=>⟨fN,fun C he=> ?_⟩,fun ln J dx l hd o=>⟨fT,fun C he=> ?_⟩⟩
   .walk_at"g";exact aD.mk ⟨(G.trans o).trans (ag he _),.inr ⟨_,C,rfl,.long ((U.good u J T M m sx hM lm ls).1 c)⟩⟩
   .walk_at"g";exact aD.mk ⟨G.trans o,.inl ⟨_,(U.good u J T M m sx hM lm ls).2 c,rfl⟩⟩
   .walk_at"g";exact aD.mk ⟨(G.trans o).trans (ag he _),.inr ⟨_,C,rfl,.guest (U.bad u k ab J T) hd he⟩⟩
   .walk_at"g";exact aD.mk ⟨(G.trans o).trans (ag he _),.inr ⟨_,C,rfl,.text (U.er ln J) hd he⟩⟩
  | 1,_=>
   have U:=h1 rfl;obtain⟨rfl,rfl,g0,g1⟩:=h8 (by decide)
   walk_at"g";refine⟨NV,aD.mk ⟨g0,g1⟩,fun u J=>aD.mk (U.ok u J),fun u J T M m sx hM lm ls=>⟨fun c l o=>⟨fL,fun C he=> ?_⟩,fun c l o=> ?_⟩,fun u k ab J T dx l hd o=>⟨fN,fun C he=> ?_⟩,fun ln J dx l hd o=>⟨fT,fun C he=> ?_⟩⟩
   .walk_at"g";exact aD.mk ⟨(G.trans o).trans (ag he _),.inr ⟨_,C,rfl,.long ((U.good u J T M m sx hM lm ls).1 c)⟩⟩
   .walk_at"g";exact aD.mk ⟨G.trans o,.inl ⟨_,(U.good u J T M m sx hM lm ls).2 c,rfl⟩⟩
   .walk_at"g";exact aD.mk ⟨(G.trans o).trans (ag he _),.inr ⟨_,C,rfl,.guest (U.bad u k ab J T) hd he⟩⟩
   .walk_at"g";exact aD.mk ⟨(G.trans o).trans (ag he _),.inr ⟨_,C,rfl,.text (U.er ln J) hd he⟩⟩
  | 2,_=>
   have U:=h2 (by decide)
   walk_at"g";refine⟨fun ns ws x e po=> ?_,fun ln J dx l hd o=>⟨fT,fun C he=> ?_⟩⟩
   .obtain⟨ea,en,ew⟩:=U.ok ns ws e;refine⟨?_,fun l o=> ?_⟩
    .subst en ew;exact⟨Rc po,rfl⟩
    .walk_at"g";exact aD.mk ⟨G.trans o,.inl ⟨_,ea,rfl⟩⟩
   .walk_at"g";exact aD.mk ⟨(G.trans o).trans (ag he _),.inr ⟨_,C,rfl,.text (U.er ln J) hd he⟩⟩
  | 3,_=>
   have U:=h2 (by decide)
   walk_at"g";refine⟨fun ns ws x e po=> ?_,fun ln J dx l hd o=>⟨fT,fun C he=> ?_⟩⟩
   .obtain⟨ea,en,ew⟩:=U.ok ns ws e;subst ew;refine⟨fun i kn=>L3,fun R eR=> ?_⟩
    rw[Int.zero_mul,Int.zero_mul,PF] at eR;subst eR;refine⟨⟨by decide,by decide,fun y hy=>by cases hy⟩,fun l o=> ?_⟩
    walk_at"g";exact aD.mk ⟨G.trans o,.inl ⟨_,ea,rfl⟩⟩
   .walk_at"g";exact aD.mk ⟨(G.trans o).trans (ag he _),.inr ⟨_,C,rfl,.text (U.er ln J) hd he⟩⟩
 rintro Z2 l ⟨o,⟨z,rfl,rfl⟩|⟨v5,C,rfl,ex⟩⟩
 .walk_at"g";intro j p;exact q j _ ae (o.trans (ag p _))
 .rcases ex with⟨x,dx,rfl,he,hd⟩|⟨x,y,dx,rfl,he,hd⟩|⟨rfl,he⟩
  .have k1:=kT O true (by simp)
   have k2:=kT X false (by simp)
   have k3:=kT W false (by simp)
   have k4:=kT dS false (by simp)
   clear kT kN kL;walk_at"g";intro j p;generalize r:upd l j _=N;have d:=upA r;have n3:=upS p r;clear r;have s3:=o.trans n3;have e3:=n3 _ _ he;have d3:=n3 _ _ hd;have l3:SqL K N j [.bl true,.bl false,.bl false]:=SqL.of d;have t3:tyV K "list" (.ref j) N:= .inl ⟨rfl,_,l3⟩;clear n3 he;walk_at"n";walk_at"n";refine⟨fun Z Y=>aD (Y=N/\Z=[some (.int n),some (.str (S t)),some (.int k),some (.int b),some (.int g),v5,some (.ref C),none,some (.ref j)]),?_,?_⟩
   .walk_at"g";exact aD.mk ⟨rfl,rfl⟩
   rintro Z4 H4 ⟨rfl,rfl⟩
   walk_at"g";intro p5 L;exact q p5 _ ae (s3.trans (ag L _))
  .have k1:=kN O false (by simp)
   have k2:=kN X true (by simp)
   have k3:=kN W false (by simp)
   have k4:=kN dS false (by simp)
   clear kT kN kL;walk_at"g";intro j p;generalize r:upd l j _=N;have d:=upA r;have n3:=upS p r;clear r;have s3:=o.trans n3;have e3:=n3 _ _ he;have d3:=n3 _ _ hd;have l3:SqL K N j [.bl false,.bl true,.bl false]:=SqL.of d;have t3:tyV K "list" (.ref j) N:= .inl ⟨rfl,_,l3⟩;clear n3 he;walk_at"n";walk_at"n";refine⟨fun Z Y=>aD (Y=N/\Z=[some (.int n),some (.str (S t)),some (.int k),some (.int b),some (.int g),v5,some (.ref C),none,some (.ref j)]),?_,?_⟩
   .walk_at"g";exact aD.mk ⟨rfl,rfl⟩
   rintro Z4 H4 ⟨rfl,rfl⟩
   walk_at"g";intro p5 L;exact q p5 _ ae (s3.trans (ag L _))
  .have k1:=kL O false (by simp)
   have k2:=kL X false (by simp)
   have k3:=kL W true (by simp)
   have k4:=kL dS false (by simp)
   clear kT kN kL;walk_at"g";intro j p;generalize r:upd l j _=N;have d:=upA r;have n3:=upS p r;clear r;have s3:=o.trans n3;have e3:=n3 _ _ he;have l3:SqL K N j [.bl false,.bl false,.bl true]:=SqL.of d;have t3:tyV K "list" (.ref j) N:= .inl ⟨rfl,_,l3⟩;clear n3 he;walk_at"n";walk_at"n";refine⟨fun Z Y=>aD (Y=N/\Z=[some (.int n),some (.str (S t)),some (.int k),some (.int b),some (.int g),v5,some (.ref C),none,some (.ref j)]),?_,?_⟩
   .walk_at"g";exact aD.mk ⟨rfl,rfl⟩
   rintro Z4 H4 ⟨rfl,rfl⟩
   walk_at"g";intro p5 L;exact q p5 _ ae (s3.trans (ag L _))
noncomputable def lbN(n:Nat):Nat:=((List.range 12).find? fun b=>decide (n<=2^b)).getD 12
theorem JU{n b:Nat}(h:sE n b)(C:n<=2048):b=lbN n:=by
 have o:b<=11:=h.le C;unfold lbN;have e:(List.range 12).find? (fun b=>decide (n<=2^b))=some b:=by
  rw[List.find?_range_eq_some];refine⟨R0 h.1,WQ.mpr (by lia),fun j I=> ?_⟩
  have:=h.2 j I
  simp
  lia
 rw[e]
 rfl
noncomputable def mxN(o:List Bk):Nat:=(o.map bun).foldl max 0
theorem Eg:∀(l:List Nat) (a:Nat),a<=l.foldl max a/\(∀x∈l,x<=l.foldl max a)/\(l.foldl max a=a\/l.foldl max a∈l)
 | [],a=>⟨R3 _,(fun x C=>by cases C),.inl rfl⟩
 | y::r,a=>by
  obtain⟨J,I,o⟩:=Eg r (max a y);rw[VC];refine⟨by lia,fun x C=> ?_,?_⟩
  .rcases Se.mp C with rfl | C
   .lia
   .exact I x C
  .rcases o with o | o
   .by_cases c:a<=y
    .exact .inr (by rw[o,Nat.max_eq_right c];exact Sn)
    .exact .inl (by rw[o,Nat.max_eq_left (by lia)])
   .exact .inr (R8 _ o)
theorem O1{M:Nat}{o:List Bk}(h:xv M o):M=mxN o:=by
 obtain⟨J,I,C⟩:=Eg (o.map bun) 0;obtain⟨d,hd,e⟩:=h.mem;have a1:M<=mxN o:=by rw[<- e];exact I _ (List.mem_map_of_mem hd)
 have a2:mxN o<=M:=by
  rcases C with C | C
  .unfold mxN;rw[C];exact SK _
  .obtain⟨d',hd',e'⟩:=SY.mp C;unfold mxN;rw[<- e'];exact h.le d' hd'
 lia
noncomputable def viB(o:Ins):Bool:=match o with
 | (0,[])=>true
 | (1,[a,v])=>decide (0<=a/\a<8/\0<=v/\v<4294967296)
 | (11,[a,b,n])=>decide (0<=a/\a<8/\0<=b/\b<8/\ -131072<=n/\n<131072)
 | (12,[a,b,n])=>decide (0<=a/\a<8/\0<=b/\b<8/\ -131072<=n/\n<131072)
 | (13,[n])=>decide (0<=n/\n<262144)
 | (14,[a,n])=>decide (0<=a/\a<8/\0<=n/\n<262144)
 | (15,[b])=>decide (0<=b/\b<8)
 | (18,[n])=>decide (0<=n/\n<262144)
 | _=>false
theorem OU{o:Ins}(h:viB o=true):VI o/\o.1≠16:=by
 unfold viB at h
 split at h
 .exact⟨.inl ⟨rfl,rfl⟩,Ta rfl⟩
 .obtain⟨h1,h2,h3,h4⟩:=SE h;exact⟨.inr (.inl ⟨rfl,_,_,rfl,h1,h2,h3,h4⟩),Ta rfl⟩
 .obtain⟨h1,h2,h3,h4,h5,h6⟩:=SE h;exact⟨.inr (.inr (.inr (.inl ⟨Sd rfl,Sd rfl,_,_,_,rfl,h1,h2,h3,h4,h5,h6⟩))),Ta rfl⟩
 .obtain⟨h1,h2,h3,h4,h5,h6⟩:=SE h;exact⟨.inr (.inr (.inr (.inl ⟨Sd rfl,Sd rfl,_,_,_,rfl,h1,h2,h3,h4,h5,h6⟩))),Ta rfl⟩
 .obtain⟨h1,h2⟩:=SE h;exact⟨.inr (.inr (.inr (.inr (.inl ⟨.inl rfl,_,rfl,h1,h2⟩)))),Ta rfl⟩
 .obtain⟨h1,h2,h3,h4⟩:=SE h;exact⟨.inr (.inr (.inr (.inr (.inr (.inl ⟨rfl,_,_,rfl,h1,h2,h3,h4⟩))))),Ta rfl⟩
 .obtain⟨h1,h2⟩:=SE h;exact⟨.inr (.inr (.inr (.inr (.inr (.inr (.inl ⟨rfl,_,rfl,h1,h2⟩)))))),Ta rfl⟩
 .obtain⟨h1,h2⟩:=SE h;exact⟨.inr (.inr (.inr (.inr (.inl ⟨.inr rfl,_,rfl,h1,h2⟩)))),Ta rfl⟩
 .cases h
noncomputable def guB(o:List (List Ins)):Bool:=decide (0<o.length/\o.length<=16) && o.all fun bk=>decide (bk.length<=25) && bk.all viB
noncomputable def Kg(D:Nat->Int->List Ins->Bk)(rows:List (List Nat))(g:Int):Option Ans:=match rdG (c9 10 rows) with
 | .error ln=>some (.text (ln:Nat))
 | .ok gs=>if guB gs=true/\mxN (gs.map (D 8 256))<=2048 then match l_ g gs with
   | some (k,at_)=>some (.guest k at_)
   | none=>if 7<lbN gs.length+lbN (mxN (gs.map (D 8 256))) then some .long else some .told
  else none
theorem Oc{U:List (List Ins)}(h:guB U=true):GuB U/\∀bk∈U,bk.length<=25/\∀o∈bk,o.1≠16:=by
 unfold guB at h;rw[Su,S7] at h;obtain⟨a,c⟩:=h;have a:=SE a;have J:∀bk∈U,bk.length<=25/\∀o∈bk,VI o/\o.1≠16:=fun bk C=>by
  have b:=c bk C;rw[Su,S7] at b;exact⟨SE b.1,fun o I=>OU (b.2 o I)⟩
 exact⟨⟨a.1,a.2,fun bk C=>⟨fun o I=>((J bk C).2 o I).1,RY (J bk C).1 (by decide)⟩⟩,fun bk C=>⟨(J bk C).1,fun o I=>((J bk C).2 o I).2⟩⟩
theorem C5{D:Nat->Int->List Ins->Bk}{rows:List (List Nat)}{g:Int}{a:Ans}(h:Kg D rows g=some a):GM D (c9 10 rows) g a:=by
 unfold Kg at h
 cases e:rdG (c9 10 rows) with
 | error ln=>
  rw[e] at h
  cases h
  exact⟨fun l z=>(by rw[e] at z;cases z;rfl),fun o z=>(by rw[e] at z;cases z),fun o _ _ z=>(by rw[e] at z;cases z),fun o z=>(by rw[e] at z;cases z)⟩
 | ok o=>
  rw[e] at h
  have h:(if guB o=true/\mxN (o.map (D 8 256))<=2048 then match l_ g o with
   | some (k,I)=>some (.guest k I)
   | none=>if 7<lbN o.length+lbN (mxN (o.map (D 8 256))) then some Ans.long else some Ans.told
   else none)=some a:=h
  split at h
  .next c=>
   have U:=Oc c.1;refine⟨fun l z=>(by rw[e] at z;cases z),fun C z=>(by rw[e] at z;cases z;exact U),fun C k I z J=> ?_,fun C z J M m s f i j=> ?_⟩
   .rw[e] at z
    cases z
    rw[J] at h
    cases h
    rfl
   .rw[e] at z
    cases z
    rw[J] at h;have b:=O1 f;subst b;have d:=JU i (RY U.1.n16 (by decide))
    have n:=JU j c.2;subst d n;have h:(if 7<lbN o.length+lbN (mxN (o.map (D 8 256))) then some Ans.long else some Ans.told)=some a:=h
    split at h
    .next z=>
     cases h
     exact⟨fun _=>rfl,fun y=>by lia⟩
    .next z=>
     cases h
     exact⟨fun y=>by lia,fun _=>rfl⟩
  .cases h
noncomputable def rw9:List Str:=["block 0","put 0 7","load 1 0 0","jump 1","block 1","gate 3","jumpif 1 0","stop","block 2"]
noncomputable def rwS(n:Nat):List Str:=rw9++List.replicate n (Str.ofString "store 0 1 1")++[Str.ofString "through 2"]
noncomputable def cL(xs:List Str):List (List Nat):=xs.map fun x=>x.cps.toList
noncomputable def iu:List Str:=["put 6 1","load 0 1","more 0 1 -0","put 0 4294967296","jump 01","fit 0 1","add 0 1","x"]
noncomputable def yj(rows:List Str)(g:Int)(a0 a1:Ans):Bool:=decide (Kg (fun _ _=>dP) (cL rows) g=some a0) && (decide (Kg thD (cL rows) g=some a1) && (decide (0<=g/\g<=16) && (decide (rows.length<=400) && rows.all fun x=>decide (x.length<=30))))
structure G92 (rows:List Str) (g:Int) (a0 a1:Ans):Prop where
 m:GM (fun _ _=>dP) (c9 10 (cL rows)) g a0
 t:GM thD (c9 10 (cL rows)) g a1
 g:0<=g/\g<=16
 n:rows.length<=400
 l:∀x∈rows,x.length<=30
theorem jd{rows:List Str}{g:Int}{a0 a1:Ans}(h:yj rows g a0 a1=true):G92 rows g a0 a1:=by
 unfold yj at h
 simp only[Su,TL,S7] at h
 obtain⟨J,o,C,I,U⟩:=h;exact⟨C5 J,C5 o,C,I,U⟩
theorem W4{p:Nat->Prop}(a:p 0)(b:p 1)(c:p 2)(d:p 3):∀n,n<4->p n
|0,_=>a
|1,_=>b
|2,_=>c
|3,_=>d
|n+4,h=>absurd h (by omega)
theorem f0:∀n,n<4->∀i,i<10+n->∀j,j<9->yj ((rwS n).take (i+1)++(iu++[Str.ofString "stop 1"]).getD j ""::(rwS n).drop (i+1)) 16 (.text ((i:Int)+2)) (.text ((i:Int)+2))=true:=by refine W4 ?_ ?_ ?_ ?_<;>decide +kernel
theorem f1:∀n,n<4->yj ([Str.ofString "stop"]++rwS n) 16 (.text 1) (.text 1)=true:=by decide +kernel
theorem f2:∀n,n<4->yj ((rwS n).take 8++[Str.ofString "block 3"]++(rwS n).drop 9) 16 (.text 9) (.text 9)=true:=by decide +kernel
theorem f3:∀n,n<4->∀i,i<4->yj (rwS n) (i:Nat) (.guest 1 0) (.guest 1 0)=true:=by refine W4 ?_ ?_ ?_ ?_<;>decide +kernel
theorem f4:∀n,n<4->yj ((rwS n).take 3++[Str.ofString "jump 3"]++(rwS n).drop 4) 16 (.guest 0 2) (.guest 0 2)=true:=by decide +kernel
theorem f5:∀n,n<4->yj ((rwS n).take 2++[Str.ofString "stop"]++(rwS n).drop 2) 16 (.guest 0 1) (.guest 0 1)=true:=by decide +kernel
theorem f6:∀n,n<4->yj (rwS n).dropLast 16 (.guest 2 (((rwS n).length:Nat) - 11)) (.guest 2 (((rwS n).length:Nat) - 11))=true:=by decide +kernel
noncomputable def bkS(k:Nat):Str:=Str.ofString "block "++Str.ofString (toString ((3:Int)+((0:Int)+(k:Int))))
noncomputable def iE(n:Nat):List Str:=(List.range n).flatMap fun k=>[bkS k]++List.replicate 23 (Str.ofString "load 1 0 1")++[Str.ofString "stop"]
theorem f7:∀n,n<4->yj (rwS n++iE 13) 16 .long .told=true:=by refine W4 ?_ ?_ ?_ ?_<;>decide +kernel
noncomputable def Gy(l:List Str)(k:Nat):List Str:=if Txt.startswith (l.getD k "") (Str.ofString "load")=true then l.set k "load 1 2 3" else l
noncomputable def gn(n:Nat):List Str:=(List.range n).foldl (fun l i=>Gy l (2+2*i)) (iE 13)
theorem f7b:∀n,n<4->yj (rwS n++gn 162) 16 .long .long=true:=by refine W4 ?_ ?_ ?_ ?_<;>decide +kernel
theorem f8:∀n,n<4->∀i,i<13->yj (rwS n) (4+(i:Nat)) .told .told=true:=by refine W4 ?_ ?_ ?_ ?_<;>decide +kernel
theorem OH{i:Nat}(h:i<13):(Str.ofString "block ").length+(Str.ofString (toString ((3:Int)+((0:Int)+(i:Int))))).length<=sizeLine:=by
 have:∀i:Nat,i<13->(Str.ofString "block ").length+(Str.ofString (toString ((3:Int)+((0:Int)+(i:Int))))).length<=100:=by decide +kernel
 exact RY (this i h) (by decide)
theorem Gx(i:Nat):(iE (i+1)).map V.str=(iE i).map V.str++[V.str (bkS i)]++List.replicate 23 (V.str (Str.ofString "load 1 0 1"))++[V.str (Str.ofString "stop")]:=by
 unfold iE;rw[Uc,US,R5,SQ,SQ]
 rfl
theorem rW(n:Nat):(iE n).length=25*n:=by
 induction n with
 | zero=>rfl
 | succ n ih=>
  unfold iE at*;rw[Uc,US,RZ,ih];show _+25=_
  lia
theorem c6:∀n,n<4->fC ((rwS n).map V.str) none (some (-1))=(rwS n).dropLast.map V.str:=by decide +kernel
theorem LB(l:List Str)(k:Nat):(Gy l k).length=l.length:=by
 unfold Gy
 split
 .exact VB ..
 .rfl
theorem BF(n:Nat):(gn n).length=325:=by
 unfold gn;have:∀(l:List Nat) (x:List Str),(l.foldl (fun l i=>Gy l (2+2*i)) x).length=x.length:=by
  intro l
  induction l with
  | nil=>exact fun _=>rfl
  | cons a r ih=>
   intro x;rw[VC,ih,LB]
 rw[this,rW]
theorem GI(i:Nat):gn (i+1)=Gy (gn i) (2+2*i):=by
 unfold gn;rw[Uc,UI]
 rfl
def c_(H:Hp)(d:Addr):Prop:=∃n o:Int,H d=some (.lst [.int n,.int o])
def KJ(K:Frag):Sp:=fun vs H Q _=>∃(a:Addr) (C:List Int) (k:Int),vs=[.ref a,.int k]/\SqL K H a (C.map V.int)/\0<=k/\k<=1000000/\∀(d:Addr) (o:Hp),H d=none->c_ o d->aA H o->Q (.ref d) o
def BS:Sp:=fun vs H Q _=>∃(d:Addr) (m:Int),vs=[.ref d,.int m]/\c_ H d/\0<m/\m<=2^100/\∀(r:Int) (o:Hp),0<=r->r<m->c_ o d->But d H o->Q (.int r) o
theorem bu{H C:Hp}{d:Addr}(s:aA H C)(h:c_ H d):c_ C d:=by
 obtain⟨f,o,h⟩:=h;exact⟨f,o,s _ _ h⟩
theorem Dv(B:Bi mg)(D:xA K mg):Has P w K mg base 1 "_law_deal" Ed (KJ K):=by
 refine D.has iy (by intro _ _ _ _;walk_at"ln") (fun f b A I s H vs Q E O h=> ?_)
 obtain⟨a,o,k,rfl,N,n,R,q⟩:=h;have J:(o.map V.int).length=o.length:=be _;have C:∀i:Int,0<=i->i<o.length->∃v:Int,atI (o.map V.int) i=some (.int v):=fun i T u=>by
  have j:i.toNat<o.length:=by lia
  have m:i=((i.toNat:Nat):Int):=by lia
  have q:atI (o.map V.int) ((i.toNat:Nat):Int)=some (.int o[i.toNat]):=bq (by rw[Sx,R1 j] <;> rfl)
  rw[<- m] at q;exact⟨_,q⟩
 refine⟨_,((aa (psS 2 iy.nd (ax aZ (ax cK ac (pv 1)) ac))
   (aa (psS 3 iy.nd ac)
   (aa (aP (bz (aC (pcT HF (aI aH (by rfl) B.len bD (pa1 (pv 0))) ac) (ad (psS 2 iy.nd (ax aZ (ax aZ (ax cK (pX bA (pv 0) (ax eU (pv 1) (aI aH (by rfl) B.len bD (pa1 (pv 0))))) ac) (ax cK (ax cK ac (pv 1)) (pv 1))) (aI aH (by rfl) B.len bD (pa1 (pv 0)))))) ao)))
   (aa (aP (bz (aC (PW.pt (uF (pcT jC (pv 1) (aI aH (by rfl) B.len bD (pa1 (pv 0)))) (oH (pcT aK (ax eU (pX bA (pv 0) ac) ac) ac)))) (ad (psS 3 iy.nd (pX bA (pv 0) (pv 1)))) ao)))
   (ad (ah (a8 (pa2 (pv 3) (ax eU (pv 2) ac))))))))):PSs (eE CX0 P w K mg base ["_law_script","_law_k","_law_seed","_law_number"] "_law_deal" (af lB) f b A I s H E).nox (_::_) _),?_⟩
 walk_at"k";refine⟨fun e d=>aD (H=d/\∃x y:Int,e=[some (.ref a),some (.int k),some (.int x),some (.int y)]),?_,?_⟩
 .walk_at"g";refine bO (fun c=> ?_) (fun c=> ?_)
  .have c':(0:Int)<((o.map V.int).length:Nat):=c;have U:0<o.length:=by rw[J] at c';lia
   obtain⟨v1,l⟩:=C (k %(((o.map V.int).length:Nat):Int)) (UY _ (by rw[J];lia)) (by rw[J];exact U2 _ (by lia))
   walk_at"g";exact⟨rfl,_,_,rfl⟩
  .exact⟨rfl,_,_,rfl⟩
 rintro r L ⟨rfl,x,y,rfl⟩
 walk_at"n";refine⟨fun e d=>aD (H=d/\∃x y:Int,e=[some (.ref a),some (.int k),some (.int x),some (.int y)]),?_,?_⟩
 .walk_at"g";refine bO (fun c=> ?_) (fun c=> ?_)
  .have c':k<(((o.map V.int).length:Nat):Int):=c;obtain⟨v1,l⟩:=C k n (by rw[J] at c';exact c')
   obtain⟨v0,G⟩:=C 0 (V2 0) (by rw[J] at c';lia)
   walk_at"g";refine bO (fun c=> ?_) (fun c=> ?_)
   .walk_at"g";exact⟨rfl,_,_,rfl⟩
   .exact⟨rfl,_,_,rfl⟩
  .exact Iy ⟨rfl,_,_,rfl⟩
 rintro M F ⟨rfl,z,z2,rfl⟩
 walk_at"g";intro p U;exact q p _ U ⟨_,_,ae⟩ (ag U _)
theorem Dx(B:Bi mg)(D:xw K mg):Has P w K mg base 1 "_law_draw" Ai BS:=by
 refine D.has iA (by intro _ _ _ _;walk_at"ln") (fun f J A C s H vs Q E l h=> ?_)
 obtain⟨d,m,rfl,⟨n,o,hd⟩,I,U,q⟩:=h
 refine⟨_,((aa (aC (n9 vS (pX bA (pv 0) ac) (a8 (pa2 ac (lj (v:= -1) (by rfl)))) (by rfl)) (aa (psS 2 iA.nd (pX bA (pv 0) ac))
   (aa (tW (ax jn (pv 2) (pv 1)) (zK (pv 0) ac rC))
   (ad (ah (ax eU (pv 2) (pv 1)))))) ao)
   (aa (psS 2 iA.nd (ax eU (ax aZ (ax cK (pX bA (pv 0) ac) ac) ac) ac))
   (aa (tW (ax eU (ax aZ (ax cK (pv 2) ac) ac) ac) (zK (pv 0) ac rC))
   (aa (psS 3 iA.nd (ax eU (ax cK (pv 2) (pv 2)) ac))
   (aa (psS 4 iA.nd (ax eU (ax cK (pX bA (pv 0) ac) (pX bA (pv 0) ac)) ac))
   (ad (ah (ax eU (ax aZ (ax cK (pv 3) ac) (pv 4)) (pv 1))))))))):PSs (eE CX0 P w K mg base ["_law_deal_here","_law_many","_law_number","_law_high","_law_low"] "_law_draw" (af lu) f J A C s H E).nox (_::_) _),?_⟩
 walk_at"k";intro p b;walk_at"g";have a:d≠p:=aq hd b;have i:Hw n m:=⟨I,U⟩;have j:upd H p (.lst [.int 0,.int (-1)]) d=some (.lst [.int n,.int o]):=by rw[aj a];exact hd
 have e:aA H (upd H p (.lst [.int 0,.int (-1)])):=ag b _;generalize upd H p (.lst [.int 0,.int (-1)])=k at*;refine N9 (fun c=> ?_) (fun c=> ?_)
 .walk_at"g";exact q _ _ (UY _ (by lia)) (U2 _ I) ⟨_,_,ae⟩ (e.but.trans But.upd)
 .walk_at"g";exact q _ _ (UY _ (by lia)) (U2 _ I) ⟨_,_,ae⟩ (e.but.trans But.upd)
theorem c_.ne{H:Hp}{d p:Addr}(h:c_ H d)(C:H p=none):p≠d:=by
 rintro rfl
 obtain⟨n,o,e⟩:=h;rw[C] at e
 cases e
theorem c_.new{H:Hp}{d p:Addr}{o:HO}(h:c_ H d)(C:H p=none):c_ (upd H p o) d:=by
 obtain⟨n,k,e⟩:=h;exact⟨n,k,by rw[aj (aq e C)];exact e⟩
theorem c_.wr{H:Hp}{d p:Addr}{o:HO}(h:c_ H d)(C:p≠d):c_ (upd H p o) d:=by
 obtain⟨n,k,e⟩:=h;exact⟨n,k,by rw[aj (SD C)];exact e⟩
theorem But.wr{d p:Addr}{H C:Hp}{o:HO}(I:H p=none)(b:But d H C):But d H (upd C p o):=fun x y J e=>by
 rw[aj (aq e I)];exact b x y J e
theorem But.fresh{d p:Addr}{H C:Hp}(b:But d H C)(hd:c_ C d)(I:C p=none):H p=none:=by
 cases e:H p with
 | none=>rfl
 | some o=>
  rw[b p o (hd.ne I) e] at I
  cases I
def Nt:Sp:=fun vs H Q _=>∃d:Addr,vs=[.ref d]/\c_ H d/\∀(p:Addr) (n:Nat) (o:Hp),n<4->H p=none->o p=some (.lst ((rwS n).map V.str))->c_ o d->But d H o->Q (.ref p) o
theorem Ce(B:Bi mg)(D:xh K mg)(F:Has P w K mg base 1 "_law_draw" Ai BS):Has P w K mg base 2 "_law_rows" km Nt:=by
 refine D.has nY (by intro _ _ _ _;walk_at"ln") (fun f U A C s H vs Q E L h=> ?_)
 obtain⟨d,rfl,hd,q⟩:=h
 refine⟨_,((aa (psS 1 nY.nd (a8 (aU (by rfl))))
   (aa (cv Sw (by rfl) (bY (iL (by rfl) B.range (pa1 (pcH F L (pa2 (pv 0) ac))))) (aJ (i:=2) nY.nd (by rfl) (by left;rfl)) (ad (bj (bU Sr SL SM da (pv 1) (pa1 av)))))
   (ad (ah (ax dL (pv 1) (a8 (pa1 av))))))):PSs (eE CX0 P w K mg base ["_law_deal_here","_law_rows_here","_law_k"] "_law_rows" (af lA) f U A C s H E).nox (_::_) _),?_⟩
 walk_at"k";intro p J;have v:p≠d:=hd.ne J;have j:=hd.new (o:= .lst (rw9.map V.str)) J;have l1:upd H p (.lst (rw9.map V.str)) p=some (.lst (rw9.map V.str)):=ae;have m:But d H (upd H p (.lst (rw9.map V.str))):=(ag J _).but
 change yM 1 (.ref p) _ (upd H p (.lst (rw9.map V.str))) _
 generalize upd H p (.lst (rw9.map V.str))=R at*;walk_at"g";intro r O n M c l;obtain⟨r,rfl⟩:=SI n;have l2:=l _ _ v l1;have b3:=m.trans l;have G:r<4:=by lia
 clear j l1 m l n M;walk_at"g";refine⟨g_ (fun i Z k=>aD (k p=some (.lst ((rw9++List.replicate i (Str.ofString "store 0 1 1")).map V.str))/\c_ k d/\But d H k/\∃x,Z=[some (.ref d),some (.ref p),x])) (aD.mk ⟨by rw[l2,List.replicate_zero,SJ],c,b3,_,rfl⟩) ?_ ?_⟩
 .rintro i Z H3 hi ⟨l3,hd3,b4,x,rfl⟩
  have e:((rw9++List.replicate i (Str.ofString "store 0 1 1")).map V.str).length<sizeLine:=by
   rw[be,RZ,SO];exact SB (show _<=100 by have:i<r:=(by simpa using hi);show 9+i<=100;lia) (by decide)
  have ty:tyV K "list" (.ref p) H3:= .inl ⟨rfl,_,SqL.of l3⟩;walk_at"g";refine aD.mk ⟨?_,hd3.wr v,But.wr J b4,_,rfl⟩
  rw[ae,List.replicate_succ', <-SQ,R5 (l₂:=[Str.ofString "store 0 1 1"])]
  rfl
 .rintro Z H3 ⟨l3,hd3,b4,x,rfl⟩
  rw[show((r:Int)).toNat=r from rfl] at l3;walk_at"g";intro z e;have n4:=ag e (.lst [.str (Str.ofString "through 2")]);have l4:=n4 _ _ l3;have z4:upd H3 z (.lst [.str (Str.ofString "through 2")]) z=some (.lst [.str (Str.ofString "through 2")]):=ae;have I:=hd3.new (o:= .lst [.str (Str.ofString "through 2")]) e;have y:=b4.trans n4.but;generalize upd H3 z (.lst [.str (Str.ofString "through 2")])=T at*;have N:((rw9++List.replicate r (Str.ofString "store 0 1 1")).map V.str).length+[V.str (Str.ofString "through 2")].length<=sizeLine:=by
   rw[be,RZ,SO];exact RY (show _<=100 by show 9+r+1<=100;lia) (by decide)
  walk_at"g";intro u a;have b:H u=none:=But.fresh y I a;refine q u r _ G b ?_ (I.new a) (y.trans (ag a _).but)
  rw[ae];unfold rwS;rw[R5 (l₂:=[Str.ofString "through 2"])]
  rfl
inductive Due where
 | ans:Ans->Due
 | long:Due
 | both:Due
noncomputable def Due.vs:Due->List V
 | .ans a=>a.vs
 | .long=>[.str "long"]
 | .both=>[.str "both"]
noncomputable def Due.a0:Due->Ans
 | .ans a=>a
 | _=> .long
noncomputable def Due.a1:Due->Ans
 | .ans a=>a
 | .long=> .told
 | .both=> .long
def Due.ok:Due->Prop
 | .ans .long=>False
 | _=>True
def Qp:Sp:=fun vs H Q _=>∃d:Addr,vs=[.ref d]/\c_ H d/\∀(p U J:Addr) (C:List Str) (g:Int) (o:Due) (I:Hp),I p=some (.tup [.ref U,.int g,.ref J])->I U=some (.lst (C.map V.str))->I J=some (.tup o.vs)->G92 C g o.a0 o.a1->o.ok->But d H I->Q (.ref p) I
theorem tP(B:Bi mg)(D:kW K mg)(aX:Has P w K mg base 1 "_law_draw" Ai BS)(qg:Has P w K mg base 2 "_law_rows" km Nt):Has P w K mg base 3 "_law_guest_text" km Qp:=by
 refine D.has bh (by intro _ _ _ _;walk_at"ln") (fun f bR A aN s H vs Q E hr h=> ?_)
 obtain⟨d,rfl,hd,q⟩:=h;have fin:∀(G:Hp) (aG:Addr) (J:List Str) (g:Int) (ab:Due),G aG=some (.lst (J.map V.str))->But d H G->G92 J g ab.a0 ab.a1->ab.ok->∀F,G F=none->∀p,upd G F (.tup ab.vs) p=none->Q (.ref p) (upd (upd G F (.tup ab.vs)) p (.tup [.ref aG,.int g,.ref F])):=fun G aG J g ab l7 b7 M hk F a p L=>
  q p aG F J g ab _ ae (ag L _ _ _ (ag a _ _ _ l7)) (ag L _ _ _ ae) M hk ((b7.trans (ag a _).but).trans (ag L _).but)
 clear q
 refine⟨_,((aa (psS 1 bh.nd (pcH qg hr (pa1 (pv 0))))
   (aa (psS 2 bh.nd (pcH aX hr (pa2 (pv 0) ac)))
   (aa (psS 3 bh.nd (pcH aX hr (pa2 (pv 0) (aI aH (by rfl) B.len bD (pa1 (pv 1))))))
   (aa (aC (pcT aK (pv 2) ac) (aa (psS 4 bh.nd (a8 (aU (by rfl))))
   (aa (bj (bU Sr SL SM da (pv 4) (pa1 av)))
   (aa (bj (bU Sr Wb Wc Bq (pv 1) (pa2 (ax aZ (pv 3) ac) (pX bA (pv 4) (pcH aX hr (pa2 (pv 0) ac))))))
   (ad (ah (az (pa3 (pv 1) ac (az (pa2 av (ax aZ (pv 3) ac)))))))))) ao)
   (aa (aC (pcT aK (pv 2) ac) (ad (ah (az (pa3 (ax dL (a8 (pa1 av)) (pv 1)) ac (az (aU (by rfl))))))) ao)
   (aa (aC (pcT aK (pv 2) ac) (ad (ah (az (pa3 (ax dL (ax dL (bK iq (pv 1) cQ (cq ac)) (a8 (pa1 av))) (bK iq (pv 1) (cq ac) cQ)) ac (az (aU (by rfl))))))) ao)
   (aa (aC (pcT aK (pv 2) ac) (ad (ah (az (pa3 (pv 1) (pcH aX hr (pa2 (pv 0) ac)) (az (aU (by rfl))))))) ao)
   (aa (aC (pcT aK (pv 2) ac) (ad (ah (az (pa3 (ax dL (ax dL (bK iq (pv 1) cQ (cq ac)) (a8 (pa1 av))) (bK iq (pv 1) (cq ac) cQ)) ac (az (aU (by rfl))))))) ao)
   (aa (aC (pcT aK (pv 2) ac) (ad (ah (az (pa3 (ax dL (ax dL (bK iq (pv 1) cQ (cq ac)) (a8 (pa1 av))) (bK iq (pv 1) (cq ac) cQ)) ac (az (aU (by rfl))))))) ao)
   (aa (aC (pcT aK (pv 2) ac) (ad (ah (az (pa3 (bK iq (pv 1) cQ (cq (lj (v:= -1) (by rfl)))) ac (az (pa3 av ac (ax iX (aI aH (by rfl) B.len bD (pa1 (pv 1))) ac))))))) ao)
   (aa (aC (pcT aK (pv 2) ac) (aa (psS 5 bh.nd (a8 dJ))
   (aa (cv Sw (by rfl) (bY (iL (by rfl) B.range (pa1 ac))) (aJ (i:=6) bh.nd (by rfl) (by left;rfl)) (ad (psS 5 bh.nd (ax dL (ax dL (ax dL (pv 5) (a8 (pa1 (ax fA av (cj Cg (by rfl) B.str F3 (pa1 (ax aZ ac (pv 6)))))))) (ax yR (a8 (pa1 av)) ac)) (a8 (pa1 av))))))
   (aa (aC (pcT aK (pcH aX hr (pa2 (pv 0) ac)) ac) (ad (ah (az (pa3 (ax dL (pv 1) (pv 5)) ac (az (pa1 av)))))) ao)
   (aa (cv Sw (by rfl) (bY (Br (by rfl) B.range (pa3 ac (aI aH (by rfl) B.len bD (pa1 (pv 5))) ac))) (aJ (i:=6) bh.nd (by rfl) (by left;rfl)) (ad (aC (bN (bU So UJ UK mh (pX bA (pv 5) (pv 6)) (pa1 av))) (ad (tW av (zK (pv 5) (pv 6) rC))) ao)))
   (ad (ah (az (pa3 (ax dL (pv 1) (pv 5)) ac (az (pa1 av)))))))))) ao)
   (ad (ah (az (pa3 (pv 1) (ax aZ ac (pcH aX hr (pa2 (pv 0) ac))) (az (aU (by rfl)))))))))))))))))):PSs (eE CX0 P w K mg base ["_law_deal_here","_law_rows_here","_law_form","_law_at","_law_wild","_law_more","_law_k"] "_law_guest_text" (af fj) f bR A aN s H E).nox (_::_) _),?_⟩
 walk_at"k";intro rl n H1 n4 ba l1 bo b1;have nd:rl≠d:=hd.ne ba;walk_at"g";intro fm H2 f0 f9 bG b2;have l2:=b2 _ _ nd l1;have bb:=b1.trans b2;have k:((rwS n).map V.str).length=10+n:=by
  rw[be];unfold rwS;rw[RZ,RZ,SO];show 9+n+1=_
  lia
 have hf:aD (0<=fm/\fm<9):=⟨⟨f0,f9⟩⟩;clear b1 b2 l1 bo f0 f9;walk_at"g";intro ia H3 i0 i1 ar b3;have l3:=b3 _ _ nd l2;have U:=bb.trans b3;obtain⟨ia,rfl⟩:=SI i0;have bB:ia<10+n:=by rw[k] at i1;lia
 clear i0 i1 b3 bb l2 bG;clear H2 H1;walk_at"g";refine bO (fun c=> ?_) (fun c=> ?_)
 .clear hf c;walk_at"g";intro w hw;have wd:w≠d:=ar.ne hw;have wr:rl≠w:=aq l3 hw;have aR:=ag hw (.lst (iu.map V.str));have l4:=aR _ _ l3;have w4:upd H3 w (.lst (iu.map V.str)) w=some (.lst (iu.map V.str)):=ae;have aF:=ar.new (o:= .lst (iu.map V.str)) hw;have b4:=U.trans aR.but;have w0:H w=none:=by
   cases e:H w with
   | none=>rfl
   | some o=>
    rw[U w o wd e] at hw
    cases hw
  change yM 4 (.ref w) _ (upd H3 w (.lst (iu.map V.str))) _
  generalize upd H3 w (.lst (iu.map V.str))=O at*;clear aR hw;have bx:tyV K "list" (.ref w) O:= .inl ⟨rfl,_,SqL.of w4⟩;walk_at"g";have l5:upd O w (.lst (iu.map V.str++[V.str (Str.ofString "stop 1")])) rl=some (.lst ((rwS n).map V.str)):=by rw[aj wr];exact l4
  have w5:upd O w (.lst (iu.map V.str++[V.str (Str.ofString "stop 1")])) w=some (.lst ((iu++[Str.ofString "stop 1"]).map V.str)):=by rw[ae,R5];rfl
  have b:=aF.wr (o:= .lst (iu.map V.str++[V.str (Str.ofString "stop 1")])) wd;have l:=But.wr (o:= .lst (iu.map V.str++[V.str (Str.ofString "stop 1")])) w0 b4;generalize upd O w (.lst (iu.map V.str++[V.str (Str.ofString "stop 1")]))=H5 at*;have bw:tyV K "list" (.ref rl) H5:= .inl ⟨rfl,_,SqL.of l5⟩;walk_at"g";intro j H6 j0 j9 a6 b6;obtain⟨j,rfl⟩:=SI j0;have j9:j<9:=by lia
  have l6:=b6 _ _ nd l5;have w6:=SqL.of (K:=K) (b6 _ _ wd w5);have bd:=l.trans b6;clear j0 b6 l l5 w5 b bw;clear b4 l4 w4 aF bx;have ix:atI ((iu++[Str.ofString "stop 1"]).map V.str) (j:Int)=some (.str ((iu++[Str.ofString "stop 1"]).getD j "")):=by
   refine bq ?_
   rw[Sx,Sz,R1 (show j<(iu++[Str.ofString "stop 1"]).length from j9)]
   rfl
  have b0:ia+1<=((rwS n).map V.str).length:=by rw[k];lia
  have Y:((rwS n).map V.str).length<sizeLine:=by rw[k];exact SB (show _<=100 by lia) (by decide)
  have er:((rwS n).map V.str).take (ia+1)++V.str ((iu++[Str.ofString "stop 1"]).getD j "")::((rwS n).map V.str).drop (ia+1)=((rwS n).take (ia+1)++(iu++[Str.ofString "stop 1"]).getD j ""::(rwS n).drop (ia+1)).map V.str:=by
   rw[R5,Ss,Uj,Uk]
  have M:=jd (f0 n n4 ia bB j j9);generalize (rwS n).take (ia+1)++(iu++[Str.ofString "stop 1"]).getD j ""::(rwS n).drop (ia+1)=J at*;walk_at"g";rw[er];have l7:upd H6 rl (.lst (J.map V.str)) rl=some (.lst (J.map V.str)):=ae;have b7:=But.wr (o:= .lst (J.map V.str)) ba bd;generalize upd H6 rl (.lst (J.map V.str))=G at*;intro F a;walk_at"g";intro p L;exact fin G rl J 16 (.ans (.text ((ia:Int)+2))) l7 b7 M True.intro F a p L
 have q3:=SqL.of (K:=K) l3;walk_at"g";refine bO (fun c=> ?_) (fun c=> ?_)
 .clear hf c;walk_at"g";intro w hw;generalize I:upd H3 w _=O;have w4:=upA I;have C:=upS hw I
  replace l3:=C _ _ l3
  replace U:=U.trans C.but
  clear I C hw;have Y:[V.str (Str.ofString "stop")].length+((rwS n).map V.str).length<=sizeLine:=by rw[k];exact RY (show _<=100 by show 1+_<=100;lia) (by decide)
  have er:[V.str (Str.ofString "stop")]++(rwS n).map V.str=([Str.ofString "stop"]++rwS n).map V.str:=rfl;have M:=jd (f1 n n4);generalize [Str.ofString "stop"]++rwS n=J at*;walk_at"g";rw[er];intro u N;generalize I:upd O u _=G;have l7:=upA I;have C:=upS N I
  replace U:=U.trans C.but
  clear I C N;walk_at"g";intro F a;walk_at"g";intro p L;exact fin G u J 16 (.ans (.text 1)) l7 U M True.intro F a p L
 walk_at"g";refine bO (fun c=> ?_) (fun c=> ?_)
 .clear hf c;have c1:fC ((rwS n).map V.str) none (some 8)=((rwS n).take 8).map V.str:=by rw[Uj];exact B6 (n:=8)
  have c2:fC ((rwS n).map V.str) (some 9) none=((rwS n).drop 9).map V.str:=by rw[Uk];exact pS (n:=9)
  have Y:((((rwS n).take 8).map V.str)).length+[V.str (Str.ofString "block 3")].length<=sizeLine:=by rw[be,Sg];exact RY (show _<=100 by show _+1<=100;lia) (by decide)
  have aw:(((rwS n).take 8).map V.str++[V.str (Str.ofString "block 3")]).length+(((rwS n).drop 9).map V.str).length<=sizeLine:=by rw[RZ,be,Sg,be,SH];rw[be] at k;exact RY (show _<=100 by show _+1+_<=100;lia) (by decide)
  walk_at"g";rw[c1];intro x1 W;generalize I:upd H3 x1 _=O;have k1:=upA I;have C:=upS W I
  replace l3:=C _ _ l3
  replace U:=U.trans C.but
  clear I C W;walk_at"g";intro x2 X;generalize I:upd O x2 _=H5;have k2:=upA I;have C:=upS X I
  replace l3:=C _ _ l3
  replace k1:=C _ _ k1
  replace U:=U.trans C.but
  clear I C X;walk_at"g";intro x3 T;generalize I:upd H5 x3 _=H6;have k3:=upA I;have C:=upS T I
  replace l3:=C _ _ l3
  replace U:=U.trans C.but
  clear I C T;have q6:=SqL.of (K:=K) l3;walk_at"g";rw[c2];intro x4 R;generalize I:upd H6 x4 _=H8;have k4:=upA I;have C:=upS R I
  replace k3:=C _ _ k3
  replace U:=U.trans C.but
  clear I C R;have er:((rwS n).take 8).map V.str++[V.str (Str.ofString "block 3")]++((rwS n).drop 9).map V.str=((rwS n).take 8++[Str.ofString "block 3"]++(rwS n).drop 9).map V.str:=by rw[R5,R5];rfl
  have M:=jd (f2 n n4);generalize (rwS n).take 8++[Str.ofString "block 3"]++(rwS n).drop 9=J at*;walk_at"g";rw[er];intro u N;generalize I:upd H8 u _=G;have l7:=upA I;have C:=upS N I
  replace U:=U.trans C.but
  clear I C N;walk_at"g";intro F a;walk_at"g";intro p L;exact fin G u J 16 (.ans (.text 9)) l7 U M True.intro F a p L
 walk_at"g";refine bO (fun c=> ?_) (fun c=> ?_)
 .clear hf c;walk_at"g";intro g4 O g0 g1 aF b4;obtain⟨g4,rfl⟩:=SI g0;have M:=jd (f3 n n4 g4 (by lia))
  have l7:=b4 _ _ nd l3
  replace U:=U.trans b4
  clear g0 g1 b4;walk_at"g";intro F a;walk_at"g";intro p L;exact fin O rl (rwS n) g4 (.ans (.guest 1 0)) l7 U M True.intro F a p L
 walk_at"g";refine bO (fun c=> ?_) (fun c=> ?_)
 .clear hf c;have c1:fC ((rwS n).map V.str) none (some 3)=((rwS n).take 3).map V.str:=by rw[Uj];exact B6 (n:=3)
  have c2:fC ((rwS n).map V.str) (some 4) none=((rwS n).drop 4).map V.str:=by rw[Uk];exact pS (n:=4)
  have Y:((((rwS n).take 3).map V.str)).length+[V.str (Str.ofString "jump 3")].length<=sizeLine:=by rw[be,Sg];exact RY (show _<=100 by show _+1<=100;lia) (by decide)
  have aw:(((rwS n).take 3).map V.str++[V.str (Str.ofString "jump 3")]).length+(((rwS n).drop 4).map V.str).length<=sizeLine:=by rw[RZ,be,Sg,be,SH];rw[be] at k;exact RY (show _<=100 by show _+1+_<=100;lia) (by decide)
  walk_at"g";rw[c1];intro x1 W;generalize I:upd H3 x1 _=O;have k1:=upA I;have C:=upS W I
  replace l3:=C _ _ l3
  replace U:=U.trans C.but
  clear I C W;walk_at"g";intro x2 X;generalize I:upd O x2 _=H5;have k2:=upA I;have C:=upS X I
  replace l3:=C _ _ l3
  replace k1:=C _ _ k1
  replace U:=U.trans C.but
  clear I C X;walk_at"g";intro x3 T;generalize I:upd H5 x3 _=H6;have k3:=upA I;have C:=upS T I
  replace l3:=C _ _ l3
  replace U:=U.trans C.but
  clear I C T;have q6:=SqL.of (K:=K) l3;walk_at"g";rw[c2];intro x4 R;generalize I:upd H6 x4 _=H8;have k4:=upA I;have C:=upS R I
  replace k3:=C _ _ k3
  replace U:=U.trans C.but
  clear I C R;have er:((rwS n).take 3).map V.str++[V.str (Str.ofString "jump 3")]++((rwS n).drop 4).map V.str=((rwS n).take 3++[Str.ofString "jump 3"]++(rwS n).drop 4).map V.str:=by rw[R5,R5];rfl
  have M:=jd (f4 n n4);generalize (rwS n).take 3++[Str.ofString "jump 3"]++(rwS n).drop 4=J at*;walk_at"g";rw[er];intro u N;generalize I:upd H8 u _=G;have l7:=upA I;have C:=upS N I
  replace U:=U.trans C.but
  clear I C N;walk_at"g";intro F a;walk_at"g";intro p L;exact fin G u J 16 (.ans (.guest 0 2)) l7 U M True.intro F a p L
 walk_at"g";refine bO (fun c=> ?_) (fun c=> ?_)
 .clear hf c;have c1:fC ((rwS n).map V.str) none (some 2)=((rwS n).take 2).map V.str:=by rw[Uj];exact B6 (n:=2)
  have c2:fC ((rwS n).map V.str) (some 2) none=((rwS n).drop 2).map V.str:=by rw[Uk];exact pS (n:=2)
  have Y:((((rwS n).take 2).map V.str)).length+[V.str (Str.ofString "stop")].length<=sizeLine:=by rw[be,Sg];exact RY (show _<=100 by show _+1<=100;lia) (by decide)
  have aw:(((rwS n).take 2).map V.str++[V.str (Str.ofString "stop")]).length+(((rwS n).drop 2).map V.str).length<=sizeLine:=by rw[RZ,be,Sg,be,SH];rw[be] at k;exact RY (show _<=100 by show _+1+_<=100;lia) (by decide)
  walk_at"g";rw[c1];intro x1 W;generalize I:upd H3 x1 _=O;have k1:=upA I;have C:=upS W I
  replace l3:=C _ _ l3
  replace U:=U.trans C.but
  clear I C W;walk_at"g";intro x2 X;generalize I:upd O x2 _=H5;have k2:=upA I;have C:=upS X I
  replace l3:=C _ _ l3
  replace k1:=C _ _ k1
  replace U:=U.trans C.but
  clear I C X;walk_at"g";intro x3 T;generalize I:upd H5 x3 _=H6;have k3:=upA I;have C:=upS T I
  replace l3:=C _ _ l3
  replace U:=U.trans C.but
  clear I C T;have q6:=SqL.of (K:=K) l3;walk_at"g";rw[c2];intro x4 R;generalize I:upd H6 x4 _=H8;have k4:=upA I;have C:=upS R I
  replace k3:=C _ _ k3
  replace U:=U.trans C.but
  clear I C R;have er:((rwS n).take 2).map V.str++[V.str (Str.ofString "stop")]++((rwS n).drop 2).map V.str=((rwS n).take 2++[Str.ofString "stop"]++(rwS n).drop 2).map V.str:=by rw[R5,R5];rfl
  have M:=jd (f5 n n4);generalize (rwS n).take 2++[Str.ofString "stop"]++(rwS n).drop 2=J at*;walk_at"g";rw[er];intro u N;generalize I:upd H8 u _=G;have l7:=upA I;have C:=upS N I
  replace U:=U.trans C.but
  clear I C N;walk_at"g";intro F a;walk_at"g";intro p L;exact fin G u J 16 (.ans (.guest 0 1)) l7 U M True.intro F a p L
 walk_at"g";refine bO (fun c=> ?_) (fun c=> ?_)
 .clear hf c;have c1:fC ((rwS n).map V.str) none (some (-1))=(rwS n).dropLast.map V.str:=by
   exact c6 n n4
  walk_at"g";rw[c1];intro u N;generalize I:upd H3 u _=G;have l7:=upA I;have C:=upS N I
  replace l3:=C _ _ l3
  replace U:=U.trans C.but
  clear I C N;have q7:=SqL.of (K:=K) l3;have M:=jd (f6 n n4);rw[<- be (f:=V.str)] at M;walk_at"g";intro F a;walk_at"g";intro p L;exact fin G u ((rwS n).dropLast) 16 (.ans (.guest 2 ((((rwS n).map V.str).length:Nat) - 11))) l7 U M True.intro F a p L
 walk_at"g";refine bO (fun c=> ?_) (fun c=> ?_)
 .clear hf c;walk_at"g";intro m hm;generalize I:upd H3 m _=O;have m4:=upA I;have C:=upS hm I;have m0:=But.fresh U ar hm
  replace l3:=C _ _ l3
  replace ar:=bu C ar
  replace U:=U.trans C.but
  clear I C hm;walk_at"g";refine⟨g_ (fun i Z H'=>aD (∃m,H m=none/\H' m=some (.lst ((iE i).map V.str))/\H' rl=some (.lst ((rwS n).map V.str))/\c_ H' d/\But d H H'/\∃x,Z=[some (.ref d),some (.ref rl),some (.int fm),some (.int ia),none,some (.ref m),x])) (aD.mk ⟨m,m0,m4,l3,ar,U,_,rfl⟩) ?_ ?_⟩
  .clear ar U l3 m4 m0;clear O m;rintro i Z H5 hi ⟨m,m0,m5,l5,b,l,x,rfl⟩
   have aW:i<13:=hi;have hb:=OH aW;have lg:((3:Int)+((0:Int)+(i:Int))).natAbs.log2<1920:=Hi (by lia) (by lia)
   have bW:((iE i).map V.str).length<=400:=by rw[be,rW];exact RY (TU 25 (Uu aW)) (by decide)
   walk_at"g";rw[show(Str.ofString "block "++Str.ofString (toString ((3:Int)+((0:Int)+(i:Int)))))=bkS i from rfl];intro z1 Y;generalize I:upd H5 z1 _=H6;have k1:=upA I;have C:=upS Y I
   replace l5:=C _ _ l5
   replace m5:=C _ _ m5
   replace b:=bu C b
   replace l:=l.trans C.but
   clear I C Y;have aL:((iE i).map V.str).length+([V.str (bkS i)]).length<=sizeLine:=by
    repeat rw[RZ]
    exact RY (show _<=1000 by first | (show _+1<=1000;lia) | (show _+1+23<=1000;lia) | (show _+1+23+1<=1000;lia)) (by decide)
   walk_at"g";intro z2 aw;generalize I:upd H6 z2 _=G;have k2:=upA I;have C:=upS aw I
   replace l5:=C _ _ l5
   replace b:=bu C b
   replace l:=l.trans C.but
   clear I C aw;clear aL;walk_at"g";intro z3 aT;generalize I:upd G z3 _=H8;have k3:=upA I;have C:=upS aT I
   replace l5:=C _ _ l5
   replace k2:=C _ _ k2
   replace b:=bu C b
   replace l:=l.trans C.but
   clear I C aT;walk_at"g";rw[show(List.replicate (23:Int).toNat [V.str (Str.ofString "load 1 0 1")]).flatten=List.replicate 23 (V.str (Str.ofString "load 1 0 1")) from rfl];intro z4 aS;generalize I:upd H8 z4 _=H9;have k4:=upA I;have C:=upS aS I
   replace l5:=C _ _ l5
   replace k2:=C _ _ k2
   replace b:=bu C b
   replace l:=l.trans C.but
   clear I C aS;have aL:((iE i).map V.str++[V.str (bkS i)]).length+(List.replicate 23 (V.str (Str.ofString "load 1 0 1"))).length<=sizeLine:=by
    repeat rw[RZ]
    exact RY (show _<=1000 by first | (show _+1<=1000;lia) | (show _+1+23<=1000;lia) | (show _+1+23+1<=1000;lia)) (by decide)
   walk_at"g";intro z5 a7;generalize I:upd H9 z5 _=bQ;have k5:=upA I;have C:=upS a7 I
   replace l5:=C _ _ l5
   replace b:=bu C b
   replace l:=l.trans C.but
   clear I C a7;clear aL;walk_at"g";intro z6 bg;generalize I:upd bQ z6 _=bt;have k6:=upA I;have C:=upS bg I
   replace l5:=C _ _ l5
   replace k5:=C _ _ k5
   replace b:=bu C b
   replace l:=l.trans C.but
   clear I C bg;have aL:((iE i).map V.str++[V.str (bkS i)]++List.replicate 23 (V.str (Str.ofString "load 1 0 1"))).length+([V.str (Str.ofString "stop")]).length<=sizeLine:=by
    repeat rw[RZ]
    exact RY (show _<=1000 by first | (show _+1<=1000;lia) | (show _+1+23<=1000;lia) | (show _+1+23+1<=1000;lia)) (by decide)
   walk_at"g";intro z7 au;generalize I:upd bt z7 _=bT;have k7:=upA I;have C:=upS au I;have z0:=But.fresh l b au
   replace l5:=C _ _ l5
   replace b:=bu C b
   replace l:=l.trans C.but
   clear I C au;walk_at"g";exact aD.mk ⟨z7,z0,by rw[k7,Gx],l5,b,l,_,rfl⟩
  .rintro Z H5 ⟨m,m0,m5,l5,b,l,x,rfl⟩
   replace m5:H5 m=some (.lst ((iE 13).map V.str)):=m5
   have M:=jd (f7 n n4);have au:((rwS n).map V.str).length+((iE 13).map V.str).length<=sizeLine:=by
    rw[k,be,rW];exact RY (show _<=400 by lia) (by decide)
   walk_at"g";intro r H6 r0 r1 a6 b6
   replace l5:=b6 _ _ nd l5
   replace l:=l.trans b6
   clear r0 r1;have m6:=b6 _ _ (show m≠d from fun z=>by subst z;obtain⟨_,_,e⟩:=b;rw[m5] at e;cases e) m5
   clear b6 b m5;clear H5;have q6:=SqL.of (K:=K) m6;walk_at"g";refine bO (fun c=> ?_) (fun c=> ?_)
   .clear c;have er:(rwS n).map V.str++(iE 13).map V.str=(rwS n++iE 13).map V.str:=(R5 ..).symm;generalize rwS n++iE 13=J at*;walk_at"g";rw[er];intro u N;generalize I:upd H6 u _=G;have l7:=upA I;have C:=upS N I;clear I
    replace l:=l.trans C.but
    clear C N;walk_at"g";intro F a;walk_at"g";intro p L;exact fin G u J 16 .long l7 l M True.intro F a p L
   clear c M au;have a':((iE 13).map V.str).length=325:=by rw[be,rW]
   walk_at"g";rw[a',show(Builtin.Range.rangeSize 2 ((325:Nat):Int) 2).toNat=162 by decide]
   refine⟨Hk (n:=162) (fun i Z H'=>aD (H' m=some (.lst ((gn i).map V.str))/\H' rl=some (.lst ((rwS n).map V.str))/\But d H H'/\∃x,Z=[some (.ref d),some (.ref rl),some (.int fm),some (.int ia),none,some (.ref m),x])) (aD.mk ⟨m6,l5,l,_,rfl⟩) ?_ ?_⟩
   .clear m6 l5 l q6 a6;clear H6;rintro i Z G hi ⟨m7,l7,b7,y,rfl⟩
    have ek:(2:Int)+(i:Int)*2=((2+2*i:Nat):Int):=by push_cast;lia
    rw[ek];have bl:=BF i;have hk:2+2*i<(gn i).length:=by rw[bl];lia
    have ix:atI ((gn i).map V.str) ((2+2*i:Nat):Int)=some (.str ((gn i).getD (2+2*i) "")):=by
     refine bq ?_
     rw[Sx,Sz,R1 hk]
     rfl
    have q7:=SqL.of (K:=K) m7;have e7:=GI i;have bJ:rl≠m:=fun z=>by
     rw[<- z,l7] at m7;have:=congrArg (fun o:Option HO=>match o with | some (.lst xs)=>xs.length | _=>0) m7
     have:((rwS n).map V.str).length=((gn i).map V.str).length:=this;rw[k,be,bl] at this
     lia
    cases cs:Txt.startswith ((gn i).getD (2+2*i) "") (Str.ofString "load") with
    | true=>
     have e8:gn (i+1)=(gn i).set (2+2*i) "load 1 2 3":=by rw[e7];unfold Gy;rw[R9 cs]
     have hj:ixN ((gn i).map V.str).length ((2+2*i:Nat):Int)=some (2+2*i):=Cm (by rw[be];exact hk)
     walk_at"g";dsimp only;rw[cs];walk_at"g";refine aD.mk ⟨?_,by rw[aj bJ];exact l7,But.wr m0 b7,_,rfl⟩
     rw[ae,e8,List.map_set]
    | false=>
     have e8:gn (i+1)=gn i:=by rw[e7];unfold Gy;rw[R6 (by rw[cs];decide)]
     walk_at"g";dsimp only;rw[cs];exact aD.mk ⟨by rw[e8];exact m7,l7,b7,_,rfl⟩
   .rintro Z G ⟨m7,l7,b7,y,rfl⟩
    have M:=jd (f7b n n4);have bS:((rwS n).map V.str).length+((gn 162).map V.str).length<=sizeLine:=by
     rw[k,be,BF];exact RY (show _<=400 by lia) (by decide)
    have er:(rwS n).map V.str++(gn 162).map V.str=(rwS n++gn 162).map V.str:=(R5 ..).symm;generalize rwS n++gn 162=J at*;walk_at"g";rw[er];intro u N;generalize I:upd G u _=H8;have l8:=upA I;have C:=upS N I;clear I
    replace b7:=b7.trans C.but
    clear C N;walk_at"g";intro F a;walk_at"g";intro p L;exact fin H8 u J 16 .both l8 b7 M True.intro F a p L
 walk_at"g";intro r O r0 r1 aF b4;obtain⟨r,rfl⟩:=SI r0;have M:=jd (f8 n n4 r (by lia))
 have l7:=b4 _ _ nd l3
 replace U:=U.trans b4
 clear r0 r1 b4;walk_at"g";intro F a;walk_at"g";intro p L;exact fin O rl (rwS n) (4+(r:Int)) (.ans .told) l7 U M True.intro F a p L
noncomputable def z8:Str:=⟨(List.replicate 7 (Str.ofString "00000000 ").cps).foldl (· ++ ·) #[]⟩++Str.ofString "00000000"
noncomputable def rwC:List Str:=["plan 4 16 0 1 3",z8,z8]
noncomputable def EO:List Str:=["plan 21 0 0 1 3","plan 4 8 0 1 3","plan 4 16 4 4 3","plan 4 16 0 1 17","plan 4 16 0 1"]
noncomputable def FR:List Str:=["plan 4 -16 0 1 3","plan 4 016 0 1 3","plan  4 16 0 1 3","Plan 4 16 0 1 3"]
noncomputable def jB:List Str:=EO++FR++[Str.ofString "plan 4 4294967296 0 1 3"]
noncomputable def pcC:List Str:=["0000000","000000000","0000000g","0000000A","0x000000","-0000000"]
noncomputable def blC:List Str:=["","   "]
noncomputable def wp:Nat->List Str->List Str
 | 0,r=>r
 | k+1,r=>(wp k r).take 1++blC.getD (k %2) ""::(wp k r).drop 1
noncomputable def cB(rows:List Str)(a:Ans):Bool:=(match rdF (c9 10 (cL rows)) with
 | .error ln=>decide (a= .text (ln:Nat))
 | .ok (ns,ws)=>decide (a= .told/\ns=[4,16,0,1,3]/\ws=List.replicate 16 0)) && (decide (rows.length<=20) && rows.all fun x=>decide (x.length<=100))
structure C92 (rows:List Str) (a:Ans):Prop where
 c:QG (c9 10 (cL rows)) a
 n:rows.length<=20
 l:∀x∈rows,x.length<=100
theorem Kr{rows:List Str}{a:Ans}(h:cB rows a=true):C92 rows a:=by
 unfold cB at h
 simp only[Su,TL,S7] at h
 obtain⟨o,C,I⟩:=h;refine⟨⟨fun b e=> ?_,fun U J e=> ?_⟩,C,I⟩
 .rw[e] at o;exact SE o
 .rw[e] at o;exact SE o
theorem g0:∀j,j<10->∀e:Bool,cB ([jB.getD j ""]++(if e then rwC.set 2 "none" else rwC).drop 1) (.text 1)=true:=by decide +kernel
noncomputable def B7(j:Nat):Str:=u9 z8 (some 9) none++Str.ofString " "++pcC.getD j ""
theorem g1:∀i,i<2->∀j,j<6->∀m,m<4->cB (wp m (rwC.set (1+i) (B7 j))) (.text ((1:Int)+(i:Int)+(m:Int)+1))=true:=by decide +kernel
theorem g2:cB rwC .told=true:=by decide +kernel
theorem Ra:∀i,i<2->rwC.getD (1+i) ""=z8:=by decide +kernel
theorem M9(rows:List Str):Txt.join (Str.ofString "\n") rows=S (c9 10 (cL rows)):=by
 rw[EM, <-u7,show(cL rows).map S=rows by
  unfold cL;rw[Vh]
  exact List.map_id'' (fun x=>(Na x).symm) rows]
theorem Re{rows:List Str}{n k:Nat}(C:rows.length<=n)(o:∀x∈rows,x.length<=k):(rows.map (·.length)).sum<=n*k:=by
 have:∀rows:List Str,(∀x∈rows,x.length<=k)->(rows.map (·.length)).sum<=rows.length*k:=by
  intro rows
  induction rows with
  | nil=>exact fun _=>SK _
  | cons x r ih=>
   intro h;have U:=ih fun y I=>h y (R8 _ I)
   have J:=h x Sn;rw[Ss,TB,R4,Wv]
   lia
 exact RY (this rows o) (Ug _ C)
theorem B_{rows:List Str}{n k:Nat}(C:rows.length<=n)(o:∀x∈rows,x.length<=k)(h:n*k+n<=100000):(rows.map (·.length)).sum+rows.length*(Str.ofString "\n").length<=sizeLine:=by
 have I:=Re C o;have e:(Str.ofString "\n").length=1:=by decide
 rw[e,Nat.mul_one];exact RY (show _<=100000 by lia) (by decide)
def QL:Sp:=fun vs H Q _=>∃d:Addr,vs=[.ref d]/\c_ H d/\∀(p I:Addr) (o:List Str) (a:Ans) (C:Hp),C p=some (.tup [.str (S (c9 10 (cL o))),.ref I])->C I=some (.tup a.vs)->C92 o a->But d H C->Q (.ref p) C
theorem vA(B:Bi mg)(D:nu K mg)(aX:Has P w K mg base 1 "_law_draw" Ai BS):Has P w K mg base 2 "_law_code_text" km QL:=by
 refine D.has br (by intro _ _ _ _;walk_at"ln") (fun f bB A aG s H vs Q E hr h=> ?_)
 obtain⟨d,rfl,hd,q⟩:=h;have fin:∀(H7:Hp) (y:List Str) (a:Ans),But d H H7->C92 y a->∀X,H7 X=none->∀p,upd H7 X (.tup a.vs) p=none->Q (.ref p) (upd (upd H7 X (.tup a.vs)) p (.tup [.str (S (c9 10 (cL y))),.ref X])):=fun H7 y a b7 N X M p hp=>
  q p X y a _ ae (ag hp _ _ _ ae) N ((b7.trans (ag M _).but).trans (ag hp _).but)
 clear q;have bx:1<=(Str.ofString "00000000 ").length:=by decide +kernel
 have bw:(Str.ofString "00000000 ").length<=100:=by decide +kernel
 have bo:(⟨(List.replicate 7 (Str.ofString "00000000 ").cps).foldl (· ++ ·) #[]⟩:Str).length+(Str.ofString "00000000").length<=sizeLine:=RY (show _<=1000 by decide +kernel) (by decide)
 have J:But d H H:=fun _ _ _ h=>h
 refine⟨_,((aa (psS 1 br.nd (ax dL (a8 (pa1 av)) (ax yR (a8 (pa1 (ax fA (ax Me av ac) av))) ac)))
   (aa (psS 2 br.nd (pcH aX hr (pa2 (pv 0) ac)))
   (aa (aC (pcT aK (pv 2) ac) (aa (psS 3 br.nd (a8 (aU (by rfl))))
   (aa (psS 3 br.nd (ax dL (pv 3) (a8 (aU (by rfl)))))
   (aa (bj (bU Sr SL SM da (pv 3) (pa1 av)))
   (aa (aP (bz (aC (pcT aK (pcH aX hr (pa2 (pv 0) ac)) ac) (ad (tW av (zK (pv 1) ac rC))) ao)))
   (ad (ah (az (pa2 (bU So Th Ti nF av (pa1 (ax dL (a8 (pa1 (pX bA (pv 3) (pcH aX hr (pa2 (pv 0) ac))))) (bK iq (pv 1) (cq ac) cQ)))) (az (aU (by rfl))))))))))) ao)
   (aa (aC (pcT aK (pv 2) ac) (aa (psS 4 br.nd (ax aZ ac (pcH aX hr (pa2 (pv 0) ac))))
   (aa (psS 5 br.nd (pX bA (a8 (aU (by rfl))) (pcH aX hr (pa2 (pv 0) ac))))
   (aa (tW (ax fA (ax fA (bK LE (pX bA (pv 1) (pv 4)) (cq ac) cQ) av) (pv 5)) (zK (pv 1) (pv 4) rC))
   (aa (cv Sw (by rfl) (bY (iL (by rfl) B.range (pa1 (pcH aX hr (pa2 (pv 0) ac))))) (aJ (i:=6) br.nd (by rfl) (by left;rfl)) (aa (bj (bU Sr Wb Wc Bq (pv 1) (pa2 ac (pX bA (a8 (aU (by rfl))) (ax eU (pv 6) ac)))))
   (ad (psS 4 br.nd (ax aZ (pv 4) ac)))))
   (ad (ah (az (pa2 (bU So Th Ti nF av (pa1 (pv 1))) (az (pa2 av (ax aZ (pv 4) ac))))))))))) ao)
   (ad (ah (az (pa2 (bU So Th Ti nF av (pa1 (pv 1))) (az (aU (by rfl))))))))))):PSs (eE CX0 P w K mg base ["_law_deal_here","_law_rows_here","_law_form","_law_wild","_law_at","_law_piece","_law_k"] "_law_code_text" (af fU) f bB A aG s H E).nox (_::_) _),?_⟩
 walk_at"k";intro x1 ab;generalize I:upd H x1 _=H1;have k1:=upA I;have C:=upS ab I;have F:=bu C hd
 replace J:=J.trans C.but
 clear I C ab;walk_at"g"
 change ∀p,H1 p=none->tC _ _ (upd H1 p (.lst [.str z8])) _
 intro x2 ar;generalize I:upd H1 x2 _=H2;have k2:=upA I;have C:=upS ar I
 replace k1:=C _ _ k1
 replace F:=bu C F
 replace J:=J.trans C.but
 clear I C ar;walk_at"g";rw[show(List.replicate (2:Int).toNat [V.str z8]).flatten=[V.str z8,V.str z8] from rfl];intro x3 aW;generalize I:upd H2 x3 _=H3;have k3:=upA I;have C:=upS aW I
 replace k1:=C _ _ k1
 replace F:=bu C F
 replace J:=J.trans C.but
 clear I C aW;walk_at"g";rw[show[V.str (Str.ofString "plan 4 16 0 1 3")]++[V.str z8,V.str z8]=rwC.map V.str from rfl];intro T aF;generalize I:upd H3 T _=H4;have l4:=upA I;have C:=upS aF I;have aN:=But.fresh J F aF;have nd:T≠d:=F.ne aF
 replace F:=bu C F
 replace J:=J.trans C.but
 clear I C aF;clear k1 k2 k3 bx bw bo;clear H3 H2 H1 x1 x2 x3;walk_at"g";intro fm H5 f0 f3 U b5
 replace l4:=b5 _ _ nd l4
 replace J:=J.trans b5
 clear b5 F f0 f3;clear H4;walk_at"g";refine bO (fun c=> ?_) (fun c=> ?_)
 .clear c;walk_at"g";rw[show[V.str (Str.ofString "plan 21 0 0 1 3"),V.str (Str.ofString "plan 4 8 0 1 3"),V.str (Str.ofString "plan 4 16 4 4 3"),V.str (Str.ofString "plan 4 16 0 1 17"),V.str (Str.ofString "plan 4 16 0 1")]=EO.map V.str from rfl];intro x1 ab;generalize I:upd H5 x1 _=H6;have k1:=upA I;have C:=upS ab I
  replace l4:=C _ _ l4
  replace U:=bu C U
  replace J:=J.trans C.but
  clear I C ab;walk_at"g";rw[show[V.str (Str.ofString "plan 4 -16 0 1 3"),V.str (Str.ofString "plan 4 016 0 1 3"),V.str (Str.ofString "plan  4 16 0 1 3"),V.str (Str.ofString "Plan 4 16 0 1 3")]=FR.map V.str from rfl];intro x2 ar;generalize I:upd H6 x2 _=H7;have k2:=upA I;have C:=upS ar I
  replace l4:=C _ _ l4
  replace k1:=C _ _ k1
  replace U:=bu C U
  replace J:=J.trans C.but
  clear I C ar;have a6:(EO.map V.str).length+(FR.map V.str).length<=sizeLine:=RY (show _<=100 by decide) (by decide)
  walk_at"g";intro w hw;generalize I:upd H7 w _=H8;have k3:=upA I;have C:=upS hw I;have w0:=But.fresh J U hw;have wd:w≠d:=U.ne hw;have wr:T≠w:=aq l4 hw
  replace l4:=C _ _ l4
  replace U:=bu C U
  replace J:=J.trans C.but
  clear I C hw;have bl:tyV K "list" (.ref w) H8:= .inl ⟨rfl,_,SqL.of k3⟩;have aL:(EO.map V.str++FR.map V.str).length<sizeLine:=SB (show _<=100 by decide) (by decide)
  clear k1 k2 a6;walk_at"g";rw[show EO.map V.str++FR.map V.str++[V.str (Str.ofString "plan 4 4294967296 0 1 3")]=jB.map V.str from rfl];have l9:upd H8 w (.lst (jB.map V.str)) T=some (.lst (rwC.map V.str)):=by rw[aj wr];exact l4
  have w9:upd H8 w (.lst (jB.map V.str)) w=some (.lst (jB.map V.str)):=ae;have aw:=U.wr (o:= .lst (jB.map V.str)) wd;have b9:=But.wr (o:= .lst (jB.map V.str)) w0 J;generalize upd H8 w (.lst (jB.map V.str))=H9 at*;clear l4 k3 U J bl aL w0;clear H8 H7 H6 H5;walk_at"n";walk_at"n";refine⟨fun Z' H'=>aD (∃e:Bool,H' T=some (.lst ((if e then rwC.set 2 "none" else rwC).map V.str))/\H' w=some (.lst (jB.map V.str))/\c_ H' d/\But d H H'/\Z'=[some (.ref d),some (.ref T),some (.int fm),some (.ref w),none,none,none]),?_,?_⟩
  .walk_at"g";intro r Ha r0 r1 L G;have la:=G _ _ nd l9;have wa:=G _ _ wd w9;have W:=b9.trans G;clear r0 r1 G;walk_at"g";refine bO (fun c=> ?_) (fun c=> ?_)
   .have hj:ixN (rwC.map V.str).length 2=some 2:=Cm (j:=2) (by decide)
    walk_at"g";refine aD.mk ⟨true,?_,by rw[aj (SD wr)];exact wa,L.wr nd,But.wr aN W,rfl⟩
    rw[ae]
    rfl
   .exact aD.mk ⟨false,la,wa,L,W,rfl⟩
  clear l9 w9 aw b9;clear H9;rintro Za Ha ⟨e,la,wa,L,G,rfl⟩
  walk_at"g";intro j Hb j0 j1 b W;obtain⟨j,rfl⟩:=SI j0;have aS:j<10:=by lia
  replace la:=W _ _ nd la
  have wb:=SqL.of (K:=K) (W _ _ wd wa)
  replace G:=G.trans W
  clear j0 j1 W wa L;clear Ha;have N:=Kr (g0 j aS e);have ix:atI (jB.map V.str) (j:Int)=some (.str (jB.getD j "")):=by
   refine bq ?_
   rw[Sx,Sz,R1 (show j<jB.length from aS)]
   rfl
  have c1:fC ((if e then rwC.set 2 "none" else rwC).map V.str) (some 1) none=((if e then rwC.set 2 "none" else rwC).drop 1).map V.str:=by rw[Uk];exact pS (n:=1)
  have bg:(if e then rwC.set 2 "none" else rwC).length=3:=by cases e <;> rfl
  generalize (if e then rwC.set 2 "none" else rwC)=rr at*
  walk_at"g";intro y1 O;generalize I:upd Hb y1 _=Hc;have k1:=upA I;have C:=upS O I
  replace la:=C _ _ la
  replace b:=bu C b
  replace G:=G.trans C.but
  clear I C O;have qc:=SqL.of (K:=K) la;walk_at"g";rw[c1];intro y2 Y;generalize I:upd Hc y2 _=Hd;have k2:=upA I;have C:=upS Y I
  replace k1:=C _ _ k1
  replace b:=bu C b
  replace G:=G.trans C.but
  clear I C Y;have bJ:[V.str (jB.getD j "")].length+((rr.drop 1).map V.str).length<=sizeLine:=by
   rw[be,SH,bg];exact RY (show _<=100 from(show 1+2<=100 by decide)) (by decide)
  have er:[V.str (jB.getD j "")]++(rr.drop 1).map V.str=([jB.getD j ""]++rr.drop 1).map V.str:=rfl;generalize [jB.getD j ""]++rr.drop 1=y at*;walk_at"g";rw[er];intro u hu;generalize I:upd Hd u _=He;have k3:=upA I;have C:=upS hu I
  replace b:=bu C b
  replace G:=G.trans C.but
  clear I C hu;have q9:=SqL.of (K:=K) k3;have jl:=B_ N.n N.l (by decide)
  walk_at"g";rw[M9];intro X M;walk_at"g";intro p hp;exact fin He y (.text 1) G N X M p hp
 walk_at"g";refine bO (fun c=> ?_) (fun c=> ?_)
 .clear c;walk_at"g";intro i H6 i0 i1 au b6;obtain⟨i,rfl⟩:=SI i0;have i2:i<2:=by lia
  replace l4:=b6 _ _ nd l4
  replace J:=J.trans b6
  clear i0 i1 b6 U;clear H5;walk_at"g";rw[show[V.str (Str.ofString "0000000"),V.str (Str.ofString "000000000"),V.str (Str.ofString "0000000g"),V.str (Str.ofString "0000000A"),V.str (Str.ofString "0x000000"),V.str (Str.ofString "-0000000")]=pcC.map V.str from rfl];intro y1 O;generalize I:upd H6 y1 _=H7;have k1:=upA I;have C:=upS O I;have yd:y1≠d:=au.ne O
  replace l4:=C _ _ l4
  replace au:=bu C au
  replace J:=J.trans C.but
  clear I C O;walk_at"g";intro j H8 j0 j1 aT b8;obtain⟨j,rfl⟩:=SI j0;have j6:j<6:=by lia
  replace l4:=b8 _ _ nd l4
  have k8:=SqL.of (K:=K) (b8 _ _ yd k1)
  replace J:=J.trans b8
  clear j0 j1 b8 au k1;clear H7;have ix:atI (pcC.map V.str) (j:Int)=some (.str (pcC.getD j "")):=by
   refine bq ?_
   rw[Sx,Sz,R1 (show j<pcC.length from j6)]
   rfl
  have ek:(1:Int)+(i:Int)=((1+i:Nat):Int):=by push_cast;rfl
  have il:1+i<rwC.length:=by show 1+i<3;lia
  have bt:atI (rwC.map V.str) ((1:Int)+(i:Int))=some (.str z8):=by
   rw[ek];refine bq ?_
   rw[Sx,R1 il];have:=Ra i i2;rw[Sz,R1 il] at this;exact congrArg (fun z=>some (V.str z)) this
  have hj:ixN (rwC.map V.str).length ((1:Int)+(i:Int))=some (1+i):=by rw[ek];exact Cm (by rw[be];exact il)
  have q8:=SqL.of (K:=K) l4;have aL:z8.length<=sizeLine:=RY (show _<=1000 by decide +kernel) (by decide)
  have a':(u9 z8 (some 9) none).length+(Str.ofString " ").length<=sizeLine:=RY (show _<=1000 by decide +kernel) (by decide)
  have a7:(u9 z8 (some 9) none++Str.ofString " ").length+(pcC.getD j "").length<=sizeLine:=by
   have:∀j,j<6->(u9 z8 (some 9) none++Str.ofString " ").length+(pcC.getD j "").length<=1000:=by decide +kernel
   exact RY (this j j6) (by decide)
  walk_at"g";rw[show(rwC.map V.str).set (1+i) (V.str (u9 z8 (some 9) none++Str.ofString " "++pcC.getD j ""))=(rwC.set (1+i) (B7 j)).map V.str from(List.map_set ..).symm];have l9:upd H8 T (.lst ((rwC.set (1+i) (B7 j)).map V.str)) T=some (.lst ((rwC.set (1+i) (B7 j)).map V.str)):=ae;have aw:=aT.wr (o:= .lst ((rwC.set (1+i) (B7 j)).map V.str)) nd;have b9:=But.wr (o:= .lst ((rwC.set (1+i) (B7 j)).map V.str)) aN J;generalize upd H8 T (.lst ((rwC.set (1+i) (B7 j)).map V.str))=H9 at*;have N:=fun m hm=>Kr (g1 i i2 j j6 m hm)
  have aR:(rwC.set (1+i) (B7 j)).length=3:=by rw[VB];rfl
  generalize rwC.set (1+i) (B7 j)=R at*;clear l4 aT J k8 ix bt hj q8 aL a' a7 ek il;clear yd;clear H8 y1 H6;refine⟨aw,by decide,by decide,fun m Ha m0 m1 L G=> ?_⟩
  obtain⟨m,rfl⟩:=SI m0;have m4:m<4:=by lia
  clear m1
  replace l9:=G _ _ nd l9
  replace b9:=b9.trans G
  clear m0 G aw;clear H9;walk_at"g";refine⟨g_ (fun k Z H'=>aD (H' T=some (.lst ((wp k R).map V.str))/\c_ H' d/\But d H H'/\∃v x,v=(1:Int)+(i:Int)+(k:Int)/\Z=[some (.ref d),some (.ref T),some (.int fm),none,some (.int v),some (.str (pcC.getD j "")),x])) (aD.mk ⟨l9,L,b9,_,_,by simp,rfl⟩) ?_ ?_⟩
  .clear l9 L b9;clear Ha;rintro k Z Hb hk ⟨lb,b,W,v,x,ev,rfl⟩
   have k4:k<4:=Nat.lt_trans (show k<m from hk) m4;have bQ:tyV K "list" (.ref T) Hb:= .inl ⟨rfl,_,SqL.of lb⟩;walk_at"g";rw[show[V.str (Str.ofString ""),V.str (Str.ofString "   ")]=blC.map V.str from rfl];intro y2 Y;generalize I:upd Hb y2 _=Hc;have k1:=upA I;have C:=upS Y I
   replace lb:=C _ _ lb
   replace b:=bu C b
   replace W:=W.trans C.but
   clear I C Y;have bS:atI (blC.map V.str) (((0:Int)+(k:Int)) %2)=some (.str (blC.getD (k %2) "")):=by
    have:∀k,k<4->atI (blC.map V.str) (((0:Int)+((k:Nat):Int)) %2)=some (.str (blC.getD (k %2) "")):=by decide +kernel
    exact this k k4
   have qk:=SqL.of (K:=K) k1;have il:(wp k R).length=3+k:=by
    have:∀k,(wp k R).length=3+k:=fun k=>by
     induction k with
     | zero=>exact aR
     | succ k ih=>
      unfold wp;rw[RZ,R4,Sg,SH,ih]
      lia
    exact this k
   have bG:1<=((wp k R).map V.str).length:=by rw[be,il];lia
   have bR:((wp k R).map V.str).length<sizeLine:=by rw[be,il];exact SB (show _<=100 by lia) (by decide)
   walk_at"g";refine aD.mk ⟨?_,b.wr nd,But.wr aN W,_,_,?_,rfl⟩
   .rw[ae];show _=some (HO.lst (((wp k R).take 1++blC.getD (k %2) ""::(wp k R).drop 1).map V.str))
    rw[R5,Ss,Uj,Uk]
   .rw[ev]
    push_cast
    lia
  .rintro Z Hb ⟨lb,b,W,v,x,ev,rfl⟩
   replace lb:Hb T=some (.lst ((wp m R).map V.str)):=lb
   replace ev:v=(1:Int)+(i:Int)+(m:Int):=ev
   have N:=N m m4;have qb:=SqL.of (K:=K) lb;have jl:=B_ N.n N.l (by decide)
   walk_at"g";rw[M9];intro X M;walk_at"g";intro p hp;exact fin Hb (wp m R) (.text (v+1)) W (by rw[ev];exact N) X M p hp
 have q5:=SqL.of (K:=K) l4;have N:=Kr g2;have jl:=B_ N.n N.l (by decide)
 walk_at"g";rw[M9];intro X M;walk_at"g";intro p hp;exact fin H5 rwC .told J N X M p hp
noncomputable def Due.isB:Due->Bool
 | .both=>true
 | _=>false
noncomputable def Due.isL:Due->Bool
 | .long=>true
 | _=>false
theorem Due.eB{d:Due}(h:d.ok):wE d.vs [.str "both"]=d.isB:=by
 match d,h with
 | .ans .told,_=>rfl
 | .ans (.text _),_=>rfl
 | .ans (.guest _ _),_=>rfl
 | .long,_=>rfl
 | .both,_=>rfl
theorem Due.eL{d:Due}(h:d.ok):wE d.vs [.str "long"]=d.isL:=by
 match d,h with
 | .ans .told,_=>rfl
 | .ans (.text _),_=>rfl
 | .ans (.guest _ _),_=>rfl
 | .long,_=>rfl
 | .both,_=>rfl
theorem Ans.fl(a:Ans):a.vs.all fY=true:=by cases a <;> rfl
theorem Due.fl(d:Due):d.vs.all fY=true:=by
 cases d with
 | ans a=>exact a.fl
 | long=>rfl
 | both=>rfl
theorem Ans.eq(a:Ans):wE a.vs a.vs=true:=by
 cases a with
 | told=>rfl
 | text n=>
  show((eqV (.str "text") (.str "text") && (eqV (.int n) (.int n) && true)) && true)=true
  rw[show eqV (.int n) (.int n)=true from Tf n]
  rfl
 | guest x y=>
  show((eqV (.str "guest") (.str "guest") && (eqV (.int x) (.int x) && (eqV (.int y) (.int y) && true))) && true)=true
  rw[show eqV (.int x) (.int x)=true from Tf x,show eqV (.int y) (.int y)=true from Tf y]
  rfl
 | long=>rfl
theorem K4:GM (fun _ _=>dP) [] 16 (.text 2):=C5 (rows:=[]) (show Kg (fun _ _=>dP) [] 16=some (.text 2) by decide +kernel)
noncomputable def Due.ai(d:Due)(i:Nat):Ans:=if i=0 then d.a0 else d.a1
theorem MV{f:Addr}{fd:FuncData}(B:Bi mg)(kU:Has P w K mg base 1 "_law_deal" Ed (KJ K))(ik:Has P w K mg base 3 "_law_guest_text" km Qp)(iI:Has P w K mg base 2 "_law_code_text" km QL)
  (jo:Has P w K mg base 13 "_law_said" Eu (Ka K)) (F:Fun K "law" "law" Ee f fd):iW P w K mg base CX0 14 f fd ["_law_script"] (BK K):=by
 refine F.ok mz (fun vs H Q E h=> ?_) (fun a7 A M s H vs Q E k h=> ?_)
 .obtain⟨a,ns,rfl,_⟩:=h
  rfl
 obtain⟨a,ns,rfl,hS,bo,hO,q⟩:=h
 refine⟨_,((aa (tW (pcH ik k (pa1 (pcH kU k (pa2 (pv 0) ac)))) (mB (n:=3) (by rfl) (bH (aJ (i:=1) mz.nd (by rfl) (by left;rfl)) (bH (aJ (i:=2) mz.nd (by rfl) (by left;rfl)) (bH (aJ (i:=3) mz.nd (by rfl) (by left;rfl)) jg)))))
   (aa (cv Sw (by rfl) (bY (iL (by rfl) B.range (pa1 ac))) (aJ (i:=4) mz.nd (by rfl) (by left;rfl)) (aa (psS 5 mz.nd (pv 3))
   (aa (aP (bz (aC (PW.pt (gX (pcT (vd (GX k)) (pv 3) (az (pa1 av))) (eY (pcT (vd (GX k)) (pv 3) (az (pa1 av)))))) (ad (psS 5 mz.nd (pX bA (a8 (pa2 (az (pa1 av)) (az (aU (by rfl))))) (cj ER (by rfl) B.int Gd (pa1 (gL (pcE (vd (GX k)) (pv 3) (az (pa1 av))) (gg (pcE aK (pv 4) ac)))))))) ao)))
   (ad (aC (pcT (EU (GX k)) (pcH jo k (pa5 (pv 4) (bU So Th Ti nF av (pa1 (pv 1))) ac ac (pv 2))) (pv 5)) (ad (ah tI)) ao)))))
   (aa (tW (pcH iI k (pa1 (pcH kU k (pa2 (pv 0) ac)))) (mB (n:=2) (by rfl) (bH (aJ (i:=6) mz.nd (by rfl) (by left;rfl)) (bH (aJ (i:=3) mz.nd (by rfl) (by left;rfl)) jg))))
   (aa (cv Sw (by rfl) (bY (Iu (by rfl) B.range (aU (by rfl)))) (aJ (i:=4) mz.nd (by rfl) (by left;rfl)) (ad (aC (pcT (EU (GX k)) (pcH jo k (pa5 (pv 4) (pv 6) ac ac ac)) (pv 3)) (ad (ah tI)) ao)))
   (ad (ah (pcE (vd (GX k)) (pcH jo k (aU (by rfl))) (az (aU (by rfl)))))))))):PSs (eE CX0 P w K mg base ["_law_script","_law_rows_here","_law_gates","_law_due","_law_which","_law_word","_law_text"] "law" (af Ee) f a7 A M s H E).nox (_::_) _),?_⟩
 walk_at"k";intro d H1 f1 aW s1;walk_at"g";intro p rl du aG g J H2 hp X T G O b2;have S2:=But.same s1 f1 b2;walk_at"g";have au:(c9 10 (cL aG)).length<=50000:=by
  refine RY (mU (n:=30) fun x hx=> ?_) ?_
  .obtain⟨y,hy,rfl⟩:=SY.mp hx;exact G.l y hy
  .unfold cL;rw[be];exact RY (TU 31 G.n) (by decide)
 have jl:=aD.mk (B_ G.n G.l (by decide))
 refine⟨g_ (fun i Z Y=>aD (aA H2 Y/\∃x y,Z=[some (.ref a),some (.ref rl),some (.int g),some (.ref du),x,y,none])) (aD.mk ⟨fun _ _ h=>h,_,_,rfl⟩) ?_ ?_⟩
 .rintro i Z H3 hi ⟨s3,x,y,rfl⟩
  have i2:i<2:=hi;have ab:=SqL.of (K:=K) (s3 _ _ X);have o:=SqT.of (K:=K) (s3 _ _ T);have fd:=J.fl;have eB:=Due.eB O;have eL:=Due.eL O;walk_at"g";refine⟨fun Z' Y=>aD (aA H2 Y/\∃wd,Y wd=some (.tup (J.ai i).vs)/\Z'=[some (.ref a),some (.ref rl),some (.int g),some (.ref du),some (.int ((0:Int)+(i:Int))),some (.ref wd),none]),?_,?_⟩
  .walk_at"g";intro t1 aL;generalize I:upd H3 t1 _=W;have aR:=upA I;have n1:=upS aL I;clear I;have k1:SqT K W t1 [.str (Str.ofString "both")]:=SqT.of aR
   replace s3:=s3.trans n1
   replace o:=n1.tup o
   clear n1 aL;walk_at"g";dsimp only;rw[show(if false=true then !wE J.vs [.str (Str.ofString "both")] else wE J.vs [.str (Str.ofString "both")])=J.isB from eB]
   cases J with
   | both=>
    walk_at"g";walk_at"g";intro u U;generalize I:upd W u _=Ha;have k2:=upA I;have C:=upS U I;clear I
    replace o:=C.tup o
    replace s3:=s3.trans C
    clear C U;walk_at"g";intro t3 e;generalize I:upd Ha t3 _=Hb;have k3:=upA I;have C:=upS e I;clear I
    replace o:=C.tup o
    replace k2:=C _ _ k2
    replace s3:=s3.trans C
    clear C e;walk_at"g";intro t4 b;generalize I:upd Hb t4 _=Hc;have k4:=upA I;have C:=upS b I;clear I
    replace o:=C.tup o
    replace k2:=C _ _ k2
    replace k3:=C _ _ k3
    replace s3:=s3.trans C
    clear C b;walk_at"g";intro t5 j;generalize I:upd Hc t5 _=Hd;have k5:=upA I;have C:=upS j I;clear I
    replace o:=C.tup o
    replace k2:=C _ _ k2
    replace k3:=C _ _ k3
    replace k4:=C _ _ k4
    replace s3:=s3.trans C
    clear C j;have q5:=SqT.of (K:=K) k5;have q4:=SqL.of (K:=K) k4;walk_at"g";exact aD.mk ⟨s3,u,by rw[k2];unfold Due.ai;split <;> rfl,rfl⟩
   | long=>
    walk_at"g";intro t6 aF;generalize I:upd W t6 _=He;have k6:=upA I;have C:=upS aF I;clear I
    replace o:=C.tup o
    replace s3:=s3.trans C
    clear C aF;have q6:=SqT.of (K:=K) k6
    match i,i2 with
    | 0,_=>
     walk_at"g";intro u U;generalize I:upd He u _=Ha;have k2:=upA I;have C:=upS U I;clear I
     replace o:=C.tup o
     replace s3:=s3.trans C
     clear C U;walk_at"g";intro t3 e;generalize I:upd Ha t3 _=Hb;have k3:=upA I;have C:=upS e I;clear I
     replace o:=C.tup o
     replace k2:=C _ _ k2
     replace s3:=s3.trans C
     clear C e;walk_at"g";intro t4 b;generalize I:upd Hb t4 _=Hc;have k4:=upA I;have C:=upS b I;clear I
     replace o:=C.tup o
     replace k2:=C _ _ k2
     replace k3:=C _ _ k3
     replace s3:=s3.trans C
     clear C b;walk_at"g";intro t5 j;generalize I:upd Hc t5 _=Hd;have k5:=upA I;have C:=upS j I;clear I
     replace o:=C.tup o
     replace k2:=C _ _ k2
     replace k3:=C _ _ k3
     replace k4:=C _ _ k4
     replace s3:=s3.trans C
     clear C j;have q5:=SqT.of (K:=K) k5;have q4:=SqL.of (K:=K) k4;walk_at"g";exact aD.mk ⟨s3,u,k2,rfl⟩
    | 1,_=>
     walk_at"g";intro u U;generalize I:upd He u _=Ha;have k2:=upA I;have C:=upS U I;clear I
     replace o:=C.tup o
     replace s3:=s3.trans C
     clear C U;walk_at"g";intro t3 e;generalize I:upd Ha t3 _=Hb;have k3:=upA I;have C:=upS e I;clear I
     replace o:=C.tup o
     replace k2:=C _ _ k2
     replace s3:=s3.trans C
     clear C e;walk_at"g";intro t4 b;generalize I:upd Hb t4 _=Hc;have k4:=upA I;have C:=upS b I;clear I
     replace o:=C.tup o
     replace k2:=C _ _ k2
     replace k3:=C _ _ k3
     replace s3:=s3.trans C
     clear C b;walk_at"g";intro t5 j;generalize I:upd Hc t5 _=Hd;have k5:=upA I;have C:=upS j I;clear I
     replace o:=C.tup o
     replace k2:=C _ _ k2
     replace k3:=C _ _ k3
     replace k4:=C _ _ k4
     replace s3:=s3.trans C
     clear C j;have q5:=SqT.of (K:=K) k5;have q4:=SqL.of (K:=K) k4;walk_at"g";exact aD.mk ⟨s3,t3,k3,rfl⟩
   | ans v=>
    walk_at"g";intro u U;generalize I:upd W u _=Ha;have k2:=upA I;have C:=upS U I;clear I
    replace o:=C.tup o
    replace s3:=s3.trans C
    clear C U;have q2:=SqT.of (K:=K) k2;walk_at"g";dsimp only;rw[show(if false=true then !wE (Due.ans v).vs [.str (Str.ofString "long")] else wE (Due.ans v).vs [.str (Str.ofString "long")])=false from eL]
    exact aD.mk ⟨s3,du,by rw[s3 _ _ T];unfold Due.ai;split <;> rfl,rfl⟩
  .rintro Z4 W ⟨s4,wd,hwd,rfl⟩
   have ba:=SqL.of (K:=K) (s4 _ _ X);have D:=SqT.of (K:=K) hwd;have fa:=(J.ai i).fl;have ea:=(J.ai i).eq;have i3:i<=3:=by lia
   clear s3 ab o fd eB eL;clear H3;walk_at"g";refine⟨jl.out,?_⟩
   rw[M9];walk_at"g";refine⟨fun _=>⟨rfl,rfl,G.g⟩,fun z=>(?_:GM _ _ _ (J.ai i)),fun z=> ?_,fun z=>absurd z (by lia),fun p5 H5 aT s5=> ?_⟩
   .obtain rfl:i=0:=by lia
    exact G.m
   .obtain rfl:i=1:=by lia
    exact G.t
   replace D:=s5.tup D
   have bg:=SqT.of (K:=K) aT;walk_at"g";dsimp only;rw[show(if true=true then !wE (J.ai i).vs (J.ai i).vs else wE (J.ai i).vs (J.ai i).vs)=false from(by rw[ea];rfl)]
   exact aD.mk ⟨s4.trans s5,_,_,rfl⟩
 .rintro Z H3 ⟨s3,x,y,rfl⟩
  have bl:=(S2.trans s3).seq hS;clear au jl G O hp X T b2 aW f1 s1;have S3:=S2.trans s3;clear S2 s3;clear H2 H1;walk_at"g";intro d2 W f4 a' s4;walk_at"g";intro p2 a6 r v H5 bc ar hC b5;have S5:=But.same s4 f4 b5;clear b5 a' f4 s4;clear W;have aX:(c9 10 (cL r)).length<=50000:=by
   refine RY (mU (n:=100) fun x hx=> ?_) ?_
   .obtain⟨y,hy,rfl⟩:=SY.mp hx;exact hC.l y hy
   .unfold cL;rw[be];exact RY (TU 101 hC.n) (by decide)
  have hC:=hC.c;generalize c9 10 (cL r)=tx at*;walk_at"g";refine⟨g_ (lo:=2) (n:=2) (fun i Z Y=>aD (aA H5 Y/\∃x y,Z=[some (.ref a),some (.ref rl),some (.int g),some (.ref a6),x,y,some (.str (S tx))])) (aD.mk ⟨fun _ _ h=>h,_,_,rfl⟩) ?_ ?_⟩
  .rintro i Z H6 hi ⟨s6,x,y,rfl⟩
   have L:=SqT.of (K:=K) (s6 _ _ ar);have fa:=v.fl;have ea:=v.eq;have en:(2:Int)+(i:Int)=((2+i:Nat):Int):=by push_cast;rfl
   have i3:2+i<=3:=by lia
   rw[en];walk_at"g";refine⟨fun _=>hC,fun p7 H7 R s7=> ?_⟩
   replace L:=s7.tup L
   have N:=SqT.of (K:=K) R;walk_at"g";dsimp only;rw[show(if true=true then !wE v.vs v.vs else wE v.vs v.vs)=false from(by rw[ea];rfl)]
   exact aD.mk ⟨s6.trans s7,_,_,rfl⟩
  .rintro Z H6 ⟨s6,x,y,rfl⟩
   have bb:(0:Int)<=16/\(16:Int)<=16:=by decide
   have e0:PySem.cpsOfBytes 0 0 "".toByteArray.data.toList=[]:=by decide +kernel
   walk_at"g";rw[e0];refine⟨fun _=>K4,fun z=>absurd z (by decide),fun z=>absurd z (by decide),fun p7 H7 R s7=> ?_⟩
   have N:=SqT.of (K:=K) R;walk_at"g";intro t9 aS;generalize I:upd H7 t9 _=H8;have aw:=upA I;have aN:=upS aS I;clear I;have k9:SqT K H8 t9 [.str (Str.ofString "text"),.int 2]:=SqT.of aw
   replace N:=aN.tup N
   walk_at"g";exact q _
theorem Pe{K:Frag}{h:Heap}{mg:Str->Option Value}{f:Params}{a Q:Addr}{n:Nat}{t0 t1 t2 t3 t4 t5 t6 t7 t8 t9 R H D aF F E O aw M:Tok}{p l s b3 j y u A q B d U b c o C e I J:Addr}(X:K.In h)(G:h.Ns mainGlobals mg)
  (ha:W.nsIn K mainGlobals "FIELDS"=some (some (.ref a))) (hz:(a==sysModules)=false) (hl:K.lookup a=some {cls:= .type "dict",data:= .dict (uf f [("stop",t0,.ref p),("put",t1,.ref l),("add",t2,.ref s),("sub",t3,.ref b3),("and",t4,.ref j),("or",t5,.ref y),("xor",t6,.ref u),("less",t7,.ref A),("left",t8,.ref q),("right",t9,.ref B),("more",R,.ref d),("load",H,.ref U),("store",D,.ref b),("jump",aF,.ref c),("jumpif",F,.ref o),("through",E,.ref C),("fit",O,.ref e),("aim",aw,.ref I),("gate",M,.ref J)]) n})
  (k0:e9 K p ((aM 0).map V.str)) (k1:e9 K l ((aM 1).map V.str)) (k2:e9 K s ((aM 2).map V.str)) (k3:e9 K b3 ((aM 3).map V.str)) (k4:e9 K j ((aM 4).map V.str)) (k5:e9 K y ((aM 5).map V.str)) (k6:e9 K u ((aM 6).map V.str)) (k7:e9 K A ((aM 7).map V.str)) (k8:e9 K q ((aM 8).map V.str)) (k9:e9 K B ((aM 9).map V.str)) (L:e9 K d ((aM 10).map V.str)) (N:e9 K U ((aM 11).map V.str)) (ab:e9 K b ((aM 12).map V.str)) (Z:e9 K c ((aM 13).map V.str)) (aG:e9 K o ((aM 14).map V.str)) (aL:e9 K C ((aM 15).map V.str)) (T:e9 K e ((aM 16).map V.str)) (aN:e9 K I ((aM 17).map V.str)) (ar:e9 K J ((aM 18).map V.str)) (au:W.nsIn K mainGlobals "LAST_SORTS"=some (some (.ref Q))) (kl:e9 K Q [.str "stop",.str "jump",.str "through"]) (td:∃td,mg "FIGURES"=some (.str (Str.ofString "0123456789") td)):TbR K mg f:=by
 refine⟨⟨a,[("stop",.ref p),("put",.ref l),("add",.ref s),("sub",.ref b3),("and",.ref j),("or",.ref y),("xor",.ref u),("less",.ref A),("left",.ref q),("right",.ref B),("more",.ref d),("load",.ref U),("store",.ref b),("jump",.ref c),("jumpif",.ref o),("through",.ref C),("fit",.ref e),("aim",.ref I),("gate",.ref J)],Vr X G ha,hz,⟨_,n,hl,?_⟩,fun k i=> ?_,fun z Y=> ?_⟩,⟨Q,Vr X G au,kl⟩,td⟩
 .repeat' (first | exact Paired.nil | refine Paired.cons ⟨rfl,rfl⟩ ?_)
 .match k,i with
  | 0,_=>exact⟨p,rfl,k0⟩
  | 1,_=>exact⟨l,rfl,k1⟩
  | 2,_=>exact⟨s,rfl,k2⟩
  | 3,_=>exact⟨b3,rfl,k3⟩
  | 4,_=>exact⟨j,rfl,k4⟩
  | 5,_=>exact⟨y,rfl,k5⟩
  | 6,_=>exact⟨u,rfl,k6⟩
  | 7,_=>exact⟨A,rfl,k7⟩
  | 8,_=>exact⟨q,rfl,k8⟩
  | 9,_=>exact⟨B,rfl,k9⟩
  | 10,_=>exact⟨d,rfl,L⟩
  | 11,_=>exact⟨U,rfl,N⟩
  | 12,_=>exact⟨b,rfl,ab⟩
  | 13,_=>exact⟨c,rfl,Z⟩
  | 14,_=>exact⟨o,rfl,aG⟩
  | 15,_=>exact⟨C,rfl,aL⟩
  | 16,_=>exact⟨e,rfl,T⟩
  | 17,_=>exact⟨I,rfl,aN⟩
  | 18,_=>exact⟨J,rfl,ar⟩
  | m+19,i=>exact absurd i (by lia)
 .have key:∀k,k<19->(z==aV k)=false:=fun k i=>Sy.mpr (Y k i)
  have l0:∀(x:Str) (v:V) (r:List (Str × V)),(z==x)=false->List.lookup z ((x,v)::r)=List.lookup z r:=fun x v r h=>by rw[Tw,h]
  refine(l0 _ _ _ (key 0 (by decide))).trans ?_
  refine(l0 _ _ _ (key 1 (by decide))).trans ?_
  refine(l0 _ _ _ (key 2 (by decide))).trans ?_
  refine(l0 _ _ _ (key 3 (by decide))).trans ?_
  refine(l0 _ _ _ (key 4 (by decide))).trans ?_
  refine(l0 _ _ _ (key 5 (by decide))).trans ?_
  refine(l0 _ _ _ (key 6 (by decide))).trans ?_
  refine(l0 _ _ _ (key 7 (by decide))).trans ?_
  refine(l0 _ _ _ (key 8 (by decide))).trans ?_
  refine(l0 _ _ _ (key 9 (by decide))).trans ?_
  refine(l0 _ _ _ (key 10 (by decide))).trans ?_
  refine(l0 _ _ _ (key 11 (by decide))).trans ?_
  refine(l0 _ _ _ (key 12 (by decide))).trans ?_
  refine(l0 _ _ _ (key 13 (by decide))).trans ?_
  refine(l0 _ _ _ (key 14 (by decide))).trans ?_
  refine(l0 _ _ _ (key 15 (by decide))).trans ?_
  refine(l0 _ _ _ (key 16 (by decide))).trans ?_
  refine(l0 _ _ _ (key 17 (by decide))).trans ?_
  refine(l0 _ _ _ (key 18 (by decide))).trans ?_
  rfl
theorem Ma{K:Frag}{h:Heap}{mg:Str->Option Value}{J C U o I f1 f2:Addr}{e n m E:Option Addr}{z i:Array (Option Value)}{B j u v c k p f l q a y:Value}(X:K.In h)(G:h.Ns mainGlobals mg)
  (mF:W.nsIn K mainGlobals "FenceError"=some (some (.ref J))) (mN:W.nsIn K mainGlobals "NoGuest"=some (some (.ref C))) (mW:W.nsIn K mainGlobals "NotWithin"=some (some (.ref U))) (mT:W.nsIn K mainGlobals "NoText"=some (some (.ref o))) (mL:W.nsIn K mainGlobals "TooLong"=some (some (.ref I)))
  (xF:W.excIn K J vbm "ValueError.__new__"=true) (xL:W.excIn K I vbm "ValueError.__new__"=true) (cL:XC K I J none xqs)
  (c1:XC K C J (some f1) xqs) (l1:K.lookup f1=some ⟨B,e,.func (W.fnOf "__init__" "NoGuest.__init__" (cA cf) (bF cf) (af cf) .none j u v n c k),z⟩) (D:W.codeIn K c "NoGuest.__init__"=true) (s:W.isFn K (.ref f1)=true) (k1:W.keepIn K (.ref f1)=true) (d:W.keepIn K (.ref C)=true)
  (c2:XC K o J (some f2) xqs) (l2:K.lookup f2=some ⟨p,m,.func (W.fnOf "__init__" "NoText.__init__" (cA cD) (bF cD) (af cD) .none f l q E a y),i⟩) (F:W.codeIn K a "NoText.__init__"=true) (A:W.isFn K (.ref f2)=true) (k2:W.keepIn K (.ref f2)=true) (r:W.keepIn K (.ref o)=true)
  (kLW:W.kitOne K (.ref I) (.ref U)=some false) (kLN:W.kitOne K (.ref I) (.ref C)=some false) (kLT:W.kitOne K (.ref I) (.ref o)=some false) (kLL:W.kitOne K (.ref I) (.ref I)=some true) (vL:W.kitOne K (.ref I) (.type "ValueError")=some true) (kNW:W.kitOne K (.ref C) (.ref U)=some false) (kNN:W.kitOne K (.ref C) (.ref C)=some true) (kNT:W.kitOne K (.ref C) (.ref o)=some false) (kNL:W.kitOne K (.ref C) (.ref I)=some false) (vN:W.kitOne K (.ref C) (.type "ValueError")=some true) (kTW:W.kitOne K (.ref o) (.ref U)=some false) (kTN:W.kitOne K (.ref o) (.ref C)=some false) (kTT:W.kitOne K (.ref o) (.ref o)=some true) (kTL:W.kitOne K (.ref o) (.ref I)=some false) (vT:W.kitOne K (.ref o) (.type "ValueError")=some true) (bV:mg "ValueError"=none):
  ∃J C U o I,dU K C J/\fu K o J/\Nb K mg J C U o I:=
 ⟨J,C,U,o,I,HK sy c1 l1 D s k1 d,HK uA c2 l2 F A k2 r,Vr X G mF,Vr X G mN,Vr X G mW,Vr X G mT,Vr X G mL,⟨xF⟩,⟨xL⟩,cL,⟨_,c1⟩,⟨_,c2⟩,(fun x b h=>by
  simp only[Se,Xc,SS,Ue] at h
  rcases h with⟨rfl,rfl⟩|⟨rfl,rfl⟩|⟨rfl,rfl⟩|⟨rfl,rfl⟩ <;> assumption),(fun x b h=>by
  simp only[Se,Xc,SS,Ue] at h
  rcases h with⟨rfl,rfl⟩|⟨rfl,rfl⟩|⟨rfl,rfl⟩|⟨rfl,rfl⟩ <;> assumption),(fun x b h=>by
  simp only[Se,Xc,SS,Ue] at h
  rcases h with⟨rfl,rfl⟩|⟨rfl,rfl⟩|⟨rfl,rfl⟩|⟨rfl,rfl⟩ <;> assumption),vL,vN,vT,bV⟩
theorem Ox(B:Bi mg)(m:TbR K mg w.params)(Ts:∃a,mg "SORTS"=some (.ref a)/\e9 K a (uQ.map V.str))(T2:Tb2 K mg)(Td:∃td,mg "DIGITS"=some (.str (Str.ofString "0123456789abcdef") td))(Tx:∃N aN aW aT aL,dU K aN N/\fu K aT N/\Nb K mg N aN aW aT aL){l:Addr}(H:eV K mg "Holding" l)(Y:m_ K l){n:Addr}(s:eV K mg "Machine" n)(D:jL K n){d:Addr}(I:eV K mg "LaidBlock" d)(c:cz K d){k:Addr}(p:eV K mg "Known" k)(A:oE K k)(kH:rO K mg)(Gk:Lb K mg)(Do:HY K mg)(zB:E7 K mg)(oP:vq K mg)(kI:p9 K mg)(nX:vZ K mg)(uG:zk K mg)(rG:xH K mg)(dZ:iB K mg)(iF:mS K mg)(qi:xg K mg)(uR:zV K mg)(rK:xj K mg)(qO:xk K mg)(tV:zl K mg)(pO:xy K mg)(uh:zi K mg)(pK:xJ K mg)(oG:uY K mg)(iZ:mY K mg)(yQ:EG K mg)(pF:xf K mg)(jV:qK K mg)(qB:xo K mg)(lX:tw K mg)(pY:xE K mg)(uu:zJ K mg)(t_:yU K mg)(lZ:tJ K mg)(qu:xB K mg)(ky:rH K mg)(jq:oY K mg)(kB:qM K mg)(pT:xG K mg)(nQ:vm K mg)(uO:zM K mg)(fz:jk K mg)(mK:tE K mg)(Db:Hv K mg)(mn:sW K mg)(mI:sZ K mg)(jx:o7 K mg)(j8:rg K mg)(ie:kX K mg)(gS:j4 K mg)(qP:xK K mg)(mH:tN K mg)(lF:lH K mg)(gW:gK K l)(gl:f_ K l)(o5:oZ K l)(tD:tL K l)(gO:gU K n)(i8:i7 K n)(oa:nJ K n)(eZ:fe K n)(i:Np K mg)(fG:fF K d)(dw:dz K d)(fc:fh K d)(iK:iP K d)(dW:dY K d)(dQ:dO K d)(nL:u_ K mg)(ox:vG K mg)(zG:Ea K mg)(B2:HM K mg)(lN:sY K mg)(pE:xt K mg)(iV:nE K mg)(qI:xx K mg)(ja:mV K mg)(ki:qr K mg)(kJ:rR K mg)(GN:Km K mg)(iR:m8 K mg)(gD:kM K mg)(gA:jR K mg)(uP:yY K mg)(uv:zb K mg)(mG:tM K mg)(i_:iJ K k)(ku:jX K k)(gH:gJ K k)(gk:gm K k)(gG:gN K k)(jz:oX K mg)(G5:Lx K mg)(Am:EE K mg)(lM:tK K mg)(pJ:xq K mg)(qR:xD K mg)(jQ:qw K mg)(wz:BH K mg)(wm:A3 K mg)(pQ:xl K mg)(lI:tF K mg)(ko:qe K mg)(ur:Ag K mg)(qS:xA K mg)(p_:xw K mg)(qm:xr K mg)(qo:xh K mg)(h_:kW K mg)(iG:nu K mg){f:Addr}{fd:FuncData}(F:Fun K "law" "law" Ee f fd):iW P w K mg base CX0 14 f fd ["_law_script"] (BK K):=by
 obtain⟨bg,aR,dS,aG,bT,dN,dT,b⟩:=Tx;obtain⟨tf,wW⟩:=m.figs;obtain⟨td,nq⟩:=Td;have T:Tb K mg w.params:=⟨Ts,let ⟨a,kvs,h1,_,h2,h3,_⟩:=m.fields;⟨a,kvs,h1,h2,h3⟩⟩
 have o:=xR (P:=P) (w:=w) (base:=base) B kH;have G:=M8 B Gk o;have R:=LT (P:=P) (w:=w) (base:=base) B Do;have nT:=AW B oP G;have eA:=Av B T nX nT;have i6:=Eh B uG eA;have z:=CG (P:=P) (w:=w) (base:=base) B rG;have O:=A0 (P:=P) (w:=w) (base:=base) B oG;have iS:=u3 B iZ o;have L:=Jh B yQ R;have qY:=C6 (P:=P) (w:=w) (base:=base) B pF;have Q:=ym B jV L;have rf:=DD B qB iS Q;have lO:=xZ (P:=P) (w:=w) (base:=base) lX;have pG:=Ch B pY R rf;have lr:=BW B pK o G;have tQ:=Fy B uu o G R Q;have ut:=EK B t_ o L qY lr Q;have M:=Fs (P:=P) (w:=w) (base:=base) B T2 uh;have X:=zm B lZ O;have rN:=CL B qu L O pG tQ ut lO;have Z:=yq B ky O M rN;have df:=xa B jq o;have bJ:=pi (P:=P) (w:=w) (base:=base) B I c fG;have bn:=kO (P:=P) (w:=w) (base:=base) B I c dw;have cU:=vh B I c iK z;have bB:=nC B I c dW cU;have bv:=mE B I c dQ cU bn;have bG:=oj B I c fc z;have dg:=CW (P:=P) (w:=w) (base:=base) B qI;have aS:=u6 (P:=P) (w:=w) (base:=base) B ja;have cW:=xP B ki dg aS;have j7:=yg B I kJ bJ cW bG bv bB;have jH:=AN B nL o;have nI:=AL (P:=P) (w:=w) (base:=base) B I c ox;have yW:=Ir (P:=P) (w:=w) (base:=base) B zG;have rX:=Lk B B2 i6;have mw:=Ac B I c lN i6 yW rX;have pR:=Cj (P:=P) (w:=w) (base:=base) B I c pE;have cS:=vU B b.xL b.mL iV o jH nI mw rX pR;have G4:=M3 B GN j7 cS;have iU:=vP B p A i_ X;have ka:=x8 B p A ku X;have d7:=sR B p A gH dg aS cW df;have gE:=sK B p A gG M;have fZ:=pZ B p A gk Z gE;have jt:=wT B I p jz bJ iU d7 ka fZ bn bG bv bB;have FZ:=Mv B G5 jt cS;have E:=uL (P:=P) (w:=w) (mg:=mg) (base:=base) B dT;have zx:=IJ B zB o;have kr:=yf B kI G zx;have d_:=mX B T dZ eA kr;have cR:=vB B iF d_;have qh:=DC (P:=P) (w:=w) (base:=base) B qO nq;have rD:=CD B pO (Fe B tV qh);have qW:=DB (P:=P) (w:=w) (base:=base) B qi nq;have pP:=Di B rK (DS B uR b.mT E qW);have J:=wG (P:=P) (w:=w) (base:=base) B m jx;have U:=x_ (P:=P) (w:=w) (base:=base) B j8;have pI:=Dj (P:=P) (w:=w) (base:=base) B qP (PX J) (uS B m.g ie U) (sO B gS);have lG:=Ab (P:=P) (w:=w) (base:=base) B lF (yN B m.g b.mN (sG B dN) mH pI);have eM:=yL (P:=P) (w:=w) (base:=base) B mI (zR B mn wW);have v:=sB (P:=P) (w:=w) (base:=base) B gA J (v_ B m iR) eM (sQ B gD U);have u:=zu (P:=P) (w:=w) (base:=base) B mG b.mT E (EX B uP) (DZ B uv b.mT E v);have gY:=CP B pJ u lG;have mM:=JE (P:=P) (w:=w) (base:=base) B Am;have eQ:=yX B lM mM rD;have rc:=C7 B qR gY G4 eQ;have kD:=yp B jQ gY FZ eQ;have rq:=Cf B pQ eM (F2 B wm (FY B wz o));have eI:=zg B lI b.mT E rq pP;have uE:=CM B uO M df (wB kB) (AS pT);have j:=nM B fz cR (AJ B nQ z) uE;have mj:=xU B T2 mK o X j Z z;have C_:=Ji B Db mj;have jW:=yv B ko b.mW eI C_;have q:=sC (P:=P) (w:=w) (base:=base) B H Y gW;have r:=sD (P:=P) (w:=w) (base:=base) (C:=l) B s D gO;have y:=Ae B H Y s D oa z (pq H gl) (ni s eZ);have x:=uw B s D i8 cR y;have e:=Mu B H Y s D i q r x;have tY:=EB B ur o mM eI e;have kU:=Dv (P:=P) (w:=w) (base:=base) B qS;have W:=Dx (P:=P) (w:=w) (base:=base) B p_;have jo:=B8 B b qm rc kD jW tY;have qg:=Ce B qo W;have ik:=tP B h_ W qg;have iI:=vA B iG W;exact MV B kU ik iI jo F
end
end My
set_option Elab.async true
local macro_rules|`(command|#check [$x,*])=>return Lean.mkNullNode (<-x.getElems.mapM fun n=>`(command|def $(Lean.mkIdent (.str `PySem.Challenge.cw_fencemask_k92_texts_refused_holds ("tw"++n.raw[0].getAtomVal))):ident:=0))
#check [3551570743879015983,3427160365399954868,18227142764821502094,10364453466285972626,208818704776925425,10033581460402720235,12796044092253282324,767335734534348434,5619135177086097396,13616527173072015132,15869202470216129298,246066435658284442,14493829148445699997,12607671851309962649,18349361089571717730,150574752724777962,6165084301181859858,14029375715305999372,13747052026542152199,934507835095446721,14460949892055962915,17735553145722893419,17988101169318509082,1035394806016565954,6034920550651583858,8526838806584122729,16582076655933714811,4252938584631850369,11405371288616996672,1026060668439612162,7243363961700507416,15091094200858896868,14205531500916980019,323210138118489521,5535934053717217873,8281015841106285229,12899505138318813988,17781320126425304108,16602221125265026948,7920238311242701902,16491644993550448021,10544612420446573091,5373044038722155161,14417625368075575904,16679280302636058110,9603540941202263687,8241137135879035323,4453036319776926786,16594638660072428292,2950217679608228472,16011577031520361834,6707208732207051548,17167838856671105760,2127006156636745870,6010429959671332250,14532461896221785112,5535641528223879229,14314612306146340630,11113388119055167194,13320032379541691311,7983474285279694564,5519032588489268207,6472844579673663239,10472430858305794516,8586326460296090112,17820748468022647749,7954880468691587977,11911079914487784451,3075978821267758412,6734343488123995842,12150992214222938219,9095409672936145006,4282274534715571268,8795255671293300321,17963525560351022925,6975155636923763024,2485598933064874148,15028068321718339227,4837800342542636769,2794057932005989897,4297088869530461442,16621247931370217754,10780423731266214476,6834597404944418490,15019724364954767659,8870418169584897957,32932512485735826,18020334389863537577,14560269937542302081,7394735818723058879,16447296441270484963,10424347143245712887,15952487938892336524,9448543911057375144,13353415915221069733,10027510760063520364,3263604075778831250,3786910533240573293,10141586261318377307,10393189155559299560,4119267254993167915,15285668150210574534,9727142507867389201,14796286384119635219,12965050704249012192,16768641861499465413,1035176289459487154,13824886516529991192,10758462694494478523,5824667015545212881,10857926403766990353,16519646794524966384,13826816882449723536,11548733260928718698,14072913765221935485,2619447435219187450,7015808753243672129,15818724668544902762,6503782061113293089,2247854773223350147,4405594023088422607,671481888448170367,2313964921273118220,9139655827484226168,5080566437405392180,267120562848588240,16173934242508643816,13857568183096545613,56860837671023003,2048377176675306210,4394350717793321666,11561598389509579543,17403947687457892295,4981507234908642070,6061376144385412937,2266447038667751093,12402923262141496234,10097286892027065065,10339692199385364253,15906633178250295519,118899077422784330,18162187130244969938,1416602660041402187,16733763396305054416,10982158473604075825,8998383653228826498,10320179309560927261,8994066343604068404,1358799727735882679,17082550011438033526,17523490866091539775,6606238237690952043,16186635012743957987,14065310659375263988,18302699973229567476,11107366839940994334,11696155418956768888,5220166642216096927,5792794341541266594,15927747066733038996,642043801076328577,6404988427862078865,13303222105137431241,17761846900967629694,5106441523441484228,4568685408778060532,17475384195266015771,5948198015476885204,5864000181299077557,3136417828578902597,12932674160552426956,6668843825296337173,302105387107623634,14191863552867352554,5695995658816206180,16944801922057050097,8009040213391714614,5218115032267470563,16940904298986377561,14420939983804964622,5189890722623057730,4565091115202089731,3503429228666431724,5593673405876997350,9847444975653966968,17783793220168597337,4961403818688899734,11049548197164142666,15303076241523185166,9888516471890532374,9483883405081317032,17587347443783890881,5910099829641054564,4887935392906195705,17517216920185460017,3382025025462813337,13426260466883795496,17932275081330306611,11112765026385791658,2726144131472310536,6437029627377459373,573413670428811177,11123540551723638463,15014638107786352265,6366389277755596926,16007903185142394927,5307411350241047081,162087189937513547,8824034125012355990,16770624811012438529,14482443975489353610,4270599546808395281,12900875500913378647,16462107861491964844,12905558617994409427,14868759158341578840,10581871851312925961,10727689450460516872,7312460330548686000,9477077533437632233,4306389477497648389,12225520557530666822,1843855743811973182,13288258601222403288,978969854510682859,832738639246669737,2308274038759175226,17768923289377038073,6973074724393717616,3210342464239399508,723355004084193280,3643099434221495288,14546538631135179641,7652010937352740680,12188141333195765210,16926277834219989139,12490392978934456474,17529557768084444797,17109159594732357557,17003381094292122948,14479910371937982784,663717485878980838,3405428020257802479,14297065137873915892,15363317032609366810,6365029004986581918,18034642986310548119,16598175206576258694,17298411235226536020,12882920152226156451,11799163129234086858,5330293677527723566,16783932217267903842,6489679197482587117,7606852740589833268,2121584803035025867,7211317226157795416,6700871178858718862,813653940391741835,8337803833794121040,9846851922092306447,10449170970312013603,6400166328101577439,9717042605087727020,7560425515873501989,12264510443439223013,15653347599072419076,13543675003699790680,4130359749418991085,12437791048773771463,2705789352414866340,16841313507061906346,1835679661551962913,14406544192163452519,13634456944018451902,2857194358272509640,16093985419189245710,14455935473466441731,9718345873463145042,10715301706814060666]
open PySem PySem.W PyProof.Rows
local macro_rules | `(tactic| walk_at"pr") => `(tactic| repeat' (first | exact PySem.Paired.nil | refine PySem.Paired.cons ⟨_, rfl⟩ ?_))
set_option maxRecDepth 100000 in
set_option maxHeartbeats 0 in
theorem PySem.Challenge.cw_fencemask_k92_texts_refused_holds : PySem.Challenge.rw_fencemask_k92_texts_refused.Holds := by
 w_on;o_law;k_head;(case hw=>w_witness2)
 k_fill
 refine L2.KM (l:=PySem.Challenge.rw_fencemask_k92_texts_refused) (k:=14) (d:=_) (x:="_law_script") rfl rfl ⟨rfl,by decide,by decide⟩ (fun w h Y=>PySem.W.kIn_of Y) ?F
 case F=>
  intro w mg fa h KX G hmg;have B:L2.Bi mg:=by
   refine' L2.Qe KX G ?z0 ?z1 ?z2 ?z3 ?z4 ?z5 ?z6 ?z7 ?z8 ?z9 ?z10 ?z11 ?z12 ?z13 ?z14 ?z15
   (case z0=>k_is)
   (case z1=>k_is)
   (case z2=>k_is)
   (case z3=>k_is)
   (case z4=>k_is)
   (case z5=>k_is)
   (case z6=>k_is)
   (case z7=>k_is)
   (case z8=>k_is)
   (case z9=>k_is)
   (case z10=>k_is)
   (case z11=>k_is)
   (case z12=>k_is)
   (case z13=>k_is)
   (case z14=>k_is)
   (case z15=>k_is)
  have T:My.TbR (L2.KOf KX) mg w.params:=by
   dsimp only[L2.KOf];refine' My.Pe KX G ?a ?zz ?l (L2.fM ?l0 ?z0 ?v0) (L2.fM ?l1 ?z1 ?v1) (L2.fM ?l2 ?z2 ?v2) (L2.fM ?l3 ?z3 ?v3) (L2.fM ?l4 ?z4 ?v4) (L2.fM ?l5 ?z5 ?v5) (L2.fM ?l6 ?z6 ?v6) (L2.fM ?l7 ?z7 ?v7) (L2.fM ?l8 ?z8 ?v8) (L2.fM ?l9 ?z9 ?v9) (L2.fM ?l10 ?z10 ?v10) (L2.fM ?l11 ?z11 ?v11) (L2.fM ?l12 ?z12 ?v12) (L2.fM ?l13 ?z13 ?v13) (L2.fM ?l14 ?z14 ?v14) (L2.fM ?l15 ?z15 ?v15) (L2.fM ?l16 ?z16 ?v16) (L2.fM ?l17 ?z17 ?v17) (L2.fM ?l18 ?z18 ?v18) ?la (L2.fM ?ll ?lz ?lv) ?td
   (case a=>k_is);(case l=>k_is);(case zz=>rfl)
   (case l0=>k_is);(case z0=>exact Nat.le_of_ble_eq_true rfl);(case v0=>walk_at"pr")
   (case l1=>k_is);(case z1=>exact Nat.le_of_ble_eq_true rfl);(case v1=>walk_at"pr")
   (case l2=>k_is);(case z2=>exact Nat.le_of_ble_eq_true rfl);(case v2=>walk_at"pr")
   (case l3=>k_is);(case z3=>exact Nat.le_of_ble_eq_true rfl);(case v3=>walk_at"pr")
   (case l4=>k_is);(case z4=>exact Nat.le_of_ble_eq_true rfl);(case v4=>walk_at"pr")
   (case l5=>k_is);(case z5=>exact Nat.le_of_ble_eq_true rfl);(case v5=>walk_at"pr")
   (case l6=>k_is);(case z6=>exact Nat.le_of_ble_eq_true rfl);(case v6=>walk_at"pr")
   (case l7=>k_is);(case z7=>exact Nat.le_of_ble_eq_true rfl);(case v7=>walk_at"pr")
   (case l8=>k_is);(case z8=>exact Nat.le_of_ble_eq_true rfl);(case v8=>walk_at"pr")
   (case l9=>k_is);(case z9=>exact Nat.le_of_ble_eq_true rfl);(case v9=>walk_at"pr")
   (case l10=>k_is);(case z10=>exact Nat.le_of_ble_eq_true rfl);(case v10=>walk_at"pr")
   (case l11=>k_is);(case z11=>exact Nat.le_of_ble_eq_true rfl);(case v11=>walk_at"pr")
   (case l12=>k_is);(case z12=>exact Nat.le_of_ble_eq_true rfl);(case v12=>walk_at"pr")
   (case l13=>k_is);(case z13=>exact Nat.le_of_ble_eq_true rfl);(case v13=>walk_at"pr")
   (case l14=>k_is);(case z14=>exact Nat.le_of_ble_eq_true rfl);(case v14=>walk_at"pr")
   (case l15=>k_is);(case z15=>exact Nat.le_of_ble_eq_true rfl);(case v15=>walk_at"pr")
   (case l16=>k_is);(case z16=>exact Nat.le_of_ble_eq_true rfl);(case v16=>walk_at"pr")
   (case l17=>k_is);(case z17=>exact Nat.le_of_ble_eq_true rfl);(case v17=>walk_at"pr")
   (case l18=>k_is);(case z18=>exact Nat.le_of_ble_eq_true rfl);(case v18=>walk_at"pr")
   (case la=>k_is);(case ll=>k_is);(case lz=>exact Nat.le_of_ble_eq_true rfl);(case lv=>walk_at"pr")
   (case td=>
    have e:∃v:PySem.Value,mg "FIGURES"=some v/\∃td,v= .str (PySem.Str.ofString "0123456789") td:=by
     refine' ⟨_,PySem.W.mg_of KX G ?a,?b⟩
     (case a=>k_is);(case b=>exact⟨_,rfl⟩)
    obtain⟨v,h1,td,h2⟩:=e;rw[h2] at h1
    exact⟨td,h1⟩)
  have Ts:∃a,mg "SORTS"=some (.ref a)/\L2.e9 (L2.KOf KX) a (My.uQ.map L2.V.str):=by
   dsimp only[L2.KOf];refine' ⟨_,PySem.W.mg_of KX G ?sa,L2.fM ?sl ?sz ?sv⟩
   (case sa=>k_is);(case sl=>k_is);(case sz=>exact Nat.le_of_ble_eq_true rfl);(case sv=>walk_at"pr")
  have T2:My.Tb2 (L2.KOf KX) mg:=by
   dsimp only[L2.KOf];refine' ⟨⟨_,PySem.W.mg_of KX G ?pa,L2.fM ?pl ?pz ?pv⟩,⟨_,PySem.W.mg_of KX G ?qa,L2.fM ?ql ?qz ?qv⟩⟩
   (case pa=>k_is);(case pl=>k_is);(case pz=>exact Nat.le_of_ble_eq_true rfl);(case pv=>walk_at"pr")
   (case qa=>k_is);(case ql=>k_is);(case qz=>exact Nat.le_of_ble_eq_true rfl);(case qv=>walk_at"pr")
  have Td:∃td,mg "DIGITS"=some (.str (PySem.Str.ofString "0123456789abcdef") td):=by
   have e:∃v:PySem.Value,mg "DIGITS"=some v/\∃td,v= .str (PySem.Str.ofString "0123456789abcdef") td:=by
    refine' ⟨_,PySem.W.mg_of KX G ?a,?b⟩
    (case a=>k_is);(case b=>exact⟨_,rfl⟩)
   obtain⟨v,h1,td,h2⟩:=e;rw[h2] at h1;exact⟨td,h1⟩
  have Tx:∃aF aN aW aT aL,My.dU (L2.KOf KX) aN aF/\My.fu (L2.KOf KX) aT aF/\My.Nb (L2.KOf KX) mg aF aN aW aT aL:=by
   dsimp only[L2.KOf];refine' My.Ma KX G ?mF ?mN ?mW ?mT ?mL ?xF ?xL (L2.LO ?zl1 ?zo1 ?zl2 ?zo2 ?zi1 ?zi2 ?za0 ?za1 ?za2 ?za3 ?za4 ?za5 ?za6 ?za7 ?zb0 ?zb1 ?zb2 ?zb3 ?zb4 ?zb5 ?zb6 ?zb7) (L2.LO ?ul1 ?uo1 ?ul2 ?uo2 ?ui1 ?ui2 ?ua0 ?ua1 ?ua2 ?ua3 ?ua4 ?ua5 ?ua6 ?ua7 ?ub0 ?ub1 ?ub2 ?ub3 ?ub4 ?ub5 ?ub6 ?ub7) ?ufl ?ucc ?ufn ?ukf ?ukc (L2.LO ?vl1 ?vo1 ?vl2 ?vo2 ?vi1 ?vi2 ?va0 ?va1 ?va2 ?va3 ?va4 ?va5 ?va6 ?va7 ?vb0 ?vb1 ?vb2 ?vb3 ?vb4 ?vb5 ?vb6 ?vb7) ?vfl ?vcc ?vfn ?vkf ?vkc ?kLW ?kLN ?kLT ?kLL ?vL ?kNW ?kNN ?kNT ?kNL ?vN ?kTW ?kTN ?kTT ?kTL ?vT (PySem.W.mg_none_of KX G ?bV)
   (case mF=>k_is);(case mN=>k_is);(case mW=>k_is);(case mT=>k_is);(case mL=>k_is)
   (case xF=>k_exc);(case xL=>k_exc)
   (case zl1=>k_is)
   (case zo1=>kernel_rfl)
   (case zl2=>k_is)
   (case zo2=>kernel_rfl)
   (case zi1=>k_is)
   (case zi2=>k_is)
   (case za0=>k_is)
   (case za1=>k_is)
   (case za2=>k_is)
   (case za3=>k_is)
   (case za4=>k_is)
   (case za5=>k_is)
   (case za6=>k_is)
   (case za7=>k_is)
   (case zb0=>k_is)
   (case zb1=>k_is)
   (case zb2=>k_is)
   (case zb3=>k_is)
   (case zb4=>k_is)
   (case zb5=>k_is)
   (case zb6=>k_is)
   (case zb7=>k_is)
   (case ul1=>k_is)
   (case uo1=>kernel_rfl)
   (case ul2=>k_is)
   (case uo2=>kernel_rfl)
   (case ui1=>k_is)
   (case ui2=>k_is)
   (case ua0=>k_is)
   (case ua1=>k_is)
   (case ua2=>k_is)
   (case ua3=>k_is)
   (case ua4=>k_is)
   (case ua5=>k_is)
   (case ua6=>k_is)
   (case ua7=>k_is)
   (case ub0=>k_is)
   (case ub1=>k_is)
   (case ub2=>k_is)
   (case ub3=>k_is)
   (case ub4=>k_is)
   (case ub5=>k_is)
   (case ub6=>k_is)
   (case ub7=>k_is)
   (case vl1=>k_is)
   (case vo1=>kernel_rfl)
   (case vl2=>k_is)
   (case vo2=>kernel_rfl)
   (case vi1=>k_is)
   (case vi2=>k_is)
   (case va0=>k_is)
   (case va1=>k_is)
   (case va2=>k_is)
   (case va3=>k_is)
   (case va4=>k_is)
   (case va5=>k_is)
   (case va6=>k_is)
   (case va7=>k_is)
   (case vb0=>k_is)
   (case vb1=>k_is)
   (case vb2=>k_is)
   (case vb3=>k_is)
   (case vb4=>k_is)
   (case vb5=>k_is)
   (case vb6=>k_is)
   (case vb7=>k_is)
   (case ufl=>k_is)
   (case ucc=>k_is)
   (case ufn=>k_is)
   (case ukf=>k_is)
   (case ukc=>k_is)
   (case vfl=>k_is)
   (case vcc=>k_is)
   (case vfn=>k_is)
   (case vkf=>k_is)
   (case vkc=>k_is)
   (case kLW=>kernel_rfl);(case kLN=>kernel_rfl);(case kLT=>kernel_rfl);(case kLL=>kernel_rfl);(case vL=>kernel_rfl);(case kNW=>kernel_rfl);(case kNN=>kernel_rfl);(case kNT=>kernel_rfl);(case kNL=>kernel_rfl);(case vN=>kernel_rfl);(case kTW=>kernel_rfl);(case kTN=>kernel_rfl);(case kTT=>kernel_rfl);(case kTL=>kernel_rfl);(case vT=>kernel_rfl);(case bV=>k_is)
  have⟨g9,fQ,nk,gW,gl,o5,tD⟩:∃C:Addr,L2.eV (L2.KOf KX) mg "Holding" C/\My.m_ (L2.KOf KX) C/\My.gK (L2.KOf KX) C/\My.f_ (L2.KOf KX) C/\My.oZ (L2.KOf KX) C/\My.tL (L2.KOf KX) C:=by
   dsimp only[L2.KOf];refine' ⟨_,L2.yz KX G ?a ?pg ?hd ?po ?sa ?mk ?kp,⟨?n0,?n1,?n2,?n3,?n4,?n5⟩,L2.cJ My.sI ?a0 ?l0 ?c0 ?f0 ?k0,L2.cJ My.qJ ?a1 ?l1 ?c1 ?f1 ?k1,L2.cJ My.wA ?a2 ?l2 ?c2 ?f2 ?k2,L2.cJ My.yZ ?a3 ?l3 ?c3 ?f3 ?k3⟩
   (case a=>k_is);(case pg=>k_is);(case hd=>k_is);(case po=>k_is);(case sa=>k_is);(case mk=>k_is);(case kp=>k_is)
   (case n0=>k_is);(case n1=>k_is);(case n2=>k_is);(case n3=>k_is);(case n4=>k_is);(case n5=>k_is)
   (case a0=>k_is);(case l0=>k_is);(case c0=>k_is);(case f0=>k_is);(case k0=>k_is)
   (case a1=>k_is);(case l1=>k_is);(case c1=>k_is);(case f1=>k_is);(case k1=>k_is)
   (case a2=>k_is);(case l2=>k_is);(case c2=>k_is);(case f2=>k_is);(case k2=>k_is)
   (case a3=>k_is);(case l3=>k_is);(case c3=>k_is);(case f3=>k_is);(case k3=>k_is)
  have⟨iO,eJ,jN,gO,i8,oa,eZ⟩:∃C:Addr,L2.eV (L2.KOf KX) mg "Machine" C/\My.jL (L2.KOf KX) C/\My.gU (L2.KOf KX) C/\My.i7 (L2.KOf KX) C/\My.nJ (L2.KOf KX) C/\My.fe (L2.KOf KX) C:=by
   dsimp only[L2.KOf];refine' ⟨_,L2.yz KX G ?a ?pg ?hd ?po ?sa ?mk ?kp,⟨?n0,?n1,?n2,?n3⟩,L2.cJ My.sS ?a0 ?l0 ?c0 ?f0 ?k0,L2.cJ My.vM ?a1 ?l1 ?c1 ?f1 ?k1,L2.cJ My.AQ ?a2 ?l2 ?c2 ?f2 ?k2,L2.cJ My.oh ?a3 ?l3 ?c3 ?f3 ?k3⟩
   (case a=>k_is);(case pg=>k_is);(case hd=>k_is);(case po=>k_is);(case sa=>k_is);(case mk=>k_is);(case kp=>k_is)
   (case n0=>k_is);(case n1=>k_is);(case n2=>k_is);(case n3=>k_is)
   (case a0=>k_is);(case l0=>k_is);(case c0=>k_is);(case f0=>k_is);(case k0=>k_is)
   (case a1=>k_is);(case l1=>k_is);(case c1=>k_is);(case f1=>k_is);(case k1=>k_is)
   (case a2=>k_is);(case l2=>k_is);(case c2=>k_is);(case f2=>k_is);(case k2=>k_is)
   (case a3=>k_is);(case l3=>k_is);(case c3=>k_is);(case f3=>k_is);(case k3=>k_is)
  have⟨dk,a_,cx,fG,dw,fc,iK,dW,dQ⟩:∃C:Addr,L2.eV (L2.KOf KX) mg "LaidBlock" C/\My.cz (L2.KOf KX) C/\My.fF (L2.KOf KX) C/\My.dz (L2.KOf KX) C/\My.fh (L2.KOf KX) C/\My.iP (L2.KOf KX) C/\My.dY (L2.KOf KX) C/\My.dO (L2.KOf KX) C:=by
   dsimp only[L2.KOf];refine' ⟨_,L2.yz KX G ?a ?pg ?hd ?po ?sa ?mk ?kp,⟨?n0,?n1,?n2⟩,L2.cJ My.pB ?a0 ?l0 ?c0 ?f0 ?k0,L2.cJ My.kP ?a1 ?l1 ?c1 ?f1 ?k1,L2.cJ My.og ?a2 ?l2 ?c2 ?f2 ?k2,L2.cJ My.wf ?a3 ?l3 ?c3 ?f3 ?k3,L2.cJ My.nB ?a4 ?l4 ?c4 ?f4 ?k4,L2.cJ My.mi ?a5 ?l5 ?c5 ?f5 ?k5⟩
   (case a=>k_is);(case pg=>k_is);(case hd=>k_is);(case po=>k_is);(case sa=>k_is);(case mk=>k_is);(case kp=>k_is)
   (case n0=>k_is);(case n1=>k_is);(case n2=>k_is)
   (case a0=>k_is);(case l0=>k_is);(case c0=>k_is);(case f0=>k_is);(case k0=>k_is)
   (case a1=>k_is);(case l1=>k_is);(case c1=>k_is);(case f1=>k_is);(case k1=>k_is)
   (case a2=>k_is);(case l2=>k_is);(case c2=>k_is);(case f2=>k_is);(case k2=>k_is)
   (case a3=>k_is);(case l3=>k_is);(case c3=>k_is);(case f3=>k_is);(case k3=>k_is)
   (case a4=>k_is);(case l4=>k_is);(case c4=>k_is);(case f4=>k_is);(case k4=>k_is)
   (case a5=>k_is);(case l5=>k_is);(case c5=>k_is);(case f5=>k_is);(case k5=>k_is)
  have⟨k_,jc,oK,i_,ku,gH,gk,gG⟩:∃C:Addr,L2.eV (L2.KOf KX) mg "Known" C/\My.oE (L2.KOf KX) C/\My.iJ (L2.KOf KX) C/\My.jX (L2.KOf KX) C/\My.gJ (L2.KOf KX) C/\My.gm (L2.KOf KX) C/\My.gN (L2.KOf KX) C:=by
   dsimp only[L2.KOf];refine' ⟨_,L2.yz KX G ?a ?pg ?hd ?po ?sa ?mk ?kp,⟨?n0,?n1,?n2⟩,L2.cJ My.wc ?a0 ?l0 ?c0 ?f0 ?k0,L2.cJ My.yr ?a1 ?l1 ?c1 ?f1 ?k1,L2.cJ My.sL ?a2 ?l2 ?c2 ?f2 ?k2,L2.cJ My.pL ?a3 ?l3 ?c3 ?f3 ?k3,L2.cJ My.su ?a4 ?l4 ?c4 ?f4 ?k4⟩
   (case a=>k_is);(case pg=>k_is);(case hd=>k_is);(case po=>k_is);(case sa=>k_is);(case mk=>k_is);(case kp=>k_is)
   (case n0=>k_is);(case n1=>k_is);(case n2=>k_is)
   (case a0=>k_is);(case l0=>k_is);(case c0=>k_is);(case f0=>k_is);(case k0=>k_is)
   (case a1=>k_is);(case l1=>k_is);(case c1=>k_is);(case f1=>k_is);(case k1=>k_is)
   (case a2=>k_is);(case l2=>k_is);(case c2=>k_is);(case f2=>k_is);(case k2=>k_is)
   (case a3=>k_is);(case l3=>k_is);(case c3=>k_is);(case f3=>k_is);(case k3=>k_is)
   (case a4=>k_is);(case l4=>k_is);(case c4=>k_is);(case f4=>k_is);(case k4=>k_is)
  have kH:=L2.dfk My.xY KX G;have Gk:=L2.dfk My.MZ KX G;have Do:=L2.dfk My.KF KX G;have zB:=L2.dfk My.Js KX G;have oP:=L2.dfk My.AO KX G;have kI:=L2.dfk My.yt KX G;have nX:=L2.dfk My.AI KX G;have uG:=L2.dfk My.D5 KX G;have rG:=L2.dfk My.CH KX G;have dZ:=L2.dfk My.mR KX G;have iF:=L2.dfk My.wj KX G;have qi:=L2.dfk My.Cr KX G;have uR:=L2.dfk My.Fj KX G;have rK:=L2.dfk My.Cv KX G;have qO:=L2.dfk My.Dh KX G;have tV:=L2.dfk My.Ek KX G;have pO:=L2.dfk My.Co KX G;have uh:=L2.dfk My.EJ KX G;have pK:=L2.dfk My.BV KX G;have oG:=L2.dfk My.AA KX G;have iZ:=L2.dfk My.vH KX G;have yQ:=L2.dfk My.Jp KX G;have pF:=L2.dfk My.BZ KX G;have jV:=L2.dfk My.x9 KX G;have qB:=L2.dfk My.BX KX G;have lX:=L2.dfk My.zD KX G;have pY:=L2.dfk My.Dp KX G;have uu:=L2.dfk My.DL KX G;have t_:=L2.dfk My.FG KX G;have lZ:=L2.dfk My.ze KX G;have qu:=L2.dfk My.Ct KX G;have ky:=L2.dfk My.yb KX G;have jq:=L2.dfk My.wS KX G;have kB:=L2.dfk My.xS KX G;have pT:=L2.dfk My.CO KX G;have nQ:=L2.dfk My.Aw KX G;have uO:=L2.dfk My.E3 KX G;have fz:=L2.dfk My.pA KX G;have mK:=L2.dfk My.zf KX G;have Db:=L2.dfk My.KD KX G;have mn:=L2.dfk My.zp KX G;have mI:=L2.dfk My.yJ KX G;have jx:=L2.dfk My.wZ KX G;have j8:=L2.dfk My.yl KX G;have ie:=L2.dfk My.uq KX G;have gS:=L2.dfk My.sP KX G;have qP:=L2.dfk My.Dr KX G;have mH:=L2.dfk My.zc KX G;have lF:My.lH (L2.KOf KX) mg:=by
   dsimp only[L2.KOf];refine' L2.LN My.zr ?r KX G ?a ?l ?t ?c ?k
   (case a=>k_is);(case l=>k_is);(case t=>k_is);(case r=>exact⟨_,rfl⟩);(case c=>k_is);(case k=>k_is)
  have d_run:=L2.dfk My.Of KX G;have nL:=L2.dfk My.AX KX G;have ox:=L2.dfk My.AU KX G;have zG:=L2.dfk My.IH KX G;have B2:=L2.dfk My.LQ KX G;have lN:=L2.dfk My.zy KX G;have pE:=L2.dfk My.Cp KX G;have iV:=L2.dfk My.vO KX G;have qI:=L2.dfk My.Dd KX G;have ja:=L2.dfk My.vI KX G;have ki:=L2.dfk My.xW KX G;have kJ:=L2.dfk My.xM KX G;have GN:=L2.dfk My.M4 KX G;have iR:=L2.dfk My.vF KX G;have gD:=L2.dfk My.sw KX G;have gA:=L2.dfk My.sr KX G;have uP:=L2.dfk My.FD KX G;have uv:=L2.dfk My.Ft KX G;have mG:=L2.dfk My.yS KX G;have jz:=L2.dfk My.wK KX G;have G5:=L2.dfk My.L5 KX G;have Am:=L2.dfk My.Jz KX G;have lM:=L2.dfk My.zA KX G;have pJ:=L2.dfk My.BY KX G;have qR:=L2.dfk My.Dm KX G;have jQ:=L2.dfk My.yh KX G;have wz:=L2.dfk My.G1 KX G;have wm:=L2.dfk My.Ge KX G;have pQ:=L2.dfk My.Cl KX G;have lI:=L2.dfk My.Ad KX G;have ko:=L2.dfk My.xO KX G;have ur:=L2.dfk My.FI KX G;have qS:=L2.dfk My.CC KX G;have p_:=L2.dfk My.Dz KX G;have qm:=L2.dfk My.CQ KX G;have qo:=L2.dfk My.CY KX G;have h_:=L2.dfk My.uJ KX G;have iG:=L2.dfk My.vc KX G;refine' L2.Oi My.Pb KX G hmg ?a ?l ?c ?k (fun f fd D base=>My.Ox B T Ts T2 Td Tx fQ nk eJ jN a_ cx jc oK kH Gk Do zB oP kI nX uG rG dZ iF qi uR rK qO tV pO uh pK oG iZ yQ pF jV qB lX pY uu t_ lZ qu ky jq kB pT nQ uO fz mK Db mn mI jx j8 ie gS qP mH lF gW gl o5 tD gO i8 oa eZ d_run fG dw fc iK dW dQ nL ox zG B2 lN pE iV qI ja ki kJ GN iR gD gA uP uv mG i_ ku gH gk gG jz G5 Am lM pJ qR jQ wz wm pQ lI ko ur qS p_ qm qo h_ iG D)
  case a | l | c | k=>k_is
