import PyProof.Rows.All
import Wide.All
import OpenK.AllK
import Wide.FinOn
import Lean
import PyProof.EqAt
import PyProof.EqKinds
import PyProof.TupleCall
import PyProof.NeKinds
import KE.KUnpack
import PyProof.CallStr
import PySem.Challenge.RW_latticeworks_k68_within_and_how_often
set_option Elab.async false
set_option linter.all false
set_option maxRecDepth 100000
def O5:=@PySem.wpAny_bind
def O6:=@List.getElem?_eq_some_iff
def O7:=@if_neg
def O8:=@List.length_map
def O9:=@Nat.le_refl
def O_:=@if_pos
def Pa:=@PySem.Heap.get?_push_of_some
def Pb:=@List.getElem?_set_ne
def Pc:=@List.getD_eq_getElem?_getD
def Pd:=@List.getElem?_append_left
def Pe:=@Nat.le_trans
def Pf:=@PySem.wpAny_pure
def Pg:=@List.getElem?_set_self
def Ph:=@List.size_toArray
def Pj:=@Ne.symm
def Pk:=@List.getElem?_eq_getElem
def Pl:=@List.length_set
def Pm:=@PySem.Heap.lt_size
def Pn:=@List.mem_cons_of_mem
def Po:=@Nat.zero_le
def Pp:=@Int.toNat_natCast
def Pq:=@Nat.not_lt_zero
def Pt:=@PySem.Heap.get?_push_size
def Pu:=@Nat.lt_of_lt_of_le
def Pw:=@List.mem_cons_self
def Px:=@List.mem_cons
def Py:=@List.length_append
def Pz:=@Nat.le_of_ble_eq_true
def PB:=@Nat.ne_of_lt
def PC:=@List.mem_append_right
def PD:=@List.getElem?_map
def PF:=@List.drop_eq_getElem_cons
def PH:=@List.getElem?_append_right
def PJ:=@Bool.false_eq_true
def PK:=@List.mem_iff_getElem
def PL:=@Nat.lt_succ_self
def PM:=@List.mem_of_getElem?
def PN:=@Nat.mul_le_mul_right
def PQ:=@List.mem_append
def PR:=@List.not_mem_nil
def PU:=@Array.length_toList
def PV:=@Bool.false_ne_true
def PX:=@Nat.pow_le_pow_right
def PY:=@Nat.mul_le_mul
def PZ:=@decide_eq_false
def P0:=@Nat.lt_succ_of_lt
def P7:=@List.length_cons
def P8:=@PySem.W.mg_none_of
def P9:=@Nat.mul_le_mul_left
def P_:=@List.length_take
def Qa:=@List.mem_map
def Qb:=@List.map_map
def Qc:=@Int.mul_zero
def Qd:=@List.lookup_cons
def Qe:=@List.all_eq_true
def Qf:=@PySem.mem_of_lookup
def Qg:=@List.range_succ_eq_map
def Qh:=@Nat.mul_assoc
def Qi:=@List.mem_or_eq_of_mem_set
def Qj:=@List.map_cons
def Qk:=@Bool.and_eq_true
def Ql:=@List.mem_singleton
def Qm:=@Int.natAbs_mul
def Qn:=@List.drop_eq_nil_of_le
def Qo:=@Int.fmod_nonneg_of_pos
def Qp:=@if_false
def Qq:=@Option.some.inj
def Qr:=@List.map_append
def Qs:=@PyProof.Rows.wpS_bind
def Qu:=@Int.eq_ofNat_of_zero_le
def Qv:=@Int.zero_mul
def Qw:=@Int.mul_assoc
def Qx:=@List.length_drop
def Qy:=@List.map_congr_left
def Qz:=@List.getElem?_concat_length
def QA:=@not_false_eq_true
def QB:=@PyProof.Rows.slot_tuple_getitem
def QC:=@Nat.lt_irrefl
def QD:=@List.mem_range
def QE:=@PySem.Heap.size_push
def QF:=@PySem.wpAny_field
def QG:=@List.getElem_map
def QH:=@Classical.byContradiction
def QI:=@PySem.Heap.SameBut.update
def QJ:=@List.append_assoc
def QK:=@Nat.le_of_lt
def QL:=@decide_eq_true
def QM:=@Nat.sub_self
def QN:=@PySem.W.kia_one
def QO:=@List.append_nil
def QP:=@Int.fmod_lt_of_pos
def QQ:=@PySem.wpAny_callSpecial?_slot
def QR:=@List.mem_append_left
def QS:=@Int.mul_comm
def QT:=@Int.fdiv_eq_ediv_of_nonneg
def QU:=@List.replicate_succ
def QV:=@beq_iff_eq
def QW:=@Nat.zero_add
def QX:=@Nat.lt_or_ge
def QY:=@PySem.wpAny_holding
def QZ:=@PySem.sizeLine_eq
def Q0:=@Nat.pow_add
def Q1:=@PySem.wpAny_seqItems
def Q2:=@List.length_eq_zero_iff
def Q3:=@PyProof.Rows.wpS_pure
def Q4:=@Nat.mul_left_comm
def Q5:=@PyProof.Rows.callWith_type1
def Q6:=@Int.ne_of_gt
def Q7:=@PySem.wpAny_mono
def Q8:=@List.getElem_mem
def Q9:=@Array.mem_toList_iff
def Q_:=@Nat.mul_comm
def Ra:=@Int.le_of_lt
def Rb:=@Nat.le_antisymm
def Rf:=@List.range_succ
def Rg:=@if_true
def Rh:=@List.flatten_cons
def Ri:=@List.getElem?_cons_succ
def Rj:=@Nat.le_mul_of_pos_right
def Rk:=@PySem.wpAny_call_entry
def Rl:=@Nat.le_of_not_lt
def Rm:=@Int.natAbs_neg
def Rn:=@PySem.W.cellsFrom_some
def Ro:=@List.take_of_length_le
def Rp:=@Int.one_mul
def Rq:=@List.mem_filterMap
def Rr:=@PySem.wpAny_pyIter_tuple
def Rt:=@PySem.wpAny_setField_rec
def Ru:=@Nat.lt_of_le_of_lt
def Rv:=@Array.getD_eq_getD_getElem?
def Rw:=@PyProof.Rows.F.plain_set_update_loop
def Rx:=@Int.sub_eq_add_neg
def Rz:=@Nat.lt_trans
def RB:=@PySem.wpAny_passesOwn
def RC:=@List.nodup_cons
def RD:=@congrArg
def RE:=@PySem.F.slot_tuple_iterator_next
def RG:=@PySem.wpAny_truthy_bool
def RH:=@PySem.wpAny_newObj_type
def RI:=@List.pairwise_map
def RJ:=@Nat.le_of_lt_succ
def RK:=@List.mem_of_mem_take
def RL:=@Int.mul_one
def RM:=@Nat.ne_of_gt
def RN:=@Option.isSome_iff_exists
def RO:=@PySem.F.called_set
def RP:=@Nat.succ_lt_succ
def RQ:=@beq_eq_false_iff_ne
def RT:=@List.cons.inj
def RU:=@PySem.wpAny_Call_Name_kw
def RV:=@PySem.call_meets
def RW:=@Option.map_some
def RX:=@List.cons.injEq
def RY:=@Nat.lt_or_gt_of_ne
def RZ:=@Int.mul_le_mul_of_nonneg_right
def R0:=@or_false
def R6:=@and_true
def R7:=@Int.neg_mul
def R8:=@Nat.lt_of_succ_lt_succ
def R9:=@PySem.wpAny_pyIter_list
def R_:=@PySem.wpAny_setState_of
def Sa:=@Nat.lt_trichotomy
def Sb:=@Nat.pow_succ
def Sd:=@List.eq_replicate_iff
def Se:=@PySem.F.slot_tuple_mul
def Sf:=@Nat.le_add_right
def Sg:=@not_or
def Sh:=@Bool.not_true
def Si:=@Nat.le_succ
def Sj:=@Nat.mul_add
def Sk:=@List.filterMap_cons
def Sl:=@PyProof.Rows.get?_update_seq
def Sm:=@List.length_nil
def Sn:=@PySem.codeAny_mono
def So:=@List.getElem?_take_of_lt
def Ss:=@PySem.F.args_tuple_add_2
def Su:=@Int.zero_add
def Sv:=@Array.forIn_toList
def Sw:=@PyProof.Rows.F.entry_set_update_loop
def Sy:=@Int.add_zero
def Sz:=@List.filter_append
def SA:=@List.getElem_range
def SD:=@PySem.wpAny_rule
def SE:=@Nat.add_le_add
def SF:=@PySem.F.entry_tuple_add
def SG:=@Classical.axiomOfChoice
def SH:=@Int.pos_of_mul_pos_left
def SI:=@PySem.W.kitx_list
def SJ:=@PySem.W.kitx_dict
def SM:=@PySem.F.slot_tuple_add
def SN:=@Int.le_refl
def SO:=@Nat.le_mul_of_pos_left
def SQ:=@PySem.Paired.length
def SS:=@List.all_cons
def SV:=@List.take_succ_eq_append_getElem
def SW:=@PySem.Heap.get?_update_self
def SX:=@List.lookup_cons_self
def SY:=@Array.getElem?_toList
def S0:=@Array.mem_of_getElem?
def S7:=@Int.mul_fdiv_add_fmod
def S8:=@Classical.choose_spec
def S9:=@List.set_append_right
def S_:=@List.length_filterMap_eq_countP
def Ta:=@PySem.wpAny_execs_nil
def Tc:=@Bool.eq_iff_iff
def Td:=@Nat.le_of_eq
def Te:=@List.of_mem_zip
def Tf:=@Nat.succ_mul
def Tg:=@PySem.F.slot_int_rmul
def Th:=@PySem.wpAny_ite_false
def Ti:=@Bool.or_eq_true
def Tj:=@PySem.wpAny_updateSeq_pair
def To:=@PySem.F.slot_zip_next
def Tq:=@PyProof.Rows.wpS_forRange
def Tr:=@Bool.and_eq_true_iff
def Ts:=@Nat.succ_pos
def Tt:=@List.mem_of_mem_drop
def Tu:=@Nat.pow_lt_pow_right
def Tv:=@Int.mul_le_mul_of_nonneg_left
def Tw:=@PySem.W.plainGet_of
def Tx:=@List.mem_map_of_mem
def Tz:=@Array.toList_append
def TB:=@PySem.F.args_tuple_iterator_next_1
def TC:=@PySem.W.callWith_K
def TF:=@PySem.F.args_tuple_mul_2
def TH:=@PySem.F.entry_tuple_iterator_next
def TJ:=@List.getElem?_drop
def TK:=@Nat.eq_zero_or_pos
def TL:=@Nat.mul_right_comm
def TM:=@List.pairwise_cons
def TN:=@Int.natCast_nonneg
def TQ:=@List.getElem?_take
def TR:=@PySem.Calls.Name_function_global
def TU:=@PySem.wpAny_standAt
def TV:=@List.any_cons
def TX:=@PySem.wpAny_onRaise
def TY:=@PySem.wpAny_attempt
def TZ:=@PyProof.Rows.listUpdate_at
def T3:=@Array.getElem?_eq_some_iff
def T4:=@Array.toList_setIfInBounds
def T5:=@List.map_take
def T6:=@Nat.le_of_succ_le
def T7:=@PySem.F.entry_tuple_mul
def T8:=@List.length_range
def T9:=@PySem.typeIs_int
def T_:=@PySem.wpAny_binaryOp_repeat_ref
def Ua:=@bne_iff_ne
def Ub:=@List.getElem?_eq_none_iff
def Uc:=@List.pairwise_iff_getElem
def Ud:=@PySem.noFill_tuple_add
def Ue:=@PySem.wpAny_typeOf
def Ug:=@beq_self_eq_true
def Uh:=@Option.bind_some
def Ui:=@PySem.wpAny_comprehension_free
def Uj:=@decide_eq_decide
def Uk:=@decide_false
def Ul:=@List.ext_getElem
def Um:=@PySem.wpAny_forIn_list
def Uo:=@List.take_length
def Up:=@Nat.zero_lt_succ
def Uq:=@List.map_set
def Ur:=@List.filter_cons
def Us:=@List.getElem?_replicate
def Ut:=@PySem.F.plainAttrs_list
def Uu:=@List.forIn_cons
def Uv:=@List.length_zip
def Uw:=@beq_false_of_ne
def Ux:=@PySem.codeAny_builtin
def Uz:=@Nat.min_eq_left
def UA:=@PySem.Heap.get?_update_other
def UB:=@Option.map_eq_some_iff
def UC:=@Prod.mk.inj
def UD:=@PySem.wpAny_letGo
def UE:=@decide_true
def UG:=@PyProof.Rows.wpS_reverse
def UH:=@PyProof.Rows.mirror_perm
def UI:=@Array.toList_filterMap
def UJ:=@Int.sub_mul
def UK:=@Nat.add_mul
def UL:=@Nat.mul_pos
def UM:=@List.sum_replicate_nat
def UN:=@Nat.log2_lt
def UO:=@List.drop_of_length_le
def UP:=@List.length_singleton
def UQ:=@List.forIn_nil
def UR:=@Bool.and_false
def US:=@List.getElem?_eq_none
def UT:=@Array.size_map
def UU:=@List.contains_iff_mem
def UW:=@List.countP_eq_length
def UX:=@List.take_append_drop
def UY:=@List.filterMap_append
def UZ:=@List.drop_zero
def U0:=@PySem.wpAny_call
def U9:=@Nat.mod_lt
def U_:=@PySem.seq_tuple_add
def Va:=@PySem.wpAny_newList
def Vb:=@Prod.mk.injEq
def Vc:=@PySem.concat_meets
def Vd:=@List.all_map
def Ve:=@Nat.min_self
def Vf:=@Nat.sub_zero
def Vg:=@Nat.mul_succ
namespace L2
open PySem PySem.Spec PyProof.Rows
abbrev Key:=Sum Int Str
def FG:Key->Value->Bool
 | .inl k,v=>Value.isInt k v
 | .inr x,v=>Value.isStrOf x v
def NR(w:World):Key->Int
 | .inl k=>hashInt k
 | .inr x=>hashStr w x
theorem dA:∀ {k:Key} {v:Value},FG k v=true->(∃i t,k=Sum.inl i/\v=Value.int i t)\/(∃x t,k=Sum.inr x/\v=Value.str x t)
 | .inl i,v,h=>by
   obtain⟨t,e⟩:=Value.isInt_shape (k:=i) (v:=v) h;exact .inl ⟨i,t,rfl,e⟩
 | .inr x,v,h=>by
   obtain⟨t,e⟩:=Value.isStrOf_shape (x:=x) (v:=v) h;exact .inr ⟨x,t,rfl,e⟩
theorem KH(a b:Int):decide ((Sum.inl a:Key)=Sum.inl b)=(a==b):=by
 by_cases e:a=b
 . subst e;simp
 . have h:¬(Sum.inl a:Key)=Sum.inl b:=λ q=>e (Sum.inl.inj q);rw[PZ h];exact(RQ.mpr e).symm
theorem Ju(a b:Str):decide ((Sum.inr a:Key)=Sum.inr b)=decide (a=b):=by
 by_cases e:a=b
 . subst e;simp
 . have h:¬(Sum.inr a:Key)=Sum.inr b:=λ q=>e (Sum.inr.inj q);rw[PZ h,PZ e]
theorem Lb(a:Int)(b:Str):decide ((Sum.inl a:Key)=Sum.inr b)=false:=PZ (λ q=>nomatch q)
theorem JL(a:Str)(b:Int):decide ((Sum.inr a:Key)=Sum.inl b)=false:=PZ (λ q=>nomatch q)
def yW(prog:Program)(w:World):PySem.KeyKind prog w Key where
 is:=FG
 hash:=NR w
 inj:=λ v a b ha hb=>by
  rcases dA ha with⟨i,t,rfl,rfl⟩|⟨x,t,rfl,rfl⟩
  . rcases dA hb with⟨j,u,rfl,e⟩|⟨y,u,rfl,e⟩
    . injection e with e1 _;rw[e1]
    . exact nomatch e
  . rcases dA hb with⟨j,u,rfl,e⟩|⟨y,u,rfl,e⟩
    . exact nomatch e
    . injection e with e1 _;rw[e1]
 byValue:=λ k v h=>by
  rcases dA h with⟨i,t,rfl,rfl⟩|⟨x,t,rfl,rfl⟩<;>rfl
 pyHash:=λ hv h=>by
  rcases dA hv with⟨i,t,rfl,rfl⟩|⟨x,t,rfl,rfl⟩
  . exact wpAny_pyHash_int h
  . exact wpAny_pyHash_str h
 eqBool:=λ hu hv h=>by
  rcases dA hu with⟨i,t,rfl,rfl⟩|⟨x,t,rfl,rfl⟩
  . rcases dA hv with⟨j,u,rfl,rfl⟩|⟨y,u,rfl,rfl⟩
    . rw[KH]at h;exact wpAny_eqBool_int h
    . rw[Lb]at h;exact SeqAt.EqAt.int_str i t y u _ _ _ _ h
  . rcases dA hv with⟨j,u,rfl,rfl⟩|⟨y,u,rfl,rfl⟩
    . rw[JL]at h;exact SeqAt.EqAt.str_int x t j u _ _ _ _ h
    . rw[Ju]at h;exact wpAny_eqBool_str h
 «strs» :=λ k x t v h=>by
  rcases dA h with⟨i,u,rfl,e⟩|⟨y,u,rfl,e⟩
  . exact nomatch e
  . injection e with e1 _;subst e1;cases v<;>rfl
inductive V where
 |aq|bl (b:Bool)|int (i:Int)|str (x:Str)|pW (b:Array UInt8)|pD (b:UInt64)|ref (a:Addr)|ty (n:String)
 deriving DecidableEq
def RelV:V->Value->Prop
 | .aq,u=>u=Value.none
 | .bl b,u=>u=Value.bool b
 | .int i,u=>∃t,u=Value.int i t
 | .str x,u=>∃t,u=Value.str x t
 | .pW b,u=>∃t,u=Value.bytes b t
 | .pD b,u=>∃t,u=Value.float b t
 | .ref a,u=>u=Value.ref a
 | .ty n,u=>u=Value.type n
abbrev Vals:List V->List Value->Prop:=Paired RelV
theorem Vals.length{xs:List V}{us:List Value}(r:Vals xs us):xs.length=us.length:=SQ r
theorem Vals.get:∀ {xs:List V} {us:List Value} {i:Nat} {x:V},Vals xs us->xs[i]?=some x->∃u,us[i]?=some u/\RelV x u
 |_,_,_,_,.nil,e=>by simp at e
 |_,_,0,_,.cons r _,e=>by simp at e;subst e;exact⟨_,rfl,r⟩
 |_,_,i+1,x,.cons _ t,e=>by
  obtain⟨u,h1,h2⟩:=Vals.get (i:=i) (x:=x) t (by simpa using e);exact⟨u,by simpa using h1,h2⟩
theorem Vals.set{x:V}{u:Value}(r:RelV x u):∀ {xs:List V} {us:List Value} (i:Nat),Vals xs us->Vals (xs.set i x) (us.set i u)
 |_,_,_,.nil=> .nil
 |_,_,0,.cons _ t=> .cons r t
 |_,_,i+1,.cons q t=> .cons q (Vals.set r i t)
theorem Vals.append:∀ {xs ys:List V} {us ws:List Value},Vals xs us->Vals ys ws->Vals (xs++ys) (us++ws)
 |_,_,_,_,.nil,s=>s
 |_,_,_,_,.cons r t,s=> .cons r (Vals.append t s)
theorem Vals.take:∀ {xs:List V} {us:List Value} (n:Nat),Vals xs us->Vals (xs.take n) (us.take n)
 |_,_,0,_=> .nil
 |_,_,_+1,.nil=> .nil
 |_,_,n+1,.cons r t=> .cons r (Vals.take n t)
theorem Vals.drop:∀ {xs:List V} {us:List Value} (n:Nat),Vals xs us->Vals (xs.drop n) (us.drop n)
 |_,_,0,r=>r
 |_,_,_+1,.nil=> .nil
 |_,_,n+1,.cons _ t=>Vals.drop n t
def kU:Option V->Option Value->Prop
 |some v,some u=>RelV v u
 |none,none=>True
 |_,_=>False
def KV{κ:Type}:List (κ×V)->List (κ×Value)->Prop:=Paired λ(p:κ×V) (q:κ×Value)=>p.1=q.1/\RelV p.2 q.2
def kV:Key->V
 | .inl i=> .int i
 | .inr x=> .str x
inductive HO where
 |lst (xs:List V)
 |tup (xs:List V)
 |dK (kvs:List (Key×V))|dT (kvs:List (List Key×V))
 |set (S:Int->Bool) (n:Nat)
 |ins (C dx:Addr) (fs:List (Str×V))
 |own (x:Addr)
 |xd (fs:List (Str×V))
 |met (f x:Addr)
 |Kn (lo hi:Int)
 |dE (o:Obj) (u:HO)
 |g9 (ps:Array Value)
 |ext (φ:Heap->Prop)
abbrev Hp:=Addr->Option HO
def upd(H:Hp)(a:Addr)(o:HO):Hp:=λ b=>if b=a then some o else H b
theorem aG{H:Hp}{a:Addr}{o:HO}:upd H a o a=some o:=by unfold upd;rw[O_ rfl]
theorem au{H:Hp}{a b:Addr}{o:HO}(h:b≠a):upd H a o b=H b:=by unfold upd;rw[O7 h]
theorem HD{H:Hp}{a:Addr}{o u:HO}:upd (upd H a o) a u=upd H a u:=by
 funext b;unfold upd;split<;>rfl
theorem cF{H:Hp}{a b:Addr}{o:HO}(h:H a=some o)(h':H b=none):a≠b:=by
 intro e;subst e;rw[h]at h';cases h'
section
variable (P:Program)(w:World)
def cw(H:Hp)(h:Heap)(a:Addr):HO->Prop
 | .lst xs=>xs.length<=sizeLine/\∃(its:List Value) (n:Nat),Vals xs its/\h.get? a=some {cls:= .type "list",data:= .seq its.toArray n}
 | .tup xs=>xs.length<=sizeLine/\∃its:List Value,Vals xs its/\IsTup h a its.toArray
 | .dK kvs=>kvs.length<=sizeLine/\(a==sysModules)=false/\∃vs,KV kvs vs/\h.DictOf (yW P w) a vs
 | .dT kvs=>kvs.length<=sizeLine/\(a==sysModules)=false/\∃xs:List (List Key×Addr×Value),
    Paired (λ(p:List Key×V) (q:List Key×Addr×Value)=>p.1=q.1/\H q.2.1=some (.tup (p.1.map kV))/\RelV p.2 q.2.2) kvs xs/\
    ∃o es ep,h.get? a=some o/\o.ExactDict/\o.data= .dict es ep/\es.toList=xs.map (entryOfKey (tupleKind (yW P w)))/\(xs.map (·.1)).Nodup
 | .set S n=>h.SetOf (intKind P w) a S n
 | .ins C dx fs=>H dx=some (.own a)/\fs.length<=1000/\dx≠a/\h.get? a=some (PySem.W.instObj C dx)/\
    ∃mA,h.Ns1 dx mA/\(∀f,kU (fs.lookup f) (mA f))/\PySem.Within mA (fs.map (·.1))
 | .own _=>∃o,h.get? a=some o
 | .xd fs=>∃mA,h.Ns1 a mA/\∀f,kU (fs.lookup f) (mA f)
 | .Kn lo hi=>∃t u v,h.get? a=some {cls:= .type "range",data:= .fields #[.int lo t,.int hi u,.int 1 v]}
 | .dE o u=>h.get? a=some o/\cw H h a u
 | .g9 ps=>h.get? a=some {cls:= .none,data:= .fields ps}
 | .met f x=>h.get? a=some (PySem.W.methodObj (.ref f) (.ref x))
 | .ext φ=>φ h/\(∃o,h.get? a=some o)/\∀h1 h2:Heap,φ h1->(∀o,h1.get? a=some o->h2.get? a=some o)->φ h2
def fA(H:Hp)(h:Heap):Prop:=∀a o,H a=some o->cw P w H h a o
end
section
variable {P:Program}{w:World}{H H':Hp}{h h':Heap}{a:Addr}{o:HO}
theorem cw.lt(x:cw P w H h a o):a<h.objs.size:=by
 cases o with
 |lst xs=>obtain⟨_,_,_,_,e⟩:=x;exact Pm e
 |tup xs=>obtain⟨_,_,_,p⟩:=x;exact p.lt
 |dK kvs=>obtain⟨_,_,_,_,o,_,_,e,_⟩:=x;exact Pm e
 |dT kvs=>obtain⟨_,_,_,_,o,_,_,e,_⟩:=x;exact Pm e
 |set S n=>obtain⟨o,_,_,_,e,_⟩:=x;exact Pm e
 |ins C dx fs=>obtain⟨_,_,_,e,_⟩:=x;exact Pm e
 |own y=>obtain⟨_,e⟩:=x;exact Pm e
 |xd fs=>obtain⟨_,⟨_,_,_,e,_⟩,_⟩:=x;exact Pm e
 |Kn lo hi=>obtain⟨_,_,_,e⟩:=x;exact Pm e
 |dE ob u=>obtain⟨e,_⟩:=x;exact Pm e
 |g9 ps=>exact Pm (show h.get? a=some _ from x)
 |met f y=>exact Pm (show h.get? a=some _ from x)
 |ext φ=>obtain⟨_,⟨_,e⟩,_⟩:=x;exact Pm e
theorem Paired.Ej{α β:Type}{F G:α->β->Prop}:∀ {l₁:List α} {l₂:List β},Paired F l₁ l₂->(∀a b,F a b->G a b)->Paired G l₁ l₂
 |_,_,.nil,_=> .nil
 |_,_,.cons r t,f=> .cons (f _ _ r) (Paired.Ej t f)
theorem cw.lO(x:cw P w H h a o)(k:∀b u,(b=a\/H b=some (.own a))->h.get? b=some u->h'.get? b=some u)
 (ho:∀b,H b=some (.own a)->H' b=some (.own a)) (ht:∀b xs,H b=some (.tup xs)->H' b=some (.tup xs)):cw P w H' h' a o:=by
 induction o with
 |lst xs=>obtain⟨z,its,n,r,e⟩:=x;exact⟨z,its,n,r,k _ _ (.inl rfl) e⟩
 |tup xs=>obtain⟨z,its,r,ob,e,c⟩:=x;exact⟨z,its,r,ob,k _ _ (.inl rfl) e,c⟩
 |dK kvs=>obtain⟨z,y,vs,r,ob,es,ep,e,c⟩:=x;exact⟨z,y,vs,r,ob,es,ep,k _ _ (.inl rfl) e,c⟩
 |dT kvs=>
  obtain⟨z,y,xs,r,ob,es,ep,e,c⟩:=x;exact⟨z,y,xs,Paired.Ej r λ p q z=>⟨z.1,ht _ _ z.2.1,z.2.2⟩,ob,es,ep,k _ _ (.inl rfl) e,c⟩
 |set S n=>obtain⟨ob,es,ep,t,e,c⟩:=x;exact⟨ob,es,ep,t,k _ _ (.inl rfl) e,c⟩
 |ins C dx fs=>
  obtain⟨d,z,ne,e,mA,⟨od,es,ep,e2,c⟩,r⟩:=x;exact⟨ho _ d,z,ne,k _ _ (.inl rfl) e,mA,⟨od,es,ep,k _ _ (.inr d) e2,c⟩,r⟩
 |own y=>obtain⟨ob,e⟩:=x;exact⟨ob,k _ _ (.inl rfl) e⟩
 |xd fs=>obtain⟨mA,⟨od,es,ep,e,c⟩,r⟩:=x;exact⟨mA,⟨od,es,ep,k _ _ (.inl rfl) e,c⟩,r⟩
 |Kn lo hi=>obtain⟨t,u,v,e⟩:=x;exact⟨t,u,v,k _ _ (.inl rfl) e⟩
 |dE ob u ih=>obtain⟨e,q⟩:=x;exact⟨k _ _ (.inl rfl) e,ih q⟩
 |g9 ps=>
  have e:h.get? a=some {cls:= .none,data:= .fields ps}:=x;show h'.get? a=some {cls:= .none,data:= .fields ps};exact k a _ (.inl rfl) e
 |met f y=>
  have e:h.get? a=some (PySem.W.methodObj (.ref f) (.ref y)):=x;show h'.get? a=some (PySem.W.methodObj (.ref f) (.ref y));exact k a _ (.inl rfl) e
 |ext φ=>obtain⟨p,⟨o,e⟩,st⟩:=x;exact⟨st _ _ p λ o q=>k _ _ (.inl rfl) q,⟨o,k _ _ (.inl rfl) e⟩,st⟩
theorem fA.lt(x:fA P w H h)(e:H a=some o):a<h.objs.size:=(x a o e).lt
theorem fA.fresh(x:fA P w H h)(e:h.objs.size<=a):H a=none:=by
 cases q:H a with
 |none=>rfl
 |some u=>exact absurd (Pu (x.lt q) e) (QC _)
theorem fA.kept(x:fA P w H h)(k:∀b u,h.get? b=some u->h'.get? b=some u):fA P w H h':=λ a o e=>
 (x a o e).lO (λ b u _ q=>k b u q) (λ _ q=>q) λ _ _ q=>q
theorem fA.laid(x:fA P w H h)(k:∀b u,h.get? b=some u->h'.get? b=some u)(hp:h.objs.size<=a)(new:cw P w (upd H a o) h' a o):fA P w (upd H a o) h':=λ b u e=>by
 have hn:=x.fresh hp;by_cases hb:b=a
 . subst hb;rw[aG]at e;cases e;exact new
 . rw[au hb]at e;exact(x b u e).lO (λ c v _ q=>k c v q) (λ c q=>by rw[au (cF q hn)];exact q) λ c xs q=>by rw[au (cF q hn)];exact q
end
def Rd(H:Hp)(a:Addr)(u:HO):Prop:=H a=some u\/∃o,H a=some (.dE o u)
theorem Rd.of{H:Hp}{a:Addr}{u:HO}(h:H a=some u):Rd H a u:= .inl h
theorem Rd.ok{P:Program}{w:World}{H:Hp}{h:Heap}{a:Addr}{u:HO}(r:Rd H a u)(x:fA P w H h):cw P w H h a u:=by
 rcases r with r|⟨o,r⟩
 . exact x a u r
 . obtain⟨_,q⟩:=x a _ r;exact q
def FR:Option HO->Prop
 |some (.lst _)=>True
 |some (.dK _)=>True
 |some (.dT _)=>True
 |some (.set _ _)=>True
 |some (.ins _ _ _)=>True
 |some (.ext _)=>True
 |_=>False
section
variable {P:Program}{w:World}{H:Hp}{h h':Heap}{x e:Addr}{o':HO}
theorem fA.write(ok:fA P w H h)(mu:FR (H x))(he:e=x\/H e=some (.own x))(k:∀b u,b≠e->h.get? b=some u->h'.get? b=some u)(heo:∃u,h'.get? e=some u)
 (new:cw P w (upd H x o') h' x o'):fA P w (upd H x o') h':=λ b u q=>by
 have nown:∀c y,H c=some (.own y)->c≠x:=λ c y r z=>by subst z;rw[r]at mu;exact mu
 have ntup:∀c xs,H c=some (.tup xs)->c≠x:=λ c xs r z=>by subst z;rw[r]at mu;exact mu
 by_cases hb:b=x
 . subst hb;rw[aG]at q;cases q;exact new
 . rw[au hb]at q;by_cases hbe:b=e
   . have q':H b=some (.own x):=by
      rcases he with z|z
      . exact absurd (hbe.trans z) hb
      . rw[hbe];exact z
     rw[q]at q';cases q';obtain⟨v,hv⟩:=heo;exact⟨v,by rw[hbe];exact hv⟩
   . refine(ok b u q).lO (λ c v hc r=>k c v ?_ r) (λ c r=>by rw[au (nown c b r)];exact r) λ c xs r=>by rw[au (ntup c xs r)];exact r
     rcases hc with rfl|hc
     . exact hbe
     . rintro rfl;rcases he with z|z
       . exact nown c b hc z
       . rw[hc]at z;cases z;exact hb rfl
end
structure Un(fs ex:List Addr)(H H':Hp)(h h':Heap):Prop where
 keep:∀b o,h.get? b=some o->H b=none->b∉fs->b∉ex->h'.get? b=some o
 slot:∀b o,h.get? b=some o->H b=none->b∈fs->b∉ex->∃sl,h'.get? b=some {o with slots:=sl}
 free:∀b o,h.get? b=some o->H b=none->b∉ex->H' b=none
 there:∀b o,h.get? b=some o->b∉ex->∃o',h'.get? b=some o'
 lq:∀b xs,H b=some (.tup xs)->H' b=some (.tup xs)
 kc:∀b o u,H b=some (.dE o u)->H' b=some (.dE o u)
 ko:∀b ps,H b=some (.g9 ps)->∃more,H' b=some (.g9 (ps++more))
section
variable {fs fs' ex ex':List Addr}{H H1 H2:Hp}{h h1 h2 h':Heap}{a x e:Addr}{o:HO}
theorem Un.any(u:Un fs ex H H1 h h1){b:Addr}{ob:Obj}(q:h.get? b=some ob)(n:H b=none)(hx:b∉ex):∃sl,h1.get? b=some {ob with slots:=sl}:=by
 by_cases hb:b∈fs
 . exact u.slot b ob q n hb hx
 . exact⟨ob.slots,u.keep b ob q n hb hx⟩
theorem Un.kept(k:∀b u,h.get? b=some u->h'.get? b=some u):Un fs ex H H h h':=
 ⟨λ b ob q _ _ _=>k b ob q,λ b ob q _ _ _=>⟨ob.slots,k b ob q⟩,λ _ _ _ n _=>n,λ b ob q _=>⟨ob,k b ob q⟩,λ _ _ q=>q,λ _ _ _ q=>q,λ _ ps q=>⟨#[],by rw[q];simp⟩⟩
theorem Un.refl:Un fs ex H H h h:=Un.kept λ _ _ q=>q
theorem Un.laid(k:∀b u,h.get? b=some u->h'.get? b=some u)(hp:h.objs.size<=a)(hn:H a=none):Un fs ex H (upd H a o) h h' where
 keep:=λ b u q _ _ _=>k b u q
 slot:=λ b u q _ _ _=>⟨u.slots,k b u q⟩
 free:=λ b u q n _=>by rw[au (PB (Pu (Pm q) hp))];exact n
 there:=λ b u q _=>⟨u,k b u q⟩
 lq:=λ b xs q=>by rw[au (cF q hn)];exact q
 kc:=λ b u xs q=>by rw[au (cF q hn)];exact q
 ko:=λ b ps q=>⟨#[],by rw[au (cF q hn),q];simp⟩
theorem Un.write(mu:FR (H x))(he:e=x\/H e=some (.own x))(k:∀b u,b≠e->h.get? b=some u->h'.get? b=some u)(heo:∃u,h'.get? e=some u):Un fs ex H (upd H x o) h h':=by
 have hx:∀b,H b=none->b≠x:=λ b n z=>by subst z;rw[n]at mu;exact mu
 have hb:∀b,H b=none->b≠e:=λ b n z=>by
  subst z;rcases he with r|r
  . exact hx b n r
  . rw[n]at r;cases r
 have hm:∀b u,H b=some u->¬FR (some u)->b≠x:=λ b u q nm z=>by subst z;rw[q]at mu;exact nm mu
 refine⟨λ b u q n _ _=>k b u (hb b n) q,λ b u q n _ _=>⟨u.slots,k b u (hb b n) q⟩,λ b u q n _=>by rw[au (hx b n)];exact n,λ b u q _=>?_,
  λ b xs q=>by rw[au (hm b _ q λ z=>z)];exact q,λ b u xs q=>by rw[au (hm b _ q λ z=>z)];exact q,λ b ps q=>⟨#[],by rw[au (hm b _ q λ z=>z),q];simp⟩⟩
 by_cases hbe:b=e
 . subst hbe;exact heo
 . exact⟨u,k b u hbe q⟩
end
def FT(h:Heap)(H:Hp):List Addr:=(List.range h.objs.size).filter λ a=>(H a).isSome
def lI(h:Heap)(H:Hp):Heap:=PySem.W.hideAll h (FT h H)
theorem Dg(h:Heap)(H:Hp):(lI h H).objs.size=h.objs.size:=PySem.W.hideAll_size _ _
theorem mJ{h:Heap}{H:Hp}{b:Addr}{o:Obj}(e:h.get? b=some o)(n:H b=none):(lI h H).get? b=some o:=
 PySem.W.hideAll_get _ e λ hm=>by
  have q:(H b).isSome=true:=(List.mem_filter.mp hm).2;rw[n]at q;simp at q
theorem Ir{h:Heap}{H:Hp}{b:Addr}{o:Obj}(e:(lI h H).get? b=some o):h.get? b=some o/\H b=none:=by
 have e':h.get? b=some o:=PySem.W.of_hideAll (FT h H) e;refine⟨e',?_⟩;cases q:H b with
 |none=>rfl
 |some x=>
  have hm:b∈FT h H:=List.mem_filter.mpr ⟨QD.mpr (Pm e'),by simp[q]⟩;have z:(lI h H).get? b=none:=PySem.W.hideAll_none (FT h H) hm;rw[z]at e;cases e
def Hm(g h:Heap)(L:Addr):List (Addr×Obj):=(List.range h.objs.size).filterMap λ a=>if a=L\/(g.get? a).isSome=true then none else(h.get? a).map λ o=>(a,o)
def rest(g h:Heap)(L d:Addr):List (Addr×Obj):=(Hm g h L).filter λ p=>decide (p.1≠d)
structure Mod(K:PySem.W.Frag)(mg:Str->Option Value)(base:Heap):Prop where
 CZ:K.In base
 glob:base.Ns mainGlobals mg
 blt:∃mb,base.Ns builtinsNs mb/\∀x:Str,x≠"__name__"->mb x=bootBuiltins x
 nolimit:base.NoLimit
 seer:base.NoSeer
 bmain:∃bm ob,mg "__builtins__"=some (.ref bm)/\bm≠builtinsNs/\base.get? bm=some ob/\ob.cls= .type "module"/\ob.dict=some builtinsNs/\ob.data= .plain
structure Cx where
 prog:Program
 w:World
 K:PySem.W.Frag
 mg:Str->Option Value
 base:Heap
 A:Around
 N:List Str
 s₀:Shared
 H₀:Hp
 env:Env
 outer:List Env
 stack:List Env
 ex:List Addr
 fn:Str->Bool
 calm:Bool
 pn:List (Addr×Obj)
 xe:Value->Shared->Prop
def mf(l:List Env):List Addr:=l.filterMap (·.frame)
abbrev Cx.fs(X:Cx):List Addr:=mf X.outer
def vA(sc:Scope)(x:Str):Prop:=sc.names.lookup x=some .local\/sc.names.lookup x=some .cell\/sc.names.lookup x=some .free
def Loc(sc:Scope)(x:Str):Prop:=sc.names.lookup x=some .local\/sc.names.lookup x=some .cell
def Look(env:Env)(h:Heap)(m:Str->Option Value)(x:Str)(u:Value):Prop:=
 (env.kindOf x=some .local/\m x=some u)\/((env.kindOf x=some .cell\/env.kindOf x=some .free)/\∃c,env.cells.lookup x=some c/\h.IsCell c (some u))
structure Cx.Ok(X:Cx):Prop where
 mod:Mod X.K X.mg X.base
 kind:X.env.scope.kind= .function
 glob:X.env.globals=mainGlobals
 blt:X.env.builtins=builtinsNs
 above:X.s₀.heap.objs.size<=X.env.locals
 inj:∀x y c,X.env.cells.lookup x=some c->X.env.cells.lookup y=some c->x=y
 has:∀x,(X.env.kindOf x=some .cell\/X.env.kindOf x=some .free)->∃c,X.env.cells.lookup x=some c
 xr:∀x c,X.fn x=true->X.env.cells.lookup x=some c->X.s₀.heap.objs.size<=c
 hd:X.calm=true->X.A.handled=none
 frames:X.A.frames=some X.stack
 za:X.stack=X.outer\/(X.stack=X.env::X.outer/\X.env.frame=some X.env.locals)
 Ct:∀b∈X.ex,b≠X.env.locals/\∀x c,X.env.cells.lookup x=some c->c≠b
 bs:∀b o,X.base.get? b=some o->X.s₀.heap.get? b=some o/\X.H₀ b=none
 nA:X.base.objs.size<=X.s₀.heap.objs.size
 qG:∀b o,X.base.get? b=some o->b∉X.ex
 qj:∀b∈X.ex,b∉X.fs
 ik:X.s₀.heap.FunFrames X.base X.outer
 qW:∀b∈X.fs,X.H₀ b=none
 gt:X.prog.given.tree=none
structure Inv(X:Cx)(pins:List (Addr×Obj))(σ:List (Option V))(H:Hp)(s:Shared):Prop where
 ok:X.Ok
 os:s.os=X.s₀.os
 bare:AllBare s.gens
 base:Un X.fs X.ex X.H₀ H X.s₀.heap s.heap
 loc:∃m,s.heap.Ns X.env.locals m/\∀(i:Nat) (x:Str) (v:V),X.N[i]?=some x->σ[i]?=some (some v)->vA X.env.scope x->∃u,RelV v u/\Look X.env s.heap m x u
 cell:∀x c,X.env.cells.lookup x=some c->∃v,s.heap.IsCell c v
 free:H X.env.locals=none
 fN:∀x c,X.env.cells.lookup x=some c->H c=none
 pin:∀p∈X.pn++pins,s.heap.get? p.1=some p.2/\H p.1=none/\p.1≠X.env.locals/\p.1∉X.fs/\∀v,p.2.data≠ .cell v
 aC:fA X.prog X.w H s.heap
 len:σ.length=X.N.length
section
variable {X:Cx}{pins:List (Addr×Obj)}{σ:List (Option V)}{H H':Hp}{s:Shared}{h':Heap}
theorem Cx.Ok.Om(ok:X.Ok){b:Addr}{o:Obj}(e:X.base.get? b=some o):b∉X.fs:=λ hb=>by
 have:=(ok.ik.mem hb).1;rw[e]at this;cases this
theorem Inv.bs(I:Inv X pins σ H s):∀b o,X.base.get? b=some o->s.heap.get? b=some o/\H b=none:=λ b o e=>
 ⟨I.base.keep b o (I.ok.bs b o e).1 (I.ok.bs b o e).2 (I.ok.Om e) (I.ok.qG b o e),I.base.free b o (I.ok.bs b o e).1 (I.ok.bs b o e).2 (I.ok.qG b o e)⟩
theorem Inv.bk(I:Inv X pins σ H s):∀b o,X.base.get? b=some o->s.heap.get? b=some o:=λ b o e=>(I.bs b o e).1
theorem Inv.mod(I:Inv X pins σ H s):Mod X.K X.mg X.base:=I.ok.mod
theorem Inv.fh(I:Inv X pins σ H s):X.K.In s.heap:=I.ok.mod.CZ.keeps I.bk
theorem Inv.nolimit(I:Inv X pins σ H s):s.heap.NoLimit:=I.ok.mod.nolimit.keeps I.bk
theorem Inv.lt(I:Inv X pins σ H s):X.env.locals<s.heap.objs.size:=let⟨_,hn,_⟩:=I.loc;hn.lt
theorem Inv.sz(I:Inv X pins σ H s):X.s₀.heap.objs.size<=s.heap.objs.size:=Pe I.ok.above (QK I.lt)
theorem Inv.JD(I:Inv X pins σ H s){a:Addr}(h:s.heap.objs.size<=a):a∉X.fs:=λ hb=>by
 obtain⟨_,o,ho,_⟩:=I.ok.ik.mem hb;exact absurd (Pu (Pm ho) (Pe I.sz h)) (QC _)
theorem Inv.xU(I:Inv X pins σ H s):∀x c,X.env.cells.lookup x=some c->c≠X.env.locals:=λ x c e z=>by
 obtain⟨v,o,ho,hd⟩:=I.cell x c e;obtain⟨m,⟨o',es,ep,ho',hd',_⟩,_⟩:=I.loc;rw[z,ho']at ho;cases ho;rw[hd']at hd;cases hd
theorem Inv.ik(I:Inv X pins σ H s):s.heap.FunFrames X.base X.outer:=by
 have all:∀(l:List Env),(∀b∈mf l,b∈X.fs)->X.s₀.heap.FunFrames X.base l->s.heap.FunFrames X.base l:=by
  intro l;induction l with
  |nil=>intro _ _;trivial
  |cons env r ih=>
   intro hs hl;obtain⟨hk,⟨L,o,hf,hn,ho,hd⟩,hr⟩:=hl;have hL:L∈X.fs:=hs L (by unfold mf;rw[Sk,hf];exact Pw);obtain⟨sl,e⟩:=I.base.slot L o ho (I.ok.qW L hL) hL λ z=>I.ok.qj L z hL;exact⟨hk,⟨L,_,hf,hn,e,hd⟩,ih (λ b hb=>hs b (by unfold mf;rw[Sk,hf];exact Pn _ hb)) hr⟩
 exact all X.outer (λ _ hb=>hb) I.ok.ik
theorem Inv.stack(I:Inv X pins σ H s):s.heap.FunFrames X.base X.stack:=by
 rcases I.ok.za with e|⟨e,hf⟩
 . rw[e];exact I.ik
 . rw[e];obtain⟨m,hn,_⟩:=I.loc;refine .cons (by rw[I.ok.kind];decide) hf hn ?_ I.ik;exact Heap.get?_none_of_le (Pe I.ok.nA I.ok.above)
theorem Inv.xJ(I:Inv X pins σ H s):∀b∈mf X.stack,b∈X.env.locals::X.fs:=λ b hb=>by
 rcases I.ok.za with e|⟨e,hf⟩
 . rw[e]at hb;exact Pn _ hb
 . rw[e]at hb;unfold mf at hb;rw[Sk,hf]at hb;exact hb
theorem Inv.tD(I:Inv X pins σ H s):∀b∈mf X.stack,H b=none:=λ b hb=>by
 rcases Px.mp (I.xJ b hb)with e|hb
 . rw[e];exact I.free
 . obtain⟨_,o,ho,_⟩:=I.ok.ik.mem hb;exact I.base.free b o ho (I.ok.qW b hb) λ z=>I.ok.qj b z hb
theorem Inv.step{g':Array GenState}{t':Nat}{d':Drawn}{ch:List Addr}(I:Inv X pins σ H s)
 (hch:∀b∈ch,(b∈X.ex\/X.s₀.heap.objs.size<=b)/\b≠X.env.locals/\(∀x c,X.env.cells.lookup x=some c->c≠b)/\∀p∈X.pn++pins,p.1≠b)
 (keep:∀b o,b≠X.env.locals->b∉X.fs->b∉ch->s.heap.get? b=some o->H b=none->h'.get? b=some o)
 (slot:∀b o,b≠X.env.locals->b∈X.fs->b∉ch->s.heap.get? b=some o->H b=none->∃sl,h'.get? b=some {o with slots:=sl}) (free:∀b o,b∉ch->s.heap.get? b=some o->H b=none->H' b=none)
 (there:∀b o,b∉ch->s.heap.get? b=some o->∃o',h'.get? b=some o')
 (lq:∀b xs,H b=some (.tup xs)->H' b=some (.tup xs)) (kc:∀b o u,H b=some (.dE o u)->H' b=some (.dE o u)) (ko:∀b ps,H b=some (.g9 ps)->∃more,H' b=some (.g9 (ps++more)))
 (ns:∀m,s.heap.Ns X.env.locals m->h'.Ns X.env.locals m) (aC:fA X.prog X.w H' h') (hg:AllBare g'):
 Inv X pins σ H' {s with heap:=h',gens:=g',drawn:=d',toks:=t'}:=by
 have neL:∀b o,X.s₀.heap.get? b=some o->b≠X.env.locals:=λ b o e=>PB (Pu (Pm e) I.ok.above)
 have neC:∀b o,X.s₀.heap.get? b=some o->b∉X.ex->b∉ch:=λ b o e hx hb=>by
  rcases(hch b hb).1 with z|z
  . exact hx z
  . exact absurd (Pu (Pm e) z) (QC _)
 have cellK:∀x c,X.env.cells.lookup x=some c->∀v,s.heap.IsCell c v->h'.IsCell c v:=λ x c e v ⟨o,ho,hd⟩=>by
  have nch:c∉ch:=λ z=>(hch c z).2.2.1 x c e rfl;by_cases hc:c∈X.fs
  . obtain⟨sl,q⟩:=slot c o (I.xU x c e) hc nch ho (I.fN x c e);exact⟨_,q,hd⟩
  . exact⟨o,keep c o (I.xU x c e) hc nch ho (I.fN x c e),hd⟩
 refine⟨I.ok,I.os,hg,⟨λ b o e n hb hx=>?_,λ b o e n hb hx=>?_,λ b o e n hx=>?_,λ b o e hx=>?_,λ b xs e=>lq b xs (I.base.lq b xs e),λ b o xs e=>kc b o xs (I.base.kc b o xs e),λ b ps e=>?_⟩,?_,λ x c e=>?_,?_,λ x c e=>?_,λ p hp=>?_,aC,I.len⟩
 . exact keep b o (neL b o e) hb (neC b o e hx) (I.base.keep b o e n hb hx) (I.base.free b o e n hx)
 . obtain⟨sl,e1⟩:=I.base.slot b o e n hb hx;obtain⟨sl',e2⟩:=slot b _ (neL b o e) hb (neC b o e hx) e1 (I.base.free b o e n hx);exact⟨sl',e2⟩
 . obtain⟨o',e1⟩:=I.base.there b o e hx;exact free b o' (neC b o e hx) e1 (I.base.free b o e n hx)
 . obtain⟨o',e1⟩:=I.base.there b o e hx;exact there b o' (neC b o e hx) e1
 . obtain⟨m1,e1⟩:=I.base.ko b ps e;obtain⟨m2,e2⟩:=ko b _ e1;exact⟨m1++m2,by rw[e2,Array.append_assoc]⟩
 . obtain⟨m,hn,hl⟩:=I.loc;refine⟨m,ns m hn,λ i x v e1 e2 e3=>?_⟩;obtain⟨u,r,l⟩:=hl i x v e1 e2 e3;refine⟨u,r,?_⟩;rcases l with l|⟨k,c,e,z⟩
   . exact .inl l
   . exact .inr ⟨k,c,e,cellK x c e _ z⟩
 . obtain⟨v,z⟩:=I.cell x c e;exact⟨v,cellK x c e v z⟩
 . obtain⟨m,⟨o,_,_,ho,_⟩,_⟩:=I.loc;exact free _ o (λ z=>(hch _ z).2.1 rfl) ho I.free
 . obtain⟨v,o,ho,hd⟩:=I.cell x c e;exact free c o (λ z=>(hch c z).2.2.1 x c e rfl) ho (I.fN x c e)
 . obtain⟨e,n,ne,nf,d⟩:=I.pin p hp;have nch:p.1∉ch:=λ z=>(hch p.1 z).2.2.2 p hp rfl;exact⟨keep p.1 p.2 ne nf nch e n,free p.1 p.2 nch e n,ne,nf,d⟩
theorem Inv.un{t':Nat}(I:Inv X pins σ H s)(u:Un X.fs [] H H' s.heap h')(aC:fA X.prog X.w H' h'):Inv X pins σ H' {s with heap:=h',toks:=t'}:=by
 obtain⟨m,⟨o,es,ep,ho,r⟩,_⟩:=id I.loc;obtain⟨sl,hL⟩:=u.any ho I.free (by simp)
 exact I.step (g':=s.gens) (d':=s.drawn) (ch:=[]) (λ _ z=>nomatch z) (λ b o _ hb _ e n=>u.keep b o e n hb (by simp)) (λ b o _ hb _ e n=>u.slot b o e n hb (by simp)) (λ b o _ e n=>u.free b o e n (by simp)) (λ b o _ e=>u.there b o e (by simp)) u.lq u.kc u.ko (λ m' hm=>by
  obtain⟨o',es',ep',ho',r'⟩:=hm;rw[ho]at ho';cases ho';exact⟨_,es',ep',hL,r'⟩) aC I.bare
theorem Inv.call{g':Array GenState}{t':Nat}{d':Drawn}{ch:List Addr}(I:Inv X pins σ H s)(u:Un (mf X.stack) ch H H' s.heap h')(aC:fA X.prog X.w H' h')(hg:AllBare g')
 (hch:∀b∈ch,(b∈X.ex\/X.s₀.heap.objs.size<=b)/\b≠X.env.locals/\(∀x c,X.env.cells.lookup x=some c->c≠b)/\∀p∈X.pn++pins,p.1≠b):
 Inv X pins σ H' {s with heap:=h',gens:=g',drawn:=d',toks:=t'}:=by
 obtain⟨m,⟨o,es,ep,ho,r⟩,_⟩:=id I.loc;obtain⟨sl,hL⟩:=u.any ho I.free λ z=>(hch _ z).2.1 rfl
 exact I.step (ch:=ch) hch (λ b o hL hb hc e n=>u.keep b o e n (λ z=>(Px.mp (I.xJ b z)).elim hL hb) hc) (λ b o _ _ hc e n=>u.any e n hc) (λ b o hc e n=>u.free b o e n hc) (λ b o hc e=>u.there b o e hc) u.lq u.kc u.ko (λ m' hm=>by
  obtain⟨o',es',ep',ho',r'⟩:=hm;rw[ho]at ho';cases ho';exact⟨_,es',ep',hL,r'⟩) aC hg
theorem Inv.turned{t':Nat}{it:Addr}(I:Inv X pins σ H s)(k:∀b o,b≠it->s.heap.get? b=some o->h'.get? b=some o)(hn:H it=none)(hL:it≠X.env.locals)
 (h1:it∈X.ex\/X.s₀.heap.objs.size<=it) (h2:∀x c,X.env.cells.lookup x=some c->c≠it) (h3:∀p∈X.pn++pins,p.1≠it):Inv X pins σ H {s with heap:=h',toks:=t'}:=by
 have nit:∀b u,H b=some u->b≠it:=λ b u e z=>by rw[z,hn]at e;cases e
 refine I.step (g':=s.gens) (d':=s.drawn) (ch:=[it]) (λ b hb=>?_) (λ b o _ _ hc e _=>k b o (λ z=>hc (by simp[z])) e) (λ b o _ _ hc e _=>⟨o.slots,k b o (λ z=>hc (by simp[z])) e⟩) (λ _ _ _ _ n=>n)
  (λ b o hc e=>⟨o,k b o (λ z=>hc (by simp[z])) e⟩) (λ _ _ e=>e) (λ _ _ _ e=>e) (λ b ps e=>⟨#[],by rw[e];simp⟩) (λ m hm=>?_) (λ b u e=>?_) I.bare
 . have e:b=it:=by simpa using hb
   subst e;exact⟨h1,hL,h2,h3⟩
 . obtain⟨o,es,ep,ho,r⟩:=hm;exact⟨o,es,ep,k _ o (Pj hL) ho,r⟩
 . refine(I.aC b u e).lO (λ c v hc q=>k c v ?_ q) (λ _ q=>q) λ _ _ q=>q;rcases hc with z|z
   . rw[z];exact nit b u e
   . exact nit c _ z
theorem Inv.tok(I:Inv X pins σ H s)(t:Nat):Inv X pins σ H {s with toks:=t}:=I.un (h':=s.heap) (t':=t) Un.refl I.aC
theorem Inv.kept{t':Nat}(I:Inv X pins σ H s)(k:∀b u,s.heap.get? b=some u->h'.get? b=some u):Inv X pins σ H {s with heap:=h',toks:=t'}:=I.un (Un.kept k) (I.aC.kept k)
theorem Inv.laid{a:Addr}{o:HO}{t':Nat}(I:Inv X pins σ H s)(k:∀b u,s.heap.get? b=some u->h'.get? b=some u)(hp:s.heap.objs.size<=a)(new:cw X.prog X.w (upd H a o) h' a o):
 Inv X pins σ (upd H a o) {s with heap:=h',toks:=t'}:=I.un (Un.laid k hp (I.aC.fresh hp)) (I.aC.laid k hp new)
theorem Inv.write{x e:Addr}{o:HO}{t':Nat}(I:Inv X pins σ H s)(mu:FR (H x))(he:e=x\/H e=some (.own x))(k:∀b u,b≠e->s.heap.get? b=some u->h'.get? b=some u)(heo:∃u,h'.get? e=some u)
 (new:cw X.prog X.w (upd H x o) h' x o):Inv X pins σ (upd H x o) {s with heap:=h',toks:=t'}:=I.un (Un.write mu he k heo) (I.aC.write mu he k heo new)
theorem Inv.o7{pins':List (Addr×Obj)}(I:Inv X pins σ H s)(h:∀p∈pins',s.heap.get? p.1=some p.2/\H p.1=none/\p.1≠X.env.locals/\p.1∉X.fs/\∀v,p.2.data≠ .cell v):Inv X pins' σ H s:=
 ⟨I.ok,I.os,I.bare,I.base,I.loc,I.cell,I.free,I.fN,λ p hp=>(PQ.mp hp).elim (λ z=>I.pin p (QR _ z)) (h p),I.aC,I.len⟩
theorem xj{N:List Str}(hN:N.Nodup){i j:Nat}{x:Str}(a:N[i]?=some x)(b:N[j]?=some x):i=j:=by
 obtain⟨h1,e1⟩:=O6.mp a;obtain⟨h2,e2⟩:=O6.mp b;exact(List.getElem_inj hN).mp (e1.trans e2.symm)
theorem uD{M:Model}{A:Around}{E:Value->Shared->Prop}{i:Nat}{x:Str}{v:V}{u:Value}{Q:Unit->Shared->Prop}(I:Inv X pins σ H s)(hN:X.N.Nodup)(hi:X.N[i]?=some x)(hx:Loc X.env.scope x)(r:RelV v u)
 (h:∀s',Inv X pins (σ.set i (some v)) H s'->(∃a,Heap.SameBut a s.heap s'.heap/\(a=X.env.locals\/X.env.cells.lookup x=some a))->Q () s') (hf:X.fn x=true\/X.env.scope.names.lookup x=some .local:=by first|exact .inl rfl|exact .inr rfl|assumption):wpAny M A (storeName X.env x u) Q E s:=by
 obtain⟨m,hn,hl⟩:=id I.loc;have hcls:(X.env.scope.kind== .class||(X.env.scope.kind== .module&&X.env.locals != X.env.globals))=false:=by rw[I.ok.kind];rfl
 have hiσ:i<σ.length:=by rw[I.len];exact(O6.mp hi).1
 have xU:=I.xU
 have tracked:∀ {a:Addr} {h':Heap},(∃o,s.heap.get? a=some o/\H a=none)->Heap.SameBut a s.heap h'->fA X.prog X.w H h':=λ{a h'} ha hs b ob e=>by
  obtain⟨_,_,hfree⟩:=ha;refine(I.aC b ob e).lO (λ c w' hc q=>(hs.2 c ?_).trans q) (λ _ q=>q) λ _ _ q=>q;rintro rfl;rcases hc with rfl|hc
  . rw[hfree]at e;cases e
  . rw[hfree]at hc;cases hc
 rcases hx with hk|hk
 . refine wpAny_storeName_local hk hn (λ h' hn' hs=>?_) hcls;obtain⟨oL,_,_,hoL,_⟩:=id hn;refine h _ ⟨I.ok,I.os,I.bare,⟨λ b o e n hb hx=>?_,λ b o e n hb hx=>?_,I.base.free,λ b o e hx=>?_,I.base.lq,I.base.kc,I.base.ko⟩,⟨_,hn',λ j y v' e1 e2 e3=>?_⟩,λ y c e=>?_,I.free,I.fN,λ p hp=>?_,tracked ⟨oL,hoL,I.free⟩ hs,by simpa using I.len⟩ ⟨_,hs,.inl rfl⟩
   . exact(hs.2 b (PB (Pu (Pm e) I.ok.above))).trans (I.base.keep b o e n hb hx)
   . obtain⟨sl,e1⟩:=I.base.slot b o e n hb hx;exact⟨sl,(hs.2 b (PB (Pu (Pm e) I.ok.above))).trans e1⟩
   . obtain⟨o',e1⟩:=I.base.there b o e hx;exact⟨o',(hs.2 b (PB (Pu (Pm e) I.ok.above))).trans e1⟩
   . by_cases hj:j=i
     . subst hj;rw[hi]at e1;cases e1;rw[Pg hiσ]at e2;cases e2;exact⟨u,r,.inl ⟨hk,by simp⟩⟩
     . rw[Pb (Pj hj)]at e2;obtain⟨u',r',q⟩:=hl j y v' e1 e2 e3;refine⟨u',r',?_⟩;rcases q with⟨k,e⟩|⟨k,c,e,z⟩
       . refine .inl ⟨k,?_⟩;have:y≠x:=λ e=>hj (xj hN e1 (e▸hi));simp[this,e]
       . exact .inr ⟨k,c,e,z.sameBut hs (xU y c e)⟩
   . obtain⟨w',z⟩:=I.cell y c e;exact⟨w',z.sameBut hs (xU y c e)⟩
   . obtain⟨e,n,ne,nf,d⟩:=I.pin p hp;exact⟨(hs.2 p.1 ne).trans e,n,ne,nf,d⟩
 . have hfn:X.fn x=true:=by
    rcases hf with z|z
    . exact z
    . rw[z]at hk;cases hk
   obtain⟨c,hc⟩:=I.ok.has x (.inl hk);obtain⟨w',z⟩:=I.cell x c hc;refine wpAny_storeName_cell I.ok.kind hk hc z (λ h' hc' hs=>?_);obtain⟨oc,hoc,hocd⟩:=id z;refine h {s with heap:=h'} ⟨I.ok,I.os,I.bare,⟨λ b o e n hb hx=>?_,λ b o e n hb hx=>?_,I.base.free,λ b o e hx=>?_,I.base.lq,I.base.kc,I.base.ko⟩,⟨m,hn.sameBut hs (Pj (xU x c hc)),λ j y v' e1 e2 e3=>?_⟩,λ y c' e=>?_,I.free,I.fN,λ p hp=>?_,tracked ⟨oc,hoc,I.fN x c hc⟩ hs,by simpa using I.len⟩ ⟨c,hs,.inr hc⟩
   . exact(hs.2 b (PB (Pu (Pm e) (I.ok.xr x c hfn hc)))).trans (I.base.keep b o e n hb hx)
   . obtain⟨sl,e1⟩:=I.base.slot b o e n hb hx;exact⟨sl,(hs.2 b (PB (Pu (Pm e) (I.ok.xr x c hfn hc)))).trans e1⟩
   . obtain⟨o',e1⟩:=I.base.there b o e hx;exact⟨o',(hs.2 b (PB (Pu (Pm e) (I.ok.xr x c hfn hc)))).trans e1⟩
   . by_cases hj:j=i
     . subst hj;rw[hi]at e1;cases e1;rw[Pg hiσ]at e2;cases e2;exact⟨u,r,.inr ⟨.inl hk,c,hc,hc'⟩⟩
     . rw[Pb (Pj hj)]at e2;obtain⟨u',r',q⟩:=hl j y v' e1 e2 e3;refine⟨u',r',?_⟩;rcases q with q|⟨k,c',e,z'⟩
       . exact .inl q
       . refine .inr ⟨k,c',e,z'.sameBut hs ?_⟩;rintro rfl;exact hj (xj hN e1 (I.ok.inj _ _ _ e hc▸hi))
   . by_cases hcc:c'=c
     . subst hcc;exact⟨_,hc'⟩
     . obtain⟨w2,z2⟩:=I.cell y c' e;exact⟨w2,z2.sameBut hs hcc⟩
   . obtain⟨e,n,ne,nf,d⟩:=I.pin p hp;refine⟨(hs.2 p.1 ?_).trans e,n,ne,nf,d⟩;intro q;rw[q,hoc]at e;have q':oc=p.2:=Qq e;exact d w' (by rw[<-q'];exact hocd)
theorem qu{M:Model}{A:Around}{E:Value->Shared->Prop}{i:Nat}{x:Str}{v:V}{u:Value}{Q:Unit->Shared->Prop}(I:Inv X pins σ H s)(hN:X.N.Nodup)(hi:X.N[i]?=some x)(hx:Loc X.env.scope x)(r:RelV v u)
 (h:∀s',Inv X pins (σ.set i (some v)) H s'->Q () s') (hf:X.fn x=true\/X.env.scope.names.lookup x=some .local:=by first|exact .inl rfl|exact .inr rfl|assumption):wpAny M A (storeName X.env x u) Q E s:=
 uD I hN hi hx r (λ s' I' _=>h s' I') hf
theorem Inv.AA{s':Shared}{ch:List Addr}(I:Inv X pins σ H s)(ho:s'.os=s.os)(u:Un (mf X.stack) ch H H' s.heap s'.heap)(aC:fA X.prog X.w H' s'.heap)(hg:AllBare s'.gens)
 (hch:∀b∈ch,(b∈X.ex\/X.s₀.heap.objs.size<=b)/\b≠X.env.locals/\(∀x c,X.env.cells.lookup x=some c->c≠b)/\∀p∈X.pn++pins,p.1≠b):Inv X pins σ H' s':=by
 obtain⟨h',g',d',t',o'⟩:=s';have e:o'=s.os:=ho;subst e;exact I.call (g':=g') (t':=t') (d':=d') u aC hg hch
end
abbrev XK:=Value->Option Addr->Hp->Prop
abbrev St:=List (Option V)
abbrev VK:=V->Hp->Prop
abbrev TE:=St->Hp->VK->Prop
abbrev TT:=St->Hp->(Bool->Hp->Prop)->Prop
abbrev TA:=St->Hp->(List V->Hp->Prop)->Prop
structure Ends where
 nx:St->Hp->Prop
 rt:VK
 bk:St->Hp->Prop:=λ _ _=>False
 ct:St->Hp->Prop:=λ _ _=>False
abbrev TS:=Ends->St->Hp->Prop
def EP(X:Cx)(pins:List (Addr×Obj))(σ:St)(Q:VK)(u:Value)(s':Shared):Prop:=∃v H',Inv X pins σ H' s'/\RelV v u/\Q v H'
def TP(X:Cx)(pins:List (Addr×Obj))(σ:St)(Q:Bool->Hp->Prop)(b:Bool)(s':Shared):Prop:=∃H',Inv X pins σ H' s'/\Q b H'
def AP(X:Cx)(pins:List (Addr×Obj))(σ:St)(Q:List V->Hp->Prop)(us:List Value)(s':Shared):Prop:=∃vs H',Inv X pins σ H' s'/\Vals vs us/\Q vs H'
def SP(X:Cx)(pins:List (Addr×Obj))(D:Ends)(f:Flow)(s':Shared):Prop:=
 match f with
 | .next=>∃σ' H',Inv X pins σ' H' s'/\D.nx σ' H'
 | .brk=>∃σ' H',Inv X pins σ' H' s'/\D.bk σ' H'
 | .cont=>∃σ' H',Inv X pins σ' H' s'/\D.ct σ' H'
 | .ret u=>∃v σ' H',Inv X pins σ' H' s'/\RelV v u/\D.rt v H'
def PE(X:Cx)(e:Expr)(t:TE):Prop:=
 ∀(pins:List (Addr×Obj)) (s:Shared) (σ:St) (H:Hp) (Q:VK),Inv X pins σ H s->t σ H Q->wpAny (model X.prog X.w) X.A (eval e X.env) (EP X pins σ Q) X.xe s
def PT(X:Cx)(e:Expr)(t:TT):Prop:=
 ∀(pins:List (Addr×Obj)) (s:Shared) (σ:St) (H:Hp) (Q:Bool->Hp->Prop),Inv X pins σ H s->t σ H Q->wpAny (model X.prog X.w) X.A (isTrue e X.env (eval e X.env)) (TP X pins σ Q) X.xe s
def PW(X:Cx)(e:Expr)(t:TT):Prop:=
 ∀(whole:Sem Value) (pins:List (Addr×Obj)) (s:Shared) (σ:St) (H:Hp) (Q:Bool->Hp->Prop),Inv X pins σ H s->t σ H Q->wpAny (model X.prog X.w) X.A (isTrue e X.env whole) (TP X pins σ Q) X.xe s
theorem PW.pt{X:Cx}{e:Expr}{t:TT}(h:PW X e t):PT X e t:=h _
def PA(X:Cx)(es:List Expr)(t:TA):Prop:=
 ∀(pos:Pos) (pins:List (Addr×Obj)) (s:Shared) (σ:St) (H:Hp) (Q:List V->Hp->Prop),Inv X pins σ H s->t σ H Q->wpAny (model X.prog X.w) X.A (spliced (backTo pos (starEach es X.env))) (AP X pins σ Q) X.xe s
def PS(X:Cx)(st:Stmt)(t:TS):Prop:=
 ∀(pins:List (Addr×Obj)) (s:Shared) (σ:St) (H:Hp) (D:Ends),Inv X pins σ H s->t D σ H->wpAny (model X.prog X.w) X.A (exec st X.env) (SP X pins D) X.xe s
def fg(X:Cx)(st:List Stmt)(t:TS):Prop:=
 ∀(pins:List (Addr×Obj)) (s:Shared) (σ:St) (H:Hp) (D:Ends),Inv X pins σ H s->t D σ H->wpAny (model X.prog X.w) X.A (execs st X.env) (SP X pins D) X.xe s
theorem bz{α:Type}{t:Sem α}{Q Q':α->Shared->Prop}{M:Model}{A:Around}{E:Value->Shared->Prop}{s:Shared}(h:wpAny M A t Q E s)(hQ:∀a s,Q a s->Q' a s):wpAny M A t Q' E s:=Q7 h hQ λ _ _ x=>x
section
variable {X:Cx}
def K5(i:Nat):TE:=λ σ H Q=>∃v,σ[i]?=some (some v)/\Q v H
def tC(v:V):TE:=λ _ H Q=>Q v H
theorem Ld{i:Nat}{x:Str}{pos:Pos}(hN:X.N[i]?=some x)(hv:vA X.env.scope x)(hd:(x==("__debug__":Str))=false:=by decide)(hcd:(x==("__classdict__":Str))=false:=by decide):PE X (.Name x pos) (K5 i):=by
 intro pins s σ H Q I h;obtain⟨v,e,h⟩:=h;obtain⟨m,hn,hl⟩:=I.loc;obtain⟨u,r,l⟩:=hl i x v hN e hv;have fin:EP X pins σ Q u s:=⟨v,H,I,r,h⟩
 rcases l with⟨hk,hm⟩|⟨hk,c,hc,hcell⟩
 . exact wpAny_Name (wpAny_loadName_local I.ok.kind hk hn hm fin) hd
 . rcases hk with hk|hk
   . exact wpAny_Name (wpAny_loadName_cell I.ok.kind hk hc hcell fin) hd
   . exact wpAny_Name (wpAny_loadName_free I.ok.kind hk hc hcell fin hcd) hd
theorem Jv{i j pos}:PE X (.Constant (.int i) j pos) (tC (.int i)):=λ _ _ _ H _ I h=>wpAny_Constant_int ⟨.int i,H,I.tok _,⟨_,rfl⟩,h⟩
theorem Mj{b j pos}:PE X (.Constant (.bool b) j pos) (tC (.bl b)):=λ _ _ _ H _ I h=>Constant_bool ⟨.bl b,H,I,rfl,h⟩
theorem Jb{j pos}:PE X (.Constant .none j pos) (tC .aq):=λ _ _ _ H _ I h=>Constant_none ⟨.aq,H,I,rfl,h⟩
def Gl(X:Cx)(x:Str):Prop:=X.env.kindOf x=some .globalImplicit
theorem yN{E:Value->Shared->Prop}{pins:List (Addr×Obj)}{s:Shared}{σ:St}{H:Hp}{x:Str}{u:Value}{pos:Pos}{Q:Value->Shared->Prop}(I:Inv X pins σ H s)(hg:Gl X x)(hm:X.mg x=some u)(h:Q u s)
 (hd:(x==("__debug__":Str))=false:=by decide):wpAny (model X.prog X.w) X.A (eval (.Name x pos) X.env) Q E s:=
 TR I.ok.kind hg (Calls.loadGlobal_global (by rw[I.ok.glob];exact I.mod.glob.keeps I.bk) hm h) hd
theorem je{E:Value->Shared->Prop}{pins:List (Addr×Obj)}{s:Shared}{σ:St}{H:Hp}{x:Str}{u:Value}{pos:Pos}{Q:Value->Shared->Prop}(I:Inv X pins σ H s)(hg:Gl X x)(hm:X.mg x=none)(hv:bootBuiltins x=some u)(h:Q u s)
 (hn:x≠"__name__":=by decide) (hd:(x==("__debug__":Str))=false:=by decide):wpAny (model X.prog X.w) X.A (eval (.Name x pos) X.env) Q E s:=by
 obtain⟨mb,h1,h2⟩:=I.mod.blt;exact TR I.ok.kind hg (Calls.loadGlobal_builtin (by rw[I.ok.glob];exact I.mod.glob.keeps I.bk) hm (by rw[I.ok.blt];exact h1.keeps I.bk) ((h2 x hn).trans hv) h) hd
theorem GL{x:Str}{v:V}{u:Value}{pos:Pos}(hg:Gl X x)(hm:X.mg x=none)(hv:bootBuiltins x=some u)(r:RelV v u)(hn:x≠"__name__":=by decide)(hd:(x==("__debug__":Str))=false:=by decide):PE X (.Name x pos) (tC v):=
 λ _ _ _ H _ I h=>je I hg hm hv ⟨v,H,I,r,h⟩ hn hd
variable {a b:Expr}{ta tb:TE}{pos:Pos}
def tB(t:TE):TT:=λ σ H Q=>t σ H λ x H1=>∃c,x= .bl c/\Q c H1
theorem Jj{e:Expr}{t:TE}(h:PE X e t)(he:∀whole,isTrue e X.env whole=(do let v <-whole;standAt e.pos;holding [v] (truthy v)):=by intro _;rfl):PT X e (tB t):=by
 intro pins s σ H Q I hw;refine isTrue_plain (bz (h pins s σ H _ I hw) λ v s1 ⟨x,H1,I1,r1,q1⟩=>?_) (he _);obtain⟨d,rfl,q⟩:=q1;cases r1;exact RG ⟨H1,I1,q⟩
variable {tA tB':TT}{rest:List Expr}
def J_(t u:TT):TT:=λ σ H Q=>t σ H λ c H1=>if c=true then u σ H1 Q else Q false H1
def Nv(t u:TT):TT:=λ σ H Q=>t σ H λ c H1=>if c=true then Q true H1 else u σ H1 Q
def Oo(t:TT):TT:=λ σ H Q=>t σ H λ c H1=>Q (!c) H1
theorem pw_and1(ha:PT X a tA):PW X (.BoolOp .And [a] pos) tA:=by
 intro wh pins s σ H Q I h;refine isTrue_and (bz (ha pins s σ H Q I h) λ c s1 e=>?_);cases c with
 |true=>exact isTrue_and_nil e
 |false=>exact e
theorem pw_or1(ha:PT X a tA):PW X (.BoolOp .Or [a] pos) tA:=by
 intro wh pins s σ H Q I h;refine isTrue_or (bz (ha pins s σ H Q I h) λ c s1 e=>?_);cases c with
 |false=>exact isTrue_or_nil e
 |true=>exact e
theorem pw_and(ha:PT X a tA)(hb:PW X (.BoolOp .And (b::rest) pos) tB'):PW X (.BoolOp .And (a::b::rest) pos) (J_ tA tB'):=by
 intro wh pins s σ H Q I h;refine isTrue_and (bz (ha pins s σ H _ I h) λ c s1 ⟨H1,I1,q1⟩=>?_);cases c with
 |true=>exact hb wh pins s1 σ H1 Q I1 q1
 |false=>exact⟨H1,I1,q1⟩
theorem pw_or(ha:PT X a tA)(hb:PW X (.BoolOp .Or (b::rest) pos) tB'):PW X (.BoolOp .Or (a::b::rest) pos) (Nv tA tB'):=by
 intro wh pins s σ H Q I h;refine isTrue_or (bz (ha pins s σ H _ I h) λ c s1 ⟨H1,I1,q1⟩=>?_);cases c with
 |true=>exact⟨H1,I1,q1⟩
 |false=>exact hb wh pins s1 σ H1 Q I1 q1
theorem Jk(ha:PT X a tA):PT X (.UnaryOp .Not a pos) (Oo tA):=by
 intro pins s σ H Q I h;exact isTrue_not (ha pins s σ H (λ c H1=>Q (!c) H1) I h)
def L5(ta tb:TE):TE:=λ σ H Q=>ta σ H λ x H1=>∃c,x= .bl c/\if c=true then tb σ H1 Q else Q (.bl false) H1
def Oc(ta tb:TE):TE:=λ σ H Q=>ta σ H λ x H1=>∃c,x= .bl c/\if c=true then Q (.bl true) H1 else tb σ H1 Q
def LD(ta:TE):TE:=λ σ H Q=>ta σ H λ x H1=>∃c,x= .bl c/\Q (.bl (!c)) H1
theorem Ji{op}{t:TE}(h:PE X a t):PE X (.BoolOp op [a] pos) t:=λ pins s σ H Q I hw=>BoolOp_one (h pins s σ H Q I hw)
theorem Li(ha:PE X a ta)(hb:PE X (.BoolOp .And (b::rest) pos) tb):PE X (.BoolOp .And (a::b::rest) pos) (L5 ta tb):=by
 intro pins s σ H Q I h;refine BoolOp_and (bz (ha pins s σ H _ I h) λ v s1 ⟨x,H1,I1,r1,q1⟩=>?_);obtain⟨c,rfl,q1⟩:=q1;cases r1;refine RG ?_;cases c with
 |true=>exact hb pins s1 σ H1 Q I1 q1
 |false=>exact⟨.bl false,H1,I1,rfl,q1⟩
theorem Mq(ha:PE X a ta)(hb:PE X (.BoolOp .Or (b::rest) pos) tb):PE X (.BoolOp .Or (a::b::rest) pos) (Oc ta tb):=by
 intro pins s σ H Q I h;refine BoolOp_or (bz (ha pins s σ H _ I h) λ v s1 ⟨x,H1,I1,r1,q1⟩=>?_);obtain⟨c,rfl,q1⟩:=q1;cases r1;refine RG ?_;cases c with
 |false=>exact hb pins s1 σ H1 Q I1 q1
 |true=>exact⟨.bl true,H1,I1,rfl,q1⟩
theorem Kg(ha:PE X a ta):PE X (.UnaryOp .Not a pos) (LD ta):=by
 intro pins s σ H Q I h;refine UnaryOp_ (bz (ha pins s σ H _ I h) λ v s1 ⟨x,H1,I1,r1,q1⟩=>?_);obtain⟨c,rfl,q1⟩:=q1;cases r1;exact not_of (RG ⟨.bl (!c),H1,I1,rfl,q1⟩)
def Oy(t:TT)(ta tb:TE):TE:=λ σ H Q=>t σ H λ c H1=>if c=true then ta σ H1 Q else tb σ H1 Q
theorem E2{c:Expr}(hc:PT X c tA)(ha:PE X a ta)(hb:PE X b tb):PE X (.IfExp c a b pos) (Oy tA ta tb):=by
 intro pins s σ H Q I h;refine wpAny_IfExp (bz (hc pins s σ H _ I h) λ d s1 ⟨H1,I1,q1⟩=>?_);cases d with
 |true=>exact ha pins s1 σ H1 Q I1 q1
 |false=>exact hb pins s1 σ H1 Q I1 q1
end
def i_(K:PySem.W.Frag)(H:Hp)(a:Addr)(xs:List V):Prop:=
 Rd H a (.lst xs)\/
  ∃(o:Obj) (its:Array Value) (n:Nat),K.lookup a=some o/\o.cls= .type "list"/\o.dict=none/\o.data= .seq its n/\its.size<=sizeLine/\Vals xs its.toList
def fZ(K:PySem.W.Frag)(H:Hp)(a:Addr)(xs:List V):Prop:=
 Rd H a (.tup xs)\/
  ∃(o:Obj) (its:Array Value) (n:Nat),K.lookup a=some o/\o.cls= .type "tuple"/\o.data= .seq its n/\its.size<=sizeLine/\Vals xs its.toList
def N0:Value->Option V
 | .none=>some .aq
 | .bool b=>some (.bl b)
 | .int i _=>some (.int i)
 | .str x _=>some (.str x)
 | .bytes b _=>some (.pW b)
 | .float b _=>some (.pD b)
 | .ref a=>some (.ref a)
 | .type n=>some (.ty n)
 |_=>none
theorem RelV.abs{x:V}{u:Value}(r:RelV x u):N0 u=some x:=by
 cases x with
 |aq=>cases r;rfl
 |bl _=>cases r;rfl
 |int _=>obtain⟨t,rfl⟩:=r;rfl
 |str _=>obtain⟨t,rfl⟩:=r;rfl
 |pW _=>obtain⟨t,rfl⟩:=r;rfl
 |pD _=>obtain⟨t,rfl⟩:=r;rfl
 |ref _=>cases r;rfl
 |ty _=>cases r;rfl
theorem RelV.inj{x y:V}{u:Value}(r:RelV x u)(q:RelV y u):x=y:=Qq (r.abs.symm.trans q.abs)
theorem Vals.inj:∀ {xs ys:List V} {us:List Value},Vals xs us->Vals ys us->xs=ys
 |_,_,_,.nil,.nil=>rfl
 |_,_,_,.cons r t,.cons r' t'=>by rw[r.inj r',Vals.inj t t']
section
variable {X:Cx}{pins:List (Addr×Obj)}{σ:St}{H:Hp}{s:Shared}{a:Addr}{xs ys:List V}
theorem i_.of{K:PySem.W.Frag}(h:H a=some (.lst xs)):i_ K H a xs:= .inl (.inl h)
theorem fZ.of{K:PySem.W.Frag}(h:H a=some (.tup xs)):fZ K H a xs:= .inl (.inl h)
theorem Inv.list(I:Inv X pins σ H s)(h:i_ X.K H a xs):∃its:List Value,Vals xs its/\PlainL s.heap a its.toArray/\xs.length<=sizeLine:=by
 rcases h with h|⟨o,its,n,hk,hc,hd,hs,hz,r⟩
 . obtain⟨z,its,n,r,e⟩:=h.ok I.aC;exact⟨its,r,⟨_,n,e,rfl,rfl,rfl⟩,z⟩
 . refine⟨its.toList,r,⟨o,n,I.fh a o hk,hc,hd,by simpa using hs⟩,?_⟩;have e:=r.length;simp only[PU]at e;omega
theorem Inv.tuple(I:Inv X pins σ H s)(h:fZ X.K H a xs):∃its:List Value,Vals xs its/\IsTup s.heap a its.toArray/\xs.length<=sizeLine:=by
 rcases h with h|⟨o,its,n,hk,hc,hs,hz,r⟩
 . obtain⟨z,its,r,p⟩:=h.ok I.aC;exact⟨its,r,p,z⟩
 . refine⟨its.toList,r,⟨o,I.fh a o hk,hc,n,by simpa using hs⟩,?_⟩;have e:=r.length;simp only[PU]at e;omega
theorem Inv.we(I:Inv X pins σ H s)(h:i_ X.K H a xs)(h':i_ X.K H a ys):xs=ys:=by
 obtain⟨its,r,⟨o,n,e,_,_,d⟩,_⟩:=I.list h;obtain⟨its',r',⟨o',n',e',_,_,d'⟩,_⟩:=I.list h';rw[e]at e';cases e';rw[d]at d';injection d' with d1 _;have:its=its':=by simpa using RD Array.toList d1
 subst this;exact r.inj r'
theorem Inv.uG(I:Inv X pins σ H s)(h:fZ X.K H a xs)(h':fZ X.K H a ys):xs=ys:=by
 obtain⟨its,r,⟨o,e,_,n,d⟩,_⟩:=I.tuple h;obtain⟨its',r',⟨o',e',_,n',d'⟩,_⟩:=I.tuple h';rw[e]at e';cases e';rw[d]at d';injection d' with d1 _;have:its=its':=by simpa using RD Array.toList d1
 subst this;exact r.inj r'
end
abbrev Cx.kW(X:Cx)(E:Value->Shared->Prop):Cx:={X with xe:=E}
abbrev Cx.pj(X:Cx):Cx:=X.kW λ _ _=>False
theorem Cx.Ok.kW{X:Cx}(ok:X.Ok)(E:Value->Shared->Prop):(X.kW E).Ok:=
 ⟨ok.mod,ok.kind,ok.glob,ok.blt,ok.above,ok.inj,ok.has,ok.xr,ok.hd,ok.frames,ok.za,ok.Ct,ok.bs,ok.nA,ok.qG,ok.qj,ok.ik,ok.qW,ok.gt⟩
theorem Cx.Ok.jc{X:Cx}{E:Value->Shared->Prop}(ok:(X.kW E).Ok):X.Ok:=
 ⟨ok.mod,ok.kind,ok.glob,ok.blt,ok.above,ok.inj,ok.has,ok.xr,ok.hd,ok.frames,ok.za,ok.Ct,ok.bs,ok.nA,ok.qG,ok.qj,ok.ik,ok.qW,ok.gt⟩
section
variable {X:Cx}{pins:List (Addr×Obj)}{σ:St}{H:Hp}{s:Shared}{E:Value->Shared->Prop}
theorem Inv.kW(I:Inv X pins σ H s)(E:Value->Shared->Prop):Inv (X.kW E) pins σ H s:=⟨I.ok.kW E,I.os,I.bare,I.base,I.loc,I.cell,I.free,I.fN,I.pin,I.aC,I.len⟩
theorem Inv.jc(I:Inv (X.kW E) pins σ H s):Inv X pins σ H s:=⟨I.ok.jc,I.os,I.bare,I.base,I.loc,I.cell,I.free,I.fN,I.pin,I.aC,I.len⟩
theorem SP.jc{D:Ends}{f:Flow}{s':Shared}(h:SP (X.kW E) pins D f s'):SP X pins D f s':=by
 cases f with
 |next=>obtain⟨σ',H',I,q⟩:=h;exact⟨σ',H',I.jc,q⟩
 |brk=>obtain⟨σ',H',I,q⟩:=h;exact⟨σ',H',I.jc,q⟩
 |cont=>obtain⟨σ',H',I,q⟩:=h;exact⟨σ',H',I.jc,q⟩
 |ret u=>obtain⟨v,σ',H',I,r,q⟩:=h;exact⟨v,σ',H',I.jc,r,q⟩
theorem fg.pj{st:List Stmt}{t:TS}(h:fg X.pj st t):fg X st t:=λ pins s σ H D I hw=>
 Q7 (h pins s σ H D (I.kW _) hw) (λ _ _ q=>q.jc) λ _ _ z=>False.elim z
end
section
variable {X:Cx}{st:Stmt}{rest:List Stmt}{t u:TS}{e:Expr}{te:TE}{pos:Pos}
def MC:TS:=λ D σ H=>D.nx σ H
def NM(t u:TS):TS:=λ D σ H=>t {D with nx:=u D} σ H
theorem HJ:fg X [] MC:=λ _ _ σ H _ I h=>Ta ⟨σ,H,I,h⟩
theorem DR(h1:PS X st t)(h2:fg X rest u):fg X (st::rest) (NM t u):=by
 intro pins s σ H D I h;refine wpAny_execs_cons (bz (h1 pins s σ H {D with nx:=u D} I h) λ f s1 q=>?_);cases f with
 |next=>
  obtain⟨σ',H',I',q⟩:=q;exact h2 pins s1 σ' H' D I' q
 |ret v=>exact q
 |brk=>exact q
 |cont=>exact q
theorem GR(h1:PS X st t):fg X [st] t:=by
 intro pins s σ H D I h;refine wpAny_execs_cons (bz (h1 pins s σ H D I h) λ f s1 q=>?_);cases f with
 |next=>exact Ta q
 |ret v=>exact q
 |brk=>exact q
 |cont=>exact q
theorem Inv.quiet{pins:List (Addr×Obj)}{σ:St}{H:Hp}{s:Shared}(I:Inv X pins σ H s):interactive X.env=false:=by simp[interactive,I.ok.kind]
def LL(te:TE):TS:=λ D σ H=>te σ H λ _ H1=>D.nx σ H1
theorem Hl(he:PE X e te)(hs:swapsWith e none pos.line X.env=pure false:=by rfl):PS X (.Expr e pos) (LL te):=by
 intro pins s σ H D I h;exact wpAny_Expr_any (bz (he pins s σ H _ I h) λ v s1 ⟨x,H1,I1,r1,q1⟩=>⟨σ,H1,I1,q1⟩) I.quiet hs
def NH(te:TE):TS:=λ D σ H=>te σ H D.rt
theorem Jw(he:PE X e te):PS X (.Return (some e) pos) (NH te):=by
 intro pins s σ H D I h;exact wpAny_Return_some (bz (he pins s σ H _ I h) λ v s1 ⟨x,H1,I1,r1,q1⟩=>⟨x,σ,H1,I1,r1,q1⟩)
def N9(c:TT)(t u:TS):TS:=λ D σ H=>c σ H λ b H1=>if b=true then t D σ H1 else u D σ H1
theorem MW{c:Expr}{a b:List Stmt}{tc:TT}(hc:PT X c tc)(ha:fg X a t)(hb:fg X b u):PS X (.If c a b pos) (N9 tc t u):=by
 intro pins s σ H D I h;refine wpAny_If (bz (hc pins s σ H _ I h) λ d s1 ⟨H1,I1,q1⟩=>?_);cases d with
 |true=>exact ha pins s1 σ H1 D I1 q1
 |false=>exact hb pins s1 σ H1 D I1 q1
end
abbrev TG:=V->St->Hp->(St->Hp->Prop)->Prop
abbrev vY:=List V->St->Hp->(St->Hp->Prop)->Prop
def PG(X:Cx)(target:Expr)(t:TG):Prop:=
 ∀(pins:List (Addr×Obj)) (s:Shared) (σ:St) (H:Hp) (v:V) (u:Value) (Q:St->Hp->Prop),Inv X pins σ H s->RelV v u->t v σ H Q->
  wpAny (model X.prog X.w) X.A (assign target X.env u) (λ _ s'=>∃σ' H',Inv X pins σ' H' s'/\Q σ' H') X.xe s
def C5(X:Cx)(ts:List Expr)(t:vY):Prop:=
 ∀(pins:List (Addr×Obj)) (s:Shared) (σ:St) (H:Hp) (vs:List V) (us:List Value) (Q:St->Hp->Prop),Inv X pins σ H s->Vals vs us->t vs σ H Q->
  wpAny (model X.prog X.w) X.A (assignInOrder ((assignEach ts X.env).map (·.2)) us) (λ _ s'=>∃σ' H',Inv X pins σ' H' s'/\Q σ' H') X.xe s
abbrev En:=V->V->V->Hp->(Hp->Prop)->Prop
def Jc(X:Cx)(t:En):Prop:=
 ∀(pins:List (Addr×Obj)) (s:Shared) (σ:St) (H:Hp) (o i v:V) (ov iv u:Value) (Q:Hp->Prop),Inv X pins σ H s->RelV o ov->RelV i iv->RelV v u->t o i v H Q->
  wpAny (model X.prog X.w) X.A (setItem ov iv u) (λ _ s'=>∃H',Inv X pins σ H' s'/\Q H') X.xe s
abbrev Gh:=V->V->Hp->VK->Prop
def KN(X:Cx)(op:Operator)(t:Gh):Prop:=
 ∀(pins:List (Addr×Obj)) (s:Shared) (σ:St) (H:Hp) (x y:V) (v u:Value) (Q:VK),Inv X pins σ H s->RelV x v->RelV y u->t x y H Q->
  wpAny (model X.prog X.w) X.A (inplaceOp op v u) (EP X pins σ Q) X.xe s
section
variable {X:Cx}{pos:Pos}
def i5(i:Nat):TG:=λ v σ H Q=>Q (σ.set i (some v)) H
theorem sV{i:Nat}{x:Str}(hN:X.N.Nodup)(hi:X.N[i]?=some x)(hx:Loc X.env.scope x)(hf:X.fn x=true\/X.env.scope.names.lookup x=some .local:=by first|exact .inl rfl|exact .inr rfl|assumption):PG X (.Name x pos) (i5 i):=by
 intro pins s σ H v u Q I r h;exact wpAny_assign_Name (qu I hN hi hx r (λ s' I'=>⟨_,H,I',h⟩) hf)
def EL:vY:=λ vs σ H Q=>vs=[]/\Q σ H
def rl(t:TG)(u:vY):vY:=λ vs σ H Q=>∃v r,vs=v::r/\t v σ H λ σ' H'=>u r σ' H' Q
theorem y6:C5 X [] EL:=by
 intro pins s σ H vs us Q I r h;obtain⟨e,h⟩:=h;subst e;cases r;exact assignInOrder_nil ⟨σ,H,I,h⟩
theorem mV{e:Expr}{es:List Expr}{t:TG}{u:vY}(h1:PG X e t)(h2:C5 X es u)
 (hs:(assignEach (e::es) X.env).map (·.2)=assign e X.env::(assignEach es X.env).map (·.2):=by rfl):C5 X (e::es) (rl t u):=by
 intro pins s σ H vs us Q I r h;obtain⟨v,vr,e1,h⟩:=h;subst e1;cases r with
 |cons r rr=>
  rw[hs];refine assignInOrder_cons (bz (h1 pins s σ H _ _ _ I r h) λ _ s1 ⟨σ1,H1,I1,q1⟩=>?_);exact h2 pins s1 σ1 H1 _ _ Q I1 rr q1
def Jp(K:PySem.W.Frag)(n:Nat)(t:vY):TG:=λ v σ H Q=>∃a xs,v= .ref a/\fZ K H a xs/\xs.length=n/\t xs σ H Q
theorem BW{es:List Expr}{k:Nat}{t:vY}{n:Nat}(hc:X.calm=true)(h:C5 X es t)
 (hn:(assignEach es X.env).length=n:=by rfl) (hst:(assignEach es X.env).findIdx? (·.1)=none:=by rfl):PG X (.Tuple es k pos) (Jp X.K n t):=by
 intro pins s σ H v u Q I r hw;obtain⟨a,xs,e1,hq,hl,hw⟩:=hw;subst e1;cases r;obtain⟨its,rv,ht,hz⟩:=I.tuple hq;refine assign_Tuple_tuple (I.ok.hd hc) ht (by simp[hn,<-hl,rv.length]) hst λ h' hx=>?_;have I1:Inv X pins σ H {s with heap:=h'}:=I.kept (t':=s.toks) λ b o e=>hx b o (PB (Pm e)) e;exact h pins _ σ H xs _ Q I1 (by simpa using rv) hw
def xm(to ti:TE)(t:En):TG:=λ v σ H Q=>to σ H λ o H1=>ti σ H1 λ i H2=>t o i v H2 λ H3=>Q σ H3
theorem wB{o i:Expr}{to ti:TE}{t:En}(ho:PE X o to)(hi:PE X i ti)(hs:Jc X t)
 (ha:∀v,assign (.Subscript o i pos) X.env v=(do
   let ov <-holding [v] (eval o X.env)
   let iv <-holding [v,ov] (eval i X.env)
   standAt pos
   holding [v,ov,iv] (setItem ov iv v)
   release [v,ov,iv] []):=by intro _;rfl):PG X (.Subscript o i pos) (xm to ti t):=by
 intro pins s σ H v u Q I r h;rw[ha];refine O5 (QY (bz (ho pins s σ H _ I h) λ ov s1 ⟨x,H1,I1,r1,q1⟩=>?_));refine O5 (QY (bz (hi pins s1 σ H1 _ I1 q1) λ iv s2 ⟨y,H2,I2,r2,q2⟩=>?_));refine O5 (TU (O5 (QY (bz (hs pins s2 σ H2 x y v ov iv u _ I2 r1 r2 r q2) λ _ s3 ⟨H3,I3,q3⟩=>?_))));exact wpAny_release ⟨σ,H3,I3,q3⟩
def ju(te:TE)(g:TG):TS:=λ D σ H=>te σ H λ x H1=>g x σ H1 D.nx
theorem xS{tg e:Expr}{te:TE}{g:TG}(he:PE X e te)(hg:PG X tg g)(hs:swapsWithSole [tg] e pos.line X.env=pure false:=by rfl)(hw:swappedStores [tg] e X.env=pure none:=by rfl)
 (h1:(assignEach [tg] X.env).map (·.2)=[assign tg X.env]:=by rfl):PS X (.Assign [tg] e pos) (ju te g):=by
 intro pins s σ H D I h;refine wpAny_Assign_stores (bz (he pins s σ H _ I h) λ v s1 ⟨x,H1,I1,r1,q1⟩=>?_) hs hw;rw[h1];exact bz (hg pins s1 σ H1 x v _ I1 r1 q1) λ _ s2 q=>q
theorem IS{i:Nat}{x:Str}{e:Expr}{te:TE}{pos':Pos}(hN:X.N.Nodup)(hi:X.N[i]?=some x)(hx:Loc X.env.scope x)(he:PE X e te)(hs:swapsWith e (some (.Name x pos')) pos.line X.env=pure false:=by rfl)(hf:X.fn x=true\/X.env.scope.names.lookup x=some .local:=by first|exact .inl rfl|exact .inr rfl|assumption):
 PS X (.Assign [.Name x pos'] e pos) (ju te (i5 i)):=by
 intro pins s σ H D I h;refine wpAny_Assign_Name (bz (he pins s σ H _ I h) λ v s1 ⟨y,H1,I1,r1,q1⟩=>?_) hs;exact qu I1 hN hi hx r1 (λ s2 I2=>⟨_,H1,I2,q1⟩) hf
def Ka(i:Nat)(te:TE)(ti:Gh):TS:=λ D σ H=>∃x,σ[i]?=some (some x)/\te σ H λ y H1=>ti x y H1 λ z H2=>D.nx (σ.set i (some z)) H2
theorem Jy{i:Nat}{x:Str}{e:Expr}{te:TE}{op:Operator}{ti:Gh}{pos':Pos}(hN:X.N.Nodup)(hi:X.N[i]?=some x)(hx:Loc X.env.scope x)(he:PE X e te)(ho:KN X op ti)(hf:X.fn x=true\/X.env.scope.names.lookup x=some .local:=by first|exact .inl rfl|exact .inr rfl|assumption):
 PS X (.AugAssign (.Name x pos') op e pos) (Ka i te ti):=by
 intro pins s σ H D I h;obtain⟨v,e1,h⟩:=h;obtain⟨m,hn,hl⟩:=I.loc;have vis:vA X.env.scope x:=by rcases hx with k|k;exact .inl k;exact .inr (.inl k)
 obtain⟨u,r,l⟩:=hl i x v hi e1 vis;refine wpAny_AugAssign_Name ?_
 have go:wpAny (model X.prog X.w) X.A (eval e X.env) (λ w s₂=>wpAny (model X.prog X.w) X.A (inplaceOp op u w) (λ r s₃=>wpAny (model X.prog X.w) X.A (storeName X.env x r) (λ _=>SP X pins D .next) X.xe s₃) X.xe s₂) X.xe s:=by
  refine bz (he pins s σ H _ I h) λ w s1 ⟨y,H1,I1,r1,q1⟩=>?_;refine bz (ho pins s1 σ H1 v y u w _ I1 r r1 q1) λ z s2 ⟨zv,H2,I2,r2,q2⟩=>?_;exact qu I2 hN hi hx r2 (λ s3 I3=>⟨_,H2,I3,q2⟩) hf
 rcases l with⟨hk,hm⟩|⟨hk,c,hc,hcell⟩
 . exact wpAny_loadName_local I.ok.kind hk hn hm go
 . rcases hk with hk|hk
   . exact wpAny_loadName_cell I.ok.kind hk hc hcell go
   . rcases hx with k|k
     . have:X.env.scope.names.lookup x=some .free:=hk;rw[k]at this;cases this
     . have:X.env.scope.names.lookup x=some .free:=hk;rw[k]at this;cases this
def Kq(f:Int->Int->Int):Gh:=λ x y H Q=>∃i j,x= .int i/\y= .int j/\Q (.int (f i j)) H
theorem Jl:KN X .Add (Kq λ i j=>i+j):=by
 intro pins s σ H x y v u Q I r1 r2 h;obtain⟨i,j,e1,e2,q⟩:=h;subst e1;subst e2;obtain⟨t,rfl⟩:=r1;obtain⟨t',rfl⟩:=r2;exact iadd_int ⟨.int _,H,I.tok _,⟨_,rfl⟩,q⟩
def Cn(c:TT)(tb:TS):TS:=λ D σ H=>∃W:Nat->St->Hp->Prop,(∃m,W m σ H)/\∀m σ H,W m σ H->
 c σ H λ b H1=>if b=true then∃N:St->Hp->Prop,(∀σ' H',N σ' H'->∃m',m'<m/\W m' σ' H')/\tb {D with nx:=N,ct:=N,bk:=D.nx} σ H1 else D.nx σ H1
theorem EM{c:Expr}{body:List Stmt}{tc:TT}{tb:TS}(hp:PassesOwn (model X.prog X.w) X.A X.env X.xe)(hc:PT X c tc)(hb:fg X body tb):PS X (.While c body [] pos) (Cn tc tb):=by
 intro pins s σ H D I h;obtain⟨W,⟨m0,w0⟩,turn⟩:=h;refine wpAny_While (codeAny_whileLoop (λ n s'=>∃σ' H',Inv X pins σ' H' s'/\W n σ' H') ?_ m0 ⟨σ,H,I,w0⟩);rintro n s1 ⟨σ1,H1,I1,w1⟩;refine RB hp (bz (hc pins s1 σ1 H1 _ I1 (turn n σ1 H1 w1)) λ b s2 ⟨H2,I2,q2⟩=>?_);cases b with
 |true=>
  obtain⟨N,hN,q2⟩:=q2;rw[O_ rfl];refine RB hp (bz (hb pins s2 σ1 H2 _ I2 q2) λ f s3 q3=>?_);cases f with
  |next=>
   obtain⟨σ3,H3,I3,n3⟩:=q3;obtain⟨m',hm,w3⟩:=hN σ3 H3 n3;exact⟨m',hm,σ3,H3,I3,w3⟩
  |cont=>
   obtain⟨σ3,H3,I3,n3⟩:=q3;obtain⟨m',hm,w3⟩:=hN σ3 H3 n3;exact⟨m',hm,σ3,H3,I3,w3⟩
  |brk=>exact q3
  |ret v=>exact q3
 |false=>
  rw[O7 PV];exact Ta ⟨σ1,H2,I2,q2⟩
end
structure It where
 go:Nat->Hp->Prop
 l9:Nat->Hp->V->Hp->Prop
 stop:Nat->Hp->Prop
def iH(X:Cx)(pins:List (Addr×Obj))(H:Hp)(b:Addr):Prop:=
 H b=none/\b≠X.env.locals/\b∉X.fs/\(b∈X.ex\/X.s₀.heap.objs.size<=b)/\(∀x c,X.env.cells.lookup x=some c->c≠b)/\∀p∈X.pn++pins,p.1≠b
theorem Inv.sL{X:Cx}{pins:List (Addr×Obj)}{σ:St}{H H':Hp}{s:Shared}{b:Addr}(I:Inv X pins σ H s)(hb:s.heap.objs.size<=b)(hn:H' b=none):iH X pins H' b:=by
 refine⟨hn,RM (Pu I.lt hb),I.JD hb,.inr (Pe I.sz hb),λ x c e z=>?_,λ p hp z=>?_⟩
 . obtain⟨v,q⟩:=I.cell x c e;exact absurd (Pu q.lt (by rw[z];exact hb)) (QC _)
 . exact absurd (Pu (Pm (I.pin p hp).1) (by rw[z];exact hb)) (QC _)
structure Turn(P:Program)(w:World)(K:PySem.W.Frag)(tg:Expr)(J:It)(fp:List Addr)(it:Addr)(tn:Nat->Heap->Prop):Prop where
 mem:it∈fp
 obj:∀i h,tn i h->∀b∈fp,∃o,h.get? b=some o/\∀v,o.data≠ .cell v
 keep:∀i h h',tn i h->(∀b∈fp,∀o,h.get? b=some o->h'.get? b=some o)->tn i h'
 item:∀(X:Cx),X.prog=P->X.w=w->X.K=K->X.calm=true->∀(i:Nat) (pins:List (Addr×Obj)) (s:Shared) (σ:St) (H:Hp) (E:Value->Shared->Prop),Inv X pins σ H s->(∀b∈fp,iH X pins H b)->tn i s.heap->J.go i H->
  wpAny (model P w) X.A (pyNext (.ref it)) (λ r s1=>∃u,r=some u/\
   wpAny (model P w) X.A (letOwnedTupleGo tg (.ref it) u) (λ _ s2=>∃x H',Inv X pins σ H' s2/\RelV x u/\J.l9 i H x H'/\tn (i+1) s2.heap/\∀b∈fp,H' b=none) E s1) E s
 done:∀(X:Cx),X.prog=P->X.w=w->X.K=K->X.calm=true->∀(i:Nat) (pins:List (Addr×Obj)) (s:Shared) (σ:St) (H:Hp) (E:Value->Shared->Prop),Inv X pins σ H s->(∀b∈fp,iH X pins H b)->tn i s.heap->J.stop i H->
  wpAny (model P w) X.A (pyNext (.ref it)) (λ r s1=>r=none/\Inv X pins σ H s1) E s
 self:∀(A:Around) (i:Nat) (s:Shared) (Q:Value->Shared->Prop) (E:Value->Shared->Prop),tn i s.heap->Q (.ref it) s->wpAny (model P w) A (pyIter (.ref it)) Q E s
abbrev TI:=St->Hp->(It->Hp->Prop)->Prop
def Fs(X:Cx)(pins:List (Addr×Obj))(σ:St)(tg:Expr)(R:It->Hp->Prop)(itv:Value)(s2:Shared):Prop:=
 ∃(it:Addr) (fp:List Addr) (tn:Nat->Heap->Prop) (J:It) (H':Hp),itv= .ref it/\Inv X pins σ H' s2/\Turn X.prog X.w X.K tg J fp it tn/\tn 0 s2.heap/\(∀b∈fp,iH X pins H' b)/\R J H'
def PI(X:Cx)(tg iter:Expr)(wi:TI):Prop:=
 ∀(pins:List (Addr×Obj)) (s:Shared) (σ:St) (H:Hp) (R:It->Hp->Prop),Inv X pins σ H s->wi σ H R->
  wpAny (model X.prog X.w) X.A (eval iter X.env) (λ v s1=>wpAny (model X.prog X.w) X.A (pyIter v) (Fs X pins σ tg R) X.xe s1) X.xe s
theorem AU{M:Model}{A:Around}{E:Value->Shared->Prop}{s:Shared}{tg:Expr}{it:Addr}{u:Value}{o:Obj}{n:String}{vs:Array Value}{Q:Unit->Shared->Prop}(ho:s.heap.get? it=some o)(hc:o.cls= .type n)(hd:o.data= .fields vs)
 (hn: ["enumerate","zip","dict_itemiterator","dict_reverseitemiterator","odict_iterator","itertools.zip_longest","itertools.pairwise"].contains n=false) (hQ:Q () s):wpAny M A (letOwnedTupleGo tg (.ref it) u) Q E s:=by
 unfold letOwnedTupleGo
 cases tg<;>first
  |exact Pf hQ
  |(cases u<;>first
     |exact Pf hQ
     |(refine O5 (wpAny_load ho ?_)
       rw[hc,hd];show wpAny M A (if(["enumerate","zip","dict_itemiterator","dict_reverseitemiterator","odict_iterator","itertools.zip_longest","itertools.pairwise"].contains n&&vs[0]?==some (rawInt _))=true then _ else _) Q E s;rw[O7 (by intro h;rw[hn,Bool.false_and]at h;cases h)];exact Pf hQ))
def IP(K:PySem.W.Frag)(a:Addr):It:=
 ⟨λ i H=>∃xs x,i_ K H a xs/\xs[i]?=some x,λ i H x H'=>H'=H/\∀xs,i_ K H a xs->xs[i]?=some x,λ i H=>∃xs,i_ K H a xs/\xs.length<=i⟩
def JJ(K:PySem.W.Frag)(a:Addr):It:=
 ⟨λ i H=>∃xs x,fZ K H a xs/\xs[i]?=some x,λ i H x H'=>H'=H/\∀xs,fZ K H a xs->xs[i]?=some x,λ i H=>∃xs,fZ K H a xs/\xs.length<=i⟩
def uO(lo:Int)(n:Nat):It:=⟨λ i _=>i<n,λ i H x H'=>H'=H/\x= .int (lo+i),λ i _=>n<=i⟩
theorem Ds{P:Program}{w:World}{K:PySem.W.Frag}{tg:Expr}(a it:Addr):Turn P w K tg (IP K a) [it] it (λ i h=>h.IsListIter it a i) where
 mem:=by simp
 obj:=λ i h st b hb=>by
  have e:b=it:=by simpa using hb
  subst e;obtain⟨o,e,c,d⟩:=st;exact⟨o,e,λ v z=>by rw[d]at z;cases z⟩
 keep:=λ i h h' st k=>st.at λ o e=>k it (by simp) o e
 item:=by
  intro X hP hw hK hc i pins s σ H E I hf st hg;subst hP hw hK;obtain⟨xs,x,hq,hx⟩:=hg;obtain⟨its,rv,p,hz⟩:=I.list hq;obtain⟨u,hu,ru⟩:=rv.get hx;obtain⟨f0,f1,f2,f3,f4,f5⟩:=hf it (by simp);refine wpAny_pyNext_list_item st p.isList (x:=u) (by simpa using hu) λ h' st' sb=>?_;have I1:Inv X pins σ H {s with heap:=h'}:=I.turned (t':=s.toks) (λ b o hb e=>(sb.2 b hb).trans e) f0 f1 f3 f4 f5;obtain⟨o,e,c,d⟩:=id st';exact⟨u,rfl,AU (s:={s with heap:=h'}) e c d (by decide) ⟨x,H,I1,ru,⟨rfl,λ ys hy=>by rw[I.we hy hq];exact hx⟩,st',λ b hb=>(hf b hb).1⟩⟩
 done:=by
  intro X hP hw hK hc i pins s σ H E I hf st hg;subst hP hw hK;obtain⟨xs,hq,hx⟩:=hg;obtain⟨its,rv,p,hz⟩:=I.list hq;obtain⟨f0,f1,f2,f3,f4,f5⟩:=hf it (by simp);have hl:=rv.length;exact wpAny_pyNext_list_end (I.ok.hd hc) st p.isList (by simp;omega) λ h' eb=>⟨rfl,I.turned (t':=s.toks) (λ b o hb e=>eb b o hb e) f0 f1 f3 f4 f5⟩
 self:=λ _ _ _ _ _ st h=>wpAny_pyIter_listiter st h
theorem Ax{P:Program}{w:World}{K:PySem.W.Frag}{tg:Expr}(a it:Addr):Turn P w K tg (JJ K a) [it] it (λ i h=>h.IsTupleIter it a i) where
 mem:=by simp
 obj:=λ i h st b hb=>by
  have e:b=it:=by simpa using hb
  subst e;obtain⟨o,e,c,d⟩:=st;exact⟨o,e,λ v z=>by rw[d]at z;cases z⟩
 keep:=λ i h h' st k=>st.at λ o e=>k it (by simp) o e
 item:=by
  intro X hP hw hK hc i pins s σ H E I hf st hg;subst hP hw hK;obtain⟨xs,x,hq,hx⟩:=hg;obtain⟨its,rv,p,hz⟩:=I.tuple hq;obtain⟨u,hu,ru⟩:=rv.get hx;obtain⟨f0,f1,f2,f3,f4,f5⟩:=hf it (by simp);refine wpAny_pyNext_tuple_item st (show s.heap.IsTuple a its.toArray from p) (x:=u) (by simpa using hu) λ h' st' sb=>?_;have I1:Inv X pins σ H {s with heap:=h'}:=I.turned (t':=s.toks) (λ b o hb e=>(sb.2 b hb).trans e) f0 f1 f3 f4 f5;obtain⟨o,e,c,d⟩:=id st';exact⟨u,rfl,AU (s:={s with heap:=h'}) e c d (by decide) ⟨x,H,I1,ru,⟨rfl,λ ys hy=>by rw[I.uG hy hq];exact hx⟩,st',λ b hb=>(hf b hb).1⟩⟩
 done:=by
  intro X hP hw hK hc i pins s σ H E I hf st hg;subst hP hw hK;obtain⟨xs,hq,hx⟩:=hg;obtain⟨its,rv,p,hz⟩:=I.tuple hq;obtain⟨f0,f1,f2,f3,f4,f5⟩:=hf it (by simp);have hl:=rv.length;exact wpAny_pyNext_tuple_end (I.ok.hd hc) st (show s.heap.IsTuple a its.toArray from p) (by simp;omega) λ h' eb=>⟨rfl,I.turned (t':=s.toks) (λ b o hb e=>eb b o hb e) f0 f1 f3 f4 f5⟩
 self:=λ _ _ _ _ _ st h=>wpAny_pyIter_tupleiter st h
theorem zS{P:Program}{w:World}{K:PySem.W.Frag}{tg:Expr}(it:Addr)(lo:Int)(n:Nat):Turn P w K tg (uO lo n) [it] it (λ i h=>IsRangeIter h it (lo+(i:Nat)*1) ((n:Int)-(i:Nat)) 1) where
 mem:=by simp
 obj:=λ i h st b hb=>by
  have e:b=it:=by simpa using hb
  subst e
  exact⟨_,st,λ v z=>by
   have z':Data.fields _=Data.cell v:=z;cases z'⟩
 keep:=λ i h h' st k=>k it (by simp) _ st
 item:=by
  intro X hP hw hK hc i pins s σ H E I hf st hg;subst hP hw hK;obtain⟨f0,f1,f2,f3,f4,f5⟩:=hf it (by simp);have W:=Walks.range (prog:=X.prog) (w:=X.w) (I.ok.hd hc) it lo 1 n;refine W.item i s _ _ hg st λ v h' tk hv st' kk=>?_;obtain⟨t,rfl⟩:=hv;have I1:Inv X pins σ H {s with heap:=h',toks:=tk}:=I.turned (λ b o hb e=>kk b o (by simpa using hb) e) f0 f1 f3 f4 f5;refine⟨_,rfl,AU (s:={s with heap:=h',toks:=tk}) (n:="range_iterator") st' rfl rfl (by decide) ⟨.int (lo+i),H,I1,⟨t,?_⟩,⟨rfl,rfl⟩,st',λ b hb=>(hf b hb).1⟩⟩;rw[RL]
 done:=by
  intro X hP hw hK hc i pins s σ H E I hf st hg;subst hP hw hK;obtain⟨f0,f1,f2,f3,f4,f5⟩:=hf it (by simp);exact wpAny_pyNext_range_end (I.ok.hd hc) st (by have:n<=i:=hg;omega) λ h' eb=>⟨rfl,I.turned (t':=s.toks) (λ b o hb e=>eb b o hb e) f0 f1 f3 f4 f5⟩
 self:=λ _ _ _ _ _ st h=>wpAny_pyIter_rangeiter st h
section
variable {X:Cx}{tg:Expr}
theorem wH{pins:List (Addr×Obj)}{σ:St}{H:Hp}{s:Shared}{R:It->Hp->Prop}{E:Value->Shared->Prop}{lo hi:Int}{t u v:Tok}{tk:Nat}(I:Inv X pins σ H s)(h1: -(2^62)<=lo)(h2:lo<2^62)(h3: -(2^62)<=hi)(h4:hi<2^62)
 (q:R (uO lo (hi-lo).toNat) H):wpAny (model X.prog X.w) X.A (pyIter (.ref s.heap.objs.size)) (Fs X pins σ tg R) E {s with heap:=s.heap.push {cls:= .type "range",data:= .fields #[.int lo t,.int hi u,.int 1 v]},toks:=tk}:=by
 refine wpAny_pyIter_range (IsRange.new ..) (small_one h1 h2 h3 h4) ?_;have I1:Inv X pins σ H {s with heap:=s.heap.push {cls:= .type "range",data:= .fields #[.int lo t,.int hi u,.int 1 v]},toks:=tk}:=I.kept λ b o e=>Pa _ e
 refine⟨(s.heap.push {cls:= .type "range",data:= .fields #[.int lo t,.int hi u,.int 1 v]}).objs.size,[(s.heap.push {cls:= .type "range",data:= .fields #[.int lo t,.int hi u,.int 1 v]}).objs.size],_,_,H,rfl,
  I1.kept (t':=tk) λ b o e=>Pa _ e,zS _ lo (hi-lo).toNat,?_,λ b hb=>?_,q⟩
 . have e1:lo+((0:Nat):Int)*1=lo:=by simp
   have e2:(((hi-lo).toNat:Nat):Int)-((0:Nat):Int)=Builtin.Range.rangeSize lo hi 1:=by rw[rangeSize_one];split<;>omega
   show IsRangeIter _ _ (lo+((0:Nat):Int)*1) ((((hi-lo).toNat:Nat):Int)-((0:Nat):Int)) 1;rw[e1,e2];exact Pt _ rfl
 . have e:b=(s.heap.push {cls:= .type "range",data:= .fields #[.int lo t,.int hi u,.int 1 v]}).objs.size:=by simpa using hb
   subst e;exact I1.sL (O9 _) (I1.aC.fresh (O9 _))
def zT(ta:TA):TI:=λ σ H R=>ta σ H λ vs H1=>∃j:Int,vs=[.int j]/\ -(2^62)<=j/\j<2^62/\R (uO 0 j.toNat) H1
def zF(ta:TA):TI:=λ σ H R=>ta σ H λ vs H1=>∃i j:Int,vs=[.int i,.int j]/\(-(2^62)<=i/\i<2^62/\ -(2^62)<=j/\j<2^62)/\R (uO i (j-i).toNat) H1
theorem Cw{a:Expr}{ta:TA}{p pos:Pos}(hg:Gl X "range")(hm:X.mg "range"=none)(ha:PA X [a] ta)(hs:starEach [a] X.env=[(false,eval a X.env)]:=by rfl):PI X tg (.Call (.Name "range" p) [a] [] pos) (zT ta):=by
 intro pins s σ H R I h;refine Call_ (je I hg hm boot_range (Q5 (bz (ha pos pins s σ H _ I h) λ us s1 ⟨vs,H1,I1,r1,q1⟩=>?_) hs rfl));obtain⟨j,e,q1,q2,q⟩:=q1;subst e;cases r1 with
 |cons r rr=>
  cases rr;obtain⟨t,rfl⟩:=r;exact call_range_1 (wH I1 (by omega) (by omega) q1 q2 (by simpa using q))
theorem DC{a b:Expr}{ta:TA}{p pos:Pos}(hg:Gl X "range")(hm:X.mg "range"=none)(ha:PA X [a,b] ta)(hs:starEach [a,b] X.env=[(false,eval a X.env),(false,eval b X.env)]:=by rfl)(hs2:starEach [b] X.env=[(false,eval b X.env)]:=by rfl):
 PI X tg (.Call (.Name "range" p) [a,b] [] pos) (zF ta):=by
 intro pins s σ H R I h;refine Call_ (je I hg hm boot_range (Q5 (bz (ha pos pins s σ H _ I h) λ us s1 ⟨vs,H1,I1,r1,q1⟩=>?_) (by rw[hs,hs2]) (by rw[hs2];rfl)));obtain⟨i,j,e,⟨q1,q2,q3,q4⟩,q⟩:=q1;subst e;cases r1 with
 |cons r rr=>
  cases rr with
  |cons r' rr=>
   cases rr;obtain⟨t,rfl⟩:=r;obtain⟨t',rfl⟩:=r';exact call_range_2 (wH I1 q1 q2 q3 q4 q)
def KG(wi:TI)(g:TG)(tb:TS):TS:=λ D σ H=>wi σ H λ J H1=>∃W:Nat->Nat->St->Hp->Prop,(∃m,W 0 m σ H1)/\∀i m σ H,W i m σ H->
 (J.stop i H/\D.nx σ H)\/(J.go i H/\∃N:St->Hp->Prop,(∀σ' H',N σ' H'->∃m',m'<m/\W (i+1) m' σ' H')/\∀x H',J.l9 i H x H'->g x σ H' λ σ2 H2=>tb {D with nx:=N,ct:=N,bk:=D.nx} σ2 H2)
def oE(fp:List Addr)(h:Heap):List (Addr×Obj):=fp.filterMap λ b=>(h.get? b).map λ o=>(b,o)
theorem jO{fp:List Addr}{h:Heap}{b:Addr}{o:Obj}(hb:b∈fp)(e:h.get? b=some o):(b,o)∈oE fp h:=Rq.mpr ⟨b,hb,by rw[e];rfl⟩
theorem C7{fp:List Addr}{h:Heap}{p:Addr×Obj}(hp:p∈oE fp h):p.1∈fp/\h.get? p.1=some p.2:=by
 obtain⟨b,hb,e⟩:=Rq.mp hp;cases q:h.get? b with
 |none=>rw[q]at e;cases e
 |some o=>
  rw[q]at e;have e':(b,o)=p:=Qq e;subst e';exact⟨hb,q⟩
theorem Inv.pinned{pins:List (Addr×Obj)}{σ:St}{H:Hp}{s:Shared}{fp:List Addr}(I:Inv X pins σ H s)(hf:∀b∈fp,iH X pins H b)(ho:∀b∈fp,∃o,s.heap.get? b=some o/\∀v,o.data≠ .cell v):Inv X (pins++oE fp s.heap) σ H s:=
 I.o7 λ p hp=>(PQ.mp hp).elim (λ z=>I.pin p (PC _ z)) λ z=>by
  obtain⟨hb,e⟩:=C7 z;obtain⟨f0,f1,f2,_⟩:=hf p.1 hb;obtain⟨o,e',d⟩:=ho p.1 hb;rw[e]at e';cases e';exact⟨e,f0,f1,f2,d⟩
theorem Inv.fm{pins pl:List (Addr×Obj)}{σ:St}{H:Hp}{s:Shared}(I:Inv X (pins++pl) σ H s):Inv X pins σ H s:=I.o7 λ p hp=>I.pin p (PC _ (QR _ hp))
theorem IV{iter:Expr}{body:List Stmt}{wi:TI}{g:TG}{tb:TS}{pos:Pos}(hp:PassesOwn (model X.prog X.w) X.A X.env X.xe)(hc:X.calm=true)(hi:PI X tg iter wi)(hg:PG X tg g)(hb:fg X body tb)
 (hs:∀x,foldedSetIterable iter X.env x=pure x:=by intro _;rfl):PS X (.For tg iter body [] pos) (KG wi g tb):=by
 intro pins s σ H D I h;refine wpAny_For (bz (hi pins s σ H _ I h) λ v s1 h1=>bz h1 λ itv s2 h2=>?_) hs;obtain⟨it,fp,tn,J,H2,e,I2,T,st2,f2,W,⟨m0,w0⟩,turn⟩:=h2;subst e;have stat:∀ {H':Hp},(∀b∈fp,H' b=none)->∀b∈fp,iH X pins H' b:=λ hn b hb=>⟨hn b hb,(f2 b hb).2⟩
 refine codeAny_forLoop_any (λ n s'=>∃i σ' H',Inv X pins σ' H' s'/\tn i s'.heap/\(∀b∈fp,H' b=none)/\W i n σ' H') ?_ m0 ⟨0,σ,H2,I2,st2,λ b hb=>(f2 b hb).1,w0⟩;rintro n s3 ⟨i,σ3,H3,I3,st3,fr3,w3⟩;rcases turn i n σ3 H3 w3 with⟨stop,qn⟩|⟨go,N,hN,step⟩
 . refine RB hp (bz (T.done X rfl rfl rfl hc i pins s3 σ3 H3 X.xe I3 (stat fr3) st3 stop) λ r s4 ⟨hr,I4⟩=>?_);subst hr;exact Ta ⟨σ3,H3,I4,qn⟩
 . refine RB hp (bz (T.item X rfl rfl rfl hc i pins s3 σ3 H3 X.xe I3 (stat fr3) st3 go) λ r s4 ⟨u,hr,h4⟩=>?_);subst hr;refine RB hp (bz h4 λ _ s5 ⟨x,H5,I5,r5,y5,st5,fr5⟩=>?_);have I5':=I5.pinned (stat fr5) (T.obj _ _ st5);refine RB hp (bz (hg _ s5 σ3 H5 x u _ I5' r5 (step x H5 y5)) λ _ s6 ⟨σ6,H6,I6,q6⟩=>?_);refine RB hp (bz (hb _ s6 σ6 H6 _ I6 q6) λ f s7 q7=>?_)
   have again:∀ {σ7:St} {H7:Hp},Inv X (pins++oE fp s5.heap) σ7 H7 s7->N σ7 H7->∃m,m<n/\∃i σ' H',Inv X pins σ' H' s7/\tn i s7.heap/\(∀b∈fp,H' b=none)/\W i m σ' H':=λ{σ7 H7} I7 n7=>by
    obtain⟨m',hm,w7⟩:=hN σ7 H7 n7;refine⟨m',hm,i+1,σ7,H7,I7.fm,T.keep _ _ _ st5 λ b hb o e=>(I7.pin (b,o) (PC _ (PC _ (jO hb e)))).1,λ b hb=>?_,w7⟩;obtain⟨o,e,d⟩:=T.obj _ _ st5 b hb;exact(I7.pin (b,o) (PC _ (PC _ (jO hb e)))).2.1
   cases f with
   |next=>obtain⟨σ7,H7,I7,n7⟩:=q7;exact again I7 n7
   |cont=>obtain⟨σ7,H7,I7,n7⟩:=q7;exact again I7 n7
   |brk=>obtain⟨σ7,H7,I7,q7⟩:=q7;exact⟨σ7,H7,I7.fm,q7⟩
   |ret v=>obtain⟨x7,σ7,H7,I7,r7,q7⟩:=q7;exact⟨x7,σ7,H7,I7.fm,r7,q7⟩
end
theorem et{lo:Int}{n:Nat}{g:TG}{tb:TS}{D:Ends}{σ:St}{H:Hp}(Pv:Nat->St->Hp->Prop)(h0:Pv 0 σ H)
 (hs:∀i σ H,i<n->Pv i σ H->g (.int (lo+i)) σ H λ σ2 H2=>tb {D with nx:=Pv (i+1),ct:=Pv (i+1),bk:=D.nx} σ2 H2) (hd:∀σ H,Pv n σ H->D.nx σ H):
 ∃W:Nat->Nat->St->Hp->Prop,(∃m,W 0 m σ H)/\∀i m σ H,W i m σ H->
  ((uO lo n).stop i H/\D.nx σ H)\/((uO lo n).go i H/\∃N:St->Hp->Prop,(∀σ' H',N σ' H'->∃m',m'<m/\W (i+1) m' σ' H')/\∀x H',(uO lo n).l9 i H x H'->g x σ H' λ σ2 H2=>tb {D with nx:=N,ct:=N,bk:=D.nx} σ2 H2):=by
 refine⟨λ i m σ H=>m=n-i/\i<=n/\Pv i σ H,⟨n,by simp,Po _,h0⟩,?_⟩;rintro i m σ H ⟨rfl,hi,p⟩;by_cases hlt:i<n
 . refine .inr ⟨hlt,Pv (i+1),λ σ' H' p'=>⟨n-(i+1),by omega,rfl,hlt,p'⟩,λ x H' y=>?_⟩;obtain⟨e,y⟩:=y;subst e y;exact hs i σ _ hlt p
 . have e:i=n:=by omega
   subst e;exact .inl ⟨O9 _,hd σ H p⟩
abbrev R2:=V->V->Hp->VK->Prop
def bD(X:Cx)(f:Value->Value->Sem Value)(r:R2):Prop:=
 ∀(pins:List (Addr×Obj)) (s:Shared) (σ:St) (H:Hp) (x y:V) (v u:Value) (Q:VK),Inv X pins σ H s->RelV x v->RelV y u->r x y H Q->
  wpAny (model X.prog X.w) X.A (f v u) (EP X pins σ Q) X.xe s
def yI(X:Cx)(f:Value->Sem Value)(r:V->Hp->VK->Prop):Prop:=
 ∀(pins:List (Addr×Obj)) (s:Shared) (σ:St) (H:Hp) (x:V) (v:Value) (Q:VK),Inv X pins σ H s->RelV x v->r x H Q->
  wpAny (model X.prog X.w) X.A (f v) (EP X pins σ Q) X.xe s
def aZ(X:Cx)(f:Value)(r:List V->Hp->VK->Prop):Prop:=
 ∀(pins:List (Addr×Obj)) (s:Shared) (σ:St) (H:Hp) (xs:List V) (us:List Value) (Q:VK),Inv X pins σ H s->Vals xs us->r xs H Q->
  wpAny (model X.prog X.w) X.A (call f us) (EP X pins σ Q) X.xe s
def Dr(r:R2)(ta tb:TE):TE:=λ σ H Q=>ta σ H λ x H1=>tb σ H1 λ y H2=>r x y H2 Q
def Nd(r:V->Hp->VK->Prop)(ta:TE):TE:=λ σ H Q=>ta σ H λ x H1=>r x H1 Q
def rI(C:Int->Int->Prop)(g:Int->Int->V):R2:=λ x y H Q=>∃i j,x= .int i/\y= .int j/\C i j/\Q (g i j) H
def rN(g:Int->Int->V):R2:=λ x y H Q=>∃i j,x= .int i/\y= .int j/\Q (g i j) H
def rU(g:Int->V):V->Hp->VK->Prop:=λ x H Q=>∃i,x= .int i/\Q (g i) H
section
variable {X:Cx}{a b c:Expr}{ta tb tc:TE}{pos:Pos}
theorem Eh(ha:PE X a ta)(hb:PE X b tb){pins:List (Addr×Obj)}{s:Shared}{σ:St}{H:Hp}{R:V->V->Hp->Prop}(I:Inv X pins σ H s)
 (h:ta σ H λ x H1=>tb σ H1 λ y H2=>R x y H2) {Q:Value->Shared->Prop} {f:Value->Value->Sem Value}
 (hf:∀v u s2 x y H2,Inv X pins σ H2 s2->RelV x v->RelV y u->R x y H2->wpAny (model X.prog X.w) X.A (f v u) Q X.xe s2):
 wpAny (model X.prog X.w) X.A (eval a X.env) (λ v s₁=>wpAny (model X.prog X.w) X.A (eval b X.env) (λ u s₂=>wpAny (model X.prog X.w) X.A (f v u) Q X.xe s₂) X.xe s₁) X.xe s:=by
 refine bz (ha pins s σ H _ I h) λ v s1 ⟨x,H1,I1,r1,q1⟩=>?_;refine bz (hb pins s1 σ H1 _ I1 q1) λ u s2 ⟨y,H2,I2,r2,q2⟩=>?_;exact hf v u s2 x y H2 I2 r1 r2 q2
theorem MS{op:Operator}{r:R2}(ho:bD X (binaryOp op) r)(ha:PE X a ta)(hb:PE X b tb):PE X (.BinOp a op b pos) (Dr r ta tb):=by
 intro pins s σ H Q I h;exact wpAny_BinOp (Eh ha hb I h λ v u s2 x y H2 I2 rx ry q=>ho pins s2 σ H2 x y v u Q I2 rx ry q)
theorem Lr{op:UnaryOp}{r:V->Hp->VK->Prop}(ho:yI X (unaryOp op) r)(ha:PE X a ta):PE X (.UnaryOp op a pos) (Nd r ta):=by
 intro pins s σ H Q I h;exact UnaryOp_ (bz (ha pins s σ H _ I h) λ v s1 ⟨x,H1,I1,r1,q1⟩=>ho pins s1 σ H1 x v Q I1 r1 q1)
theorem Fj{f:Value->Value->Sem Value}{C:Int->Int->Prop}{g:Int->Int->Int}
 (rule:∀(i j:Int) (t u:Tok) (s:Shared) (Q:Value->Shared->Prop) (E:Value->Shared->Prop),C i j->Q (.int (g i j) s.toks) {s with toks:=s.toks+1}->wpAny (model X.prog X.w) X.A (f (.int i t) (.int j u)) Q E s):
 bD X f (rI C λ i j=> .int (g i j)):=by
 intro pins s σ H x y v u Q I rx ry h;obtain⟨i,j,rfl,rfl,hc,q⟩:=h;obtain⟨t,rfl⟩:=rx;obtain⟨t',rfl⟩:=ry;exact rule i j t t' s _ _ hc ⟨.int (g i j),H,I.tok _,⟨_,rfl⟩,q⟩
theorem Kt{f:Value->Value->Sem Value}{g:Int->Int->Int}
 (rule:∀(i j:Int) (t u:Tok) (s:Shared) (Q:Value->Shared->Prop) (E:Value->Shared->Prop),Q (.int (g i j) s.toks) {s with toks:=s.toks+1}->wpAny (model X.prog X.w) X.A (f (.int i t) (.int j u)) Q E s):
 bD X f (rN λ i j=> .int (g i j)):=by
 intro pins s σ H x y v u Q I rx ry h;obtain⟨i,j,rfl,rfl,q⟩:=h;obtain⟨t,rfl⟩:=rx;obtain⟨t',rfl⟩:=ry;exact rule i j t t' s _ _ ⟨.int (g i j),H,I.tok _,⟨_,rfl⟩,q⟩
theorem Ad{f:Value->Value->Sem Value}{g:Int->Int->Bool}
 (rule:∀(i j:Int) (t u:Tok) (s:Shared) (Q:Value->Shared->Prop) (E:Value->Shared->Prop),Q (.bool (g i j)) s->wpAny (model X.prog X.w) X.A (f (.int i t) (.int j u)) Q E s):
 bD X f (rN λ i j=> .bl (g i j)):=by
 intro pins s σ H x y v u Q I rx ry h;obtain⟨i,j,rfl,rfl,q⟩:=h;obtain⟨t,rfl⟩:=rx;obtain⟨t',rfl⟩:=ry;exact rule i j t t' s _ _ ⟨.bl (g i j),H,I,rfl,q⟩
def Ea(i j:Int):Prop:=0<=j/\j<=1000000/\i.natAbs<2^64
theorem KP:bD X (binaryOp .Add) (rN λ i j=> .int (i+j)):=Kt λ _ _ _ _ _ _ _ q=>add_int q
theorem II:bD X (binaryOp .Sub) (rN λ i j=> .int (i-j)):=Kt λ _ _ _ _ _ _ _ q=>sub_int q
theorem GK:bD X (binaryOp .Mod) (rI (λ _ j=>j≠0) λ i j=> .int (i.fmod j)):=Fj λ _ _ _ _ _ _ _ hc q=>mod_int' hc q
theorem IT:bD X (binaryOp .Pow) (rI Ea λ i j=> .int (i^j.toNat)):=Fj λ _ _ _ _ _ _ _ hc q=>pow_int_small hc.1 hc.2.1 hc.2.2 q
theorem OZ{f:Value->Sem Value}{g:Int->Int}
 (rule:∀(i:Int) (t:Tok) (s:Shared) (Q:Value->Shared->Prop) (E:Value->Shared->Prop),Q (.int (g i) s.toks) {s with toks:=s.toks+1}->wpAny (model X.prog X.w) X.A (f (.int i t)) Q E s):
 yI X f (rU λ i=> .int (g i)):=by
 intro pins s σ H x v Q I rx h;obtain⟨i,rfl,q⟩:=h;obtain⟨t,rfl⟩:=rx;exact rule i t s _ _ ⟨.int (g i),H,I.tok _,⟨_,rfl⟩,q⟩
theorem La:yI X (unaryOp .USub) (rU λ i=> .int (-i)):=OZ λ _ _ _ _ _ q=>neg_int q
end
def N_:V->V->Bool
 | .aq,.aq=>true| .aq,.int _=>true| .int _,.aq=>true| .aq,.bl _=>true| .bl _,.aq=>true| .aq,.str _=>true| .str _,.aq=>true
 | .int _,.int _=>true| .bl _,.bl _=>true| .str _,.str _=>true| .pW _,.pW _=>true
 | .int _,.str _=>true| .str _,.int _=>true| .bl _,.str _=>true| .str _,.bl _=>true
 |_,_=>false
def OD:R2:=λ x y H Q=>N_ x y=true/\Q (.bl (!decide (x=y))) H
theorem Ic{i j:Int}:decide (V.int i=V.int j)=(i==j):=by
 rw[Tc];simp
theorem Ja{i j:Bool}:decide (V.bl i=V.bl j)=(i==j):=by
 rw[Tc];simp
theorem H_{i j:Str}:decide (V.str i=V.str j)=(i==j):=by
 rw[Tc];simp
theorem Il{i j:Array UInt8}:decide (V.pW i=V.pW j)=(i.toList==j.toList):=by
 rw[Tc];cases i;cases j;simp
section
variable {X:Cx}{a b c:Expr}{ta tb tc:TE}{pos:Pos}
theorem dD{pins:List (Addr×Obj)}{σ:St}{H:Hp}{s:Shared}{Q:VK}{k k':Bool}(I:Inv X pins σ H s)(q:Q (.bl k) H)(e:k=k'):EP X pins σ Q (.bool k') s:=by
 subst e;exact⟨.bl k,H,I,rfl,q⟩
theorem MF:bD X (compareOp .NotEq) OD:=by
 intro pins s σ H x y v u Q I rx ry h;obtain⟨hs,q⟩:=h;cases x with
 |aq=>
  cases rx;cases y with
  |aq=>cases ry;exact PySem.EqNone.ne_none_none (dD I q (by simp))
  |bl j=>cases ry;exact PySem.EqNone.ne_none_bool (dD I q (by simp))
  |int j=>obtain⟨t',rfl⟩:=ry;exact PySem.EqNone.ne_none_int (dD I q (by simp))
  |str j=>obtain⟨t',rfl⟩:=ry;exact PySem.EqNone.ne_none_str (dD I q (by simp))
  |_=>exact absurd (show false=true from hs) PV
 |bl i=>
  cases rx;cases y with
  |aq=>cases ry;exact PySem.EqNone.ne_bool_none (dD I q (by simp))
  |bl j=>cases ry;exact ne_bool (dD I q (RD not Ja))
  |str j=>obtain⟨t',rfl⟩:=ry;exact PySem.EqMixed.ne_bool_str (dD I q (by simp))
  |_=>exact absurd (show false=true from hs) PV
 |int i=>
  obtain⟨t,rfl⟩:=rx;cases y with
  |aq=>cases ry;exact PySem.EqNone.ne_int_none (dD I q (by simp))
  |int j=>obtain⟨t',rfl⟩:=ry;exact ne_int (dD I q (RD not Ic))
  |str j=>obtain⟨t',rfl⟩:=ry;exact PySem.EqMixed.ne_int_str (dD I q (by simp))
  |_=>exact absurd (show false=true from hs) PV
 |str i=>
  obtain⟨t,rfl⟩:=rx;cases y with
  |aq=>cases ry;exact PySem.EqNone.ne_str_none (dD I q (by simp))
  |bl j=>cases ry;exact PySem.EqMixed.ne_str_bool (dD I q (by simp))
  |int j=>obtain⟨t',rfl⟩:=ry;exact PySem.EqMixed.ne_str_int (dD I q (by simp))
  |str j=>obtain⟨t',rfl⟩:=ry;exact ne_str (dD I q (RD not H_))
  |_=>exact absurd (show false=true from hs) PV
 |pW i=>
  obtain⟨t,rfl⟩:=rx;cases y with
  |pW j=>obtain⟨t',rfl⟩:=ry;exact PySem.W.ne_bytes (dD I q (RD not Il))
  |_=>exact absurd (show false=true from hs) PV
 |_=>cases y<;>exact absurd (show false=true from hs) PV
theorem MB:bD X (compareOp .Lt) (rN λ i j=> .bl (decide (i<j))):=Ad λ _ _ _ _ _ _ _ q=>lt_int q
theorem Lm:bD X (compareOp .LtE) (rN λ i j=> .bl (decide (i<=j))):=Ad λ _ _ _ _ _ _ _ q=>le_int q
theorem L6:bD X (compareOp .Gt) (rN λ i j=> .bl (decide (j<i))):=Ad λ _ _ _ _ _ _ _ q=>gt_int q
theorem MY:bD X (compareOp .GtE) (rN λ i j=> .bl (decide (j<=i))):=Ad λ _ _ _ _ _ _ _ q=>ge_int q
theorem Km:bD X (compareOp .Is) (λ x y H Q=>y= .aq/\Q (.bl (decide (x= .aq))) H):=by
 intro pins s σ H x y v u Q I rx ry h;obtain⟨rfl,q⟩:=h;cases ry;refine is_none_gen (dD I q ?_)
 cases x<;>first
  |(cases rx;rfl)
  |(obtain⟨t,rfl⟩:=rx;rfl)
theorem Hy:bD X (compareOp .IsNot) (λ x y H Q=>y= .aq/\Q (.bl (!decide (x= .aq))) H):=by
 intro pins s σ H x y v u Q I rx ry h;obtain⟨rfl,q⟩:=h;cases ry;refine isnot_none_gen (dD I q ?_)
 cases x<;>first
  |(cases rx;rfl)
  |(obtain⟨t,rfl⟩:=rx;rfl)
theorem ib(b:Expr){op:CmpOp}(h:op≠ .In:=by decide)(h2:op≠ .NotIn:=by decide):behindInMarks op b=false:=by
 have e1:(op==CmpOp.In)=false:=by cases op<;>first|rfl|exact absurd rfl h
 have e2:(op==CmpOp.NotIn)=false:=by cases op<;>first|rfl|exact absurd rfl h2
 cases b<;>simp[behindInMarks,e1,e2]
theorem Ik{op:CmpOp}{r:R2}(ho:bD X (compareOp op) r)(ha:PE X a ta)(hb:PE X b tb)(hm:behindInMarks op b=false):PE X (.Compare a [op] [b] pos) (Dr r ta tb):=by
 intro pins s σ H Q I h;exact wpAny_Compare1 (Eh ha hb I h λ v u s2 x y H2 I2 rx ry q=>ho pins s2 σ H2 x y v u Q I2 rx ry q) hm
def MD(t:TE):TT:=λ σ H Q=>t σ H λ x H'=>∃k,x= .bl k/\Q k H'
theorem GW{op:CmpOp}{r:R2}(ho:bD X (compareOp op) r)(ha:PE X a ta)(hb:PE X b tb)(hm:behindInMarks op b=false):PT X (.Compare a [op] [b] pos) (MD (Dr r ta tb)):=by
 intro pins s σ H Q I h
 refine wpAny_isTrue_Compare1 (bz (ha pins s σ H _ I h) λ v s1 ⟨x,H1,I1,r1,q1⟩=>bz (hb pins s1 σ H1 _ I1 q1) λ u s2 ⟨y,H2,I2,r2,q2⟩=>
  bz (ho pins s2 σ H2 x y v u _ I2 r1 r2 q2) λ c s3 ⟨z,H3,I3,r3,k,e,q3⟩=>?_) hm
 subst e;cases r3;exact RG ⟨H3,I3,q3⟩
theorem oj:(sizeLine:Nat)<2^63:=by rw[QZ];decide
theorem A7:bD X (binaryOp .Add) (λ x y H Q=>∃i j,x= .str i/\y= .str j/\i.length+j.length<=sizeLine/\Q (.str (i++j)) H):=by
 intro pins s σ H x y v u Q I rx ry h;obtain⟨i,j,rfl,rfl,hz,q⟩:=h;obtain⟨t,rfl⟩:=rx;obtain⟨t',rfl⟩:=ry;exact add_str (λ t' tk=>⟨.str (i++j),H,I.tok _,⟨_,rfl⟩,q⟩) hz
theorem vals1{x:V}{us:List Value}(r:Vals [x] us):∃u,us=[u]/\RelV x u:=by
 cases r with
 |cons r1 r2=>cases r2;exact⟨_,rfl,r1⟩
theorem vals2{x y:V}{us:List Value}(r:Vals [x,y] us):∃u w',us=[u,w']/\RelV x u/\RelV y w':=by
 cases r with
 |cons r1 r2=>
  cases r2 with
  |cons r3 r4=>cases r4;exact⟨_,_,rfl,r1,r3⟩
theorem Ec:aZ X (.builtin "abs") (λ xs H Q=>∃i,xs=[.int i]/\Q (.int (if i<0 then-i else i)) H):=by
 intro pins s σ H xs us Q I r h;obtain⟨i,rfl,q⟩:=h;obtain⟨u,rfl,t,rfl⟩:=vals1 r;exact call_abs_int λ u tk=>⟨.int (if i<0 then-i else i),H,I.tok _,⟨_,rfl⟩,q⟩
theorem Co(hc:X.calm=true):aZ X (.builtin "max") (λ xs H Q=>∃i j,xs=[.int i,.int j]/\Q (.int (if j>i then j else i)) H):=by
 intro pins s σ H xs us Q I r h;obtain⟨i,j,rfl,q⟩:=h;obtain⟨u,w',rfl,⟨t,rfl⟩,⟨t',rfl⟩⟩:=vals2 r;refine max_two_ints (I.ok.hd hc) λ h' tk k=>⟨_,H,I.kept k,?_,q⟩
 by_cases hj:j>i
 . rw[O_ hj,O_ hj];exact⟨_,rfl⟩
 . rw[O7 hj,O7 hj];exact⟨_,rfl⟩
theorem CI(hc:X.calm=true):aZ X (.builtin "min") (λ xs H Q=>∃i j,xs=[.int i,.int j]/\Q (.int (if j<i then j else i)) H):=by
 intro pins s σ H xs us Q I r h;obtain⟨i,j,rfl,q⟩:=h;obtain⟨u,w',rfl,⟨t,rfl⟩,⟨t',rfl⟩⟩:=vals2 r;refine min_two_ints (I.ok.hd hc) λ h' tk k=>⟨_,H,I.kept k,?_,q⟩
 by_cases hj:j<i
 . rw[O_ hj,O_ hj];exact⟨_,rfl⟩
 . rw[O7 hj,O7 hj];exact⟨_,rfl⟩
theorem Bq:aZ X (.type "int") (λ xs H Q=>(∃i,xs=[.int i]/\Q (.int i) H)\/∃k,xs=[.bl k]/\Q (.int (if k then 1 else 0)) H):=by
 intro pins s σ H xs us Q I r h;rcases h with⟨i,rfl,q⟩|⟨k,rfl,q⟩
 . obtain⟨u,rfl,t,rfl⟩:=vals1 r;exact call_int_int ⟨.int i,H,I,⟨_,rfl⟩,q⟩
 . obtain⟨u,rfl,r1⟩:=vals1 r;cases r1;exact call_int_bool ⟨.int (if k then 1 else 0),H,I.tok _,⟨_,rfl⟩,q⟩
end
structure qy(h:Heap)(x dx C:Addr)(mA:Str->Option Value):Prop where
 obj:h.get? x=some (PySem.W.instObj C dx)
 ns:h.Ns1 dx mA
 ne:dx≠x
theorem CO{h:Heap}{dx:Addr}{mA:Str->Option Value}(n:h.Ns1 dx mA):∃od,h.get? dx=some od/\∀name,PySem.W.lookIn name od=some (mA name):=by
 obtain⟨o,es,ep,ho,hd,hk,_,hm⟩:=n;refine⟨o,ho,λ name=>?_⟩;have e:=hm name;unfold nsFind findBy at e;rw[<-Array.find?_toList]at e;unfold PySem.W.lookIn;rw[hd];dsimp only;split
 . rename_i y q;rw[q]at e;exact RD some e
 . rename_i q;rw[q]at e
   have a:es.toList.any (·.refKey)=false:=by
    rw[List.any_eq_false];intro y hy;obtain⟨z,t,hkey⟩:=hk y (Q9.mp hy);simp[DictEntry.refKey,hkey]
   have a':¬es.toList.any (·.refKey)=true:=by rw[a];exact PV
   rw[O7 a'];exact RD some e
theorem qy.look{h:Heap}{x dx C:Addr}{mA:Str->Option Value}(I:qy h x dx C mA):∃od,PySem.W.InstAt h x (PySem.W.instObj C dx) C (some od)/\∀name,PySem.W.lookIn name od=some (mA name):=
 let⟨od,ho,hl⟩:=CO I.ns
 ⟨od,⟨I.obj,rfl,rfl,ho⟩,hl⟩
section
variable {prog:Program}{w:World}{A:Around}{E:Value->Shared->Prop}{s:Shared}{K:PySem.W.Frag}{x dx C f:Addr}{mA:Str->Option Value}{name:Str}{v:Value}
theorem get_map{expr:Bool}{Q:Value->Shared->Prop}(X:K.In s.heap)(I:qy s.heap x dx C mA)(hg:PySem.W.plainGet K C name=true)(hh:PySem.W.hasDictIn K C=true)
 (ha:PySem.W.findIn K (.ref C) name=some none) (hv:mA name=some v) (hv':PySem.W.handedIn v=true) (h:Q v {s with toks:=s.toks+1}):
 wpAny (model prog w) A (getAttr (.ref x) name expr) Q E s:=by
 obtain⟨od,J,hl⟩:=I.look;exact PySem.W.get_value X J (Tw hg).1 (PySem.W.findObj_own hh ha rfl (by rw[hl,hv])) hv' h
theorem E1{pl:Sem Bool}{Q:Value×List Value->Shared->Prop}(X:K.In s.heap)(I:qy s.heap x dx C mA)(hg:PySem.W.plainGet K C name=true)
 (hf:PySem.W.findIn K (.ref C) name=some (some (.ref f))) (ht:PySem.W.isFn K (.ref f)=true) (hv:mA name=none) (h:Q (.ref f,[.ref x]) s):
 wpAny (model prog w) A (getMethod (.ref x) name pl) Q E s:=by
 obtain⟨od,J,hl⟩:=I.look;exact PySem.W.method_fn X J (Tw hg).1 (Tw hg).2 hf (QV.mp ht) (by show(PySem.W.lookIn name od).map (·.isSome)=some false;rw[hl,hv];rfl) h
theorem fB{ns:List Str}{Q:Unit->Shared->Prop}(X:K.In s.heap)(I:qy s.heap x dx C mA)
 (hs:PySem.W.findIn K (.ref C) "__setattr__"=some (some (.builtin "object.__setattr__"))) (hp:PySem.W.plainOver K C=true) (ht:PySem.W.takerIn K C name=some none) (hh:PySem.W.hasDictIn K C=true)
 (hw:PySem.Within mA ns) (hsz:ns.length<=sizeLine)
 (h:∀h',qy h' x dx C (λ y=>if y=name then some v else mA y)->Heap.SameBut dx s.heap h'->Q () {s with heap:=h',toks:=s.toks+2}):
 wpAny (model prog w) A (setAttr (.ref x) name v) Q E s:=by
 obtain⟨od,J,hl⟩:=I.look;refine PySem.W.set_plain X J hs (PySem.W.osa_open (s:={s with toks:=s.toks+1}) (r:=none) X J hp ht λ b=>?_);obtain⟨cd,hc,hd'⟩:=PySem.W.any_some hh;have hx:s.heap.get? x=some ⟨.ref C,some dx,.plain,#[]⟩:=I.obj;refine O5 (Pf (O5 (O5 (wpAny_loadPart hx (O5 (PySem.W.Looks.here (s:={s with toks:=s.toks+1}) (PySem.W.looks_clsIn X hc) ?_))))));rw[hd'];refine Pf (a:=some dx) (O5 (Pf (O5 ?_)));refine wpAny_nsSet1 (s:={s with toks:=s.toks+1}) I.ns λ h' hn2 hs2=>?_;obtain⟨oD,esD,epD,hoD,hdD,hcD⟩:=hn2.count (PySem.Within.cons name v hw);refine O5 (wpAny_lookBehind hoD (by rw[hdD];exact pastItsLine_dict (Pe hcD (by rw[P7];omega))) ?_);exact Pf (h _ ⟨(hs2.2 _ (Pj I.ne)).trans I.obj,hn2,I.ne⟩ hs2)
theorem EN{R:Result->Shared->Prop}{vs:List Value}{kw:List (Str×Value)}(X:K.In s.heap)(hm:PySem.W.makesIn K C=true)
 (hi:PySem.W.findIn K (.ref C) "__init__"=some (some (.ref f))) (hf:PySem.W.typeIn K (.ref f)=some (.type "function"))
 (h:codeAny (model prog w) (A.under (.builtin "type.__call__" ⟨.ref C::vs,kw⟩)) (.call (.ref f) ⟨.ref (s.heap.objs.size+1)::vs,kw⟩) (PySem.W.InitBack (s.heap.objs.size+1) R)
   {s with heap:=(s.heap.push PySem.W.emptyDict).push (PySem.W.instObj C s.heap.objs.size)}):
 codeAny (model prog w) A (.call (.ref C) ⟨vs,kw⟩) R s:=by
 obtain⟨hh,g,d,t,os⟩:=s;exact PySem.W.make_core (PySem.W.makes_of X hm) (PySem.W.looks_findIn X hi) (λ self=>PySem.W.bind_fn X self hf) (.inl rfl) h
end
def eW(f:Str)(v:V):List (Str×V)->List (Str×V)
 | []=>[(f,v)]
 |(g,x)::r=>if g=f then(g,v)::r else(g,x)::eW f v r
theorem pw(f g:Str)(v:V):∀fs:List (Str×V),(eW f v fs).lookup g=if g=f then some v else fs.lookup g
 | []=>by
   show List.lookup g [(f,v)]=_;by_cases h:g=f
   . have hb:(g==f)=true:=QV.mpr h;simp only[List.lookup,hb,O_ h]
   . have hb:(g==f)=false:=RQ.mpr h;simp only[List.lookup,hb,O7 h]
 |(k,x)::r=>by
  have ih:=pw f g v r;rw[show eW f v ((k,x)::r)=(if k=f then(k,v)::r else(k,x)::eW f v r)from rfl];by_cases hk:k=f
  . rw[O_ hk];by_cases h:g=k
    . have hb:(g==k)=true:=QV.mpr h;simp only[List.lookup,hb,O_ (h.trans hk)]
    . have hb:(g==k)=false:=RQ.mpr h;simp only[List.lookup,hb,O7 (λ e:g=f=>h (e.trans hk.symm))]
  . rw[O7 hk];by_cases h:g=k
    . have hb:(g==k)=true:=QV.mpr h;simp only[List.lookup,hb,O7 (λ e:g=f=>hk (h.symm.trans e))]
    . have hb:(g==k)=false:=RQ.mpr h;simp only[List.lookup,hb];exact ih
theorem nX(f:Str)(v:V):∀fs:List (Str×V),f∈(eW f v fs).map (·.1)/\∀g,g∈fs.map (·.1)->g∈(eW f v fs).map (·.1)
 | []=>⟨by simp[eW],λ g h=>by simp at h⟩
 |(k,x)::r=>by
  obtain⟨i1,i2⟩:=nX f v r;rw[show eW f v ((k,x)::r)=(if k=f then(k,v)::r else(k,x)::eW f v r)from rfl];by_cases hk:k=f
  . rw[O_ hk];subst hk;exact⟨by simp,λ g h=>by simpa using h⟩
  . rw[O7 hk];refine⟨?_,λ g h=>?_⟩
    . rw[Qj];exact Pn _ i1
    . rw[Qj]at h⊢;rcases Px.mp h with e|e
      . exact Px.mpr (.inl e)
      . exact Pn _ (i2 g e)
theorem pX(f:Str)(v:V):∀fs:List (Str×V),(eW f v fs).length<=fs.length+1
 | []=>by simp[eW]
 |(k,x)::r=>by
  have ih:=pX f v r;rw[show eW f v ((k,x)::r)=(if k=f then(k,v)::r else(k,x)::eW f v r)from rfl];by_cases hk:k=f
  . rw[O_ hk,P7,P7];omega
  . rw[O7 hk,P7,P7];omega
theorem kU.some_of{v:V}{o:Option Value}(r:kU (some v) o):∃u,o=some u/\RelV v u:=by
 cases o with
 |none=>exact(show False from r).elim
 |some u=>exact⟨u,rfl,r⟩
theorem kU.none_of{o:Option Value}(r:kU none o):o=none:=by
 cases o with
 |none=>rfl
 |some u=>exact(show False from r).elim
theorem C9{v:V}{u:Value}(r:RelV v u):PySem.W.handedIn u=true:=by
 cases v with
 |aq=>cases (show u=Value.none from r);rfl
 |bl b=>cases (show u=Value.bool b from r);rfl
 |int i=>obtain⟨t,e⟩:=(show∃t,u=Value.int i t from r);cases e;rfl
 |str x=>obtain⟨t,e⟩:=(show∃t,u=Value.str x t from r);cases e;rfl
 |pW b=>obtain⟨t,e⟩:=(show∃t,u=Value.bytes b t from r);cases e;rfl
 |pD b=>obtain⟨t,e⟩:=(show∃t,u=Value.float b t from r);cases e;rfl
 |ref a=>cases (show u=Value.ref a from r);rfl
 |ty n=>cases (show u=Value.type n from r);rfl
section
variable {P:Program}{w:World}{H H':Hp}{h h':Heap}{a C dx:Addr}{fs fs':List (Str×V)}
theorem gf(aC:fA P w H h)(e:H a=some (.ins C dx fs)):∃mA,qy h a dx C mA/\(∀f,kU (fs.lookup f) (mA f))/\PySem.Within mA (fs.map (·.1))/\fs.length<=1000/\H dx=some (.own a):=by
 obtain⟨d,z,ne,ob,mA,n,r,q⟩:=(show cw P w H h a (.ins C dx fs)from aC a _ e)
 exact⟨mA,⟨ob,n,ne⟩,r,q,z,d⟩
end
structure kq(K:PySem.W.Frag)(C:Addr):Prop where
 pg:PySem.W.plainGet K C Str.empty=true
 hd:PySem.W.hasDictIn K C=true
 po:PySem.W.plainOver K C=true
 sa:PySem.W.findIn K (.ref C) "__setattr__"=some (some (.builtin "object.__setattr__"))
theorem kq.get{K:PySem.W.Frag}{C:Addr}(c:kq K C)(f:Str):PySem.W.plainGet K C f=true:=c.pg
def eJ(K:PySem.W.Frag)(C:Addr)(f:Str):Prop:=PySem.W.findIn K (.ref C) f=some none
theorem eJ.Mg{K:PySem.W.Frag}{C:Addr}{f:Str}(n:eJ K C f):PySem.W.takerIn K C f=some none:=by
 unfold PySem.W.takerIn;rw[show PySem.W.findIn K (.ref C) f=some none from n];rfl
structure Meth(K:PySem.W.Frag)(C:Addr)(m:Str)(f:Addr):Prop where
 at_:PySem.W.findIn K (.ref C) m=some (some (.ref f))
 fn:PySem.W.isFn K (.ref f)=true
 kp:PySem.W.keepIn K (.ref f)=true
section
variable {X:Cx}{pins:List (Addr×Obj)}{σ:St}{H:Hp}{s:Shared}{a C dx:Addr}{fs:List (Str×V)}{f:Str}{v:V}{A:Around}{E:Value->Shared->Prop}
theorem Ba{b:Bool}{Q:Value->Shared->Prop}(I:Inv X pins σ H s)(e:H a=some (.ins C dx fs))(c:kq X.K C)(n:eJ X.K C f)(l:fs.lookup f=some v)
 (h:∀u s',Inv X pins σ H s'->RelV v u->Q u s'):wpAny (model X.prog X.w) A (getAttr (.ref a) f b) Q E s:=by
 obtain⟨mA,O,r,_,_,_⟩:=gf I.aC e;obtain⟨u,hu,ru⟩:=kU.some_of (v:=v) (o:=mA f) (by rw[<-l];exact r f);exact get_map I.fh O (c.get f) c.hd n hu (C9 ru) (h u _ (I.tok _) ru)
theorem Ae{m:Str}{g:Addr}{pl:Sem Bool}{Q:Value×List Value->Shared->Prop}(I:Inv X pins σ H s)(e:H a=some (.ins C dx fs))(c:kq X.K C)(k:Meth X.K C m g)(l:fs.lookup m=none)
 (h:Q (.ref g,[.ref a]) s):wpAny (model X.prog X.w) A (getMethod (.ref a) m pl) Q E s:=by
 obtain⟨mA,O,r,_,_,_⟩:=gf I.aC e;have hn:mA m=none:=kU.none_of (by rw[<-l];exact r m);exact E1 I.fh O (c.get m) k.at_ k.fn hn h
theorem zX{y:V}{u:Value}{Q:Unit->Shared->Prop}(I:Inv X pins σ H s)(e:H a=some (.ins C dx fs))(c:kq X.K C)(n:eJ X.K C f)(hl:fs.length<1000)(ry:RelV y u)
 (h:∀s',Inv X pins σ (upd H a (.ins C dx (eW f y fs))) s'->Q () s'):wpAny (model X.prog X.w) A (setAttr (.ref a) f u) Q E s:=by
 obtain⟨mA,O,r,wi,_,ho⟩:=gf I.aC e;have hz:(fs.map (·.1)).length<=sizeLine:=by rw[O8,QZ];omega
 refine fB I.fh O c.sa c.po n.Mg c.hd wi hz λ h' O' sb=>h _ ?_;have hd:∃o,h'.get? dx=some o:=let⟨o,_,_,e',_⟩:=O'.ns;⟨o,e'⟩
 refine I.write (x:=a) (e:=dx) (by rw[e];exact True.intro) (.inr ho) (λ b q hb z=>(sb.2 b hb).trans z) hd ?_;refine⟨by rw[au O.ne];exact ho,?_,O.ne,O'.obj,_,O'.ns,λ g=>?_,λ g hg=>?_⟩
 . have:=pX f y fs;omega
 . show kU ((eW f y fs).lookup g) (if g=f then some u else mA g);rw[pw];by_cases q:g=f
   . rw[O_ q,O_ q];exact ry
   . rw[O7 q,O7 q];exact r g
 . by_cases q:g=f
   . rw[q];exact(nX f y fs).1
   . refine(nX f y fs).2 g (wi g λ z=>hg ?_);show(if g=f then some u else mA g)=none;rw[O7 q];exact z
theorem Inv.made(I:Inv X pins σ H s):Inv X pins σ (upd (upd H s.heap.objs.size (.own (s.heap.objs.size+1))) (s.heap.objs.size+1) (.ins C s.heap.objs.size []))
 {s with heap:=(s.heap.push PySem.W.emptyDict).push (PySem.W.instObj C s.heap.objs.size)}:=by
 have e1:(s.heap.push PySem.W.emptyDict).get? s.heap.objs.size=some PySem.W.emptyDict:=Pt s.heap rfl
 have e2:((s.heap.push PySem.W.emptyDict).push (PySem.W.instObj C s.heap.objs.size)).get? (s.heap.objs.size+1)=some (PySem.W.instObj C s.heap.objs.size):=by
  have:=Pt (s.heap.push PySem.W.emptyDict) (o:=PySem.W.instObj C s.heap.objs.size) rfl;rwa [QE]at this
 have e3:(s.heap.push PySem.W.emptyDict).Ns s.heap.objs.size (λ _=>none):=⟨PySem.W.emptyDict,#[],_,e1,rfl,(λ e he=>absurd he (by simp)),λ _=>rfl⟩
 have I1:=I.laid (a:=s.heap.objs.size) (o:= .own (s.heap.objs.size+1)) (h':=s.heap.push PySem.W.emptyDict) (t':=s.toks) (λ b u q=>Pa _ q) (O9 _) ⟨_,e1⟩;refine I1.laid (a:=s.heap.objs.size+1) (o:= .ins C s.heap.objs.size []) (t':=s.toks) (λ b u q=>Pa _ q) (Td (QE _ _)) ?_;have ne:s.heap.objs.size≠s.heap.objs.size+1:=PB (PL _);refine⟨by rw[au ne,aG],Po _,ne,e2,λ _=>none,(Heap.Ns1.of_empty e3).at λ o q=>Pa _ q,λ _=>True.intro,λ y hy=>absurd rfl hy⟩
theorem IA{prog:Program}{w:World}{env:Env}{e:Expr}{f:Str}{pos:Pos}{s:Shared}{Q:Value->Shared->Prop}(hb:attributeBase e f env (eval e env)=eval e env)
 (h:wpAny (model prog w) A (eval e env) (λ o s₁=>wpAny (model prog w) A (getAttr o f true) Q E s₁) E s):wpAny (model prog w) A (eval (.Attribute e f pos) env) Q E s:=
 Attribute_any_ h (by rw[arm_eval_Attribute,hb])
end
def NS(K:PySem.W.Frag)(ta:TE)(f:Str):TE:=λ σ H Q=>ta σ H λ x H1=>∃a C dx fs v,x= .ref a/\H1 a=some (.ins C dx fs)/\kq K C/\eJ K C f/\fs.lookup f=some v/\Q v H1
def Oq(K:PySem.W.Frag)(ta tv:TE)(f:Str):TS:=λ D σ H=>tv σ H λ y H1=>ta σ H1 λ x H2=>∃a C dx fs,x= .ref a/\H2 a=some (.ins C dx fs)/\kq K C/\eJ K C f/\fs.length<1000/\
 D.nx σ (upd H2 a (.ins C dx (eW f y fs)))
section
variable {X:Cx}{o e value:Expr}{f:Str}{pos pos' tpos:Pos}{ta tv:TE}
theorem Kv(he:PE X e ta)(hb:attributeBase e f X.env (eval e X.env)=eval e X.env):PE X (.Attribute e f pos) (NS X.K ta f):=by
 intro pins s σ H Q I h;refine IA hb (bz (he pins s σ H _ I h) λ u s1 ⟨x,H1,I1,rx,a,C,dx,fs,v,ex,ea,c,n,l,q⟩=>?_);subst ex;obtain rfl:u=Value.ref a:=rx;exact Ba I1 ea c n l λ u' s2 I2 ru=>⟨v,H1,I2,ru,q⟩
theorem JP(ha:PE X o ta)(hv:PE X value tv)(hs:swapsWith value (some (.Attribute o f pos')) pos.line X.env=pure false):PS X (.Assign [.Attribute o f pos'] value pos) (Oq X.K ta tv f):=by
 intro pins s σ H D I h;refine plainObj_wpAny_Assign_Attribute (bz (hv pins s σ H _ I h) λ u s1 ⟨y,H1,I1,ry,q⟩=>bz (ha pins s1 σ H1 _ I1 q) λ ov s2 ⟨x,H2,I2,rx,a,C,dx,fs,ex,ea,c,n,l,q2⟩=>?_) hs;subst ex;obtain rfl:ov=Value.ref a:=rx;exact zX I2 ea c n l ry λ s3 I3=>⟨σ,_,I3,q2⟩
end
section
variable {X:Cx}{pins:List (Addr×Obj)}{σ:St}{H:Hp}{s:Shared}{A:Around}{E:Value->Shared->Prop}{Q:Value->Shared->Prop}{c:Value}{b:Bool}
inductive gv(K:PySem.W.Frag)(H:Hp):V->Value->Prop where
 |aq:gv K H .aq (.type "NoneType")
 |bl (x:Bool):gv K H (.bl x) (.type "bool")
 |int (i:Int):gv K H (.int i) (.type "int")
 |str (x:Str):gv K H (.str x) (.type "str")
 |pD (x:UInt64):gv K H (.pD x) (.type "float")
 |lst {a:Addr} {xs:List V} (e:H a=some (.lst xs)):gv K H (.ref a) (.type "list")
 |dE {a:Addr} {o:Obj} {xs:List V} (e:H a=some (.dE o (.lst xs))):gv K H (.ref a) (.type "list")
 |tup {a:Addr} {xs:List V} (e:H a=some (.tup xs)):gv K H (.ref a) (.type "tuple")
 |dK {a:Addr} {kvs:List (Key×V)} (e:H a=some (.dK kvs)):gv K H (.ref a) (.type "dict")
 |dT {a:Addr} {kvs:List (List Key×V)} (e:H a=some (.dT kvs)):gv K H (.ref a) (.type "dict")
 |ins {a C dx:Addr} {fs:List (Str×V)} (e:H a=some (.ins C dx fs)) (cl:kq K C) (ha:PySem.W.findIn K (.ref C) "__class__"=some (some (.builtin "object.__class__")))
   (hn:PySem.W.specialIn K (.builtin "object.__class__") "__get__"=some (some (.builtin "getset_descriptor.__get__"))) (htk:PySem.W.takesIn K (.builtin "object.__class__")=some true)
   (hm:PySem.W.mroIn K C (.type "object")=some true):gv K H (.ref a) (.ref C)
theorem Bb{x:V}{u t:Value}(I:Inv X pins σ H s)(rx:RelV x u)(ty:gv X.K H x t)(e:PySem.W.kitOne X.K t c=some b)(h:∀tk,Q (.bool b) {s with toks:=tk}):
 wpAny (model X.prog X.w) A (call (.builtin "isinstance") [u,c]) Q E s:=by
 cases ty with
 |aq=>cases (show u=Value.none from rx);exact QN PySem.W.kitx_none I.fh True.intro e (λ z=>nomatch z) h
 |bl y=>cases (show u=Value.bool y from rx);exact QN PySem.W.kitx_bool I.fh True.intro e (λ z=>nomatch z) h
 |int i=>obtain⟨t,q⟩:=(show∃t,u=Value.int i t from rx);cases q;exact QN PySem.W.kitx_int I.fh True.intro e (λ z=>nomatch z) h
 |str y=>obtain⟨t,q⟩:=(show∃t,u=Value.str y t from rx);cases q;exact QN PySem.W.kitx_str I.fh True.intro e (λ z=>nomatch z) h
 |pD y=>obtain⟨t,q⟩:=(show∃t,u=Value.float y t from rx);cases q;exact QN PySem.W.kitx_float I.fh True.intro e (λ z=>nomatch z) h
 | @lst a xs ea=>
   cases (show u=Value.ref a from rx);obtain⟨_,_,n,_,h1⟩:=(show cw X.prog X.w H s.heap a (.lst xs)from I.aC a _ ea)
   exact QN SI I.fh ⟨_,h1,rfl⟩ e (λ z=>nomatch z) h
 | @dE a ob xs ea=>
   cases (show u=Value.ref a from rx);obtain⟨_,_,_,n,_,h1⟩:=(show cw X.prog X.w H s.heap a (.dE ob (.lst xs))from I.aC a _ ea)
   exact QN SI I.fh ⟨_,h1,rfl⟩ e (λ z=>nomatch z) h
 | @tup a xs ea=>
   cases (show u=Value.ref a from rx);obtain⟨_,_,_,p⟩:=(show cw X.prog X.w H s.heap a (.tup xs)from I.aC a _ ea)
   obtain⟨o,h1,h2,_⟩:=p;exact QN PySem.W.kitx_tuple I.fh ⟨o,h1,h2⟩ e (λ z=>nomatch z) h
 | @dK a kvs ea=>
   cases (show u=Value.ref a from rx);obtain⟨_,_,vs,_,p⟩:=(show cw X.prog X.w H s.heap a (.dK kvs)from I.aC a _ ea)
   obtain⟨o,es,ep,h1,h2,_⟩:=p;exact QN SJ I.fh ⟨o,h1,h2.1⟩ e (λ z=>nomatch z) h
 | @dT a kvs ea=>
   cases (show u=Value.ref a from rx);obtain⟨_,_,xs,_,o,es,ep,h1,h2,_⟩:=(show cw X.prog X.w H s.heap a (.dT kvs)from I.aC a _ ea)
   exact QN SJ I.fh ⟨o,h1,h2.1⟩ e (λ z=>nomatch z) h
 | @ins a C dx fs ea cl ha hn htk hm=>
   cases (show u=Value.ref a from rx);obtain⟨mA,O,_⟩:=gf I.aC ea;obtain⟨od,J,_⟩:=O.look;exact QN (PySem.W.kitx_own (cl.get _) cl.hd ha hn htk hm) I.fh J e (λ z=>nomatch z) h
end
structure bV(k:Nat)(A:Around):Prop where
 hd:A.handled=none
 dp:A.depth+3*k+105<recursionLimit
 un:A.units+16*k+200<cLine
theorem bV.mono{j k:Nat}{A:Around}(r:bV k A)(h:j<=k):bV j A:=⟨r.hd,by have:=r.dp;omega,by have:=r.un;omega⟩
theorem bV.deeper{k:Nat}{A:Around}(r:bV (k+1) A)(env:Env):bV k (A.deeper env):=
 ⟨r.hd,by have:=r.dp;show A.depth+1+3*k+105<_;omega,by have:=r.un;show A.units+3+16*k+200<_;omega⟩
theorem AB{A:Around}{C:Addr}{us:List Value}{kw:List (Str×Value)}:(A.under (.builtin "type.__call__" ⟨.ref C::us,kw⟩)).depth=A.depth+1:=by
 first|rfl|simp[Around.under,Code.weight,Code.isCreation,Code.isGuard,Code.isCaller,Code.frames,Code.isFrame,guardIds]
theorem zQ{A:Around}{C:Addr}{us:List Value}{kw:List (Str×Value)}:(A.under (.builtin "type.__call__" ⟨.ref C::us,kw⟩)).units=A.units+1:=by
 first|rfl|simp[Around.under,Code.cUnits,Code.frames,Code.isFrame]
theorem bV.make{k:Nat}{A:Around}(r:bV (k+1) A)(C:Addr)(us:List Value)(kw:List (Str×Value)):bV k (A.under (.builtin "type.__call__" ⟨.ref C::us,kw⟩)):=
 ⟨r.hd,by have:=r.dp;rw[AB];omega,by have:=r.un;rw[zQ];omega⟩
theorem bV.depth{k:Nat}{A:Around}(r:bV k A):A.depth<recursionLimit:=by have:=r.dp;omega
theorem bV.units{k:Nat}{A:Around}(r:bV k A):A.units+64<cLine:=by have:=r.un;omega
def NF:TA:=λ _ H Q=>Q [] H
def LQ(ta:TE)(tr:TA):TA:=λ σ H Q=>ta σ H λ x H1=>tr σ H1 λ xs H2=>Q (x::xs) H2
section
variable {X:Cx}{e:Expr}{es:List Expr}{te:TE}{t:TA}{pos:Pos}
theorem CG:PA X [] NF:=λ _ _ _ _ H Q I h=>Calls.spliced_nil ⟨[],H,I,.nil,h⟩
theorem yP(ha:PE X e te)(hr:PA X es t)(hs:starEach (e::es) X.env=(false,eval e X.env)::starEach es X.env:=by rfl):PA X (e::es) (LQ te t):=by
 intro pos pins s σ H Q I h;rw[hs];show wpAny _ _ (spliced ((false,eval e X.env)::backTo pos (starEach es X.env))) _ _ s;refine Calls.spliced_cons (bz (ha pins s σ H _ I h) λ u s1 ⟨x,H1,I1,r1,q1⟩=>?_);exact bz (hr pos pins s1 σ H1 _ I1 q1) λ us s2 ⟨xs,H2,I2,r2,q2⟩=>⟨x::xs,H2,I2,.cons r1 r2,q2⟩
def NI(t:TA):TE:=λ σ H Q=>t σ H λ xs H1=>xs.length<=sizeLine/\∀p,H1 p=none->Q (.ref p) (upd H1 p (.tup xs))
def Oj(t:TA):TE:=λ σ H Q=>t σ H λ xs H1=>xs.length<=sizeLine/\∀p,H1 p=none->Q (.ref p) (upd H1 p (.lst xs))
theorem IM{x1}(h:PA X es t):PE X (.Tuple es x1 pos) (NI t):=by
 intro pins s σ H Q I hq;refine wpAny_Tuple_spliced (bz (h pos pins s σ H _ I hq) λ us s1 ⟨xs,H1,I1,r,z,q⟩=>⟨by rw[<-r.length];exact z,?_⟩);have hf:H1 s1.heap.objs.size=none:=I1.aC.fresh (O9 _);refine⟨.ref s1.heap.objs.size,upd H1 s1.heap.objs.size (.tup xs),I1.laid (t':=s1.toks) (λ b u e=>Pa _ e) (O9 _) ?_,rfl,q _ hf⟩;exact⟨z,us,r,⟨_,Pt _ rfl,rfl,_,rfl⟩⟩
theorem Bw(h:PA X es t):PE X (.List es pos) (Oj t):=by
 intro pins s σ H Q I hq;refine wpAny_List_spliced (bz (h pos pins s σ H _ I hq) λ us s1 ⟨xs,H1,I1,r,z,q⟩=>⟨by rw[<-r.length];exact z,?_⟩);have hf:H1 s1.heap.objs.size=none:=I1.aC.fresh (O9 _);refine⟨.ref s1.heap.objs.size,upd H1 s1.heap.objs.size (.lst xs),I1.laid (t':=s1.toks) (λ b u e=>Pa _ e) (O9 _) ?_,rfl,q _ hf⟩;exact⟨z,us,0,r,Pt _ rfl⟩
end
abbrev Sp:=List V->Hp->VK->XK->Prop
abbrev pk:=List Env->Hp->Shared->XK->Value->Shared->Prop
structure qw(P:Program)(w:World)(K:PySem.W.Frag)(mg:Str->Option Value)(base:Heap)(A:Around)(outer:List Env)(s:Shared)(H:Hp):Prop where
 frames:A.frames=some outer
 mod:Mod K mg base
 bs:∀b o,base.get? b=some o->s.heap.get? b=some o/\H b=none
 nA:base.objs.size<=s.heap.objs.size
 ik:s.heap.FunFrames base outer
 qW:∀b∈mf outer,H b=none
 aC:fA P w H s.heap
 bare:AllBare s.gens
 gt:P.given.tree=none
def CE(outer:List Env)(P:Program)(w:World)(H:Hp)(s:Shared)(Q:VK)(u:Value)(s':Shared):Prop:=
 ∃v H',s'.os=s.os/\AllBare s'.gens/\Un (mf outer) [] H H' s.heap s'.heap/\fA P w H' s'.heap/\RelV v u/\Q v H'
def CR(CX:pk)(outer:List Env)(P:Program)(w:World)(H:Hp)(s:Shared)(Q:VK)(E:XK)(r:Result)(s':Shared):Prop:=
 match r with
 | .ok (.ret u)=>CE outer P w H s Q u s'
 | .ok _=>False
 | .error e=>CX outer H s E e s'
structure c_(P:Program)(w:World)(K:PySem.W.Frag)(mg:Str->Option Value)(base:Heap)(CX:pk)(k:Nat)(f:Addr)(fd:FuncData)(ps:List Str)(sp:Sp):Prop where
 len:∀vs H Q E,sp vs H Q E->vs.length=ps.length
 run:∀(A:Around) (outer:List Env) (s:Shared) (H:Hp) (args:Args) (us:List Value) (vs:List V) (Q:VK) (E:XK),bV k A->qw P w K mg base A outer s H->BindsTo s fd args (ps.zip us)->Vals vs us->sp vs H Q E->
  codeAny (model P w) A (.call (.ref f) args) (CR CX outer P w H s Q E) s
theorem c_.imp{P:Program}{w:World}{K:PySem.W.Frag}{mg:Str->Option Value}{base:Heap}{CX:pk}{k:Nat}{f:Addr}{fd:FuncData}{ps:List Str}{sp sp':Sp}(F:c_ P w K mg base CX k f fd ps sp)
 (h:∀vs H Q E,sp' vs H Q E->sp vs H Q E):c_ P w K mg base CX k f fd ps sp':=
 ⟨λ vs H Q E q=>F.len vs H Q E (h _ _ _ _ q),λ A outer s H args us vs Q E hr he hb hv hs=>F.run A outer s H args us vs Q E hr he hb hv (h _ _ _ _ hs)⟩
theorem qw.make{P:Program}{w:World}{K:PySem.W.Frag}{mg:Str->Option Value}{base:Heap}{A:Around}{outer:List Env}{s:Shared}{H:Hp}(e:qw P w K mg base A outer s H)(C:Addr)(us:List Value)(kw:List (Str×Value)):
 qw P w K mg base (A.under (.builtin "type.__call__" ⟨.ref C::us,kw⟩)) outer s H:=⟨by first|exact e.frames|(simpa[Around.under,Code.envs,Code.isFrame,pushEnvs]using e.frames),e.mod,e.bs,e.nA,e.ik,e.qW,e.aC,e.bare,e.gt⟩
section
variable {X:Cx}{pins:List (Addr×Obj)}{σ:St}{H:Hp}{s s':Shared}
theorem Inv.Jh(I:Inv X pins σ H s):qw X.prog X.w X.K X.mg X.base X.A X.stack s H:=
 ⟨I.ok.frames,I.ok.mod,I.bs,Pe I.ok.nA I.sz,I.stack,I.tD,I.aC,I.bare,I.ok.gt⟩
theorem Inv.after{Q:VK}{u:Value}(I:Inv X pins σ H s)(h:CE X.stack X.prog X.w H s Q u s'):EP X pins σ Q u s':=by
 obtain⟨v,H',os,bare,un,aC,r,q⟩:=h;obtain⟨hh,g,d,t,os'⟩:=s';obtain rfl:os'=s.os:=os;exact⟨v,H',I.call (h':=hh) (g':=g) (d':=d) (t':=t) (ch:=[]) un aC bare (λ b z=>absurd z (by simp)),r,q⟩
end
def FV(sp:Sp)(dvs:List V)(E:XK)(t:TA):TE:=λ σ H Q=>t σ H λ vs H1=>sp (vs++dvs) H1 Q E
def Gx(C:Addr)(m:Str)(sp:Sp)(dvs:List V)(E:XK)(ta:TE)(t:TA):TE:=λ σ H Q=>ta σ H λ x H1=>∃a dx fs,x= .ref a/\H1 a=some (.ins C dx fs)/\fs.lookup m=none/\
 t σ H1 λ vs H2=>sp (x::(vs++dvs)) H2 Q E
def Fm(C:Addr)(sp:Sp)(dvs:List V)(E:XK)(t:TA):TE:=λ σ H Q=>t σ H λ vs H1=>∀x dx,H1 x=none->H1 dx=none->dx≠x->
 sp (.ref x::(vs++dvs)) (upd (upd H1 dx (.own x)) x (.ins C dx [])) (λ v H2=>v= .aq/\Q (.ref x) H2) E
def Binds(K:PySem.W.Frag)(fd:FuncData)(ps:List Str)(ds:List Value):Prop:=
 ∀(s:Shared) (us:List Value),K.In s.heap->(us++ds).length=ps.length->BindsTo s fd ⟨us,[]⟩ (ps.zip (us++ds))
theorem Binds.all{K:PySem.W.Frag}{fd:FuncData}{ps:List Str}(h:∀us:List Value,us.length=ps.length->bindArgs fd ⟨us,[]⟩=pure (ps.zip us)):Binds K fd ps []:=λ s us _ hl=>by
 rw[QO]at hl⊢;exact .of_eq (h us hl)
def Passes(CX:pk)(X:Cx)(E:XK):Prop:=∀(pins:List (Addr×Obj)) (σ:St) (H:Hp) (s:Shared) (e:Value) (s':Shared),Inv X pins σ H s->CX X.stack H s E e s'->X.xe e s'
section
variable {X:Cx}{CX:pk}{k:Nat}{f C:Addr}{fd:FuncData}{ps:List Str}{sp:Sp}{dvs:List V}{ds:List Value}{E:XK}{x m:Str}{p pos apos:Pos}{e o:Expr}{es:List Expr}{ta:TE}{t:TA}
theorem Cr{pins:List (Addr×Obj)}{σ:St}{H:Hp}{s:Shared}{Q:VK}{us:List Value}{vs:List V}(F:c_ X.prog X.w X.K X.mg X.base CX k f fd ps sp)(hr:bV k X.A)(hb:Binds X.K fd ps ds)(hd:Vals dvs ds)(hx:Passes CX X E)
 (I:Inv X pins σ H s) (r:Vals vs us) (h:sp (vs++dvs) H Q E):wpAny (model X.prog X.w) X.A (call (.ref f) us) (EP X pins σ Q) X.xe s:=by
 have r2:Vals (vs++dvs) (us++ds):=r.append hd;have hl:(us++ds).length=ps.length:=by rw[<-r2.length];exact F.len _ _ _ _ h
 refine U0 (Sn (F.run X.A X.stack s H ⟨us,[]⟩ (us++ds) (vs++dvs) Q E hr I.Jh (hb s us I.fh hl) r2 h) λ r s' hq=>?_);cases r with
 |error e=>exact hx pins σ H s e s' I hq
 |ok fl=>
  cases fl with
  |ret u=>exact I.after hq
  |next=>exact False.elim hq
  |brk=>exact False.elim hq
  |cont=>exact False.elim hq
theorem GV(F:c_ X.prog X.w X.K X.mg X.base CX k f fd ps sp)(hr:bV k X.A)(hg:Gl X x)(hm:X.mg x=some (.ref f))(hk:PySem.W.keepIn X.K (.ref f)=true)(hb:Binds X.K fd ps ds)(hd:Vals dvs ds)(hx:Passes CX X E)
 (ha:PA X (e::es) t) (hdb:(x==("__debug__":Str))=false:=by decide) (he:starEach (e::es) X.env=(false,eval e X.env)::starEach es X.env:=by rfl) (hpl:(backTo pos (starEach es X.env)).any (·.1)=false:=by rfl):
 PE X (.Call (.Name x p) (e::es) [] pos) (FV sp dvs E t):=by
 intro pins s σ H Q I h;refine RU (yN I hg hm ?_ hdb);refine TC (h₀:=X.base) I.ok.mod.CZ hk (bz (ha pos pins s σ H _ I h) λ us s1 ⟨vs,H1,I1,r,q⟩=>⟨I1.fh,?_⟩) he hpl;exact Cr F hr hb hd hx I1 r q
theorem HQ{pl:Sem Bool}(he:PE X o ta)(c:kq X.K C)(hm:Meth X.K C m f)(F:c_ X.prog X.w X.K X.mg X.base CX k f fd ps sp)(hr:bV k X.A)(hb:Binds X.K fd ps ds)(hd:Vals dvs ds)(hx:Passes CX X E)(ha:PA X (e::es) t)
 (hst:starEach (e::es) X.env=(false,eval e X.env)::starEach es X.env:=by rfl) (hpl:(backTo pos (starEach es X.env)).any (·.1)=false:=by rfl)
 (ht:eval (.Call (.Attribute o m apos) (e::es) [] pos) X.env=(do
   let ov <-eval o X.env
   standAt apos.atName
   let(f,first) <-holding [ov] (getMethod ov m pl)
   callWith pos f first (backTo pos (starEach (e::es) X.env)) (backToKw pos (keywordEach [] X.env))):=by rfl):
 PE X (.Call (.Attribute o m apos) (e::es) [] pos) (Gx C m sp dvs E ta t):=by
 intro pins s σ H Q I h;refine PySem.W.methodCall_KW (pl:=pl) (bz (he pins s σ H _ I h) λ u s1 ⟨x,H1,I1,rx,a,dx,fs,ex,ea,l,q⟩=>?_) ht;subst ex;obtain rfl:u=Value.ref a:=rx;refine Ae I1 ea c hm l ?_;refine TC (first:=[.ref a]) (h₀:=X.base) I.ok.mod.CZ hm.kp (bz (ha pos pins s1 σ H1 _ I1 q) λ us s2 ⟨vs,H2,I2,r,q2⟩=>⟨I2.fh,?_⟩) hst hpl;exact Cr (us:= .ref a::us) (vs:= .ref a::vs) F hr hb hd hx I2 (.cons rfl r) q2
structure Mk(K:PySem.W.Frag)(C f:Addr):Prop where
 makes:PySem.W.makesIn K C=true
 init:PySem.W.findIn K (.ref C) "__init__"=some (some (.ref f))
 fn:PySem.W.isFn K (.ref f)=true
 kp:PySem.W.keepIn K (.ref C)=true
theorem Ep{pins:List (Addr×Obj)}{σ:St}{H:Hp}{s:Shared}{Q:VK}{us:List Value}{vs:List V}(M:Mk X.K C f)(F:c_ X.prog X.w X.K X.mg X.base CX k f fd ps sp)(hr:bV (k+1) X.A)(hb:Binds X.K fd ps ds)(hd:Vals dvs ds)
 (hx:Passes CX X E) (I:Inv X pins σ H s) (r:Vals vs us)
 (h:∀x dx,H x=none->H dx=none->dx≠x->sp (.ref x::(vs++dvs)) (upd (upd H dx (.own x)) x (.ins C dx [])) (λ v H2=>v= .aq/\Q (.ref x) H2) E):
 wpAny (model X.prog X.w) X.A (call (.ref C) us) (EP X pins σ Q) X.xe s:=by
 have hq:=h (s.heap.objs.size+1) s.heap.objs.size (I.aC.fresh (Si _)) (I.aC.fresh (O9 _)) (PB (PL _));have I2:=Inv.made (C:=C) I;have r2:Vals (V.ref (s.heap.objs.size+1)::(vs++dvs)) (Value.ref (s.heap.objs.size+1)::(us++ds)):= .cons rfl (r.append hd)
 have hl:(Value.ref (s.heap.objs.size+1)::us++ds).length=ps.length:=by
  have e:=r2.length;rw[F.len _ _ _ _ hq]at e;exact e.symm
 refine U0 (EN (f:=f) I.fh M.makes M.init (QV.mp M.fn) (Sn (F.run _ X.stack _ _ ⟨Value.ref (s.heap.objs.size+1)::us,[]⟩ (Value.ref (s.heap.objs.size+1)::(us++ds)) _ _ E (hr.make C us [])
  (I2.Jh.make C us []) (hb _ (Value.ref (s.heap.objs.size+1)::us) I2.fh hl) r2 hq) λ r s' hq'=>?_))
 cases r with
 |error e=>exact hx pins σ _ _ e s' I2 hq'
 |ok fl=>
  cases fl with
  |ret u=>
   obtain⟨v,H',I3,rv,ev,q3⟩:=I2.after hq';subst ev;exact⟨rv,⟨V.ref (s.heap.objs.size+1),H',I3,rfl,q3⟩⟩
  |next=>exact False.elim hq'
  |brk=>exact False.elim hq'
  |cont=>exact False.elim hq'
theorem Hr(M:Mk X.K C f)(F:c_ X.prog X.w X.K X.mg X.base CX k f fd ps sp)(hr:bV (k+1) X.A)(hg:Gl X x)(hm:X.mg x=some (.ref C))(hb:Binds X.K fd ps ds)(hd:Vals dvs ds)(hx:Passes CX X E)
 (ha:PA X (e::es) t) (hdb:(x==("__debug__":Str))=false:=by decide) (he:starEach (e::es) X.env=(false,eval e X.env)::starEach es X.env:=by rfl) (hpl:(backTo pos (starEach es X.env)).any (·.1)=false:=by rfl):
 PE X (.Call (.Name x p) (e::es) [] pos) (Fm C sp dvs E t):=by
 intro pins s σ H Q I h;refine RU (yN I hg hm ?_ hdb);refine TC (h₀:=X.base) I.ok.mod.CZ M.kp (bz (ha pos pins s σ H _ I h) λ us s1 ⟨vs,H1,I1,r,q⟩=>⟨I1.fh,?_⟩) he hpl;exact Ep M F hr hb hd hx I1 r q
end
section
variable {X:Cx}{CX:pk}{k:Nat}{f C:Addr}{fd:FuncData}{ps ks:List Str}{sp:Sp}{E:XK}{x m:Str}{p pos apos kpos:Pos}{e o:Expr}{es:List Expr}{kws:List Keyword}{te ta:TE}{t tk:TA}{nm:Option Str}
variable {g:List Value->List Value->List Value}{gV:List V->List V->List V}
end
structure iU(N P:List Str)(sc:Scope):Prop where
 kind:sc.kind= .function
 co:sc.isCoroutine=false
 gen:sc.isGenerator=false
 nd:N.Nodup
 pre:N.take P.length=P
 par:∀x∈P,sc.names.lookup x=some .local\/sc.names.lookup x=some .cell
 IF:∀y∈sc.names,y.2≠ .free
theorem tZ{kindOf:Str->Option NameKind}{x:Str}:∀ {binds:List (Str×Value)} {m:Str->Option Value},(∀v,(x,v)∉binds)->bindL kindOf binds m x=m x
 | [],_,_=>rfl
 |(n,v)::r,m,h=>by
  unfold bindL;rw[tZ λ w hw=>h w (Pn _ hw)];split
  . have:x≠n:=by rintro rfl;exact h v Pw
    simp[this]
  . rfl
theorem uc{kindOf:Str->Option NameKind}{x:Str}:∀ {binds:List (Str×Value)} {m:Str->Option Value},(∀v,(x,v)∉binds)->bindC kindOf binds m x=m x
 | [],_,_=>rfl
 |(n,v)::r,m,h=>by
  unfold bindC;rw[uc λ w hw=>h w (Pn _ hw)];split
  . rfl
  . have:x≠n:=by rintro rfl;exact h v Pw
    simp[this]
theorem tT{kindOf:Str->Option NameKind}{x:Str}{v:Value}:∀ {P:List Str} {vs:List Value} {i:Nat} {m:Str->Option Value},P.Nodup->P[i]?=some x->vs[i]?=some v->kindOf x=some .local->
 bindL kindOf (P.zip vs) m x=some v
 | [],_,_,_,_,h,_,_=>by simp at h
 |_::_,[],_,_,_,_,h,_=>by simp at h
 |p::P,w::vs,0,m,nd,h1,h2,hk=>by
  simp at h1 h2;subst h1;subst h2;show bindL kindOf ((p,w)::P.zip vs) m p=_;unfold bindL;rw[tZ λ v hv=>(RC.mp nd).1 (Te hv).1,O_ hk];simp
 |p::P,w::vs,i+1,m,nd,h1,h2,hk=>by
  show bindL kindOf ((p,w)::P.zip vs) m x=_;unfold bindL;exact tT (i:=i) (RC.mp nd).2 (by simpa using h1) (by simpa using h2) hk
theorem uH{kindOf:Str->Option NameKind}{x:Str}{v:Value}:∀ {P:List Str} {vs:List Value} {i:Nat} {m:Str->Option Value},P.Nodup->P[i]?=some x->vs[i]?=some v->kindOf x≠some .local->
 bindC kindOf (P.zip vs) m x=some v
 | [],_,_,_,_,h,_,_=>by simp at h
 |_::_,[],_,_,_,_,h,_=>by simp at h
 |p::P,w::vs,0,m,nd,h1,h2,hk=>by
  simp at h1 h2;subst h1;subst h2;show bindC kindOf ((p,w)::P.zip vs) m p=_;unfold bindC;rw[uc λ v hv=>(RC.mp nd).1 (Te hv).1,O7 hk];simp
 |p::P,w::vs,i+1,m,nd,h1,h2,hk=>by
  show bindC kindOf ((p,w)::P.zip vs) m x=_;unfold bindC;exact uH (i:=i) (RC.mp nd).2 (by simpa using h1) (by simpa using h2) hk
def start(N:List Str)(vs:List V):St:=vs.map some++List.replicate (N.length-vs.length) none
def ly(CX:pk)(P:Program)(w:World)(K:PySem.W.Frag)(mg:Str->Option Value)(base:Heap)(N:List Str)(qual:Str)(scope:Scope)(f:Addr)(cd:Value)(A:Around)(outer:List Env)(s:Shared)(H:Hp)(E:XK):Cx where
 prog:=P
 w:=w
 K:=K
 mg:=mg
 base:=base
 A:=A.deeper (envOfC qual scope s.heap.objs.size f cd)
 N:=N
 s₀:=s
 H₀:=H
 env:=envOfC qual scope s.heap.objs.size f cd
 outer:=outer
 stack:=envOfC qual scope s.heap.objs.size f cd::outer
 ex:=[]
 calm:=true
 fn:=λ _=>true
 pn:=[]
 xe:=λ e s'=>wpAny (model P w) (A.deeper (envOfC qual scope s.heap.objs.size f cd)) (leaving (envOfC qual scope s.heap.objs.size f cd) e) (λ _ s''=>CX outer H s E e s'') (λ e' s''=>CX outer H s E e' s'') s'
theorem wQ{sc:Scope}{n:Nat}{x:Str}(h:sc.names.lookup x=some .cell):∃c,(cellsFrom n sc.names []).lookup x=some c:=by
 have q:=Rn sc.names n [] (.inl h);exact RN.mp q
theorem CT{CX:pk}{P:Program}{w:World}{K:PySem.W.Frag}{mg:Str->Option Value}{base:Heap}{N ps:List Str}{qual:Str}{scope:Scope}{f:Addr}{cd:Value}{A:Around}{outer:List Env}{s s1:Shared}{H:Hp}{E:XK}{us:List Value}{vs:List V}
 (S:iU N ps scope) (hd:A.handled=none) (e0:qw P w K mg base A outer s H) (hl:vs.length=ps.length) (r:Vals vs us)
 (x:InCallC s s.heap.objs.size (bindL (envOfC qual scope s.heap.objs.size f cd).kindOf (ps.zip us) λ _=>none) (cellsFrom (s.heap.objs.size+1) scope.names []) (bindC (envOfC qual scope s.heap.objs.size f cd).kindOf (ps.zip us) λ _=>none) s1):
 Inv (ly CX P w K mg base N qual scope f cd A outer s H E) [] (start N vs) H s1:=by
 have hpl:ps.length<=N.length:=by have:=RD List.length S.pre;rw[P_]at this;omega
 obtain⟨h1,tk,rfl,hk⟩:=x.done;have noA:∀b:Addr,b∉(ly CX P w K mg base N qual scope f cd A outer s H E).ex:=λ b z=>absurd (show b∈([]:List Addr)from z) (by simp)
 refine⟨⟨e0.mod,S.kind,rfl,rfl,O9 _,λ y z c h1 h2=>?_,λ y hy=>?_,λ y c _ h=>?_,λ _=>hd,Around.frames_deeper e0.frames,.inr ⟨rfl,rfl⟩,λ b z=>absurd z (noA b),e0.bs,e0.nA,λ b _ _=>noA b,λ b z=>absurd z (noA b),e0.ik,e0.qW,e0.gt⟩,
  rfl,e0.bare,Un.kept hk,⟨_,x.toInCall.ns,λ i y v h1 h2 h3=>?_⟩,λ y c h=>⟨_,x.cell y c h⟩,e0.aC.fresh (O9 _),λ y c h=>?_,λ p hp=>absurd (show p∈([]:List (Addr×Obj))from hp) (by simp),e0.aC.kept hk,?_⟩
 . exact name_of_addr x.apart (Qf h1) (Qf h2)
 . have hy:scope.names.lookup y=some .cell\/scope.names.lookup y=some .free:=hy;rcases hy with hy|hy
   . exact wQ hy
   . exact absurd rfl (S.IF _ (Qf hy))
 . exact QK (x.above y c (Qf h))
 . have hi:i<vs.length:=by
    unfold start at h2;by_cases hi:i<vs.length
    . exact hi
    . rw[PH (by simpa using hi)]at h2;rw[Us]at h2;split at h2<;>cases h2
   have ha:vs[i]?=some v:=by
    unfold start at h2;rw[Pd (by simpa using hi),PD]at h2;cases e:vs[i]? with
    |none=>rw[e]at h2;cases h2
    |some a=>rw[e]at h2;cases h2;rfl
   obtain⟨u,hu,rv⟩:=r.get ha
   have hp:ps[i]?=some y:=by
    rw[<-S.pre,So (by omega)];exact h1
   have ndP:ps.Nodup:=by rw[<-S.pre];exact S.nd.sublist (List.take_sublist _ _)
   refine⟨u,rv,?_⟩;rcases S.par y (PM hp)with k|k
   . exact .inl ⟨k,tT ndP hp hu k⟩
   . obtain⟨c,e⟩:=wQ (n:=s.heap.objs.size+1) k;refine .inr ⟨.inl k,c,e,?_⟩;have q:=x.cell y c e;rw[uH ndP hp hu (by show scope.names.lookup y≠_;rw[k];decide)]at q;exact q
 . exact e0.aC.fresh (QK (x.above y c (Qf h)))
 . unfold start;show _=N.length;rw[Py,O8,List.length_replicate];omega
theorem F8{CX:pk}{P:Program}{w:World}{K:PySem.W.Frag}{mg:Str->Option Value}{base:Heap}{k:Nat}{f:Addr}{name qual:Str}{params:Arguments}{body:List Stmt}{scope:Scope}{dV kV doc pm cdv ct oc:Value}{an od:Option Addr}
 {osl:Array (Option Value)} {N ps:List Str} {sp:Sp} (lk:K.lookup f=some ⟨oc,od,.func (PySem.W.fnOf name qual params body scope dV kV doc pm an cdv ct),osl⟩) (hcd:PySem.W.codeIn K cdv qual=true) (S:iU N ps scope)
 (len:∀vs H Q E,sp vs H Q E->vs.length=ps.length)
 (hbody:∀(A:Around) (outer:List Env) (s:Shared) (H:Hp) (vs:List V) (Q:VK) (E:XK),bV k (A.deeper (envOfC qual scope s.heap.objs.size f cdv))->sp vs H Q E->
   ∃t,fg (ly CX P w K mg base N qual scope f cdv A outer s H E) body t/\t {nx:=λ _ H'=>Q .aq H',rt:=Q} (start N vs) H):
 c_ P w K mg base CX (k+1) f (PySem.W.fnOf name qual params body scope dV kV doc pm an cdv ct) ps sp:=by
 refine⟨len,λ A outer s H args us vs Q E hr e0 hb r hsp=>?_⟩;have hl:=len _ _ _ _ hsp;have KX:K.In s.heap:=e0.mod.CZ.keeps λ b o e=>(e0.bs b o e).1;have lim:s.heap.NoLimit:=e0.mod.nolimit.keeps λ b o e=>(e0.bs b o e).1
 have hkind:∀y∈ps.zip us,scope.names.lookup y.1=some .local\/(scope.names.lookup y.1=some .cell/\((cellsFrom (s.heap.objs.size+1) scope.names []).lookup y.1).isSome=true):=λ⟨n,v⟩ hy=>by
  rcases S.par n (Te hy).1 with q|q
  . exact .inl q
  . exact .inr ⟨q,Rn _ _ _ (.inl q)⟩
 refine codeAny_call_function hr.depth (KX _ _ lk) rfl S.co S.gen rfl (PySem.W.codeRec_of KX hcd) (hb _ _ _ _ ?_);refine wpAny_newFunctionEnv_cells S.kind hkind λ env he s1 x=>?_;subst he;refine⟨lim.keeps x.toInCall.keep,codeAny_func ?_⟩;obtain⟨t,ht,hq⟩:=hbody A outer s H vs Q E (hr.deeper _) hsp;have I:Inv (ly CX P w K mg base N qual scope f cdv A outer s H E) [] (start N vs) H s1:=CT S hr.hd e0 hl r x;refine Q7 (ht [] s1 (start N vs) H _ I hq) (λ fl s' hs=>?_) λ e s' hs=>hs
 have fin:∀ {σ':St} {H':Hp} {v:V} {u:Value},Inv (ly CX P w K mg base N qual scope f cdv A outer s H E) [] σ' H' s'->RelV v u->Q v H'->CE outer P w H s Q u s':=
  λ{σ' H' v u} J rv q=>⟨v,H',J.os,J.bare,J.base,J.aC,rv,q⟩
 cases fl with
 |ret u=>
  obtain⟨v,σ',H',J,rv,q⟩:=hs;exact fin J rv q
 |next=>
  obtain⟨σ',H',J,q⟩:=hs;exact fin (v:=V.aq) (u:=Value.none) J rfl q
 |brk=>
  obtain⟨_,_,_,q⟩:=hs;exact False.elim q
 |cont=>
  obtain⟨_,_,_,q⟩:=hs;exact False.elim q
section
variable {X:Cx}{x:Str}{p pos:Pos}{e:Expr}{es:List Expr}{t:TA}{id T:String}{r:List V->Hp->VK->Prop}
def IU(r:List V->Hp->VK->Prop)(t:TA):TE:=λ σ H Q=>t σ H λ vs H1=>r vs H1 Q
theorem xg(hc:aZ X (.builtin id) r)(hg:Gl X x)(hm:X.mg x=none)(hv:bootBuiltins x=some (.builtin id))(ha:PA X (e::es) t)(hn:x≠"__name__":=by decide)(hdb:(x==("__debug__":Str))=false:=by decide)
 (he:starEach (e::es) X.env=(false,eval e X.env)::starEach es X.env:=by rfl) (hpl:(backTo pos (starEach es X.env)).any (·.1)=false:=by rfl):PE X (.Call (.Name x p) (e::es) [] pos) (IU r t):=by
 intro pins s σ H Q I h;refine RU (je I hg hm hv ?_ hn hdb);exact PyProof.Rows.callWith_builtin1 (bz (ha pos pins s σ H _ I h) λ us s1 ⟨vs,H1,I1,r1,q1⟩=>hc pins s1 σ H1 vs us Q I1 r1 q1) he hpl
theorem uh(hc:aZ X (.type T) r)(hg:Gl X x)(hm:X.mg x=none)(hv:bootBuiltins x=some (.type T))(ha:PA X (e::es) t)(hn:x≠"__name__":=by decide)(hdb:(x==("__debug__":Str))=false:=by decide)
 (he:starEach (e::es) X.env=(false,eval e X.env)::starEach es X.env:=by rfl) (hpl:(backTo pos (starEach es X.env)).any (·.1)=false:=by rfl):PE X (.Call (.Name x p) (e::es) [] pos) (IU r t):=by
 intro pins s σ H Q I h;refine RU (je I hg hm hv ?_ hn hdb);exact Q5 (bz (ha pos pins s σ H _ I h) λ us s1 ⟨vs,H1,I1,r1,q1⟩=>hc pins s1 σ H1 vs us Q I1 r1 q1) he hpl
end
end L2
namespace HT
open PySem PyProof.Rows
section
open PySem.SeqAt
open PySem.AutoSeq1 (wpAny_loadPart')
open PySem.MeetsSeq PySem.MeetsSeq2 PySem.MeetsSeq3
end
section
variable {prog:Program}{w:World}{A:Around}{E:Value->Shared->Prop}{s:Shared}
theorem Ij{t b:Addr}{vs ws:List Value}{Q:Value->Shared->Prop}(ht:IsTup s.heap t vs.toArray)(hb:IsTup s.heap b ws.toArray)(hv:vs≠ [])
 (h1:ws=[]->Q (.ref t) s) (h2:ws≠ []->Q (.ref s.heap.objs.size) {s with heap:=s.heap.push {cls:= .type "tuple",data:= .seq (vs++ws).toArray}})
 (hsz:vs.length+ws.length<=sizeLine):wpAny (model prog w) A (binaryOp .Add (.ref t) (.ref b)) Q E s:=by
 obtain⟨⟨cls,dd,data,sl⟩,ho,hc,n,hd⟩:=id ht;obtain⟨⟨cls2,dd2,data2,sl2⟩,ho2,hc2,n2,hd2⟩:=id hb;simp only at hc hd hc2 hd2;subst hc hd hc2 hd2;have e:vs.toArray++ws.toArray=(vs++ws).toArray:=by simp
 by_cases hw:ws=[]
 . exact Vc ⟨_,ho,rfl⟩ ⟨_,ho2,rfl⟩ Ud U_ SM SF (Ss _ _)
    (tuple_addW1 t b vs.toArray ws.toArray n n2 dd dd2 sl sl2 (by simpa using hv) (by simp[hw])) ⟨ho,ho2,h1 hw⟩
 . refine Vc ⟨_,ho,rfl⟩ ⟨_,ho2,rfl⟩ Ud U_ SM SF (Ss _ _)
    (tuple_addW2 t b vs.toArray ws.toArray n n2 dd dd2 sl sl2 (by simpa using hv) (by simpa using hw) (by rw[Ph,Ph];exact hsz)) ⟨ho,ho2,?_⟩
   rw[e];exact h2 hw
def bp(n d:Nat):Option Int->Nat
 |none=>d
 |some v=>if v<0 then(v+(n:Int)).toNat else min v.toNat n
theorem qJ(n d:Nat):bp n d none=d:=rfl
theorem yF(n d k:Nat):bp n d (some (k:Int))=min k n:=by
 show(if(k:Int)<0 then((k:Int)+(n:Int)).toNat else min (k:Int).toNat n)=min k n;rw[O7 (by omega),Pp]
theorem JZ(n d:Nat)(hd:d<=n)(o:Option Int):bp n d o<=n:=by
 cases o with
 |none=>exact hd
 |some v=>
  show(if v<0 then(v+(n:Int)).toNat else min v.toNat n)<=n;by_cases hv:v<0
  . rw[O_ hv];omega
  . rw[O7 hv];exact Nat.min_le_right _ _
theorem yS(v:Int)(n d:Nat):(if v<0 then max (v+(n:Int)) 0 else min v (n:Int))=((bp n d (some v):Nat):Int):=by
 show(if v<0 then max (v+(n:Int)) 0 else min v (n:Int))=(((if v<0 then(v+(n:Int)).toNat else min v.toNat n):Nat):Int)
 by_cases hv:v<0
 . simp only[O_ hv];omega
 . simp only[O7 hv];omega
theorem zE(lo hi:Option Int)(n:Nat):Builtin.Slice.sliceAdjust lo hi 1 (n:Int)=(((bp n 0 lo:Nat):Int),((bp n n hi:Nat):Int)):=by
 have h1:¬((1:Int)<0):=by omega
 unfold Builtin.Slice.sliceAdjust;simp only[h1,Qp];refine Prod.ext ?_ ?_
 . cases lo with
   |none=>rfl
   |some v=>exact yS v n 0
 . cases hi with
   |none=>rfl
   |some v=>exact yS v n n
theorem zH(i j:Nat):Builtin.Slice.slicePlaces (i:Int) (j:Int) 1=j-i:=by
 unfold Builtin.Slice.slicePlaces;have h1:(1:Int)>0:=by omega
 simp only[h1,Rg,Int.ediv_one];split<;>omega
theorem su{v:Value}{o:Option Int}{Q:Option Int->Shared->Prop}(p:IsPart v o)(h:Q o s):wpAny (model prog w) A (Builtin.Slice.slicePartIndex v) Q E s:=by
 cases p with
 |none=>exact slicePart_none h
 |int i t=>exact slicePart_int h
theorem ku{sl:Addr}{vl vu:Value}{lo hi:Option Int}{n:Nat}{Q:Int×Int×Nat->Shared->Prop}(hs:s.heap.IsSliceOf sl vl vu .none)(pl:IsPart vl lo)(pu:IsPart vu hi)
 (h:Q (((bp n 0 lo:Nat):Int),1,bp n n hi-bp n 0 lo) s):wpAny (model prog w) A (Builtin.Slice.sliceApplied (.ref sl) (pure (n:Int))) Q E s:=by
 obtain⟨os,hos,hcs,hds⟩:=id hs;unfold Builtin.Slice.sliceApplied Builtin.Slice.sliceFields;refine O5 (O5 (QF hos hds (x:=vl) rfl (O5 (QF hos hds (x:=vu) rfl (O5 (QF hos hds (x:= .none) rfl (Pf ?_)))))));refine O5 (slicePart_none ?_);show wpAny _ _ (if((1:Int)==0)=true then _ else _) _ _ s;rw[O7 (by decide)];refine O5 (su pl (O5 (su pu (O5 (Pf ?_)))));show wpAny _ _ (match Builtin.Slice.sliceAdjust lo hi 1 (n:Int)with|(lo,hi)=>pure (lo,(1:Int),Builtin.Slice.slicePlaces lo hi 1)) _ _ s;rw[zE lo hi n];show wpAny _ _ (pure (((bp n 0 lo:Nat):Int),(1:Int),Builtin.Slice.slicePlaces ((bp n 0 lo:Nat):Int) ((bp n n hi:Nat):Int) 1)) _ _ s;rw[zH];exact Pf h
theorem DP(xs:Array Value)(i k:Nat):((List.range k).filterMap λ(m:Nat)=>xs[((i:Int)+(m:Int)*1).toNat]?).toArray=((xs.toList.drop i).take k).toArray:=by
 have e:(λ(m:Nat)=>xs[((i:Int)+(m:Int)*1).toNat]?)=λ m=>xs[i+m]?:=by
  funext m;have:((i:Int)+(m:Int)*1).toNat=i+m:=by omega
  rw[this]
 rw[e];have:=pick_run xs i k;rw[List.filterMap_map]at this;have e2:((λ x=>xs[x]?)∘λ x=>i+x)=λ m=>xs[i+m]?:=rfl;rw[e2]at this;rw[this]
theorem ph{t sl:Addr}{items:Array Value}{vl vu:Value}{lo hi:Option Int}{Q:Value->Shared->Prop}(ht:IsTup s.heap t items)(hs:s.heap.IsSliceOf sl vl vu .none)(pl:IsPart vl lo)(pu:IsPart vu hi)
 (hw:¬(bp items.size 0 lo=0/\bp items.size items.size hi=items.size))
 (h:Q (.ref s.heap.objs.size) {s with heap:=s.heap.push {cls:= .type "tuple",data:= .seq ((items.toList.drop (bp items.size 0 lo)).take (bp items.size items.size hi-bp items.size 0 lo)).toArray}})
 (hsz:items.size<=sizeLine):wpAny (model prog w) A (getItem (.ref t) (.ref sl)) Q E s:=by
 have htake:sizeOk (.seq ((items.toList.drop (bp items.size 0 lo)).take (bp items.size items.size hi-bp items.size 0 lo)).toArray):=by
  show((items.toList.drop (bp items.size 0 lo)).take (bp items.size items.size hi-bp items.size 0 lo)).toArray.size<=sizeLine;rw[Ph,P_,Qx,PU];omega
 have hj:bp items.size items.size hi<=items.size:=JZ _ _ (O9 _) hi;obtain⟨os,hos,hcs,hds⟩:=id hs;have hTs:s.TypeIs (.ref sl) "slice":=⟨os,hos,hcs⟩
 unfold getItem;try with_reducible refine QY ?_
 first|refine O5 (Pf ?_)|skip
 refine O5 (wpAny_sequenceKey ht.typeIs (by decide) ?_)
 refine O5 (QQ (name:=Str.ofString "__getitem__") ht.typeIs QB
  (Rk QB ht.typeIs entry_tuple_getitem ?_ (args_tuple_getitem _ _)))
 show wpAny _ _ (Builtin.Tuple.tupleItemsOf (.ref t) >>= _) _ _ s;refine O5 (tupleItemsOf_ ht ?_);refine O5 (Ue hTs ?_);rw[O_ (by decide)];refine O5 (ku hs pl pu ?_)
 have hno:¬((((bp items.size 0 lo:Nat):Int)==0&&(1:Int)==1&&(bp items.size items.size hi-bp items.size 0 lo)==items.size)=true):=by
  intro q;rw[Qk,Qk]at q;have q1:((bp items.size 0 lo:Nat):Int)=0:=eq_of_beq q.1.1;have q2:bp items.size items.size hi-bp items.size 0 lo=items.size:=eq_of_beq q.2;exact hw ⟨by omega,by omega⟩
 show wpAny _ _ (if(((bp items.size 0 lo:Nat):Int)==0&&(1:Int)==1&&(bp items.size items.size hi-bp items.size 0 lo)==items.size)=true then _ else _) _ _ s;rw[O7 hno,DP]
 first
  |exact O5 (m:=Builtin.Tuple.tupleExact _) (RH (Pf ⟨_,rfl,Pf h⟩) htake)
  |exact O5 (m:=Builtin.Tuple.tupleExact _) (RH (O5 (Pf (Pf ⟨_,rfl,Pf h⟩))) htake)
  |exact O5 (O5 (m:=Builtin.Tuple.tupleExact _) (RH (Pf (Pf ⟨_,rfl,Pf h⟩)) htake))
  |exact O5 (O5 (m:=Builtin.Tuple.tupleExact _) (RH (Pf ⟨_,rfl,Pf h⟩) htake))
end
end HT
namespace L2
open PySem PySem.Spec PyProof.Rows
abbrev TO:=St->Hp->(Option Int->Hp->Prop)->Prop
def PO(X:Cx)(e:Option Expr)(t:TO):Prop:=
 ∀(pins:List (Addr×Obj)) (s:Shared) (σ:St) (H:Hp) (Q:Option Int->Hp->Prop),Inv X pins σ H s->t σ H Q->
  wpAny (model X.prog X.w) X.A (evalPart e X.env) (λ u s'=>∃o H',Inv X pins σ H' s'/\IsPart u o/\Q o H') X.xe s
def HC:TO:=λ _ H Q=>Q none H
def Mc(t:TE):TO:=λ σ H Q=>t σ H λ x H1=>∃i,x= .int i/\Q (some i) H1
section
variable {X:Cx}{e:Expr}{te:TE}{lo hi:Option Expr}{tl th:TO}{pos p2:Pos}
theorem HI:PO X none HC:=by
 intro pins s σ H Q I h;rw[evalPart_none];exact Pf ⟨none,H,I,.none,h⟩
theorem Ib(h:PE X e te):PO X (some e) (Mc te):=by
 intro pins s σ H Q I hw;rw[evalPart_some];refine bz (h pins s σ H _ I hw) λ u s1 ⟨x,H1,I1,r1,q1⟩=>?_;obtain⟨i,rfl,q⟩:=q1;obtain⟨t,rfl⟩:=r1;exact⟨some i,H1,I1,.int i t,q⟩
def CW(X:Cx)(r:V->Option Int->Option Int->Hp->VK->Prop):Prop:=
 ∀(pins:List (Addr×Obj)) (s:Shared) (σ:St) (H:Hp) (x:V) (v vl vu:Value) (lo hi:Option Int) (sl:Addr) (Q:VK),Inv X pins σ H s->RelV x v->s.heap.IsSliceOf sl vl vu .none->IsPart vl lo->IsPart vu hi->r x lo hi H Q->
  ∃T id,typeLookup (.type T) "__getitem__"=pure (some (.builtin id))/\s.TypeIs v T/\wpAny (model X.prog X.w) X.A (getItem v (.ref sl)) (EP X pins σ Q) X.xe s
def OO(r:V->Option Int->Option Int->Hp->VK->Prop)(te:TE)(tl th:TO):TE:=λ σ H Q=>te σ H λ x H1=>tl σ H1 λ l H2=>th σ H2 λ u H3=>r x l u H3 Q
theorem Ef{r:V->Option Int->Option Int->Hp->VK->Prop}(hr:CW X r)(he:PE X e te)(hl:PO X lo tl)(hu:PO X hi th):PE X (.Subscript e (.Slice lo hi none p2) pos) (OO r te tl th):=by
 intro pins s σ H Q I h;refine Subscript_ (bz (he pins s σ H _ I h) λ v s1 ⟨x,H1,I1,r1,q1⟩=>?_);refine wpAny_Slice (bz (hl pins s1 σ H1 _ I1 q1) λ vl s2 ⟨l,H2,I2,pl,q2⟩=>bz (hu pins s2 σ H2 _ I2 q2) λ vu s3 ⟨u,H3,I3,pu,q3⟩=>?_);rw[evalPart_none];refine Pf ?_;have I4:Inv X pins σ H3 {s3 with heap:=s3.heap.push {cls:= .type "slice",data:= .fields #[vl,vu,.none]}}:=I3.kept (t':=s3.toks) λ b ob q=>Pa _ q;obtain⟨T,id,hT,ht,hg⟩:=hr pins {s3 with heap:=s3.heap.push {cls:= .type "slice",data:= .fields #[vl,vu,.none]}} σ H3 x v vl vu l u s3.heap.objs.size Q I4 r1 (Heap.IsSliceOf.new ..) pl pu q3;show wpAny (model X.prog X.w) X.A (subscriptTail e (.Slice lo hi none p2) v (.ref s3.heap.objs.size)) (EP X pins σ Q) X.xe {s3 with heap:=s3.heap.push {cls:= .type "slice",data:= .fields #[vl,vu,.none]}};exact tail_any (ops:=[.ref s3.heap.objs.size,v]) ht hT hg (by with_unfolding_all rfl)
def mH(xs:List V)(lo hi:Option Int):List V:=(xs.drop (HT.bp xs.length 0 lo)).take (HT.bp xs.length xs.length hi-HT.bp xs.length 0 lo)
theorem pK(xs:List V)(lo hi:Option Int):(mH xs lo hi).length<=xs.length:=by
 unfold mH;rw[P_,Qx];omega
def Oe(K:PySem.W.Frag):V->Option Int->Option Int->Hp->VK->Prop:=λ x lo hi H Q=>∃a xs,x= .ref a/\fZ K H a xs/\
 ¬(HT.bp xs.length 0 lo=0/\HT.bp xs.length xs.length hi=xs.length)/\∀p,H p=none->Q (.ref p) (upd H p (.tup (mH xs lo hi)))
theorem Kj:CW X (Oe X.K):=by
 intro pins s σ H x v vl vu lo hi sl Q I rx hs pl pu h;obtain⟨a,xs,rfl,hx,hw,q⟩:=h;cases rx;obtain⟨its,r,ht,hz⟩:=I.tuple hx;have hlen:its.toArray.size=xs.length:=by rw[Ph];exact r.length.symm
 refine⟨"tuple",_,QB.lookup,ht.typeIs,?_⟩;refine HT.ph ht hs pl pu (by rw[hlen];exact hw) ?_ (by rw[hlen];exact hz);rw[hlen];refine⟨.ref s.heap.objs.size,_,I.laid (t':=s.toks) (o:= .tup (mH xs lo hi)) (λ b ob q=>Pa _ q) (O9 _) ?_,rfl,q _ (I.aC.fresh (O9 _))⟩;exact⟨Pe (pK xs lo hi) hz,_,(r.drop (HT.bp xs.length 0 lo)).take (HT.bp xs.length xs.length hi-HT.bp xs.length 0 lo),IsTup.new _ _⟩
def MG(K:PySem.W.Frag):R2:=λ x y H Q=>∃a b xs ys,x= .ref a/\y= .ref b/\fZ K H a xs/\fZ K H b ys/\xs≠ []/\xs.length+ys.length<=sizeLine/\
 (ys=[]->Q (.ref a) H)/\(ys≠ []->∀p,H p=none->Q (.ref p) (upd H p (.tup (xs++ys))))
theorem Vals.oY{xs:List V}{us:List Value}(r:Vals xs us):us=[]↔xs=[]:=by
 cases r with
 |nil=>simp
 |cons _ _=>simp
theorem Ip:bD X (binaryOp .Add) (MG X.K):=by
 intro pins s σ H x y v u Q I rx ry h;obtain⟨a,b,xs,ys,rfl,rfl,ha,hb,hx,hz,q1,q2⟩:=h;cases rx;cases ry;obtain⟨its,r1,p1,_⟩:=I.tuple ha;obtain⟨its2,r2,p2,_⟩:=I.tuple hb;refine HT.Ij p1 p2 (λ z=>hx (r1.oY.mp z)) (λ z=>⟨.ref a,H,I,rfl,q1 (r2.oY.mp z)⟩) (λ z=>?_) (by rw[<-r1.length,<-r2.length];exact hz);refine⟨.ref s.heap.objs.size,_,I.laid (t':=s.toks) (o:= .tup (xs++ys)) (λ b ob q=>Pa _ q) (O9 _) ?_,rfl,q2 (λ w=>z (r2.oY.mpr w)) _ (I.aC.fresh (O9 _))⟩;exact⟨by rw[Py];exact hz,_,r1.append r2,IsTup.new _ _⟩
end
def jy(n:Nat)(i:Int):Option Nat:=if 0<=i then(if i<n then some i.toNat else none)else if-(n:Int)<=i then some (i+n).toNat else none
def cT{α:Type}(xs:List α)(i:Int):Option α:=(jy xs.length i).bind λ j=>xs[j]?
theorem zi{n:Nat}{i:Int}{j:Nat}(h:jy n i=some j):seqIndex? i n=some j/\j<n/\ -(n:Int)<=i/\i<n:=by
 unfold jy at h;by_cases h0:0<=i
 . rw[O_ h0]at h;by_cases h1:i<n
   . rw[O_ h1]at h;have e:i.toNat=j:=Qq h;exact⟨by rw[seqIndex_of h0 h1,e],by omega,by omega,h1⟩
   . rw[O7 h1]at h;cases h
 . rw[O7 h0]at h;by_cases h1: -(n:Int)<=i
   . rw[O_ h1]at h;have e:(i+n).toNat=j:=Qq h;exact⟨by rw[seqIndex_neg (by omega) h1,e],by omega,h1,by omega⟩
   . rw[O7 h1]at h;cases h
theorem tO{α:Type}{xs:List α}{i:Int}{v:α}(h:cT xs i=some v):∃j,seqIndex? i xs.length=some j/\xs[j]?=some v/\j<xs.length/\ -(xs.length:Int)<=i/\i<xs.length:=by
 unfold cT at h;cases e:jy xs.length i with
 |none=>rw[e]at h;cases h
 |some j=>
  rw[e]at h;obtain⟨h1,h2,h3,h4⟩:=zi e;exact⟨j,h1,h,h2,h3,h4⟩
theorem fC{α:Type}{xs:List α}{j:Nat}{v:α}(h:xs[j]?=some v):cT xs (j:Int)=some v:=by
 have hj:j<xs.length:=(O6.mp h).1
 have e:jy xs.length (j:Int)=some j:=by
  unfold jy;rw[O_ (by omega),O_ (by omega)];simp
 unfold cT;rw[e];exact h
def oR(b:Expr):Prop:=∀o i,subscripted b false o i=operate [o,i] (getItem o i)
def Fx(X:Cx)(r:R2):Prop:=
 ∀(value slice:Expr) (pins:List (Addr×Obj)) (s:Shared) (σ:St) (H:Hp) (x y:V) (v u:Value) (Q:VK),Inv X pins σ H s->RelV x v->RelV y u->r x y H Q->
  subscripted slice false v u=operate [v,u] (getItem v u)->wpAny (model X.prog X.w) X.A (subscriptTail value slice v u) (EP X pins σ Q) X.xe s
def Le(X:Cx)(id:String)(r:V->List V->Hp->VK->Prop):Prop:=
 ∀(pins:List (Addr×Obj)) (s:Shared) (σ:St) (H:Hp) (x:V) (xs:List V) (v:Value) (us:List Value) (Q:VK),Inv X pins σ H s->RelV x v->Vals xs us->r x xs H Q->
  wpAny (model X.prog X.w) X.A (call (.builtin id) (v::us)) (EP X pins σ Q) X.xe s
section
variable {X:Cx}{a b:Expr}{ta tb:TE}{pos:Pos}
theorem LB{r:R2}(hr:Fx X r)(ha:PE X a ta)(hb:PE X b tb)(hs:oR b):PE X (.Subscript a b pos) (Dr r ta tb):=by
 intro pins s σ H Q I h;exact Subscript_ (Eh ha hb I h λ v u s2 x y H2 I2 rx ry q=>hr a b pins s2 σ H2 x y v u Q I2 rx ry q (hs _ _))
def NP(K:PySem.W.Frag):R2:=λ x y H Q=>∃p xs i v,x= .ref p/\y= .int i/\i_ K H p xs/\cT xs i=some v/\Q v H
def NZ(K:PySem.W.Frag):R2:=λ x y H Q=>∃p xs i v,x= .ref p/\y= .int i/\fZ K H p xs/\cT xs i=some v/\Q v H
theorem zt:Fx X (NP X.K):=by
 intro value slice pins s σ H x y v u Q I rx ry h hs;obtain⟨p,xs,i,z,rfl,rfl,hq,he,q⟩:=h;cases rx;obtain⟨t,rfl⟩:=ry;obtain⟨its,r,pl,hz⟩:=I.list hq;obtain⟨j,h1,h2,h3,h4,h5⟩:=tO he;obtain⟨w,ew,rw'⟩:=r.get h2;have hl:=r.length;have hn:=oj;have fin:EP X pins σ Q w s:=⟨z,H,I,rw',q⟩
 by_cases h0:0<=i
 . have hj:i.toNat=j:=by
    rw[seqIndex_of h0 h5]at h1;exact Qq h1
   exact item_listR pl.isList h0 (by omega) (by rw[hj];simpa using ew) fin hs
 . have hj:(i+(its.toArray.size:Int)).toNat=j:=by
    rw[seqIndex_neg (by omega) h4]at h1;rw[Ph,<-hl];exact Qq h1
   exact subscriptTail_builtinR (x:=w) pl.isList.typeIs slot_list_getitem.lookup
    (wpAny_getItem_list_neg (Q:=λ r s'=>r=w/\EP X pins σ Q r s') pl.isList (by omega) (by rw[Ph]<;>omega) (by omega) (by rw[hj];simpa using ew) ⟨rfl,fin⟩) hs
theorem IE:Fx X (NZ X.K):=by
 intro value slice pins s σ H x y v u Q I rx ry h hs;obtain⟨p,xs,i,z,rfl,rfl,hq,he,q⟩:=h;cases rx;obtain⟨t,rfl⟩:=ry;obtain⟨its,r,pl,hz⟩:=I.tuple hq;obtain⟨j,h1,h2,h3,h4,h5⟩:=tO he;obtain⟨w,ew,rw'⟩:=r.get h2;have hl:=r.length;have hn:=oj;have fin:EP X pins σ Q w s:=⟨z,H,I,rw',q⟩
 exact subscriptTail_builtinR (x:=w) pl.typeIs slot_tuple_getitem.lookup
  (getItem_tuple (j:=j) (Q:=λ r s'=>r=w/\EP X pins σ Q r s') pl (by omega) (by omega) (by rw[Ph,<-hl];exact h1) (by simpa using ew) ⟨rfl,fin⟩) hs
theorem AO(its:List Value)(n j:Nat)(u:Value):Obj.mapSeq (·.setIfInBounds j u) {cls:= .type "list",data:= .seq its.toArray n}= {cls:= .type "list",data:= .seq (its.set j u).toArray n}:=by
 simp[Obj.mapSeq]
theorem Inv.lst{pins:List (Addr×Obj)}{σ:St}{H:Hp}{s:Shared}{p:Addr}{xs:List V}(I:Inv X pins σ H s)(h:H p=some (.lst xs)):
 ∃(its:List Value) (n:Nat),Vals xs its/\s.heap.get? p=some {cls:= .type "list",data:= .seq its.toArray n}/\xs.length<=sizeLine:=by
 obtain⟨z,its,n,r,e⟩:=I.aC p _ h;exact⟨its,n,r,e,z⟩
theorem Inv.ID{pins:List (Addr×Obj)}{σ:St}{H:Hp}{s:Shared}{p:Addr}{xs ys:List V}{its its':List Value}{n n':Nat}{f:Obj->Obj}(I:Inv X pins σ H s)(h:H p=some (.lst xs))
 (ho:s.heap.get? p=some {cls:= .type "list",data:= .seq its.toArray n}) (hf:f {cls:= .type "list",data:= .seq its.toArray n}= {cls:= .type "list",data:= .seq its'.toArray n'}) (r:Vals ys its') (hz:ys.length<=sizeLine) (t:Nat):
 Inv X pins σ (upd H p (.lst ys)) {s with heap:=s.heap.update p f,toks:=t}:=by
 have e:(s.heap.update p f).get? p=some {cls:= .type "list",data:= .seq its'.toArray n'}:=by
  rw[SW f ho (by rw[hf]<;>rfl),hf]
 refine I.write (x:=p) (e:=p) (by rw[h];trivial) (.inl rfl) (λ b u hb q=>(UA _ _ (Pj hb)).trans q) ⟨_,e⟩ ?_;exact⟨hz,its',n',r,e⟩
def qV:V->V->V->Hp->(Hp->Prop)->Prop:=λ o i v H Q=>∃p xs k j,o= .ref p/\i= .int k/\H p=some (.lst xs)/\jy xs.length k=some j/\Q (upd H p (.lst (xs.set j v)))
theorem set_list:Jc X qV:=by
 intro pins s σ H o i v ov iv u Q I ro ri rv h;obtain⟨p,xs,k,j,rfl,rfl,hp,hj,q⟩:=h;cases ro;obtain⟨t,rfl⟩:=ri;obtain⟨its,n,r,ho,hz⟩:=I.lst hp;obtain⟨h1,h2,h3,h4⟩:=zi hj;have hl:=r.length;have hn:=oj
 have I':Inv X pins σ (upd H p (.lst (xs.set j v))) {s with heap:=s.heap.update p (Obj.mapSeq (·.setIfInBounds j u))}:=
  I.ID hp ho (AO its n j u) (r.set rv j) (by rw[Pl];exact hz) s.toks
 by_cases h0:0<=k
 . have hk:k.toNat=j:=by
    rw[seqIndex_of h0 h4]at h1;exact Qq h1
   exact PySem.W.ki_setAt ho h0 (by omega) (by rw[Ph,<-hl];exact h4) (by rw[hk];exact⟨_,I',q⟩)
 . have hk:(k+(its.toArray.size:Int)).toNat=j:=by
    rw[seqIndex_neg (by omega) h3]at h1;rw[Ph,<-hl];exact Qq h1
   exact PySem.W.ki_setBack ho (by omega) (by rw[Ph,<-hl];exact h3) (by omega) (by rw[hk];exact⟨_,I',q⟩)
theorem vJ(lo hi:Option Int)(n:Nat):(sliceBounds lo hi none n).1=((HT.bp n 0 lo:Nat):Int)/\(sliceBounds lo hi none n).2.1=((HT.bp n n hi:Nat):Int)/\(sliceBounds lo hi none n).2.2=1:=by
 refine⟨?_,?_,rfl⟩
 . cases lo with
   |none=>simp[sliceBounds,HT.bp]
   |some i=>
    simp only[sliceBounds,HT.bp,Option.getD_none,show(1:Int)>0 by decide,Rg];by_cases h:i<0
    . simp only[h,Rg]<;>omega
    . simp only[h,Qp]<;>omega
 . cases hi with
   |none=>simp[sliceBounds,HT.bp]
   |some i=>
    simp only[sliceBounds,HT.bp,Option.getD_none,show(1:Int)>0 by decide,Rg];by_cases h:i<0
    . simp only[h,Rg]<;>omega
    . simp only[h,Qp]<;>omega
theorem uQ(its:List Value)(lo hi:Option Int):slicePick its.toArray lo hi none=((its.drop (HT.bp its.length 0 lo)).take (HT.bp its.length its.length hi-HT.bp its.length 0 lo)).toArray:=by
 obtain⟨h1,h2,h3⟩:=vJ lo hi its.toArray.size;unfold slicePick;rw[h1,h2,h3];simp only[sliceRange_one,pick_run,Ph]<;>rfl
def Oh(K:PySem.W.Frag):V->Option Int->Option Int->Hp->VK->Prop:=λ x lo hi H Q=>∃a xs,x= .ref a/\i_ K H a xs/\∀p,H p=none->Q (.ref p) (upd H p (.lst (mH xs lo hi)))
theorem zx:CW X (Oh X.K):=by
 intro pins s σ H x v vl vu lo hi sl Q I rx hs pl pu h;obtain⟨a,xs,rfl,hx,q⟩:=h;cases rx;obtain⟨its,r,ht,hz⟩:=I.list hx;have hlen:=r.length;refine⟨"list",_,slot_list_getitem.lookup,ht.isList.typeIs,?_⟩;refine wpAny_getItem_list_slice ht.isList hs pl pu .none (by simp) ?_ (by rw[Ph]<;>omega);rw[uQ,<-hlen];refine⟨.ref s.heap.objs.size,_,I.laid (t':=s.toks) (o:= .lst (mH xs lo hi)) (λ b ob q=>Pa _ q) (O9 _) ?_,rfl,q _ (I.aC.fresh (O9 _))⟩;exact⟨Pe (pK xs lo hi) hz,_,0,(r.drop (HT.bp xs.length 0 lo)).take (HT.bp xs.length xs.length hi-HT.bp xs.length 0 lo),Pt _ rfl⟩
theorem wJ:aZ X (.builtin "len") (λ xs H Q=>∃p ys,xs=[.ref p]/\(i_ X.K H p ys\/fZ X.K H p ys)/\Q (.int ys.length) H):=by
 intro pins s σ H xs us Q I r h;obtain⟨p,ys,rfl,hq,q⟩:=h;obtain⟨u,rfl,rx⟩:=vals1 r;cases rx;have hn:=oj;rcases hq with hq|hq
 . obtain⟨its,r',pl,hz⟩:=I.list hq;have hlen:=r'.length;exact Calls.call_len_list pl.isList (by simp only[Ph]<;>omega) ⟨.int ys.length,H,I.tok _,⟨s.toks+1,by rw[Ph,hlen]⟩,q⟩
 . obtain⟨its,r',pl,hz⟩:=I.tuple hq;have hlen:=r'.length;exact len_tuple pl (by simp only[Ph]<;>omega) ⟨.int ys.length,H,I.tok _,⟨s.toks+1,by rw[Ph,hlen]⟩,q⟩
theorem vH:aZ X (.builtin "len") (λ xs H Q=>∃z,xs=[.str z]/\z.length<=sizeLine/\Q (.int z.length) H):=by
 intro pins s σ H xs us Q I r h;obtain⟨z,rfl,hz,q⟩:=h;obtain⟨u,rfl,t,rfl⟩:=vals1 r;have hn:=oj;exact len_str (by omega) ⟨.int z.length,H,I.tok _,⟨_,rfl⟩,q⟩
theorem nP:aZ X (.type "list") (λ xs H Q=>∃p ys,xs=[.ref p]/\(i_ X.K H p ys\/fZ X.K H p ys)/\∀l,H l=none->Q (.ref l) (upd H l (.lst ys))):=by
 intro pins s σ H xs us Q I r h;obtain⟨p,ys,rfl,hq,q⟩:=h;obtain⟨u,rfl,rx⟩:=vals1 r;cases rx
 have fin:∀(its:List Value),Vals ys its->ys.length<=sizeLine->∀(h':Heap) (c':Nat),(∀b o',s.heap.get? b=some o'->h'.get? b=some o')->
  h'.get? s.heap.objs.size=some {cls:= .type "list",dict:=none,data:= .seq its.toArray c',slots:= #[]}->EP X pins σ Q (.ref s.heap.objs.size) {s with heap:=h'}:=λ its r' hz h' c' kp e=>
  ⟨.ref s.heap.objs.size,_,I.laid (t':=s.toks) kp (O9 _) (show cw X.prog X.w _ h' _ (.lst ys)from⟨hz,its,c',r',e⟩),rfl,q _ (I.aC.fresh (O9 _))⟩
 rcases hq with hq|hq
 . obtain⟨its,r',pl,hz⟩:=I.list hq;have hlen:=r'.length;obtain⟨o,ho,hc,n,hd⟩:=pl.isList;exact call_list_seq p (.inl rfl) ho hc hd (λ h' c' kp e=>fin its r' hz h' c' kp e) (by simp only[Ph]<;>omega)
 . obtain⟨its,r',pl,hz⟩:=I.tuple hq;have hlen:=r'.length;obtain⟨o,ho,hc,n,hd⟩:=pl;exact call_list_seq p (.inr rfl) ho hc hd (λ h' c' kp e=>fin its r' hz h' c' kp e) (by simp only[Ph]<;>omega)
theorem uV:aZ X (.type "tuple") (λ xs H Q=>∃p ys,xs=[.ref p]/\((i_ X.K H p ys/\∀l,H l=none->Q (.ref l) (upd H l (.tup ys)))\/(fZ X.K H p ys/\Q (.ref p) H))):=by
 intro pins s σ H xs us Q I r h;obtain⟨p,ys,rfl,h⟩:=h;obtain⟨u,rfl,rx⟩:=vals1 r;cases rx;rcases h with⟨hq,q⟩|⟨hq,q⟩
 . obtain⟨its,r',pl,hz⟩:=I.list hq;have hlen:=r'.length;refine call_tuple_list pl.isList (λ h' kp=>?_) (by simp only[Ph]<;>omega);have I1:Inv X pins σ H {s with heap:=h'}:=I.kept (t':=s.toks) kp
   have I2:Inv X pins σ (upd H h'.objs.size (.tup ys)) {s with heap:=h'.push {cls:= .type "tuple",data:= .seq its.toArray}}:=
    I1.laid (t':=s.toks) (λ b o e=>Pa _ e) (O9 _) (show cw X.prog X.w _ _ _ (.tup ys)from⟨hz,its,r',IsTup.new _ _⟩)
   exact⟨.ref h'.objs.size,_,I2,rfl,q _ (I1.aC.fresh (O9 _))⟩
 . obtain⟨its,r',pl,hz⟩:=I.tuple hq;exact call_tuple_same pl ⟨.ref p,H,I,rfl,q⟩
def Nn(K:PySem.W.Frag)(T:String)(x:V)(H:Hp):Prop:=match x with
 | .str _=>T="str"
 | .int _=>T="int"
 | .ref p=>(T="list"/\∃xs,i_ K H p xs)\/(T="tuple"/\∃o,K.lookup p=some o/\o.cls= .type "tuple"/\o.dict=none)\/
    (T="dict"/\((∃kvs,H p=some (.dK kvs))\/∃kvs,H p=some (.dT kvs)))\/(T="set"/\∃S n,H p=some (.set S n))
 |_=>False
theorem Jq{pins:List (Addr×Obj)}{σ:St}{H:Hp}{s:Shared}{T:String}{x:V}{v:Value}(I:Inv X pins σ H s)(r:RelV x v)(ty:Nn X.K T x H):
 s.TypeIs v T/\∀a,v= .ref a->∃ob,s.heap.get? a=some ob/\ob.dict=none:=by
 cases x with
 |str z=>
  obtain⟨t,rfl⟩:=r;cases (show T="str" from ty);exact⟨typeIs_str s z t,λ _ e=>nomatch e⟩
 |int i=>
  obtain⟨t,rfl⟩:=r;cases (show T="int" from ty);exact⟨T9 s i t,λ _ e=>nomatch e⟩
 |ref p=>
  cases r;rcases ty with⟨rfl,xs,hq⟩|⟨rfl,o,hk,hc,hd⟩|⟨rfl,hk⟩|⟨rfl,S,n,hk⟩
  . obtain⟨its,_,pl,_⟩:=I.list hq;refine⟨pl.isList.typeIs,λ a e=>?_⟩;cases e;obtain⟨o,n,e,c,hd,_⟩:=pl;exact⟨o,e,hd⟩
  . refine⟨⟨o,I.fh p o hk,hc⟩,λ a e=>?_⟩;cases e;exact⟨o,I.fh _ o hk,hd⟩
  . have z:∃o,s.heap.get? p=some o/\o.ExactDict:=by
     rcases hk with⟨kvs,hk⟩|⟨kvs,hk⟩
     . obtain⟨_,_,_,_,o,_,_,e,ex,_⟩:=I.aC p _ hk;exact⟨o,e,ex⟩
     . obtain⟨_,_,_,_,o,_,_,e,ex,_⟩:=I.aC p _ hk;exact⟨o,e,ex⟩
    obtain⟨o,e,ex⟩:=z;refine⟨⟨o,e,ex.1⟩,λ a e2=>?_⟩;cases e2;exact⟨o,e,ex.2.1⟩
  . obtain⟨o,_,_,_,e,ex,_⟩:=I.aC p _ hk;refine⟨⟨o,e,ex.1⟩,λ a e2=>?_⟩;cases e2;exact⟨o,e,ex.2.1⟩
 |_=>exact False.elim ty
def Kw(K:PySem.W.Frag)(T:String)(r:V->List V->Hp->VK->Prop)(to:TE)(t:TA):TE:=λ σ H Q=>to σ H λ x H1=>Nn K T x H1/\t σ H1 λ xs H2=>r x xs H2 Q
variable {o e:Expr}{es:List Expr}{to:TE}{t:TA}{name:Str}{apos cpos:Pos}{T id:String}{r:V->List V->Hp->VK->Prop}
theorem F3(pa:PlainAttrs T)(slot:Slot T name id)(hty:typeOf (.builtin id)=pure (.type "method_descriptor"))(hm:Le X id r)(ho:PE X o to)(ha:PA X (e::es) t)
 (hbase:attributeBase o name X.env (eval o X.env)=eval o X.env:=by rfl)
 (hfew:((backTo cpos (starEach (e::es) X.env)).all (λ x=> !x.1)&&(backToKw cpos (keywordEach [] X.env)).all (λ x=>x.1.isSome)
   &&decide ((e::es).length+([]:List Keyword).length+(if([]:List Keyword).isEmpty then 0 else 1)<30))=true:=by rfl)
 (hline:(apos.endLine==cpos.line)=true:=by rfl) (hs:starEach (e::es) X.env=(false,eval e X.env)::starEach es X.env:=by rfl) (hplain:(backTo cpos (starEach es X.env)).any (·.1)=false:=by rfl):
 PE X (.Call (.Attribute o name apos) (e::es) [] cpos) (Kw X.K T r to t):=by
 intro pins s σ H Q I h;refine wpAny_Call_method_late hbase hfew hline rfl (bz (ho pins s σ H _ I h) λ v s1 ⟨x,H1,I1,r1,ty,q1⟩=>?_);obtain⟨h1,h2⟩:=Jq I1 r1 ty;refine⟨T,id,pa,slot,hty,h1,h2,?_⟩;have hA:=ha cpos pins s1 σ H1 _ I1 q1;rw[hs]at hA⊢;refine Calls.callWith_builtin (by show(false||(backTo cpos (starEach es X.env)).any (·.1))=false;rw[hplain]<;>rfl) (Calls.evalArgs_plain ?_);exact bz hA λ us s2 ⟨vs,H2,I2,r2,q2⟩=>hm pins s2 σ H2 x vs v us Q I2 r1 r2 q2
/-xs.append(e),list.index on a module's tuple .. are Le facts of 06m-/
end
def IZ(X:Cx)(id:String)(r:V->List V->Hp->VK->Prop):Prop:=
 ∀(pins:List (Addr×Obj)) (s:Shared) (σ:St) (H:Hp) (x:V) (xs:List V) (v:Value) (us:List Value) (Q:VK),Inv X pins σ H s->RelV x v->Vals xs us->r x xs H Q->
  wpAny (model X.prog X.w) X.A (call (.builtin id) (v::us)) (EP X pins σ Q) X.xe s
theorem Vals.one:∀ {x:V} {us:List Value},Vals [x] us->∃u,us=[u]/\RelV x u
 |_,_,.cons r .nil=>⟨_,rfl,r⟩
theorem Vals.rep{xs:List V}{us:List Value}(h:Vals xs us):∀k:Nat,Vals (List.replicate k xs).flatten (List.replicate k us).flatten
 |0=> .nil
 |k+1=>by
  rw[QU,QU,Rh,Rh];exact Vals.append h (Vals.rep h k)
theorem foldl_rep(its:List Value):∀(k:Nat) (acc:List Value),
 List.foldl (λ x1 x2=>x1++x2) acc.toArray (List.replicate k its.toArray)=(acc++(List.replicate k its).flatten).toArray
 |0,acc=>by simp
 |k+1,acc=>by
  have e:acc.toArray++its.toArray=(acc++its).toArray:=by simp
  have e2:(acc++its)++(List.replicate k its).flatten=acc++(List.replicate (k+1) its).flatten:=by
   rw[QU,Rh,QJ]
  rw[<-e2,<-foldl_rep its k (acc++its),<-e,QU,List.foldl_cons]
section
variable {X:Cx}{pins:List (Addr×Obj)}{σ:St}{H:Hp}{s:Shared}{l b:Addr}{xs ys zs:List V}
theorem Inv.w9{its its':List Value}{n:Nat}{f:Array Value->Array Value}{t':Nat}(I:Inv X pins σ H s)(hH:H l=some (.lst xs))
 (e:s.heap.get? l=some {cls:= .type "list",data:= .seq its.toArray n}) (hf:f its.toArray=its'.toArray) (hv:Vals ys its') (hz:ys.length<=sizeLine):
 Inv X pins σ (upd H l (.lst ys)) {s with heap:=s.heap.update l (Obj.mapSeq f),toks:=t'}:=by
 have q:=PySem.IsL.update e f;rw[hf]at q;refine I.write (x:=l) (e:=l) (by rw[hH];exact trivial) (.inl rfl) (λ b' u hb hu=>(UA s.heap (Obj.mapSeq f) (Pj hb)).trans hu) ⟨_,q⟩ ?_;exact⟨hz,its',_,hv,q⟩
theorem Inv.EA{its:List Value}{t':Nat}(I:Inv X pins σ H s)(hv:Vals ys its)(hz:ys.length<=sizeLine):
 Inv X pins σ (upd H s.heap.objs.size (.lst ys)) {s with heap:=s.heap.push {cls:= .type "list",data:= .seq its.toArray},toks:=t'}:=
 I.laid (λ _ _ q=>Pa _ q) (O9 _) ⟨hz,its,0,hv,Pt _ rfl⟩
theorem Inv.fresh(I:Inv X pins σ H s):H s.heap.objs.size=none:=I.aC.fresh (O9 _)
theorem Inv.ER(I:Inv X pins σ H s)(hH:H l=some (.lst xs)):xs.length<=sizeLine/\∃(its:List Value) (n:Nat),Vals xs its/\xs.length=its.length/\s.heap.get? l=some {cls:= .type "list",data:= .seq its.toArray n}:=by
 obtain⟨z,its,n,r,e⟩:=I.aC l _ hH;exact⟨z,its,n,r,r.length,e⟩
theorem DQ{n:Nat}(h:n<=sizeLine):Builtin.List.listTooLong n=false:=by
 unfold Builtin.List.listTooLong;exact PZ (by omega)
end
section
variable {X:Cx}
def zl:V->List V->Hp->VK->Prop:=λ x vs H Q=>∃l xs y,x= .ref l/\vs=[y]/\H l=some (.lst xs)/\xs.length<sizeLine/\Q .aq (upd H l (.lst (xs++[y])))
theorem uM:IZ X "list.append" zl:=by
 intro pins s σ H x vs v us Q I rx rv h;obtain⟨l,xs,y,rfl,rfl,hH,hz,q⟩:=h;cases rx;obtain⟨u,rfl,ru⟩:=rv.one;obtain⟨z,its,n,r,hl,e⟩:=I.ER hH;refine RV F.slot_list_append ⟨_,e,rfl⟩ F.entry_list_append (F.args_list_append_2 _ _) (PySem.list_append l its.toArray n u (by rw[Ph];omega)) ⟨e,?_⟩;refine⟨.aq,_,I.w9 (its':=its++[u]) hH e (by simp) (r.append (.cons ru .nil)) ?_,rfl,q⟩;rw[Py,UP];omega
theorem len_rep{α:Type}(xs:List α)(k:Nat):(List.replicate k xs).flatten.length=k*xs.length:=by
 induction k with
 |zero=>simp
 |succ k ih=>rw[QU,Rh,Py,ih,Tf,Nat.add_comm]
end
section
variable {prog:Program}{w:World}{A:Around}{E:Value->Shared->Prop}{s:Shared}
set_option maxRecDepth 100000 in
end
section
variable {X:Cx}
end
end L2
namespace Att
open PySem PySem.W PySem.Calls PyProof.Rows
theorem rT{P:Params}{h:Heap}:∀(ns:List Int) (vs:List Value),WellAll P h vs (ns.map WData.int)->IntsAre vs ns:=by
 intro ns;induction ns with
 |nil=>
  intro vs w;rw[List.map_nil]at w;cases w;exact .nil
 |cons n ns ih=>
  intro vs w;rw[Qj]at w;cases w with
  |cons a b=>
   cases a;exact .cons _ _ (ih _ b)
theorem CM{l:OpenLaw}{n:Nat}(hn:l.most=some n){P:Params}{h:Heap}{args:List WData}{vals:List Value}
 (hpre:l.row.toRowW.claim.pre args=true) (hwl:WellAll P h vals args):
 ∃a vs ns,vals=[Value.ref a]/\args=[WData.list (ns.map WData.int)]/\h.get? a=some {cls:= .type "list",data:= .seq vs.toArray}/\IntsAre vs ns/\ns.length<=n:=by
 have hsh:WShape.hasAll [] args [.list .int]=true:=(pre_splitW hpre).1;have hc:l.pre.holds [] {args:=args}=true:=(pre_splitW hpre).2;obtain⟨d,r,rfl,h1,h2⟩:=hasAllW_cons hsh;obtain rfl:=hasAllW_nil h2;obtain⟨xs,rfl,h3⟩:=hasW_list h1;obtain⟨ns,rfl⟩:=items_int h3
 have hlen:ns.length<=n:=by
  unfold OpenLaw.pre at hc
  have h4:(WTm.not (.lt (.lit (.int (n:Int))) (.len (.arg 0)))).holds [] {args:=[.list (ns.map .int)]}=true:=by
   have h4:=(holds_andW hc).1;rw[hn]at h4;exact h4
  have h5:=condW_of h4 (w_not (w_lt w_lit (w_len_list (w_arg rfl))));rw[O8]at h5;refine Rl λ q=>?_;have q':(n:Int)<((ns.length:Nat):Int):=by omega
  first
   |(rw[QL q']at h5;exact absurd h5 (by decide))
   |(simp at h5;omega)
 cases hwl with
 |cons w1 w2=>
  cases w2;cases w1 with
  |list ho hall=>exact⟨_,_,ns,rfl,rfl,ho,rT ns _ hall,hlen⟩
theorem CN(l:OpenLaw)(args:List WData):l.row.toRowW.claim.post args (.bool true) args=true:=
 postW_of (r:=l.row.toRowW) (X:=(true==true))
  (show WShape.has [] (.bool true) .bool=true by first|rfl|decide|simp[WShape.has,WShape.arms,WShape.armsAll])
  (show(WTm.eq .res (.lit (.bool true))).value [] {args:=args,res:=some (.bool true),after:=args}=some (.bool (true==true))from w_eq_bool (w_res rfl) w_lit) rfl
theorem x5{l:OpenLaw}{n:Nat}{q:Program}{loose:List Str}{XP:(Str->Option Value)->Heap->Prop}{YP:World->Heap->Prop}{d:DefRec}
 (hn:l.most=some n) (hdf:d.params.defaults=[])
 (call:∀(w:World) (s₀ s₁:Shared) (mg mb:Str->Option Value) (fa:Addr) (o:Obj) (pm cd doc:Value) (a:Addr) (vs:List Value) (ns:List Int),
   Ground q loose [] XP w s₀ mg mb s₁.heap->YP w s₁.heap->
   s₁.heap.get? fa=some o->o.data= .func (docDef d.name d.params d.body d.scope pm cd doc)->s₁.heap.CodeRec cd d.name->mg d.name=some (.ref fa)->
   s₁.heap.get? a=some {cls:= .type "list",data:= .seq vs.toArray}->IntsAre vs ns->ns.length<=n->s₁.gens= #[]->
   codeAny (model l.prog w) callerA (.call (.ref fa) ⟨[.ref a],[]⟩) (λ r s'=>r= .ok (.ret (.bool true))/\OldK s₁.heap s'.heap/\s'.os=s₁.os/\AllBare s'.gens) s₁):
 WalkO q loose XP YP l.row.toRowW d [] (λ f vs=>PySem.call f vs):=by
 intro w s₀ s₁ mg mb G Y fa o pm cd doc dV kV ho hd hcd hD hmg hg args vals as hpre hlay hrd hwl hlo;obtain rfl:dV= .none:=Dflts.none hD hdf;obtain rfl:kV= .none:=Dflts.noKw hD;obtain⟨a,vs,ns,rfl,rfl,hobj,hints,hlen⟩:=CM hn hpre hwl;refine enter_call (Sn (call w s₀ s₁ mg mb fa o pm cd doc a vs ns G Y ho (fd_plain hd) hcd hmg hobj hints hlen hg) λ r s' hq=>?_);obtain⟨rfl,h2,h3,h4⟩:=hq;exact⟨.inl ⟨.bool true,.bool true,[],rfl,λ _=>rfl,.bool true,CN l _,λ _=>⟨List.Pairwise.nil,λ _ hm=>(nomatch hm)⟩⟩,h2,h3,h4⟩
section
variable {prog:Program}{w:World}{A:Around}{E:Value->Shared->Prop}{s:Shared}{K:Frag}
end
end Att
namespace L2
open PySem PySem.Spec PyProof.Rows
theorem jn:∀ {vs:List Value} {ns:List Int},IntsAre vs ns->Vals (ns.map V.int) vs
 |_,_,.nil=> .nil
 |_,_,.cons n t h=> .cons ⟨t,rfl⟩ (jn h)
end L2
/-THE LAST THEOREM (shape;LID,My.*are yours):
 My.Adr:a structure of the addresses that your layer names (classes,functions);My.Txt K t:a structure (Prop) of the equations over K;
 My.txt_mk:{K} {implicit addresses ..} (e1:nsIn K mainGlobals "law"=some (some (.ref f))) (e2:K.lookup f=some ⟨oc,od,.func (fnOf "law" "law" params body scope dV kV doc pm an cdv ct),sl⟩) (e3:codeIn K cdv "law"=true) .. :∃t,My.Txt K t
set_option maxRecDepth 100000 in
set_option maxHeartbeats 0 in
(the tactic k_is has no namespace:write k_is)-/
namespace L2
open PySem PySem.Spec PyProof.Rows
def inClass(s:Stmt)(j:Nat):Stmt:=match s with
 | .ClassDef _ _ _ body _ _ _ _ _ _ _=>body.getD j (.Pass ⟨0,0,0,0⟩)
 |_=> .Pass ⟨0,0,0,0⟩
def gc(s:Stmt):Arguments:=match s with
 | .FunctionDef _ a _ _ _ _ _ _ _ _=>a
 |_=>{posonlyargs:=[],args:=[],vararg:=none,kwonlyargs:=[],kw_defaults:=[],kwarg:=none,defaults:=[]}
def dQ(s:Stmt):List Stmt:=match s with
 | .FunctionDef _ _ b _ _ _ _ _ _ _=>b
 |_=>[]
def aX(s:Stmt):Scope:=match s with
 | .FunctionDef _ _ _ _ _ _ sc _ _ _=>sc
 |_=>{kind:= .function,names:=[],isGenerator:=false,isCoroutine:=false}
abbrev fP:pk:=λ _ _ _ _ _ _=>False
abbrev E0:XK:=λ _ _ _=>False
theorem Ab{X:Cx}:Passes fP X E0:=λ _ _ _ _ _ _ _ h=>h.elim
structure kv(K:PySem.W.Frag)(x qual:Str)(st:Stmt)(f:Addr)(fd:FuncData):Prop where
 ex:∃(oc:Value) (od:Option Addr) (kV doc pm:Value) (an:Option Addr) (cdv ct:Value) (osl:Array (Option Value)),
  fd=PySem.W.fnOf x qual (gc st) (dQ st) (aX st) .none kV doc pm an cdv ct/\K.lookup f=some ⟨oc,od,.func fd,osl⟩/\PySem.W.codeIn K cdv qual=true
 kp:PySem.W.keepIn K (.ref f)=true
section
variable {P:Program}{w:World}{K:PySem.W.Frag}{mg:Str->Option Value}{base:Heap}
theorem kv.ok{x qual:Str}{st:Stmt}{f:Addr}{fd:FuncData}{N ps:List Str}{k:Nat}{sp:Sp}(F:kv K x qual st f fd)(S:iU N ps (aX st))(len:∀vs H Q E,sp vs H Q E->vs.length=ps.length)
 (hbody:∀(cdv:Value) (A:Around) (outer:List Env) (s:Shared) (H:Hp) (vs:List V) (Q:VK) (E:XK),bV k (A.deeper (envOfC qual (aX st) s.heap.objs.size f cdv))->sp vs H Q E->
   ∃t,fg (ly fP P w K mg base N qual (aX st) f cdv A outer s H E).pj (dQ st) t/\t {nx:=λ _ H'=>Q .aq H',rt:=Q} (start N vs) H):c_ P w K mg base fP (k+1) f fd ps sp:=by
 obtain⟨oc,od,kV,doc,pm,an,cdv,ct,osl,rfl,lk,hcd⟩:=F.ex;refine F8 lk hcd S len λ A outer s H vs Q E hr hsp=>?_;obtain⟨t,h,q⟩:=hbody cdv A outer s H vs Q E hr hsp;exact⟨t,h.pj,q⟩
theorem kv.binds{x qual:Str}{st:Stmt}{f:Addr}{fd:FuncData}{ps:List Str}(F:kv K x qual st f fd)
 (h:∀(kV doc pm:Value) (an:Option Addr) (cdv ct:Value) (us:List Value),us.length=ps.length->bindArgs (PySem.W.fnOf x qual (gc st) (dQ st) (aX st) .none kV doc pm an cdv ct) ⟨us,[]⟩=pure (ps.zip us)):Binds K fd ps []:=by
 obtain⟨oc,od,kV,doc,pm,an,cdv,ct,osl,rfl,lk,hcd⟩:=F.ex;exact .all (h kV doc pm an cdv ct)
theorem Cd{x qual:Str}{st:Stmt}{f:Addr}{oc:Value}{od an:Option Addr}{osl:Array (Option Value)}{kV doc pm cdv ct:Value}(l:K.lookup f=some ⟨oc,od,.func (PySem.W.fnOf x qual (gc st) (dQ st) (aX st) .none kV doc pm an cdv ct),osl⟩)
 (c:PySem.W.codeIn K cdv qual=true) (k:PySem.W.keepIn K (.ref f)=true):kv K x qual st f (PySem.W.fnOf x qual (gc st) (dQ st) (aX st) .none kV doc pm an cdv ct):=⟨⟨oc,od,kV,doc,pm,an,cdv,ct,osl,rfl,l,c⟩,k⟩
end
section
variable {X:Cx}
end
theorem cv{A B:Prop}(h:A):if true=true then A else B:=by
 rw[O_ rfl];exact h
def DL(H H':Hp):Prop:=∀b o,H b=some o->H' b=some o
end L2
set_option maxHeartbeats 4000000
namespace Hd
open PySem PySem.W PySem.Calls PyProof.Rows
noncomputable def bt (P:Params):BT:=(.node (boot_o_0 P) (.node (boot_o_1 P) (.node (boot_o_3 P) (.node (boot_o_7 P) .nil .nil) .nil) (.node (boot_o_5 P) (.node (boot_o_9 P) .nil .nil) .nil)) (.node (boot_o_2 P) (.node (boot_o_4 P) (.node (boot_o_8 P) .nil .nil) .nil) (.node (boot_o_6 P) (.node (boot_o_10 P) .nil .nil) .nil)))
theorem Jx(P:Params):absHeap (bt P) 11 (boot_heap P).life=boot_heap P:=by kernel_rfl
noncomputable def run (p:Program) (w:World) (n:Nat) (ann:Option Value):Nat->SharedT->Thread->Option SharedT
 |0,_,_=>none
 |k+1,s,t=>match through t with
  |true=>some s
  |false=>match Fast.tw6613529449190102663 n ann t with
   |false=>none
   |true=>match Fast.tw10156331382660048174 (Fast.tw11892475500146522536 Fast.tw14364793385576792824) p w s t with
    |some (s',t')=>run p w n ann k s' t'
    |none=>none
theorem Cs{p:Program}{w:World}{n:Nat}{ann:Option Value}:∀ {k:Nat} {s s':SharedT} {t:Thread},run p w n ann k s t=some s'->topRun treeTable p w n ann k s.abs t=some s'.abs
 |0,_,_,_,h=>by cases h
 |k+1,s,s',t,h=>by
  unfold run at h;unfold topRun;cases he:through t with
  |true=>rw[he]at h;cases h;rfl
  |false=>
   rw[he]at h;rw[<-Fast.te6613529449190102663,<-Fast.te10156331382660048174,<-Fast.te11892475500146522536,<-Fast.te14364793385576792824]at h;cases hk:stepOk n ann t with
   |false=>simp only[hk]at h;cases h
   |true=>
    simp only[hk]at h;cases hs:stepT (denote treeTable) p w s t with
    |none=>rw[hs]at h;cases h
    |some r=>obtain⟨s2,t2⟩:=r;rw[hs]at h;rw[stepT_spec hs];exact Cs h
noncomputable def b0 (w:World) (os:OsState):SharedT:=⟨bt w.params,11,(boot_heap w.params).life,⟨[]⟩,boot_drawn,boot_toks,os⟩
theorem K6(w:World)(os:OsState):(b0 w os).abs=⟨boot_heap w.params,⟨[]⟩,boot_drawn,boot_toks,os⟩:=by
 unfold b0 SharedT.abs;dsimp only;rw[Jx]
theorem left{p q:Program}{loose:List Str}{α:Type}{Yf:Shared->α}{Ya:World->α}{N:Nat}
 (e:opening p=plainProg p.main.scope.names) (f:∀s,fenceModules? p s=some s) (hN:Nat.ble 600 N=true)
 (h:∀(w:World) (os:OsState),(run p w 11 (some (.ref 6)) N (b0 w os) (topStub p)).bind (λ s=>match staticsOk (importedModules p.main.body) (boot_heap w.params) s.abs.heap&&namesBound p s.abs.heap&&gensDone s.abs&&laidKept (boot_heap w.params) s.abs.heap with
   |true=>some (Fast.tw4187177175401517315 q loose (importedModules p.main.body) (λ _=>true) true s.abs,Yf s.abs)
   |false=>none)=some (openGood q loose,Ya w)):LeftO p q loose (λ _=>true) Yf Ya N:=λ w=>by
 obtain⟨⟨hp,gs,d,k,os⟩,e1,e2⟩:=UB.mp (boot_open e hN f w);obtain⟨rfl,rfl,rfl,rfl⟩:hp=boot_heap w.params/\gs=⟨[]⟩/\d=boot_drawn/\k=boot_toks:=by simpa using e2
 obtain⟨s,r1,r2⟩:=Option.bind_eq_some_iff.mp (h w os);have r3:=Cs r1;rw[K6]at r3;rw[<-Fast.te4187177175401517315]at r2;unfold openEnds;rw[e1];show(topFrom treeTable p w N _).map _=_;unfold topFrom;rw[show((boot_heap w.params).isNs mainGlobals&&(⟨[]⟩:Array GenState).size==0)=true from by kernel_rfl];dsimp only;rw[show(boot_heap w.params).objs.size=11 from by kernel_rfl,show(boot_heap w.params).nsMap mainGlobals "__annotations__"=some (.ref 6)from by kernel_rfl,r3];show((match staticsOk (importedModules p.main.body) (boot_heap w.params) s.abs.heap&&namesBound p s.abs.heap&&gensDone s.abs&&laidKept (boot_heap w.params) s.abs.heap with|true=>some s.abs|false=>none):Option Shared).map _=_;cases z:(staticsOk (importedModules p.main.body) (boot_heap w.params) s.abs.heap&&namesBound p s.abs.heap&&gensDone s.abs&&laidKept (boot_heap w.params) s.abs.heap)with
 |false=>rw[z]at r2;cases r2
 |true=>rw[z]at r2;exact r2
def fo(st:Stmt)(x q:Str)(pm cd:Value):Obj:=⟨.type "function",none,.func (fnOf x q (L2.gc st) (L2.dQ st) (L2.aX st) .none .none .none pm none cd .none),#[]⟩
abbrev e(x:Str)(t:Nat)(v:Value):Str×Nat×Value:=(x,t,v)
abbrev k(a:Addr)(o:Obj):Addr×Obj:=(a,o)
def no(P:Params)(n:Nat)(l:List (Str×Nat×Value)):Obj:=⟨.type "dict",none,.dict (l.map λ e=>⟨PyData.keyHash P e.1,.str e.1 e.2.1,e.2.2⟩).toArray n,#[]⟩
def fd(st:Stmt)(x q:Str)(pm:Value)(c:Addr):FuncData:=fnOf x q (L2.gc st) (L2.dQ st) (L2.aX st) .none .none .none pm none (.ref c) .none
def fq(st:Stmt)(x q:Str)(pm:Value)(c:Addr):Obj:=⟨.type "function",none,.func (fd st x q pm c),#[]⟩
def co(x q:Str)(t:Nat)(line argc:Int)(a b:Addr)(u v:Value)(d:Addr)(i:Int)(z:Nat):Obj:=⟨.type "code",none,.fields #[.str x t,.str q (t+1),.str "/claim/cut.py" (t+2),.int line 0,.int argc 0,.int 0 0,.int 0 0,.int 3 0,.ref a,.bool true,.int 181 0,.ref b,.none,u,v,.ref d,.int i 0,.int line 0,.str "/claim/cut.py" z],#[]⟩
end Hd
namespace Row
open PySem L2
open PySem.Spec hiding items?
open PyProof.Rows hiding St
def top(i:Nat):Stmt:=PySem.Challenge.pw_latticeworks_k68_within_and_how_often.main.body.getD i (.Pass ⟨0,0,0,0⟩)
abbrev PW:Program:=PySem.Challenge.pw_latticeworks_k68_within_and_how_often
abbrev nU:Stmt:=top 1
abbrev tE:Stmt:=top 2
abbrev qh:Stmt:=top 3
abbrev oi:Stmt:=top 4
abbrev p9:Stmt:=top 5
abbrev jq:Stmt:=top 6
abbrev m6:Stmt:=top 7
abbrev lK:Stmt:=top 8
abbrev ot:Stmt:=top 10
abbrev f_:Stmt:=top 11
abbrev lH:Stmt:=top 12
abbrev nv:Stmt:=top 13
abbrev cz:Stmt:=inClass (top 14) 0
abbrev fS:Stmt:=inClass (top 14) 1
abbrev dS:Stmt:=inClass (top 14) 2
abbrev dy:Stmt:=inClass (top 14) 3
abbrev cH:Stmt:=inClass (top 14) 4
abbrev eY:Stmt:=inClass (top 14) 5
abbrev dv:Stmt:=inClass (top 14) 6
abbrev m4:Stmt:=top 15
abbrev oF:Stmt:=top 16
abbrev tj:Stmt:=top 17
abbrev sI:Stmt:=top 19
abbrev kY:Stmt:=top 20
abbrev mR:Stmt:=top 21
abbrev mG:Stmt:=top 23
abbrev mz:Stmt:=top 24
abbrev kj:Stmt:=top 25
abbrev mF:Stmt:=top 26
abbrev kT:Stmt:=top 27
abbrev my:Stmt:=top 28
abbrev lh:Stmt:=top 29
abbrev qI:Stmt:=top 30
abbrev k6:Stmt:=top 31
abbrev kl:Stmt:=top 32
abbrev kX:Stmt:=top 33
abbrev gy:Stmt:=top 34
abbrev k9:Stmt:=top 35
abbrev kC:Stmt:=top 36
abbrev gZ:Stmt:=top 37
abbrev r8:Stmt:=top 38
def jz:Value:=(.str "latticeworks.rows" 187)
def dF:Value:=(.str "latticeworks.standing" 243)
def zh:Value:=(.str "latticeworks.spaces" 394)
def dM:Value:=(.str "law_latticeworks_k68_within_and_how_often" 422)
def KX(P:Params):PySem.W.Frag:=[Hd.k 3 (Hd.no P 44 [Hd.e "__name__" 165 (.str "law_latticeworks_k68_within_and_how_often" 422),Hd.e "__doc__" 166 .none,Hd.e "__package__" 167 .none,Hd.e "__loader__" 168 (.builtin "__main__.__loader__#opaque"),Hd.e "__spec__" 169 .none,Hd.e "__annotations__" 170 (.ref 6),Hd.e "__builtins__" 171 (.ref 4),Hd.e "__file__" 173 (.str "/claim/cut.py" 172),Hd.e "__cached__" 174 .none,Hd.e "as_rows" 194 (.ref 19),Hd.e "added" 200 (.ref 24),Hd.e "sum_by" 212 (.ref 31),Hd.e "product" 218 (.ref 36),Hd.e "column" 224 (.ref 41),Hd.e "turned_over" 230 (.ref 46),Hd.e "unit_row" 236 (.ref 51),Hd.e "unit_rows" 242 (.ref 56),Hd.e "lead_of" 253 (.ref 63),Hd.e "nearest_quotient" 261 (.ref 70),Hd.e "exchanged" 271 (.ref 77),Hd.e "negated" 277 (.ref 82),Hd.e "Bench" 361 (.ref 137),Hd.e "standing" 372 (.ref 148),Hd.e "weighed" 385 (.ref 155),Hd.e "falls" 393 (.ref 162),Hd.e "space" 403 (.ref 169),Hd.e "is_within" 409 (.ref 174),Hd.e "times_in" 421 (.ref 181),Hd.e "_law_hand" 431 (.ref 188),Hd.e "_law_draw" 443 (.ref 195),Hd.e "_law_number" 451 (.ref 202),Hd.e "_law_rows" 457 (.ref 207),Hd.e "_law_width" 464 (.ref 214),Hd.e "_law_many" 473 (.ref 221),Hd.e "_law_falls" 479 (.ref 226),Hd.e "_law_in" 487 (.ref 233),Hd.e "_law_mixed" 493 (.ref 238),Hd.e "_law_square" 499 (.ref 243),Hd.e "_law_leads" 505 (.ref 248),Hd.e "_law_rests" 511 (.ref 253),Hd.e "_law_times" 519 (.ref 260),Hd.e "_law_listed" 525 (.ref 265),Hd.e "_law_made_right" 531 (.ref 270),Hd.e "law" 537 (.ref 275)]),
 Hd.k 18 (Hd.co "as_rows" "as_rows" 189 2 1 15 16 .none .none 17 192 193),
 Hd.k 19 (Hd.fq nU "as_rows" "as_rows" jz 18),
 Hd.k 23 (Hd.co "added" "added" 195 4 3 20 21 .none .none 22 198 199),
 Hd.k 24 (Hd.fq tE "added" "added" jz 23),
 Hd.k 30 (Hd.co "sum_by" "sum_by" 201 6 3 25 26 (.ref 27) (.ref 28) 29 210 211),
 Hd.k 31 (Hd.fq qh "sum_by" "sum_by" jz 30),
 Hd.k 35 (Hd.co "product" "product" 213 11 2 32 33 .none .none 34 216 217),
 Hd.k 36 (Hd.fq oi "product" "product" jz 35),
 Hd.k 40 (Hd.co "column" "column" 219 14 2 37 38 .none .none 39 222 223),
 Hd.k 41 (Hd.fq p9 "column" "column" jz 40),
 Hd.k 45 (Hd.co "turned_over" "turned_over" 225 16 2 42 43 .none .none 44 228 229),
 Hd.k 46 (Hd.fq jq "turned_over" "turned_over" jz 45),
 Hd.k 50 (Hd.co "unit_row" "unit_row" 231 18 2 47 48 .none .none 49 234 235),
 Hd.k 51 (Hd.fq m6 "unit_row" "unit_row" jz 50),
 Hd.k 55 (Hd.co "unit_rows" "unit_rows" 237 20 1 52 53 .none .none 54 240 241),
 Hd.k 56 (Hd.fq lK "unit_rows" "unit_rows" jz 55),
 Hd.k 62 (Hd.co "lead_of" "lead_of" 245 23 1 57 58 (.ref 59) (.ref 60) 61 251 252),
 Hd.k 63 (Hd.fq ot "lead_of" "lead_of" dF 62),
 Hd.k 69 (Hd.co "nearest_quotient" "nearest_quotient" 254 28 2 64 65 (.ref 66) (.ref 67) 68 259 260),
 Hd.k 70 (Hd.fq f_ "nearest_quotient" "nearest_quotient" dF 69),
 Hd.k 76 (Hd.co "exchanged" "exchanged" 262 30 3 71 72 (.ref 73) (.ref 74) 75 269 270),
 Hd.k 77 (Hd.fq lH "exchanged" "exchanged" dF 76),
 Hd.k 81 (Hd.co "negated" "negated" 272 35 1 78 79 .none .none 80 275 276),
 Hd.k 82 (Hd.fq nv "negated" "negated" dF 81),
 Hd.k 93 (Hd.co "__init__" "Bench.__init__" 290 39 2 90 91 .none .none 92 293 294),
 Hd.k 94 (Hd.fq cz "__init__" "Bench.__init__" dF 93),
 Hd.k 100 (Hd.co "take" "Bench.take" 296 44 4 95 96 (.ref 97) (.ref 98) 99 303 304),
 Hd.k 101 (Hd.fq fS "take" "Bench.take" dF 100),
 Hd.k 107 (Hd.co "exchange" "Bench.exchange" 306 49 3 102 103 (.ref 104) (.ref 105) 106 312 313),
 Hd.k 108 (Hd.fq dS "exchange" "Bench.exchange" dF 107),
 Hd.k 114 (Hd.co "change_sign" "Bench.change_sign" 315 54 2 109 110 (.ref 111) (.ref 112) 113 320 321),
 Hd.k 115 (Hd.fq dy "change_sign" "Bench.change_sign" dF 114),
 Hd.k 119 (Hd.co "live_rows" "Bench.live_rows" 323 59 3 116 117 .none .none 118 326 327),
 Hd.k 120 (Hd.fq cH "live_rows" "Bench.live_rows" dF 119),
 Hd.k 126 (Hd.co "gather" "Bench.gather" 329 63 3 121 122 (.ref 123) (.ref 124) 125 338 339),
 Hd.k 127 (Hd.fq eY "gather" "Bench.gather" dF 126),
 Hd.k 133 (Hd.co "lower_above" "Bench.lower_above" 341 77 3 128 129 (.ref 130) (.ref 131) 132 348 349),
 Hd.k 134 (Hd.fq dv "lower_above" "Bench.lower_above" dF 133),
 Hd.k 136 (Hd.no P 4 [Hd.e "__module__" 285 (.str "latticeworks.standing" 243),Hd.e "__firstlineno__" 289 (.int (37) 288),Hd.e "__init__" 295 (.ref 94),Hd.e "take" 305 (.ref 101),Hd.e "exchange" 314 (.ref 108),Hd.e "change_sign" 322 (.ref 115),Hd.e "live_rows" 328 (.ref 120),Hd.e "gather" 340 (.ref 127),Hd.e "lower_above" 350 (.ref 134),Hd.e "__static_attributes__" 354 (.ref 135),Hd.e "__dict__" 356 (.ref 138),Hd.e "__weakref__" 358 (.ref 139),Hd.e "__doc__" 359 .none]),
 Hd.k 137 (⟨(.type "type"),none,.cls {name:="Bench",bases:=[(.type "object")],mro:=[(.ref 137),(.type "object")],ns:=136,qualname:="Bench",hasDict:=true,subclasses:=[],abstract:=false,hasDel:=false},#[none,none,(some (.str "Bench" 278)),(some (.str "Bench" 286)),(some (.builtin "object.__new__")),(some (.bool true))]⟩),
 Hd.k 147 (Hd.co "standing" "standing" 362 80 1 142 143 (.ref 144) (.ref 145) 146 370 371),
 Hd.k 148 (Hd.fq m4 "standing" "standing" dF 147),
 Hd.k 154 (Hd.co "weighed" "weighed" 373 89 2 149 150 (.ref 151) (.ref 152) 153 383 384),
 Hd.k 155 (Hd.fq oF "weighed" "weighed" dF 154),
 Hd.k 161 (Hd.co "falls" "falls" 386 98 2 156 157 (.ref 158) (.ref 159) 160 391 392),
 Hd.k 162 (Hd.fq tj "falls" "falls" dF 161),
 Hd.k 168 (Hd.co "space" "space" 396 101 2 163 164 (.ref 165) (.ref 166) 167 401 402),
 Hd.k 169 (Hd.fq sI "space" "space" zh 168),
 Hd.k 173 (Hd.co "is_within" "is_within" 404 103 2 170 171 .none .none 172 407 408),
 Hd.k 174 (Hd.fq kY "is_within" "is_within" zh 173),
 Hd.k 180 (Hd.co "times_in" "times_in" 410 105 2 175 176 (.ref 177) (.ref 178) 179 419 420),
 Hd.k 181 (Hd.fq mR "times_in" "times_in" zh 180),
 Hd.k 187 (Hd.co "_law_hand" "_law_hand" 424 114 1 182 183 (.ref 184) (.ref 185) 186 429 430),
 Hd.k 188 (Hd.fq mG "_law_hand" "_law_hand" dM 187),
 Hd.k 194 (Hd.co "_law_draw" "_law_draw" 432 117 2 189 190 (.ref 191) (.ref 192) 193 441 442),
 Hd.k 195 (Hd.fq mz "_law_draw" "_law_draw" dM 194),
 Hd.k 201 (Hd.co "_law_number" "_law_number" 444 130 2 196 197 (.ref 198) (.ref 199) 200 449 450),
 Hd.k 202 (Hd.fq kj "_law_number" "_law_number" dM 201),
 Hd.k 206 (Hd.co "_law_rows" "_law_rows" 452 136 3 203 204 .none .none 205 455 456),
 Hd.k 207 (Hd.fq mF "_law_rows" "_law_rows" dM 206),
 Hd.k 213 (Hd.co "_law_width" "_law_width" 458 141 1 208 209 (.ref 210) (.ref 211) 212 462 463),
 Hd.k 214 (Hd.fq kT "_law_width" "_law_width" dM 213),
 Hd.k 220 (Hd.co "_law_many" "_law_many" 465 145 3 215 216 (.ref 217) (.ref 218) 219 471 472),
 Hd.k 221 (Hd.fq my "_law_many" "_law_many" dM 220),
 Hd.k 225 (Hd.co "_law_falls" "_law_falls" 474 149 2 222 223 .none .none 224 477 478),
 Hd.k 226 (Hd.fq lh "_law_falls" "_law_falls" dM 225),
 Hd.k 232 (Hd.co "_law_in" "_law_in" 480 157 2 227 228 (.ref 229) (.ref 230) 231 485 486),
 Hd.k 233 (Hd.fq qI "_law_in" "_law_in" dM 232),
 Hd.k 237 (Hd.co "_law_mixed" "_law_mixed" 488 159 2 234 235 .none .none 236 491 492),
 Hd.k 238 (Hd.fq k6 "_law_mixed" "_law_mixed" dM 237),
 Hd.k 242 (Hd.co "_law_square" "_law_square" 494 173 2 239 240 .none .none 241 497 498),
 Hd.k 243 (Hd.fq kl "_law_square" "_law_square" dM 242),
 Hd.k 247 (Hd.co "_law_leads" "_law_leads" 500 183 1 244 245 .none .none 246 503 504),
 Hd.k 248 (Hd.fq kX "_law_leads" "_law_leads" dM 247),
 Hd.k 252 (Hd.co "_law_rests" "_law_rests" 506 188 3 249 250 .none .none 251 509 510),
 Hd.k 253 (Hd.fq gy "_law_rests" "_law_rests" dM 252),
 Hd.k 259 (Hd.co "_law_times" "_law_times" 512 196 2 254 255 (.ref 256) (.ref 257) 258 517 518),
 Hd.k 260 (Hd.fq k9 "_law_times" "_law_times" dM 259),
 Hd.k 264 (Hd.co "_law_listed" "_law_listed" 520 200 1 261 262 .none .none 263 523 524),
 Hd.k 265 (Hd.fq kC "_law_listed" "_law_listed" dM 264),
 Hd.k 269 (Hd.co "_law_made_right" "_law_made_right" 526 202 2 266 267 .none .none 268 529 530),
 Hd.k 270 (Hd.fq gZ "_law_made_right" "_law_made_right" dM 269),
 Hd.k 274 (Hd.co "law" "law" 532 224 1 271 272 .none .none 273 535 536),
 Hd.k 275 (Hd.fq r8 "law" "law" dM 274)]
def KA:List Addr:=[3,18,19,23,24,30,31,35,36,40,41,45,46,50,51,55,56,62,63,69,70,76,77,81,82,93,94,100,101,107,108,114,115,119,120,126,127,133,134,136,137,147,148,154,155,161,162,168,169,173,174,180,181,187,188,194,195,201,202,206,207,213,214,220,221,225,226,232,233,237,238,242,243,247,248,252,253,259,260,264,265,269,270,274,275]
set_option maxHeartbeats 0 in
theorem left:PySem.W.LeftO PW (PySem.W.view PW [1,2,3,4,5,6,7,8,10,11,12,13,14,15,16,17,19,20,21,23,24,25,26,27,28,29,30,31,32,33,34,35,36,37,38]) [] (λ _=>true) (PySem.W.kmHook Row.KX Row.KA (λ _=>rfl) [117]).obs (PySem.W.kmHook Row.KX Row.KA (λ _=>rfl) [117]).val 2974:=
 Hd.left (by kernel_rfl) (λ s=>by kernel_rfl) rfl λ w os=>by kernel_rfl
end Row
namespace L3
open PySem PySem.Spec PyProof.Rows L2
section
variable {prog:Program}{w:World}{A:Around}{R:Result->Shared->Prop}{s:Shared}
theorem yy{elt target iter:Expr}{ifs:List Expr}{scope:Scope}{pos:Pos}{it acc:Value}{env:Env}(I:Nat->Shared->Prop)
 (turn:∀n s,I n s->wpAny (model prog w) A (pyNext it) (λ r s₁=>match r with
   |none=>R (.ok .next) s₁
   |some v=>wpAny (model prog w) A (letOwnedTupleGo target it v) (λ _ s₀=>wpAny (model prog w) A (assign target env v) (λ _ s₂=>
     wpAny (model prog w) A (forIn ifs true λ c r=>if r=true then do let ok <-isTrue c env (eval c env);pure (ForInStep.yield ok)else pure (ForInStep.yield r)) (λ ok s₃=>
      if ok=true then wpAny (model prog w) A (eval elt env) (λ x s₄=>
       wpAny (model prog w) A (call (.builtin "list.append") [acc,x]) (λ _ s₅=>∃m,m<n/\I m s₅) (λ _ _=>False) s₄) (λ _ _=>False) s₃
      else∃m,m<n/\I m s₃) (λ _ _=>False) s₂) (λ _ _=>False) s₀) (λ _ _=>False) s₁) (λ _ _=>False) s)
 (n:Nat) (h:I n s):
 codeAny (model prog w) A (.compLoop (.ListComp elt [⟨target,iter,ifs,0⟩] scope pos) 0 it acc env) R s:=by
 refine codeAny_loop rfl I (λ n s hI=>?_) n h;show wpAny _ A ((compTurn (.ListComp elt [⟨target,iter,ifs,0⟩] scope pos) 0 it acc env).onRaise (λ x=>do noteFrame x env;theTreesLotGoes x)) _ _ s;refine wpAny_noted ?_;rw[compTurn_list];refine O5 (TU (O5 (Q7 (turn n s hI) (λ r s₁ h₁=>?_) λ _ _ h'=>h'.elim)));cases r with
 |none=>exact Pf h₁
 |some v=>
  refine O5 (Q7 h₁ (λ _ s₀ h₀=>?_) λ _ _ h'=>h'.elim);refine O5 (Q7 h₀ (λ _ s₂ h₂=>O5 (Q7 h₂ (λ ok s₃ h₃=>?_) λ _ _ h'=>h'.elim)) λ _ _ h'=>h'.elim);cases ok with
  |false=>exact Pf ⟨rfl,h₃⟩
  |true=>
   exact O5 (O5 (Q7 h₃ (λ x s₄ h₄=>O5 (Q7 h₄ (λ _ s₅ h₅=>Pf (Pf ⟨rfl,h₅⟩)) λ _ _ h'=>h'.elim)) λ _ _ h'=>h'.elim))
end
def cx(cells:List (Str×Addr)):List (Str×NameKind)->List (Str×Addr)->List (Str×Addr)
 | [],acc=>acc
 |(n,k)::r,acc=>if k== .free then(match cells.lookup n with|some c=>cx cells r ((n,c)::acc)|none=>cx cells r acc)else cx cells r acc
theorem cj{cells:List (Str×Addr)}:∀(names:List (Str×NameKind)) (acc:List (Str×Addr)),(∀x c,acc.lookup x=some c->cells.lookup x=some c)->
 ∀x c,(cx cells names acc).lookup x=some c->cells.lookup x=some c
 | [],acc,h,x,c,e=>h x c e
 |(n,k)::r,acc,h,x,c,e=>by
  unfold cx at e;split at e
  . split at e
    . rename_i d q;refine cj r _ (λ y b e'=>?_) x c e;rw[Qd]at e';split at e'
      . rename_i z;cases e';have z':y=n:=by simpa using z
        rw[z'];exact q
      . exact h y b e'
    . exact cj r _ h x c e
  . exact cj r _ h x c e
theorem fU{cells:List (Str×Addr)}{x:Str}:∀(names:List (Str×NameKind)) (acc:List (Str×Addr)),(∃c,cells.lookup x=some c)->((x,NameKind.free)∈names\/∃c,acc.lookup x=some c)->
 ∃c,(cx cells names acc).lookup x=some c
 | [],acc,_,h=>by
   rcases h with h|h
   . simp at h
   . exact h
 |(n,k)::r,acc,hc,h=>by
  unfold cx;split
  . rename_i hk;split
    . rename_i d q;refine fU r _ hc ?_;rcases h with h|⟨c,h⟩
      . rcases Px.mp h with e|e
        . cases e;exact .inr ⟨d,by simp[Qd]⟩
        . exact .inl e
      . refine .inr ?_;rw[Qd];split
        . exact⟨_,rfl⟩
        . exact⟨c,h⟩
    . rename_i q;refine fU r _ hc ?_;rcases h with h|h
      . rcases Px.mp h with e|e
        . cases e;obtain⟨c,hc⟩:=hc;rw[hc]at q;cases q
        . exact .inl e
      . exact .inr h
  . rename_i hk;refine fU r _ hc ?_;rcases h with h|h
    . rcases Px.mp h with e|e
      . cases e;exact absurd rfl hk
      . exact .inl e
    . exact .inr h
theorem jo{scope:Scope}{env:Env}(h:∀x∈scope.names,x.2= .free->∃c,env.cells.lookup x.1=some c):closureFor scope env=pure (cx env.cells scope.names []):=by
 have key:∀(names:List (Str×NameKind)) (acc:List (Str×Addr)),(∀x∈names,x.2= .free->∃c,env.cells.lookup x.1=some c)->
  (forIn names acc (λ(x:Str×NameKind) (cs:List (Str×Addr))=>if(x.2==NameKind.free)=true then(do let a <-cellOf env x.1;pure (ForInStep.yield ((x.1,a)::cs)):Sem (ForInStep (List (Str×Addr))))else pure (ForInStep.yield cs)))=(pure (cx env.cells names acc):Sem (List (Str×Addr))):=by
  intro names;induction names with
  |nil=>intro acc _;rfl
  |cons p r ih=>
   intro acc hh;obtain⟨n,k⟩:=p;rw[Uu];have ih':=ih;by_cases hk:(k==NameKind.free)=true
   . obtain⟨c,e⟩:=hh (n,k) Pw (by simpa using hk);simp only[hk,Rg]
     have e1:cellOf env n=pure c:=by
      unfold cellOf;rw[e]
     rw[e1];simp only[pure_bind];rw[ih _ λ x hx=>hh x (Pn _ hx)];conv=>rhs;unfold cx
     simp only[hk,Rg];rw[show env.cells.lookup n=some c from e]
   . have hk':(k==NameKind.free)=false:=by simpa using hk
     simp only[hk',PJ,Qp,pure_bind];rw[ih _ λ x hx=>hh x (Pn _ hx)];conv=>rhs;unfold cx
     simp only[hk',PJ,Qp]
 unfold closureFor;have:=key scope.names [] h;rw[bind_pure]
 first
  |exact this
  |(simp only[bind_pure]at this⊢;exact this)
end L3
namespace L3
open PySem PySem.Spec L2
open PyProof.Rows hiding St
theorem gn(env:Env):∀(names:List (Str×NameKind)) (x:Str),
 (names.map λ(n,k)=>if(k==NameKind.free&&env.scope.kind== .function&&env.kindOf n==some .cell)then(n,NameKind.cell)else(n,k)).lookup x=
   (names.lookup x).map λ k=>if(k==NameKind.free&&env.scope.kind== .function&&env.kindOf x==some .cell)then NameKind.cell else k
 | [],_=>rfl
 |(n,k)::r,x=>by
  show List.lookup x ((if(k==NameKind.free&&env.scope.kind== .function&&env.kindOf n==some .cell)=true then(n,NameKind.cell)else(n,k))::_)=_;cases hx:x==n with
  |true=>
   have e:x=n:=by simpa using hx
   subst e;by_cases hc:(k==NameKind.free&&env.scope.kind== .function&&env.kindOf x==some .cell)=true
   . rw[O_ hc];simp only[Qd,Ug,RW];rw[O_ hc]
   . rw[O7 hc];simp only[Qd,Ug,RW];rw[O7 hc]
  |false=>
   by_cases hc:(k==NameKind.free&&env.scope.kind== .function&&env.kindOf n==some .cell)=true
   . rw[O_ hc];simp only[Qd,hx];exact gn env r x
   . rw[O7 hc];simp only[Qd,hx];exact gn env r x
theorem vt{env:Env}{scope:Scope}{x:Str}(h:scope.names.lookup x=some .free):(relabel scope env).names.lookup x=some .cell\/(relabel scope env).names.lookup x=some .free:=by
 have e:(relabel scope env).names.lookup x=_:=gn env scope.names x;rw[e,h];simp only[RW];split
 . exact .inl rfl
 . exact .inr rfl
theorem wz{env:Env}{scope:Scope}{x:Str}(h:(relabel scope env).names.lookup x=some .cell\/(relabel scope env).names.lookup x=some .free):(x,NameKind.free)∈scope.names\/scope.names.lookup x=some .cell:=by
 have e:(relabel scope env).names.lookup x=_:=gn env scope.names x;rw[e]at h;cases q:scope.names.lookup x with
 |none=>rw[q]at h;rcases h with h|h<;>cases h
 |some k=>
  rw[q]at h;simp only[RW]at h;have m:=Qf q;by_cases hc:(k==NameKind.free&&env.scope.kind== .function&&env.kindOf x==some .cell)=true
  . have:k= .free:=by
     simp only[Qk]at hc;simpa using hc.1.1
    subst this;exact .inl m
  . rw[O7 hc]at h;rcases h with h|h
    . cases h;exact .inr rfl
    . cases h;exact .inl m
theorem eA:∀(names:List (Str×NameKind)) (L:Nat) (acc:List (Str×Addr)),cellsFrom L names acc=cellsFrom L names []++acc
 | [],_,_=>rfl
 |(n,k)::r,L,acc=>by
  unfold cellsFrom;by_cases hk:(k==NameKind.cell)=true
  . rw[O_ hk,O_ hk,eA r (L+1) ((n,L)::acc),eA r (L+1) [(n,L)],QJ];rfl
  . rw[O7 hk,O7 hk];exact eA r L acc
theorem nH:∀ {names:List (Str×NameKind)} {L:Nat} {x:Str} {c:Addr},(x,c)∈cellsFrom L names []->(x,NameKind.cell)∈names
 | [],_,_,_,h=>by unfold cellsFrom at h;cases h
 |(n,k)::r,L,x,c,h=>by
  unfold cellsFrom at h;by_cases hk:(k==NameKind.cell)=true
  . rw[O_ hk,eA]at h;have hk':k= .cell:=by simpa using hk
    subst hk';rcases PQ.mp h with h|h
    . exact Pn _ (nH h)
    . have:(x,c)=(n,L):=by simpa using h
      cases this;exact Pw
  . rw[O7 hk]at h;exact Pn _ (nH h)
theorem mO:∀ {l1 l2:List (Str×Addr)} {x:Str} {c:Addr},(l1++l2).lookup x=some c->l1.lookup x=some c\/(l1.lookup x=none/\l2.lookup x=some c)
 | [],_,_,_,h=> .inr ⟨rfl,h⟩
 |(n,d)::l1,l2,x,c,h=>by
  rw[List.cons_append,Qd]at h;rw[Qd];cases hx:x==n with
  |true=>rw[hx]at h;exact .inl h
  |false=>rw[hx]at h;exact mO h
theorem pN:∀ {l1 l2:List (Str×Addr)} {x:Str},l1.lookup x=none->(l1++l2).lookup x=l2.lookup x
 | [],_,_,_=>rfl
 |(n,d)::l1,l2,x,h=>by
  rw[Qd]at h;rw[List.cons_append,Qd];cases hx:x==n with
  |true=>rw[hx]at h;cases h
  |false=>rw[hx]at h;exact pN h
def jg(scope:Scope)(C:Addr)(cl:List (Str×Addr)):List (Str×Addr):=cellsFrom (C+1) scope.names cl
theorem fV{scope:Scope}{C:Addr}{cl:List (Str×Addr)}{x:Str}{c:Addr}(h:(jg scope C cl).lookup x=some c):(x,c)∈cellsFrom (C+1) scope.names []\/cl.lookup x=some c:=by
 unfold jg at h;rw[eA]at h;rcases mO h with h|h
 . exact .inl (Qf h)
 . exact .inr h.2
theorem Kp(names:List (Str×NameKind))(h:Heap){C:Addr}(e:h.objs.size=C+1):CellsOk (pushCells h names) (C+1) (cellsFrom (C+1) names []):=by
 have:=cellsFrom_ok names h (C+1) [] ⟨λ _ _ hm=>(nomatch hm),List.Pairwise.nil⟩ (by rw[e];exact O9 _);rw[e]at this;exact this
theorem j7{names:List (Str×NameKind)}{C:Addr}{x:Str}{c:Addr}:∀ {L:Nat},C<=L->(x,c)∈cellsFrom L names []->C<=c:=by
 induction names with
 |nil=>intro L _ h;unfold cellsFrom at h;cases h
 |cons p r ih=>
  obtain⟨n,k⟩:=p;intro L hL h;unfold cellsFrom at h;by_cases hk:(k==NameKind.cell)=true
  . rw[O_ hk,eA]at h;rcases PQ.mp h with h|h
    . exact ih (Pe hL (Si L)) h
    . have:(x,c)=(n,L):=by simpa using h
      cases this;exact hL
  . rw[O7 hk]at h;exact ih hL h
theorem own_apart{names:List (Str×NameKind)}{x y:Str}{c:Addr}:∀ {L:Nat},(x,c)∈cellsFrom L names []->(y,c)∈cellsFrom L names []->x=y:=by
 induction names with
 |nil=>intro L h;unfold cellsFrom at h;cases h
 |cons p r ih=>
  obtain⟨n,k⟩:=p;intro L h1 h2;unfold cellsFrom at h1 h2;by_cases hk:(k==NameKind.cell)=true
  . rw[O_ hk,eA]at h1 h2;rcases PQ.mp h1 with g1|g1<;>rcases PQ.mp h2 with g2|g2
    . exact ih g1 g2
    . have e2:(y,c)=(n,L):=by simpa using g2
      have ec:c=L:=(UC e2).2;have:=j7 (C:=L+1) (O9 _) g1;rw[ec]at this;exact absurd this (Nat.not_succ_le_self _)
    . have e1:(x,c)=(n,L):=by simpa using g1
      have ec:c=L:=(UC e1).2;have:=j7 (C:=L+1) (O9 _) g2;rw[ec]at this;exact absurd this (Nat.not_succ_le_self _)
    . have e1:(x,c)=(n,L):=by simpa using g1
      have e2:(y,c)=(n,L):=by simpa using g2
      exact(UC e1).1.trans (UC e2).1.symm
  . rw[O7 hk]at h1 h2;exact ih h1 h2
theorem qg{M:Model}{A:Around}{E:Value->Shared->Prop}{s:Shared}{scope:Scope}{globals:Addr}{cl:List (Str×Addr)}{qual:Str}{env:Env}{Q:Env->Shared->Prop}
 (hQ:Q (newEnv scope s.heap.objs.size globals (jg scope s.heap.objs.size cl) qual none .none (some env) builtinsNs) {s with heap:=pushCells (s.heap.push {cls:= .type "dict",data:= .dict #[]}) scope.names}):
 wpAny M A (newFunctionEnv scope globals cl [] qual none .none (some env)) Q E s:=by
 simp only[newFunctionEnv,Option.isSome_some,Rg];refine O5 (wpAny_alloc ?_);refine O5 (wpAny_layCells _ (λ name kind cells=>by cases hkc:kind==NameKind.cell<;>simp[hkc]) _ _ _ _ ?_);rw[show({s with heap:=s.heap.push {cls:= .type "dict",data:= .dict #[]}}:Shared).heap.objs.size=s.heap.objs.size+1 from QE ..];rw[UQ];exact O5 (Pf (Pf hQ))
structure bN(X:Cx)(scope:Scope)(Nc:List Str)(fr:List (Option Nat)):Prop where
 kind:scope.kind= .function
 cells:∀x∈scope.names,x.2= .cell->scope.names.lookup x.1=some .cell
 names:∀x∈scope.names,x.2= .local->scope.names.lookup x.1=some .local
 free:∀x∈scope.names,x.2= .free->X.env.kindOf x.1=some .cell\/X.env.kindOf x.1=some .free
 len:fr.length=Nc.length
 map:∀(i j:Nat) (x:Str),Nc[i]?=some x->fr[i]?=some (some j)->X.N[j]?=some x/\scope.names.lookup x=some .free/\(X.env.kindOf x=some .cell\/X.env.kindOf x=some .free)
def σC(fr:List (Option Nat))(σ:St):St:=fr.map λ o=>o.bind λ j=>(σ[j]?).join
def a7(X:Cx)(scope:Scope)(Nc:List Str)(C:Addr)(s:Shared)(H:Hp)(ex:List Addr):Cx:=
 {X with N:=Nc,s₀:=s,H₀:=H,env:=compEnvC scope (jg scope C (cx X.env.cells scope.names [])) C X.env,outer:=X.stack,stack:=X.stack,ex:=ex,fn:=λ x=>scope.names.lookup x==some .cell,pn:=[],xe:=λ _ _=>False}
def o3(wi:TI)(fr:List (Option Nat))(g:TG)(c:TT)(te:TE):TE:=λ σ H Q=>wi σ H λ J H1=>∀l,H1 l=none->
 ∃W:Nat->Nat->L2.St->Hp->Prop,(∃m,W 0 m (σC fr σ) (upd H1 l (.lst [])))/\∀i m σ H,W i m σ H->
  (J.stop i H/\Q (.ref l) H)\/(J.go i H/\∃N:L2.St->Hp->Prop,(∀σ' H',N σ' H'->∃m',m'<m/\W (i+1) m' σ' H')/\∀x H',J.l9 i H x H'->
    g x σ H' λ σ2 H2=>c σ2 H2 λ b H3=>if b=true then te σ2 H3 λ y H4=>∃ys,H4 l=some (.lst ys)/\ys.length<sizeLine/\N σ2 (upd H4 l (.lst (ys++[y])))else N σ2 H3)
def nB(X:Cx)(ifs:List Expr)(t:TT):Prop:=
 ∀(pins:List (Addr×Obj)) (s:Shared) (σ:St) (H:Hp) (Q:Bool->Hp->Prop),Inv X pins σ H s->t σ H Q->
  wpAny (model X.prog X.w) X.A (forIn ifs true λ c r=>if r=true then do let ok <-isTrue c X.env (eval c X.env);pure (ForInStep.yield ok)else pure (ForInStep.yield r)) (TP X pins σ Q) X.xe s
def Ms:TT:=λ _ H Q=>Q true H
theorem GB{X:Cx}:nB X [] Ms:=λ _ _ _ H _ I h=>wpAny_tests_nil ⟨H,I,h⟩
theorem GO{X:Cx}{c:Expr}{t:TT}(h:PT X c t):nB X [c] t:=λ pins s σ H Q I q=>wpAny_tests_one (h pins s σ H Q I q)
section
variable {X:Cx}{scope:Scope}{Nc:List Str}{fr:List (Option Nat)}{pins:List (Addr×Obj)}{σ:St}{H:Hp}{s:Shared}
theorem Jz{C:Addr}{fp:List Addr}(S:bN X scope Nc fr)(I:Inv X pins σ H s)(hC:C=s.heap.objs.size)(hf:∀b∈fp,iH X pins H b)(hlt:∀b∈fp,b<s.heap.objs.size)(hnc:∀b∈fp,∀x c,X.env.cells.lookup x=some c->c≠b):
 (a7 X scope Nc C s H fp).Ok where
 mod:=I.ok.mod
 kind:=S.kind
 glob:=I.ok.glob
 blt:=I.ok.blt
 above:=Td hC.symm
 inj:=λ x y c h1 h2=>by
  have low:∀ {z},(cx X.env.cells scope.names []).lookup z=some c->c<s.heap.objs.size:=λ{z} hz=>by
   obtain⟨v,q⟩:=I.cell z c (cj _ [] (λ _ _ e=>by cases e) z c hz);exact q.lt
  rcases fV h1 with h1|h1<;>rcases fV h2 with h2|h2
  . exact own_apart h1 h2
  . have a:=j7 (C:=C+1) (O9 _) h1;have b:c<C:=by rw[hC];exact low h2
    exact absurd a (Nat.not_le_of_gt (P0 b))
  . have a:=j7 (C:=C+1) (O9 _) h2;have b:c<C:=by rw[hC];exact low h1
    exact absurd a (Nat.not_le_of_gt (P0 b))
  . exact I.ok.inj x y c (cj _ [] (λ _ _ e=>by cases e) x c h1) (cj _ [] (λ _ _ e=>by cases e) y c h2)
 has:=λ x hx=>by
  rcases wz hx with m|m
  . obtain⟨c,e⟩:=fU scope.names [] (I.ok.has x (S.free _ m rfl)) (.inl m);exact RN.mp (Rn _ _ _ (.inr (by rw[e];rfl)))
  . exact RN.mp (Rn _ _ _ (.inl m))
 xr:=λ x c hf h=>by
  have hl:scope.names.lookup x=some .cell:=by
   have:(scope.names.lookup x==some .cell)=true:=hf;simpa using this
  obtain⟨c',e⟩:=RN.mp (Rn (x:=x) scope.names (C+1) [] (.inl hl))
  have h':(cellsFrom (C+1) scope.names []++cx X.env.cells scope.names []).lookup x=some c:=by
   rw[<-eA];exact h
  rcases mO h' with q|q
  . have:=j7 (C:=C+1) (O9 _) (Qf q);show s.heap.objs.size<=c;rw[<-hC];exact T6 this
  . rw[q.1]at e;cases e
 hd:=I.ok.hd
 frames:=I.ok.frames
 za:= .inl rfl
 Ct:=λ b hb=>⟨by rw[show(a7 X scope Nc C s H fp).env.locals=s.heap.objs.size from hC];exact PB (hlt b hb),λ x c h=>by
  rcases fV h with h|h
  . have a:=j7 (C:=C+1) (O9 _) h;have b':b<C:=by rw[hC];exact hlt b hb
    exact RM (Pu b' (T6 a))
  . exact hnc b hb x c (cj _ [] (λ _ _ e=>by cases e) x c h)⟩
 bs:=I.bs
 nA:=Pe I.ok.nA I.sz
 qG:=λ b o e hb=>by
  have hn:=(hf b hb).2.2.2.1;rcases hn with hn|hn
  . exact I.ok.qG b o e hn
  . exact absurd (Pm (I.ok.bs b o e).1) (Nat.not_lt.mpr hn)
 qj:=λ b hb z=>by
  have q:=I.xJ b z;rcases Px.mp q with q|q
  . exact(hf b hb).2.1 q
  . exact(hf b hb).2.2.1 q
 ik:=I.stack
 qW:=λ b hb=>I.tD b hb
 gt:=I.ok.gt
theorem yK{i:Nat}{v:V}(h:(σC fr σ)[i]?=some (some v)):∃j,fr[i]?=some (some j)/\σ[j]?=some (some v):=by
 unfold σC at h;rw[PD]at h;cases q:fr[i]? with
 |none=>rw[q]at h;cases h
 |some o=>
  rw[q]at h;cases o with
  |none=>simp at h
  |some j=>
   simp only[RW,Option.some.injEq,Uh]at h;refine⟨j,rfl,?_⟩;cases r:σ[j]? with
   |none=>rw[r]at h;cases h
   |some u=>rw[r]at h;simp at h;rw[h]
theorem E3{s':Shared}{h':Heap}{C:Addr}{fp:List Addr}{t':Nat}(S:bN X scope Nc fr)(I:Inv X pins σ H s)(hC:C=s.heap.objs.size)(ok:(a7 X scope Nc C s H fp).Ok)(hfr:∀b∈fp,H b=none)
 (k:∀b o,s.heap.get? b=some o->h'.get? b=some o) (hn:h'.Ns C (λ _=>none)) (hcs:∀x c,(x,c)∈cellsFrom (C+1) scope.names []->h'.IsCell c none):Inv (a7 X scope Nc C s H fp) [] (σC fr σ) H {s with heap:=h',toks:=t'} where
 ok:=ok
 os:=rfl
 bare:=I.bare
 base:=Un.kept k
 loc:=⟨_,hn,λ i x v h1 h2 h3=>by
  obtain⟨j,q1,q2⟩:=yK h2;obtain⟨n1,n2,n3⟩:=S.map i j x h1 q1;obtain⟨m,hm,hl⟩:=I.loc
  have vis:vA X.env.scope x:=by
   rcases n3 with z|z
   . exact .inr (.inl z)
   . exact .inr (.inr z)
  obtain⟨u,r,lk⟩:=hl j x v n1 q2 vis;refine⟨u,r,?_⟩;rcases lk with⟨z,_⟩|⟨z,c,e,ic⟩
  . rcases n3 with y|y
    . rw[y]at z;cases z
    . rw[y]at z;cases z
  . refine .inr ⟨vt n2,?_⟩;obtain⟨c',e'⟩:=fU scope.names [] ⟨c,e⟩ (.inl (Qf n2));have e2:=cj _ [] (λ _ _ e=>by cases e) x c' e';rw[e]at e2;cases e2;refine⟨c,?_,ic.keeps k⟩;show(jg scope C (cx X.env.cells scope.names [])).lookup x=some c;unfold jg;rw[eA,pN ?_]
    . exact e'
    . cases q:(cellsFrom (C+1) scope.names []).lookup x with
      |none=>rfl
      |some c2=>
       have:=S.cells _ (nH (Qf q)) rfl;rw[n2]at this;cases this⟩
 cell:=λ x c h=>by
  rcases fV h with h|h
  . exact⟨_,hcs x c h⟩
  obtain⟨v,q⟩:=I.cell x c (cj _ [] (λ _ _ e=>by cases e) x c h);exact⟨v,q.keeps k⟩
 free:=by show H C=none;rw[hC];exact I.aC.fresh (O9 _)
 fN:=λ x c h=>by
  rcases fV h with h|h
  . have a:=j7 (C:=C+1) (O9 _) h;exact I.aC.fresh (by rw[<-hC];exact T6 a)
  . exact I.fN x c (cj _ [] (λ _ _ e=>by cases e) x c h)
 pin:=λ p hp=>by cases hp
 aC:=I.aC.kept k
 len:=by unfold σC;rw[O8];exact S.len
theorem Inv.forget{C:Addr}{h':Heap}(I:Inv X pins σ H s)(f:iH X pins H C)(hs:Heap.SameBut C s.heap h'):Inv X pins σ H {s with heap:=h'}:=by
 refine I.AA (s':={s with heap:=h'}) (ch:=[C]) rfl ?_ ?_ I.bare λ b hb=>?_
 . have ne:∀b,b∉[C]->b≠C:=λ b hb z=>hb (by simp[z]);exact{keep:=λ b o q _ _ hx=>(hs.2 b (ne b hx)).trans q,slot:=λ b o q _ _ hx=>⟨o.slots,(hs.2 b (ne b hx)).trans q⟩,free:=λ b o q n _=>n,there:=λ b o q hx=>⟨o,(hs.2 b (ne b hx)).trans q⟩,lq:=λ _ _ e=>e,kc:=λ _ _ _ e=>e,ko:=λ b ps e=>⟨#[],by rw[e];simp⟩}
 . intro a o q;have na:∀b u,H b=some u->b≠C:=λ b u q z=>by rw[z,f.1]at q;cases q
   refine(I.aC a o q).lO (λ b u hb e=>?_) (λ _ q=>q) λ _ _ q=>q;rw[hs.2 b ?_]
   . exact e
   . rcases hb with rfl|hb
     . exact na _ _ q
     . exact na _ _ hb
 . have:b=C:=by simpa using hb
   subst this;exact⟨f.2.2.2.1,f.2.1,f.2.2.2.2.1,f.2.2.2.2.2⟩
theorem rR{elt tg iter:Expr}{ifs:List Expr}{wi:TI}{g:TG}{c:TT}{te:TE}{pos:Pos}{Q:VK}{RR:Value->Addr->Result->Shared->Prop}(hx:X.xe=λ _ _=>False)(hc:X.calm=true)(S:bN X scope Nc fr)(hi:PI X tg iter wi)
 (hg:∀C s H ex,PG (a7 X scope Nc C s H ex) tg g) (ht:∀C s H ex,nB (a7 X scope Nc C s H ex) ifs c) (he:∀C s H ex,PE (a7 X scope Nc C s H ex) elt te) (I:Inv X pins σ H s) (h:o3 wi fr g c te σ H Q)
 (fin:∀(l C:Addr) (s6:Shared) (H5:Hp) (m:Str->Option Value),s6.heap.Ns C m->iH X pins H5 C->Inv X pins σ H5 s6->Q (.ref l) H5->RR (.ref l) C (.ok .next) s6):
 wpAny (model X.prog X.w) X.A (eval iter X.env) (λ x s₁=>wpAny (model X.prog X.w) X.A (pyIter x) (λ it s₂=>wpAny (model X.prog X.w) X.A (newList []) (λ acc s₃=>
  wpAny (model X.prog X.w) X.A (newFunctionEnv scope X.env.globals (cx X.env.cells scope.names []) [] X.env.qual none .none (some X.env)) (λ cenv s₄=>
   codeAny (model X.prog X.w) X.A (.compStart (.ListComp elt [⟨tg,iter,ifs,0⟩] scope pos) 0 it acc {cenv with scope:=relabel scope X.env}) (RR acc cenv.locals) s₄) X.xe s₃) X.xe s₂) X.xe s₁) X.xe s:=by
 refine bz (hi pins s σ H _ I h) λ v s1 h1=>bz h1 λ itv s2 h2=>?_;obtain⟨it,fp,tn,J,H2,e,I2,T,st2,f2,hR⟩:=h2;subst e;refine Va ?_ (Po _);have I3:=I2.EA (t':=s2.toks) (its:=[]) (ys:=[]) .nil (Po _);generalize e3:({s2 with heap:=s2.heap.push {cls:= .type "list",data:= .seq ([]:List Value).toArray}}:Shared)=s3;have I3:Inv X pins σ (upd H2 s2.heap.objs.size (.lst [])) s3:=by rw[<-e3];exact I3
 have ml:s2.heap.objs.size<s3.heap.objs.size:=by rw[<-e3];show _<(s2.heap.push _).objs.size;rw[QE];omega
 have k3:∀b o,s2.heap.get? b=some o->s3.heap.get? b=some o:=λ b o q=>by rw[<-e3];exact Pa _ q
 obtain⟨W,⟨m0,w0⟩,turn⟩:=hR s2.heap.objs.size (I2.aC.fresh (O9 _));refine qg ?_;have hn:(pushCells (s3.heap.push {cls:= .type "dict",data:= .dict #[]}) scope.names).Ns s3.heap.objs.size (λ _=>none):=(Heap.Ns.new s3.heap (.type "dict")).keeps (pushCells_keeps _ _);have hcs:∀x c,(x,c)∈cellsFrom (s3.heap.objs.size+1) scope.names []->(pushCells (s3.heap.push {cls:= .type "dict",data:= .dict #[]}) scope.names).IsCell c none:=λ x c h=>((Kp scope.names _ (QE ..)).empty x c h).1;have k4:∀b o,s3.heap.get? b=some o->(pushCells (s3.heap.push {cls:= .type "dict",data:= .dict #[]}) scope.names).get? b=some o:=λ b o q=>pushCells_keeps _ _ b o (Pa _ q);generalize(pushCells (s3.heap.push {cls:= .type "dict",data:= .dict #[]}) scope.names)=h' at hn hcs k4⊢;have hobj:∀b∈fp,∃o,s2.heap.get? b=some o/\∀v,o.data≠ .cell v:=T.obj _ _ st2;have hlt2:∀b∈fp,b<s3.heap.objs.size:=λ b hb=>let⟨o,q,_⟩:=hobj b hb;Pm (k3 b o q)
 have hnl:∀b∈fp,b≠s2.heap.objs.size:=λ b hb=>by
  obtain⟨o,q,_⟩:=hobj b hb;exact PB (Pm q)
 have f3:∀b∈fp,iH X pins (upd H2 s2.heap.objs.size (.lst [])) b:=λ b hb=>⟨by rw[au (hnl b hb)];exact(f2 b hb).1,(f2 b hb).2⟩
 have ok:=Jz (C:=s3.heap.objs.size) (fp:=fp) S I3 rfl f3 hlt2 λ b hb=>(f2 b hb).2.2.2.2.1
 have I4:Inv (a7 X scope Nc s3.heap.objs.size s3 (upd H2 s2.heap.objs.size (.lst [])) fp) [] (σC fr σ) (upd H2 s2.heap.objs.size (.lst [])) {s3 with heap:=h',toks:=s3.toks}:=
  E3 (s':=s3) S I3 rfl ok (λ b hb=>(f3 b hb).1) k4 hn hcs
 have st4:tn 0 h':=T.keep _ _ _ st2 λ b _ o q=>k4 b o (k3 b o q);generalize hXc:a7 X scope Nc s3.heap.objs.size s3 (upd H2 s2.heap.objs.size (.lst [])) fp=Xc at I4;have hgc:PG Xc tg g:=by rw[<-hXc];exact hg _ _ _ _
 have htc:nB Xc ifs c:=by rw[<-hXc];exact ht _ _ _ _
 have hec:PE Xc elt te:=by rw[<-hXc];exact he _ _ _ _
 have xP:Xc.prog=X.prog:=by rw[<-hXc];rfl
 have xW:Xc.w=X.w:=by rw[<-hXc];rfl
 have xK:Xc.K=X.K:=by rw[<-hXc];rfl
 have xc:Xc.calm=true:=by rw[<-hXc];exact hc
 have xA:Xc.A=X.A:=by rw[<-hXc];rfl
 have xE:Xc.env=compEnvC scope (jg scope s3.heap.objs.size (cx X.env.cells scope.names [])) s3.heap.objs.size X.env:=by rw[<-hXc];rfl
 have xx:Xc.xe=λ _ _=>False:=by rw[<-hXc];rfl
 have fpc:∀ {H':Hp},(∀b∈fp,H' b=none)->∀b∈fp,iH Xc [] H' b:=λ{H'} hn b hb=>by
  rw[<-hXc];refine⟨hn b hb,PB (hlt2 b hb),ok.qj b hb,.inl hb,(ok.Ct b hb).2,λ p hp=>by cases hp⟩
 have loop:codeAny (model X.prog X.w) X.A (.compLoop (.ListComp elt [⟨tg,iter,ifs,0⟩] scope pos) 0 (.ref it) (.ref s2.heap.objs.size) (compEnvC scope (jg scope s3.heap.objs.size (cx X.env.cells scope.names [])) s3.heap.objs.size X.env))
  (RR (.ref s2.heap.objs.size) s3.heap.objs.size) {s3 with heap:=h',toks:=s3.toks}:=by
  refine yy (λ n s'=>∃i σ' H',Inv Xc [] σ' H' s'/\tn i s'.heap/\(∀b∈fp,H' b=none)/\W i n σ' H') ?_ m0 ⟨0,_,_,I4,st4,λ b hb=>(f3 b hb).1,w0⟩;rintro n s5 ⟨i,σ5,H5,I5,st5,fr5,w5⟩;rcases turn i n σ5 H5 w5 with⟨stop,qn⟩|⟨go,N,hN,step⟩
  . have q:=T.done Xc xP xW xK xc i [] s5 σ5 H5 (λ _ _=>False) I5 (fpc fr5) st5 stop;rw[xA]at q;refine bz q λ r s6 ⟨hr,I6⟩=>?_;subst hr;obtain⟨m,hm,_⟩:=I6.loc;rw[xE]at hm;have free6:H5 s3.heap.objs.size=none:=by have:=I6.free;rw[xE]at this;exact this
    have un6:Un (mf X.stack) fp (upd H2 s2.heap.objs.size (.lst [])) H5 s3.heap s6.heap:=by have:=I6.base;rw[<-hXc]at this;exact this
    have os6:s6.os=s3.os:=by have:=I6.os;rw[<-hXc]at this;exact this
    have hok6:fA X.prog X.w H5 s6.heap:=by have:=I6.aC;rw[xP,xW]at this;exact this
    have J:=I3.AA (s':=s6) (ch:=fp) os6 un6 hok6 I6.bare λ b hb=>⟨(f3 b hb).2.2.2.1,(f3 b hb).2.1,(f3 b hb).2.2.2.2.1,(f3 b hb).2.2.2.2.2⟩
    exact fin _ _ s6 H5 m hm (I3.sL (O9 _) free6) J qn
  . have q:=T.item Xc xP xW xK xc i [] s5 σ5 H5 (λ _ _=>False) I5 (fpc fr5) st5 go;rw[xA]at q;refine bz q λ r s6 ⟨u,hr,h6⟩=>?_;subst hr;refine bz h6 λ _ s7 ⟨x,H7,I7,r7,y7,st7,fr7⟩=>?_;have I7':=I7.pinned (fpc fr7) (T.obj _ _ st7);have q8:=hgc _ s7 σ5 H7 x u _ I7' r7 (step x H7 y7);rw[xP,xW,xA,xE,xx]at q8;refine bz q8 λ _ s8 ⟨σ8,H8,I8,q8⟩=>?_;have q9:=htc _ s8 σ8 H8 _ I8 q8;rw[xP,xW,xA,xE,xx]at q9;refine bz q9 λ b s9 ⟨H9,I9,q9⟩=>?_
    have again:∀ {H':Hp} {s':Shared},Inv Xc ([]++oE fp s7.heap) σ8 H' s'->N σ8 H'->∃m,m<n/\∃i σ' H',Inv Xc [] σ' H' s'/\tn i s'.heap/\(∀b∈fp,H' b=none)/\W i m σ' H':=λ{H' s'} J nn=>by
     obtain⟨m',hm,w7⟩:=hN σ8 H' nn;refine⟨m',hm,i+1,σ8,H',J.fm,T.keep _ _ _ st7 λ b hb o e=>(J.pin (b,o) (PC _ (PC _ (jO hb e)))).1,λ b hb=>?_,w7⟩;obtain⟨o,e,d⟩:=T.obj _ _ st7 b hb;exact(J.pin (b,o) (PC _ (PC _ (jO hb e)))).2.1
    cases b with
    |false=>exact again I9 q9
    |true=>
     have qe:=hec _ s9 σ8 H9 _ I9 q9;rw[xP,xW,xA,xE,xx]at qe;refine bz qe λ y s10 ⟨vy,H10,I10,ry,ys,hy,hlt,qN⟩=>?_;have qa:=uM (X:=Xc) _ s10 σ8 H10 (.ref s2.heap.objs.size) [vy] (.ref s2.heap.objs.size) [y] (λ _ H'=>N σ8 H') I10 rfl (.cons ry .nil) ⟨_,ys,vy,rfl,rfl,hy,hlt,qN⟩;rw[xP,xW,xA,xx]at qa;exact bz qa λ _ s11 ⟨_,H11,I11,_,q11⟩=>again I11 q11
 refine codeAny_compStart_list ?_ ?_
 . exact loop
 . exact T.self _ 0 _ _ _ st4 loop
theorem yQ{elt tg iter:Expr}{ifs:List Expr}{wi:TI}{g:TG}{c:TT}{te:TE}{pos:Pos}(hx:X.xe=λ _ _=>False)(hc:X.calm=true)(S:bN X scope Nc fr)(hi:PI X tg iter wi)
 (hg:∀C s H ex,PG (a7 X scope Nc C s H ex) tg g) (ht:∀C s H ex,nB (a7 X scope Nc C s H ex) ifs c) (he:∀C s H ex,PE (a7 X scope Nc C s H ex) elt te)
 (hs:∀x,foldedSetIterable iter X.env x=pure x:=by intro _;rfl):PE X (.ListComp elt [⟨tg,iter,ifs,0⟩] scope pos) (o3 wi fr g c te):=by
 intro pins s σ H Q I h;rw[eval_ListComp];have hcl:closureFor scope X.env=pure (cx X.env.cells scope.names []):=jo λ x hx hk=>I.ok.has x.1 (S.free x hx hk);refine Ui rfl hs hcl S.kind S.names ?_;exact rR (RR:=λ acc C=>compPost (model X.prog X.w) X.A X.xe none (EP X pins σ Q) acc C) hx hc S hi hg ht he I h λ l C s6 H5 m hm f J q=>⟨m,hm,λ h'' hs''=>⟨.ref l,H5,Inv.forget J f hs'',rfl,q⟩⟩
theorem yV{elt tg iter:Expr}{ifs:List Expr}{wi:TI}{g:TG}{c:TT}{te:TE}{pos pos' spos:Pos}{i:Nat}{x:Str}(hx:X.xe=λ _ _=>False)(hc:X.calm=true)(S:bN X scope Nc fr)(hi:PI X tg iter wi)
 (hg:∀C s H ex,PG (a7 X scope Nc C s H ex) tg g) (ht:∀C s H ex,nB (a7 X scope Nc C s H ex) ifs c) (he:∀C s H ex,PE (a7 X scope Nc C s H ex) elt te) (hN:X.N.Nodup) (hni:X.N[i]?=some x) (hl:Loc X.env.scope x) (hf:X.fn x=true\/X.env.scope.names.lookup x=some .local)
 (hsw:swapsWith (.ListComp elt [⟨tg,iter,ifs,0⟩] scope pos) (some (.Name x pos')) spos.line X.env=pure true)
 (hs:∀x,foldedSetIterable iter X.env x=pure x:=by intro _;rfl):PS X (.Assign [.Name x pos'] (.ListComp elt [⟨tg,iter,ifs,0⟩] scope pos) spos) (ju (o3 wi fr g c te) (i5 i)):=by
 intro pins s σ H D I h;have hcl:closureFor scope X.env=pure (cx X.env.cells scope.names []):=jo λ x hx hk=>I.ok.has x.1 (S.free x hx hk);rw[exec_Assign_Name_used _ _ _ _ hsw];refine O5 (TU (O5 ?_));show wpAny _ X.A (do let _ <-comprehension (.ListComp elt [⟨tg,iter,ifs,0⟩] scope pos) scope X.env _ (newList []) false (eval iter X.env) (some (assign (.Name x pos') X.env))) _ _ s
 refine O5 (Q7 (Ui (use:=some (assign (.Name x pos') X.env)) (Q:=λ _ s'=>SP X pins D .next s') rfl hs hcl S.kind S.names
  (rR (RR:=λ acc C=>compPost (model X.prog X.w) X.A X.xe (some (assign (.Name x pos') X.env)) (λ _ s'=>SP X pins D .next s') acc C) hx hc S hi hg ht he I h λ l C s6 H5 m hm f J q=>?_)) (λ _ s' hq=>Pf (Pf hq)) λ _ _ e=>e)
 show wpAny _ X.A (assign (.Name x pos') X.env (.ref l)) _ _ _;refine wpAny_assign_Name (uD J hN hni hl (show RelV (.ref l) (.ref l)from rfl) (λ s7 J7 hch=>?_) hf);obtain⟨a,hsame,ha⟩:=hch
 have hCa:C≠a:=by
  rcases ha with rfl|ha
  . exact f.2.1
  . exact λ z=>f.2.2.2.2.1 x a ha z.symm
 refine⟨m,hm.sameBut hsame hCa,λ h'' hs''=>⟨σ.set i (some (.ref l)),H5,Inv.forget J7 f hs'',q⟩⟩
end
inductive D where
 |aq|bl (b:Bool)|int (i:Int)|str (x:Str)|ty (n:String)|ref (n:Nat)|lst (xs:List D)|tup (xs:List D)
inductive Cell where
 |lst (xs:List D)|ins (C:Addr) (fs:List (Str×D))|dead
  |tab (P:Addr) (pos:Pos) (qual:Str) (b:Bool)
abbrev ae:=List Cell
abbrev bf:=List (Option D)
mutual
def Rep(α:List (Option Addr))(H:Hp):D->V->Prop
 | .aq,v=>v= .aq
 | .bl b,v=>v= .bl b
 | .int i,v=>v= .int i
 | .str x,v=>v= .str x
 | .ty n,v=>v= .ty n
 | .ref n,v=>α[n]?=some none\/∃a,α[n]?=some (some a)/\v= .ref a
 | .lst xs,v=>∃a vs,v= .ref a/\some a∉α/\Rd H a (.lst vs)/\aB α H xs vs
 | .tup xs,v=>∃a vs,v= .ref a/\some a∉α/\H a=some (.tup vs)/\aB α H xs vs
def aB(α:List (Option Addr))(H:Hp):List D->List V->Prop
 | [],vs=>vs=[]
 |d::ds,vs=>∃v r,vs=v::r/\Rep α H d v/\aB α H ds r
end
theorem aM{α:List (Option Addr)}{H:Hp}:∀ {ds:List D} {vs:List V},aB α H ds vs↔Paired (Rep α H) ds vs
 | [],vs=>by
   unfold aB;constructor
   . rintro rfl;exact .nil
   . intro h;cases h;rfl
 |d::ds,vs=>by
  unfold aB;constructor
  . rintro⟨v,r,rfl,h1,h2⟩;exact .cons h1 (aM.mp h2)
  . intro h;cases h with|cons h1 h2=>exact⟨_,_,rfl,h1,aM.mpr h2⟩
section
variable {α:List (Option Addr)}{H:Hp}
theorem aB.length{ds:List D}{vs:List V}(h:aB α H ds vs):ds.length=vs.length:=SQ (aM.mp h)
theorem jK{A B:Type}{F:A->B->Prop}:∀ {xs:List A} {ys:List B} {i:Nat} {x:A},Paired F xs ys->xs[i]?=some x->∃y,ys[i]?=some y/\F x y
 |_,_,_,_,.nil,e=>by simp at e
 |_,_,0,_,.cons r _,e=>by simp at e;subst e;exact⟨_,rfl,r⟩
 |_,_,i+1,x,.cons _ t,e=>by
  obtain⟨u,h1,h2⟩:=jK (i:=i) (x:=x) t (by simpa using e);exact⟨u,by simpa using h1,h2⟩
theorem d_{A B:Type}{F:A->B->Prop}:∀ {xs xs':List A} {ys ys':List B},Paired F xs ys->Paired F xs' ys'->Paired F (xs++xs') (ys++ys')
 |_,_,_,_,.nil,s=>s
 |_,_,_,_,.cons r t,s=> .cons r (d_ t s)
theorem pE{A B:Type}{F:A->B->Prop}:∀ {xs:List A} {ys:List B} (n:Nat),Paired F xs ys->Paired F (xs.take n) (ys.take n)
 |_,_,0,_=> .nil
 |_,_,_+1,.nil=> .nil
 |_,_,n+1,.cons r t=> .cons r (pE n t)
theorem pv{A B:Type}{F:A->B->Prop}:∀ {xs:List A} {ys:List B} (n:Nat),Paired F xs ys->Paired F (xs.drop n) (ys.drop n)
 |_,_,0,r=>r
 |_,_,_+1,.nil=> .nil
 |_,_,n+1,.cons _ t=>pv n t
theorem mM{A B:Type}{F:A->B->Prop}{x:A}{y:B}(r:F x y):∀ {xs:List A} {ys:List B} (i:Nat),Paired F xs ys->Paired F (xs.set i x) (ys.set i y)
 |_,_,_,.nil=> .nil
 |_,_,0,.cons _ t=> .cons r t
 |_,_,i+1,.cons q t=> .cons q (mM r i t)
theorem k_{A B:Type}{F:A->B->Prop}{xs:List A}{ys:List B}(h:Paired F xs ys):∀k:Nat,Paired F (List.replicate k xs).flatten (List.replicate k ys).flatten
 |0=> .nil
 |k+1=>by
  rw[QU,QU,Rh,Rh];exact d_ h (k_ h k)
theorem aB.get{ds:List D}{vs:List V}{i:Nat}{d:D}(h:aB α H ds vs)(e:ds[i]?=some d):∃v,vs[i]?=some v/\Rep α H d v:=jK (aM.mp h) e
end
structure Step(α:List (Option Addr))(H:Hp)(α':List (Option Addr))(H':Hp):Prop where
 ext:∀b o,some b∉α->H b=some o->H' b=some o
 pre:∀(n:Nat) (x:Option Addr),α[n]?=some x->α'[n]?=some x\/α'[n]?=some none
 new:∀b,some b∈α'->some b∉α->H b=none
theorem Step.refl{α:List (Option Addr)}{H:Hp}:Step α H α H:=⟨λ _ _ _ h=>h,λ _ _ h=> .inl h,λ _ h n=>absurd h n⟩
theorem Step.trans{α α1 α2:List (Option Addr)}{H H1 H2:Hp}(a:Step α H α1 H1)(b:Step α1 H1 α2 H2):Step α H α2 H2 where
 ext:=λ c o hc e=>b.ext c o (λ z=>by rw[a.new c z hc]at e;cases e) (a.ext c o hc e)
 pre:=λ n x e=>by
  rcases a.pre n x e with h|h
  . exact b.pre n x h
  . rcases b.pre n none h with h'|h'
    . exact .inr h'
    . exact .inr h'
 new:=λ c hc n=>by
  by_cases h1:some c∈α1
  . exact a.new c h1 n
  . have:=b.new c hc h1;cases q:H c with
    |none=>rfl
    |some o=>rw[a.ext c o n q]at this;cases this
theorem Step.laid{α:List (Option Addr)}{H:Hp}{p:Addr}{o:HO}(h:H p=none):Step α H α (upd H p o):=
 ⟨λ b u _ e=>by rw[au (cF e h)];exact e,λ _ _ h=> .inl h,λ _ h n=>absurd h n⟩
theorem Step.cell{α:List (Option Addr)}{H:Hp}{p:Addr}{o:HO}(h:H p=none):Step α H (α++[some p]) (upd H p o):=
 ⟨λ b u _ e=>by rw[au (cF e h)];exact e,λ n x e=> .inl (by rw[Pd (O6.mp e).1];exact e),λ b hb n=>by
  rcases PQ.mp hb with z|z
  . exact absurd z n
  . have:b=p:=by simpa using z
    subst this;exact h⟩
theorem Step.write{α:List (Option Addr)}{H:Hp}{p:Addr}{o:HO}(h:some p∈α):Step α H α (upd H p o):=
 ⟨λ b u n e=>by rw[au (λ z=>by subst z;exact n h)];exact e,λ _ _ h=> .inl h,λ _ h n=>absurd h n⟩
theorem Step.dE{α:List (Option Addr)}{H:Hp}{n:Nat}:Step α H (α.set n none) H:=
 ⟨λ _ _ _ h=>h,λ m x e=>by
  by_cases hm:n=m
  . subst hm;exact .inr (Pg (O6.mp e).1)
  . exact .inl (by rw[Pb hm];exact e),λ b hb hn=>by
  rcases Qi hb with z|z
  . exact absurd z hn
  . cases z⟩
mutual
theorem Rep.step{α α':List (Option Addr)}{H H':Hp}(s:Step α H α' H'):∀ {d:D} {v:V},Rep α H d v->Rep α' H' d v
 | .aq,_,h=>by unfold Rep at h⊢;exact h
 | .bl _,_,h=>by unfold Rep at h⊢;exact h
 | .int _,_,h=>by unfold Rep at h⊢;exact h
 | .str _,_,h=>by unfold Rep at h⊢;exact h
 | .ty _,_,h=>by unfold Rep at h⊢;exact h
 | .ref n,_,h=>by
   unfold Rep at h⊢;rcases h with h|⟨a,e,r⟩
   . rcases s.pre _ _ h with z|z<;>exact .inl z
   . rcases s.pre _ _ e with z|z
     . exact .inr ⟨a,z,r⟩
     . exact .inl z
 | .lst xs,_,h=>by
   unfold Rep at h⊢;obtain⟨a,vs,e,n,r,q⟩:=h;refine⟨a,vs,e,λ z=>?_,?_,aB.step s q⟩
   . have:=s.new a z n;rcases r with r|⟨o,r⟩<;>(rw[this]at r;cases r)
   . rcases r with r|⟨o,r⟩
     . exact .inl (s.ext _ _ n r)
     . exact .inr ⟨o,s.ext _ _ n r⟩
 | .tup xs,_,h=>by
   unfold Rep at h⊢;obtain⟨a,vs,e,n,r,q⟩:=h;exact⟨a,vs,e,(λ z=>by rw[s.new a z n]at r;exact nomatch r),s.ext _ _ n r,aB.step s q⟩
theorem aB.step{α α':List (Option Addr)}{H H':Hp}(s:Step α H α' H'):∀ {ds:List D} {vs:List V},aB α H ds vs->aB α' H' ds vs
 | [],_,h=>by unfold aB at h⊢;exact h
 |d::ds,_,h=>by
  unfold aB at h⊢;obtain⟨v,r,e,h1,h2⟩:=h;exact⟨v,r,e,Rep.step s h1,aB.step s h2⟩
end
structure bw(G F H:Hp):Prop where
 eq:∀b,H b=(G b).or (F b)
 vR:∀b o,G b=some o->F b=none
section
variable {G F H:Hp}
theorem bw.get(P:bw G F H){b:Addr}{o:HO}(h:G b=some o):H b=some o:=by rw[P.eq b,h];rfl
theorem bw.same(P:bw G F H):DL G H:=λ _ _ h=>P.get h
theorem bw.none(P:bw G F H){b:Addr}(h:H b=none):G b=none/\F b=none:=by
 have e:=P.eq b;rw[h]at e;cases q:G b with
 |none=>rw[q]at e;exact⟨rfl,e.symm⟩
 |some o=>rw[q]at e;cases e
theorem bw.frame(P:bw G F H){b:Addr}{o:HO}(h:F b=some o):H b=some o/\G b=Option.none:=by
 have hn:G b=Option.none:=by
  cases q:G b with
  |none=>rfl
  |some u=>rw[P.vR b u q]at h;cases h
 exact⟨by rw[P.eq b,hn,h];rfl,hn⟩
theorem bw.laid(P:bw G F H){p:Addr}{o:HO}(h:H p=Option.none):bw (upd G p o) F (upd H p o):=by
 obtain⟨h1,h2⟩:=P.none h;refine⟨λ b=>?_,λ b u e=>?_⟩
 . by_cases hb:b=p
   . subst hb;rw[aG,aG];rfl
   . rw[au hb,au hb];exact P.eq b
 . by_cases hb:b=p
   . subst hb;exact h2
   . rw[au hb]at e;exact P.vR b u e
theorem bw.write(P:bw G F H){p:Addr}{o o':HO}(h:G p=some o):bw (upd G p o') F (upd H p o'):=by
 refine⟨λ b=>?_,λ b u e=>?_⟩
 . by_cases hb:b=p
   . subst hb;rw[aG,aG];rfl
   . rw[au hb,au hb];exact P.eq b
 . by_cases hb:b=p
   . subst hb;exact P.vR b o h
   . rw[au hb]at e;exact P.vR b u e
theorem bw.hide(P:bw G F H){p:Addr}{o:HO}(h:H p=Option.none):bw G (upd F p o) (upd H p o):=by
 obtain⟨h1,h2⟩:=P.none h;refine⟨λ b=>?_,λ b u e=>?_⟩
 . by_cases hb:b=p
   . subst hb;rw[aG,aG,h1];rfl
   . rw[au hb,au hb];exact P.eq b
 . by_cases hb:b=p
   . subst hb;rw[h1]at e;cases e
   . rw[au hb];exact P.vR b u e
theorem bw.OM(P:bw G F H){p:Addr}{o o':HO}(h:F p=some o):bw G (upd F p o') (upd H p o'):=by
 have h1:=(P.frame h).2;refine⟨λ b=>?_,λ b u e=>?_⟩
 . by_cases hb:b=p
   . subst hb;rw[aG,aG,h1];rfl
   . rw[au hb,au hb];exact P.eq b
 . by_cases hb:b=p
   . subst hb;rw[h1]at e;cases e
   . rw[au hb];exact P.vR b u e
theorem bw.show{p:Addr}{o:HO}(P:bw G (upd F p o) H)(h:F p=Option.none):bw (upd G p o) F H:=by
 have h1:=(P.frame (b:=p) aG)
 refine⟨λ b=>?_,λ b u e=>?_⟩
 . by_cases hb:b=p
   . subst hb;rw[aG,h1.1];rfl
   . rw[au hb,P.eq b,au hb]
 . by_cases hb:b=p
   . subst hb;exact h
   . rw[au hb]at e;have:=P.vR b u e;rw[au hb]at this;exact this
end
mutual
theorem Rep.mono{α:List (Option Addr)}{G H:Hp}(s:DL G H):∀ {d:D} {v:V},Rep α G d v->Rep α H d v
 | .aq,_,h=>by unfold Rep at h⊢;exact h
 | .bl _,_,h=>by unfold Rep at h⊢;exact h
 | .int _,_,h=>by unfold Rep at h⊢;exact h
 | .str _,_,h=>by unfold Rep at h⊢;exact h
 | .ty _,_,h=>by unfold Rep at h⊢;exact h
 | .ref n,_,h=>by unfold Rep at h⊢;exact h
 | .lst xs,_,h=>by
   unfold Rep at h⊢;obtain⟨a,vs,e,n,r,q⟩:=h;refine⟨a,vs,e,n,?_,aB.mono s q⟩;rcases r with r|⟨o,r⟩
   . exact .inl (s _ _ r)
   . exact .inr ⟨o,s _ _ r⟩
 | .tup xs,_,h=>by
   unfold Rep at h⊢;obtain⟨a,vs,e,n,r,q⟩:=h;exact⟨a,vs,e,n,s _ _ r,aB.mono s q⟩
theorem aB.mono{α:List (Option Addr)}{G H:Hp}(s:DL G H):∀ {ds:List D} {vs:List V},aB α G ds vs->aB α H ds vs
 | [],_,h=>by unfold aB at h⊢;exact h
 |d::ds,_,h=>by
  unfold aB at h⊢;obtain⟨v,r,e,h1,h2⟩:=h;exact⟨v,r,e,Rep.mono s h1,aB.mono s h2⟩
end
def g4(α:List (Option Addr))(H:Hp):List (Str×D)->List (Str×V)->Prop:=Paired λ p q=>p.1=q.1/\Rep α H p.2 q.2
def iw(α:List (Option Addr))(H:Hp)(a:Addr):Cell->Prop
 | .lst xs=>∃vs,H a=some (.lst vs)/\aB α H xs vs
 | .ins C fs=>∃dx vs,H a=some (.ins C dx vs)/\g4 α H fs vs
 | .dead=>False
 | .tab P pos qual b=>a=P/\∃ps:Array Value,H a=some (.g9 ps)/\TriplesOk ps.toList/\
    ((b=false/\codeAmong pos ps.toList=none)\/(b=true/\∃c o vs t,codeAmong pos ps.toList=some (.ref c)/\some c∉α/\H c=some (.dE o (.own c))/\o.data= .fields vs/\vs[1]?=some (.str qual t)))
structure aD(α:List (Option Addr))(st:ae)(H:Hp):Prop where
 len:α.length=st.length
 nd:∀(i j:Nat) (a:Addr),α[i]?=some (some a)->α[j]?=some (some a)->i=j
 at':∀(n:Nat) (c:Cell),st[n]?=some c->(c= .dead/\α[n]?=some none)\/∃a,α[n]?=some (some a)/\iw α H a c
theorem g4.step{α α':List (Option Addr)}{H H':Hp}(s:Step α H α' H'){ds:List (Str×D)}{vs:List (Str×V)}(h:g4 α H ds vs):g4 α' H' ds vs:=Paired.Ej h λ _ _ z=>⟨z.1,z.2.step s⟩
theorem iw.same{α α':List (Option Addr)}{H H':Hp}{a:Addr}{c:Cell}(s:Step α H α' H')(e:H' a=H a)(h:iw α H a c):iw α' H' a c:=by
 cases c with
 |lst xs=>obtain⟨vs,h1,h2⟩:=h;exact⟨vs,e.trans h1,h2.step s⟩
 |ins C fs=>obtain⟨dx,vs,h1,h2⟩:=h;exact⟨dx,vs,e.trans h1,h2.step s⟩
 |dead=>exact h.elim
 |tab P pos qual b=>
  obtain⟨z,ps,h1,h2,h3⟩:=h;refine⟨z,ps,e.trans h1,h2,?_⟩;rcases h3 with h3|⟨hb,c,o,vs,t,q1,q2,q3,q4⟩
  . exact .inl h3
  . exact .inr ⟨hb,c,o,vs,t,q1,(λ y=>by rw[s.new c y q2]at q3;cases q3),s.ext c _ q2 q3,q4⟩
theorem iw.some{α:List (Option Addr)}{H:Hp}{a:Addr}{c:Cell}(h:iw α H a c):∃o,H a=some o:=by
 cases c with
 |lst xs=>obtain⟨vs,h1,h2⟩:=h;exact⟨_,h1⟩
 |ins C fs=>obtain⟨dx,vs,h1,h2⟩:=h;exact⟨_,h1⟩
 |dead=>exact h.elim
 |tab P pos qual b=>obtain⟨_,ps,h1,_⟩:=h;exact⟨_,h1⟩
theorem bY{α:List (Option Addr)}{H:Hp}{n:Nat}{v:V}{a:Addr}(e:α[n]?=Option.some (Option.some a))(r:Rep α H (.ref n) v):v= .ref a:=by
 unfold Rep at r;rcases r with r|⟨b,eb,rfl⟩
 . rw[e]at r;cases r
 . rw[e]at eb;cases eb;rfl
section
variable {α:List (Option Addr)}{st:ae}{H:Hp}
theorem aD.d6(S:aD α st H){n:Nat}{xs:List D}(e:st[n]?=Option.some (.lst xs)):∃a,α[n]?=Option.some (Option.some a)/\∃vs,H a=Option.some (.lst vs)/\aB α H xs vs:=by
 rcases S.at' n _ e with⟨z,_⟩|z
 . cases z
 . exact z
theorem aD.va(S:aD α st H){n:Nat}{C:Addr}{fs:List (Str×D)}(e:st[n]?=Option.some (.ins C fs)):∃a,α[n]?=Option.some (Option.some a)/\∃dx vs,H a=Option.some (.ins C dx vs)/\g4 α H fs vs:=by
 rcases S.at' n _ e with⟨z,_⟩|z
 . cases z
 . exact z
theorem aD.mem(S:aD α st H){a:Addr}(h:Option.some a∈α):∃(n:Nat) (c:Cell),α[n]?=Option.some (Option.some a)/\st[n]?=Option.some c/\iw α H a c:=by
 obtain⟨n,hn,e⟩:=PK.mp h;have hl:n<st.length:=by rw[<-S.len];exact hn
 have e':α[n]?=Option.some (Option.some a):=by rw[Pk hn,e]
 rcases S.at' n st[n] (by simp[hl])with⟨_,q⟩|⟨a',q,ca⟩
 . rw[e']at q;cases q
 . rw[e']at q;cases q;exact⟨n,_,e',by simp[hl],ca⟩
theorem aD.iq(S:aD α st H){p:Addr}(h:H p=none):Option.some p∉α:=λ z=>by
 obtain⟨n,c,_,_,ca⟩:=S.mem z;obtain⟨o,e⟩:=ca.some;rw[h]at e;cases e
theorem aD.laid(S:aD α st H){p:Addr}{o:HO}(h:H p=none):aD α st (upd H p o):=
 ⟨S.len,S.nd,λ n c e=>by
  rcases S.at' n c e with z|⟨a,q,ca⟩
  . exact .inl z
  . exact .inr ⟨a,q,ca.same (Step.laid h) (au (by obtain⟨u,z⟩:=ca.some;exact cF z h))⟩⟩
theorem aD.cell(S:aD α st H){p:Addr}{o:HO}{c:Cell}(h:H p=none)(hc:iw (α++[Option.some p]) (upd H p o) p c):aD (α++[Option.some p]) (st++[c]) (upd H p o) where
 len:=by rw[Py,Py,S.len];rfl
 nd:=λ i j a ei ej=>by
  have key:∀(i:Nat) (a:Addr),(α++[Option.some p])[i]?=Option.some (Option.some a)->(i<α.length/\α[i]?=Option.some (Option.some a))\/(i=α.length/\a=p):=by
   intro i a e;by_cases hi:i<α.length
   . rw[Pd hi]at e;exact .inl ⟨hi,e⟩
   . rw[PH (Rl hi)]at e
     have h0:i-α.length=0:=by
      cases q:i-α.length with
      |zero=>rfl
      |succ k=>rw[q]at e;simp at e
     rw[h0]at e;have:p=a:=by simpa using e
     exact .inr ⟨by omega,this.symm⟩
  rcases key i a ei with⟨h1,e1⟩|⟨h1,e1⟩<;>rcases key j a ej with⟨h2,e2⟩|⟨h2,e2⟩
  . exact S.nd i j a e1 e2
  . subst e2;exact absurd (PM e1) (S.iq h)
  . subst e1;exact absurd (PM e2) (S.iq h)
  . omega
 at':=λ n d e=>by
  by_cases hn:n<st.length
  . rw[Pd hn]at e;have hl:n<α.length:=by rw[S.len];exact hn
    rcases S.at' n d e with⟨z,q⟩|⟨a,q,ca⟩
    . exact .inl ⟨z,by rw[Pd hl];exact q⟩
    . exact .inr ⟨a,by rw[Pd hl];exact q,ca.same (Step.cell h) (au (by obtain⟨u,z⟩:=ca.some;exact cF z h))⟩
  . rw[PH (Rl hn)]at e
    have h0:n-st.length=0:=by
     cases q:n-st.length with
     |zero=>rfl
     |succ k=>rw[q]at e;simp at e
    rw[h0]at e;have hd:c=d:=by simpa using e
    subst hd;refine .inr ⟨p,?_,hc⟩;rw[PH (by rw[S.len];exact Rl hn),S.len,h0];rfl
theorem aD.write(S:aD α st H){p:Addr}{o:HO}{c:Cell}{n:Nat}(e:α[n]?=Option.some (Option.some p))(hc:iw α (upd H p o) p c):aD α (st.set n c) (upd H p o) where
 len:=by rw[Pl];exact S.len
 nd:=S.nd
 at':=λ m d q=>by
  have hp:Option.some p∈α:=PM e;by_cases hm:m=n
  . subst hm
    have hl:m<st.length:=by
     have:=(O6.mp q).1;rw[Pl]at this;exact this
    rw[Pg hl]at q;cases q;exact .inr ⟨p,e,hc⟩
  . rw[Pb (Pj hm)]at q;rcases S.at' m d q with z|⟨a,r,ca⟩
    . exact .inl z
    . refine .inr ⟨a,r,ca.same (Step.write hp) (au λ z=>?_)⟩;subst z;exact hm (S.nd m n _ r e)
theorem aD.dE(S:aD α st H){n:Nat}(hn:n<st.length):aD (α.set n none) (st.set n .dead) H where
 len:=by rw[Pl,Pl];exact S.len
 nd:=λ i j a ei ej=>by
  have key:∀(i:Nat),(α.set n none)[i]?=Option.some (Option.some a)->α[i]?=Option.some (Option.some a):=by
   intro i e;by_cases hi:n=i
   . subst hi;rw[Pg (by rw[S.len];exact hn)]at e;cases e
   . rw[Pb hi]at e;exact e
  exact S.nd i j a (key i ei) (key j ej)
 at':=λ m d q=>by
  by_cases hm:n=m
  . subst hm;rw[Pg hn]at q;cases q;exact .inl ⟨rfl,Pg (by rw[S.len];exact hn)⟩
  . rw[Pb hm]at q;rcases S.at' m d q with⟨z,r⟩|⟨a,r,ca⟩
    . exact .inl ⟨z,by rw[Pb hm];exact r⟩
    . exact .inr ⟨a,by rw[Pb hm];exact r,ca.same Step.dE rfl⟩
theorem aD.GU(S:aD α st H){n:Nat}{xs:List D}{v:V}(e:st[n]?=Option.some (.lst xs))(r:Rep α H (.ref n) v):Rep (α.set n none) H (.lst xs) v:=by
 obtain⟨a,ea,vs,h1,h2⟩:=S.d6 e;have:=bY ea r;subst this;unfold Rep;refine⟨a,vs,rfl,λ z=>?_,.inl h1,h2.step Step.dE⟩;obtain⟨m,hm,em⟩:=PK.mp z;have em':(α.set n none)[m]?=Option.some (Option.some a):=by rw[Pk hm,em]
 by_cases hx:n=m
 . subst hx;rw[Pg (O6.mp ea).1]at em';cases em'
 . rw[Pb hx]at em';exact hx (S.nd n m a ea em')
end
abbrev DK:=D->ae->Prop
abbrev DE:=bf->ae->DK->Prop
abbrev DT:=bf->ae->(Bool->ae->Prop)->Prop
abbrev DA:=bf->ae->(List D->ae->Prop)->Prop
structure iZ where
 nx:bf->ae->Prop
 rt:DK
 bk:bf->ae->Prop:=λ _ _=>False
 ct:bf->ae->Prop:=λ _ _=>False
abbrev DS:=iZ->bf->ae->Prop
structure cQ(α:List (Option Addr))(H:Hp)(σd:bf)(σ:L2.St):Prop where
 len:σd.length=σ.length
 at':∀(i:Nat) (d:D),σd[i]?=some (some d)->∃v,σ[i]?=some (some v)/\Rep α H d v
theorem cQ.step{α α':List (Option Addr)}{H H':Hp}{σd:bf}{σ:L2.St}(s:Step α H α' H')(h:cQ α H σd σ):cQ α' H' σd σ:=
 ⟨h.len,λ i d e=>let⟨v,q,r⟩:=h.at' i d e;⟨v,q,r.step s⟩⟩
theorem cQ.set{α:List (Option Addr)}{H:Hp}{σd:bf}{σ:L2.St}(h:cQ α H σd σ)(i:Nat){d:D}{v:V}(r:Rep α H d v):cQ α H (σd.set i (some d)) (σ.set i (some v)):=by
 refine⟨by rw[Pl,Pl,h.len],λ j e q=>?_⟩;have hl:=h.len;by_cases hj:j=i
 . subst hj
   have hlt:j<σd.length:=by
    have:=(O6.mp q).1;rw[Pl]at this;exact this
   rw[Pg hlt]at q;cases q;exact⟨v,Pg (by omega),r⟩
 . rw[Pb (Pj hj)]at q;rw[Pb (Pj hj)];exact h.at' j e q
def LK(α:List (Option Addr))(G F:Hp)(K:DK)(Q:VK):Prop:=∀d st',K d st'->∀α' G' H' v,Step α G α' G'->bw G' F H'->aD α' st' G'->Rep α' G' d v->Q v H'
def F0(α:List (Option Addr))(G F:Hp)(K:Bool->ae->Prop)(Q:Bool->Hp->Prop):Prop:=∀b st',K b st'->∀α' G' H',Step α G α' G'->bw G' F H'->aD α' st' G'->Q b H'
def Ou(α:List (Option Addr))(G F:Hp)(K:List D->ae->Prop)(Q:List V->Hp->Prop):Prop:=∀ds st',K ds st'->∀α' G' H' vs,Step α G α' G'->bw G' F H'->aD α' st' G'->aB α' G' ds vs->Q vs H'
inductive Ng(t:DE)(σ:L2.St)(H:Hp)(Q:VK):Prop
 |mk (α:List (Option Addr)) (σd:bf) (st:ae) (K:DK) (G F:Hp) (P:bw G F H) (R:cQ α G σd σ) (S:aD α st G) (h:t σd st K) (k:LK α G F K Q):Ng t σ H Q
def LE(t:DE):TE:=Ng t
inductive Nq(t:DT)(σ:L2.St)(H:Hp)(Q:Bool->Hp->Prop):Prop
 |mk (α:List (Option Addr)) (σd:bf) (st:ae) (K:Bool->ae->Prop) (G F:Hp) (P:bw G F H) (R:cQ α G σd σ) (S:aD α st G) (h:t σd st K) (k:F0 α G F K Q):Nq t σ H Q
def LT(t:DT):TT:=Nq t
inductive Nl(t:DA)(σ:L2.St)(H:Hp)(Q:List V->Hp->Prop):Prop
 |mk (α:List (Option Addr)) (σd:bf) (st:ae) (K:List D->ae->Prop) (G F:Hp) (P:bw G F H) (R:cQ α G σd σ) (S:aD α st G) (h:t σd st K) (k:Ou α G F K Q):Nl t σ H Q
def LA(t:DA):TA:=Nl t
theorem LK.here{α:List (Option Addr)}{G F H:Hp}{K:DK}{Q:VK}(h:LK α G F K Q)(P:bw G F H){d:D}{st:ae}{v:V}(k:K d st)(S:aD α st G)(r:Rep α G d v):Q v H:=h d st k α G H v Step.refl P S r
theorem LK.at{α α1:List (Option Addr)}{G F G1:Hp}{K:DK}{Q:VK}(h:LK α G F K Q)(s:Step α G α1 G1):LK α1 G1 F K Q:=λ d st' k α' G' H' v s' P S r=>h d st' k α' G' H' v (s.trans s') P S r
theorem F0.at{α α1:List (Option Addr)}{G F G1:Hp}{K:Bool->ae->Prop}{Q:Bool->Hp->Prop}(h:F0 α G F K Q)(s:Step α G α1 G1):F0 α1 G1 F K Q:=λ d st' k α' G' H' s' P S=>h d st' k α' G' H' (s.trans s') P S
section
variable {X:Cx}{a b c e:Expr}{es:List Expr}{ta tb tc te:DE}{pos:Pos}
theorem PE.imp{t t':TE}(h:PE X e t)(f:∀σ H Q,t' σ H Q->t σ H Q):PE X e t':=λ pins s σ H Q I q=>h pins s σ H Q I (f σ H Q q)
theorem PT.imp{t t':TT}(h:PT X e t)(f:∀σ H Q,t' σ H Q->t σ H Q):PT X e t':=λ pins s σ H Q I q=>h pins s σ H Q I (f σ H Q q)
theorem PW.imp{t t':TT}(h:PW X e t)(f:∀σ H Q,t' σ H Q->t σ H Q):PW X e t':=λ w pins s σ H Q I q=>h w pins s σ H Q I (f σ H Q q)
theorem PA.imp{t t':TA}(h:PA X es t)(f:∀σ H Q,t' σ H Q->t σ H Q):PA X es t':=λ p pins s σ H Q I q=>h p pins s σ H Q I (f σ H Q q)
def aa(i:Nat):DE:=λ σ st K=>match σ[i]? with|some (some d)=>K d st|_=>False
def dC(d:D):DE:=λ _ st K=>K d st
theorem MI{i:Nat}{x:Str}(h:PE X (.Name x pos) (K5 i)):PE X (.Name x pos) (LE (aa i)):=PE.imp h λ σ H Q ⟨α,σd,st,K,G,F,P,R,S,t,k⟩=>by
 unfold aa at t;split at t
 . rename_i d q;obtain⟨v,e,r⟩:=R.at' i d q;exact⟨v,e,k.here P t S r⟩
 . exact t.elim
theorem oX{v:V}{d:D}(h:PE X e (tC v))(r:∀α H,Rep α H d v):PE X e (LE (dC d)):=PE.imp h λ σ H Q ⟨α,σd,st,K,G,F,P,R,S,t,k⟩=>k.here P t S (r α G)
theorem Lx{i:Int}{j:Nat}:PE X (.Constant (.int i) j pos) (LE (dC (.int i))):=oX Jv λ _ _=>by unfold Rep;rfl
theorem N6{i:Bool}{j:Nat}:PE X (.Constant (.bool i) j pos) (LE (dC (.bl i))):=oX Mj λ _ _=>by unfold Rep;rfl
theorem Lo{j:Nat}:PE X (.Constant .none j pos) (LE (dC .aq)):=oX Jb λ _ _=>by unfold Rep;rfl
abbrev cG:=D->D->ae->DK->Prop
abbrev wX:=D->ae->DK->Prop
abbrev dw:=List D->ae->DK->Prop
inductive Nh(r:cG)(x y:V)(H:Hp)(Q:VK):Prop
 |mk (α:List (Option Addr)) (d e:D) (st:ae) (K:DK) (G F:Hp) (P:bw G F H) (rx:Rep α G d x) (ry:Rep α G e y) (S:aD α st G) (h:r d e st K) (k:LK α G F K Q):Nh r x y H Q
def LR(r:cG):R2:=Nh r
inductive Kk(r:wX)(x:V)(H:Hp)(Q:VK):Prop
 |mk (α:List (Option Addr)) (d:D) (st:ae) (K:DK) (G F:Hp) (P:bw G F H) (rx:Rep α G d x) (S:aD α st G) (h:r d st K) (k:LK α G F K Q):Kk r x H Q
def F6(r:wX):V->Hp->VK->Prop:=Kk r
inductive Lj(r:dw)(xs:List V)(H:Hp)(Q:VK):Prop
 |mk (α:List (Option Addr)) (ds:List D) (st:ae) (K:DK) (G F:Hp) (P:bw G F H) (rx:aB α G ds xs) (S:aD α st G) (h:r ds st K) (k:LK α G F K Q):Lj r xs H Q
def dY(r:dw):List V->Hp->VK->Prop:=Lj r
def ai(r:cG)(ta tb:DE):DE:=λ σ st K=>ta σ st λ x st1=>tb σ st1 λ y st2=>r x y st2 K
def i9(r:wX)(ta:DE):DE:=λ σ st K=>ta σ st λ x st1=>r x st1 K
theorem LE.op{r:cG}{σ:L2.St}{H:Hp}{Q:VK}(h:LE (ai r ta tb) σ H Q):Dr (LR r) (LE ta) (LE tb) σ H Q:=by
 obtain⟨α,σd,st,K,G,F,P,R,S,t,k⟩:=h;refine⟨α,σd,st,_,G,F,P,R,S,t,λ d st1 q α1 G1 H1 v s1 P1 S1 r1=>?_⟩;refine⟨α1,σd,st1,_,G1,F,P1,R.step s1,S1,q,λ d2 st2 q2 α2 G2 H2 v2 s2 P2 S2 r2=>?_⟩;exact⟨α2,d,d2,st2,K,G2,F,P2,r1.step s2,r2,S2,q2,(k.at s1).at s2⟩
theorem LE.un{r:wX}{σ:L2.St}{H:Hp}{Q:VK}(h:LE (i9 r ta) σ H Q):Nd (F6 r) (LE ta) σ H Q:=by
 obtain⟨α,σd,st,K,G,F,P,R,S,t,k⟩:=h;refine⟨α,σd,st,_,G,F,P,R,S,t,λ d st1 q α1 G1 H1 v s1 P1 S1 r1=>?_⟩;exact⟨α1,d,st1,K,G1,F,P1,r1,S1,q,k.at s1⟩
theorem NN{op:Operator}{r:cG}(ho:bD X (binaryOp op) (LR r))(ha:PE X a (LE ta))(hb:PE X b (LE tb)):PE X (.BinOp a op b pos) (LE (ai r ta tb)):=PE.imp (MS ho ha hb) λ _ _ _ h=>LE.op h
theorem N1{op:UnaryOp}{r:wX}(ho:yI X (unaryOp op) (F6 r))(ha:PE X a (LE ta)):PE X (.UnaryOp op a pos) (LE (i9 r ta)):=PE.imp (Lr ho ha) λ _ _ _ h=>LE.un h
theorem MU{op:CmpOp}{r:cG}(ho:bD X (compareOp op) (LR r))(ha:PE X a (LE ta))(hb:PE X b (LE tb))(hm:behindInMarks op b=false:=by first|exact ib _|rfl):PE X (.Compare a [op] [b] pos) (LE (ai r ta tb)):=PE.imp (Ik ho ha hb hm) λ _ _ _ h=>LE.op h
def aU(t:DE):DT:=λ σ st K=>t σ st λ d st1=>match d with| .bl b=>K b st1|_=>False
theorem LT.test{σ:L2.St}{H:Hp}{Q:Bool->Hp->Prop}(h:LT (aU te) σ H Q):LE te σ H λ x H'=>∃k,x= .bl k/\Q k H':=by
 obtain⟨α,σd,st,K,G,F,P,R,S,t,k⟩:=h;refine⟨α,σd,st,_,G,F,P,R,S,t,λ d st1 q α1 G1 H1 v s1 P1 S1 r1=>?_⟩;cases d with
 |bl b=>
  unfold Rep at r1;exact⟨b,r1,k b st1 q α1 G1 H1 s1 P1 S1⟩
 |_=>exact q.elim
theorem IL{op:CmpOp}{r:cG}(ho:bD X (compareOp op) (LR r))(ha:PE X a (LE ta))(hb:PE X b (LE tb))(hm:behindInMarks op b=false:=by first|exact ib _|rfl):PT X (.Compare a [op] [b] pos) (LT (aU (ai r ta tb))):=PT.imp (GW ho ha hb hm) λ σ H Q h=>by
 have q:=LT.test h;exact LE.op (Q:=λ x H'=>∃k,x= .bl k/\Q k H') q
theorem JF(he:PE X e (LE te))(hv:∀whole,isTrue e X.env whole=(do let v <-whole;standAt e.pos;holding [v] (truthy v)):=by intro _;rfl):PT X e (LT (aU te)):=PT.imp (Jj he hv) λ σ H Q h=>LT.test h
def kQ(t:DT):DT:=λ σ st K=>t σ st λ b st1=>K (!b) st1
def gL(t u:DT):DT:=λ σ st K=>t σ st λ b st1=>if b=true then u σ st1 K else K false st1
def ny(t u:DT):DT:=λ σ st K=>t σ st λ b st1=>if b=true then K true st1 else u σ st1 K
theorem Jd{t:DT}(ha:PT X a (LT t)):PT X (.UnaryOp .Not a pos) (LT (kQ t)):=PT.imp (Jk ha) λ σ H Q ⟨α,σd,st,K,G,F,P,R,S,t,k⟩=>
 ⟨α,σd,st,_,G,F,P,R,S,t,λ b st1 q α1 G1 H1 s1 P1 S1=>k _ st1 q α1 G1 H1 s1 P1 S1⟩
theorem LT.and{t u:DT}{σ:L2.St}{H:Hp}{Q:Bool->Hp->Prop}(h:LT (gL t u) σ H Q):J_ (LT t) (LT u) σ H Q:=by
 obtain⟨α,σd,st,K,G,F,P,R,S,t,k⟩:=h;refine⟨α,σd,st,_,G,F,P,R,S,t,λ b st1 q α1 G1 H1 s1 P1 S1=>?_⟩;cases b with
 |true=>exact⟨α1,σd,st1,K,G1,F,P1,R.step s1,S1,q,k.at s1⟩
 |false=>exact k _ st1 q α1 G1 H1 s1 P1 S1
theorem LT.or{t u:DT}{σ:L2.St}{H:Hp}{Q:Bool->Hp->Prop}(h:LT (ny t u) σ H Q):Nv (LT t) (LT u) σ H Q:=by
 obtain⟨α,σd,st,K,G,F,P,R,S,t,k⟩:=h;refine⟨α,σd,st,_,G,F,P,R,S,t,λ b st1 q α1 G1 H1 s1 P1 S1=>?_⟩;cases b with
 |false=>exact⟨α1,σd,st1,K,G1,F,P1,R.step s1,S1,q,k.at s1⟩
 |true=>exact k _ st1 q α1 G1 H1 s1 P1 S1
theorem HA{t:DT}(ha:PT X a (LT t)):PW X (.BoolOp .And [a] pos) (LT t):=pw_and1 ha
theorem IB{t:DT}(ha:PT X a (LT t)):PW X (.BoolOp .Or [a] pos) (LT t):=pw_or1 ha
theorem J5{t u:DT}(ha:PT X a (LT t))(hb:PW X (.BoolOp .And (b::es) pos) (LT u)):PW X (.BoolOp .And (a::b::es) pos) (LT (gL t u)):=PW.imp (pw_and ha hb) λ _ _ _ h=>LT.and h
theorem Mu{t u:DT}(ha:PT X a (LT t))(hb:PW X (.BoolOp .Or (b::es) pos) (LT u)):PW X (.BoolOp .Or (a::b::es) pos) (LT (ny t u)):=PW.imp (pw_or ha hb) λ _ _ _ h=>LT.or h
def jE(ta tb:DE):DE:=λ σ st K=>ta σ st λ d st1=>match d with| .bl b=>if b=true then tb σ st1 K else K (.bl false) st1|_=>False
def A5(ta tb:DE):DE:=λ σ st K=>ta σ st λ d st1=>match d with| .bl b=>if b=true then K (.bl true) st1 else tb σ st1 K|_=>False
def u_(t:DT):DE:=λ σ st K=>t σ st λ b st1=>K (.bl (!b)) st1
theorem Me{op:BoolOp}(ha:PE X a (LE ta)):PE X (.BoolOp op [a] pos) (LE ta):=Ji ha
theorem MR(ha:PE X a (LE ta))(hb:PE X (.BoolOp .And (b::es) pos) (LE tb)):PE X (.BoolOp .And (a::b::es) pos) (LE (jE ta tb)):=PE.imp (Li ha hb) λ σ H Q ⟨α,σd,st,K,G,F,P,R,S,t,k⟩=>by
 refine⟨α,σd,st,_,G,F,P,R,S,t,λ d st1 q α1 G1 H1 v s1 P1 S1 r1=>?_⟩;cases d with
 |bl b=>
  unfold Rep at r1;refine⟨b,r1,?_⟩;cases b with
  |true=>exact⟨α1,σd,st1,K,G1,F,P1,R.step s1,S1,q,k.at s1⟩
  |false=>exact k _ st1 q α1 G1 H1 _ s1 P1 S1 (by unfold Rep;rfl)
 |_=>exact q.elim
theorem NW(ha:PE X a (LE ta))(hb:PE X (.BoolOp .Or (b::es) pos) (LE tb)):PE X (.BoolOp .Or (a::b::es) pos) (LE (A5 ta tb)):=PE.imp (Mq ha hb) λ σ H Q ⟨α,σd,st,K,G,F,P,R,S,t,k⟩=>by
 refine⟨α,σd,st,_,G,F,P,R,S,t,λ d st1 q α1 G1 H1 v s1 P1 S1 r1=>?_⟩;cases d with
 |bl b=>
  unfold Rep at r1;refine⟨b,r1,?_⟩;cases b with
  |false=>exact⟨α1,σd,st1,K,G1,F,P1,R.step s1,S1,q,k.at s1⟩
  |true=>exact k _ st1 q α1 G1 H1 _ s1 P1 S1 (by unfold Rep;rfl)
 |_=>exact q.elim
theorem MV(ha:PE X a (LE ta)):PE X (.UnaryOp .Not a pos) (LE (u_ (aU ta))):=PE.imp (Kg ha) λ σ H Q ⟨α,σd,st,K,G,F,P,R,S,t,k⟩=>by
 refine⟨α,σd,st,_,G,F,P,R,S,t,λ d st1 q α1 G1 H1 v s1 P1 S1 r1=>?_⟩;cases d with
 |bl b=>
  unfold Rep at r1;exact⟨b,r1,k _ st1 q α1 G1 H1 _ s1 P1 S1 (by unfold Rep;rfl)⟩
 |_=>exact q.elim
def vG(t:DT)(ta tb:DE):DE:=λ σ st K=>t σ st λ b st1=>if b=true then ta σ st1 K else tb σ st1 K
theorem LX{t:DT}(hc:PT X c (LT t))(ha:PE X a (LE ta))(hb:PE X b (LE tb)):PE X (.IfExp c a b pos) (LE (vG t ta tb)):=PE.imp (E2 hc ha hb) λ σ H Q ⟨α,σd,st,K,G,F,P,R,S,t,k⟩=>by
 refine⟨α,σd,st,_,G,F,P,R,S,t,λ b st1 q α1 G1 H1 s1 P1 S1=>?_⟩;cases b with
 |true=>exact⟨α1,σd,st1,K,G1,F,P1,R.step s1,S1,q,k.at s1⟩
 |false=>exact⟨α1,σd,st1,K,G1,F,P1,R.step s1,S1,q,k.at s1⟩
def af:DA:=λ _ st K=>K [] st
def ab(ta:DE)(tr:DA):DA:=λ σ st K=>ta σ st λ x st1=>tr σ st1 λ xs st2=>K (x::xs) st2
theorem om:PA X [] (LA af):=PA.imp CG λ σ H Q ⟨α,σd,st,K,G,F,P,R,S,t,k⟩=>k [] st t α G H [] Step.refl P S (by unfold aB;rfl)
theorem jZ{tr:DA}(ha:PE X e (LE te))(hr:PA X es (LA tr))(hs:starEach (e::es) X.env=(false,eval e X.env)::starEach es X.env:=by rfl):PA X (e::es) (LA (ab te tr)):=PA.imp (yP ha hr hs) λ σ H Q ⟨α,σd,st,K,G,F,P,R,S,t,k⟩=>by
 refine⟨α,σd,st,_,G,F,P,R,S,t,λ d st1 q α1 G1 H1 v s1 P1 S1 r1=>?_⟩;refine⟨α1,σd,st1,_,G1,F,P1,R.step s1,S1,q,λ ds st2 q2 α2 G2 H2 vs s2 P2 S2 r2=>?_⟩;exact k _ st2 q2 α2 G2 H2 (v::vs) (s1.trans s2) P2 S2 (by unfold aB;exact⟨v,vs,rfl,r1.step s2,r2⟩)
def fF(t:DA):DE:=λ σ st K=>t σ st λ ds st1=>ds.length<=sizeLine/\K (.tup ds) st1
def lB(t:DA):DE:=λ σ st K=>t σ st λ ds st1=>ds.length<=sizeLine/\K (.lst ds) st1
def qK(t:DA):DE:=λ σ st K=>t σ st λ ds st1=>ds.length<=sizeLine/\K (.ref st1.length) (st1++[.lst ds])
theorem LK.tup{α:List (Option Addr)}{G F H:Hp}{K:DK}{Q:VK}{ds:List D}{vs:List V}{st:ae}{p:Addr}(k:LK α G F K Q)(P:bw G F H)(q:K (.tup ds) st)(S:aD α st G)(r:aB α G ds vs)(hp:H p=none):Q (.ref p) (upd H p (.tup vs)):=
 have hg:=(P.none hp).1
 k _ st q α _ _ _ (Step.laid hg) (P.laid hp) (S.laid hg) (by unfold Rep;exact⟨p,vs,rfl,S.iq hg,aG,r.step (Step.laid hg)⟩)
theorem LK.lst{α:List (Option Addr)}{G F H:Hp}{K:DK}{Q:VK}{ds:List D}{vs:List V}{st:ae}{p:Addr}(k:LK α G F K Q)(P:bw G F H)(q:K (.lst ds) st)(S:aD α st G)(r:aB α G ds vs)(hp:H p=none):Q (.ref p) (upd H p (.lst vs)):=
 have hg:=(P.none hp).1
 k _ st q α _ _ _ (Step.laid hg) (P.laid hp) (S.laid hg) (by unfold Rep;exact⟨p,vs,rfl,S.iq hg,.of aG,r.step (Step.laid hg)⟩)
theorem LK.new{α:List (Option Addr)}{G F H:Hp}{K:DK}{Q:VK}{ds:List D}{vs:List V}{st:ae}{p:Addr}(k:LK α G F K Q)(P:bw G F H)(q:K (.ref st.length) (st++[.lst ds]))(S:aD α st G)(r:aB α G ds vs)(hp:H p=none):Q (.ref p) (upd H p (.lst vs)):=
 have hg:=(P.none hp).1
 k _ _ q (α++[some p]) _ _ _ (Step.cell hg) (P.laid hp) (S.cell hg ⟨vs,aG,r.step (Step.cell hg)⟩) (by
  unfold Rep;refine .inr ⟨p,?_,rfl⟩;rw[PH (by rw[S.len];exact O9 _),S.len,QM];rfl)
theorem MM{n:Nat}{t:DA}(h:PA X es (LA t)):PE X (.Tuple es n pos) (LE (fF t)):=PE.imp (IM h) λ σ H Q ⟨α,σd,st,K,G,F,P,R,S,t,k⟩=>
 ⟨α,σd,st,_,G,F,P,R,S,t,λ ds st1 q α1 G1 H1 vs s1 P1 S1 r1=>⟨by rw[<-r1.length];exact q.1,λ p hp=>(k.at s1).tup P1 q.2 S1 r1 hp⟩⟩
theorem Mo{t:DA}(h:PA X es (LA t)):PE X (.List es pos) (LE (lB t)):=PE.imp (Bw h) λ σ H Q ⟨α,σd,st,K,G,F,P,R,S,t,k⟩=>
 ⟨α,σd,st,_,G,F,P,R,S,t,λ ds st1 q α1 G1 H1 vs s1 P1 S1 r1=>⟨by rw[<-r1.length];exact q.1,λ p hp=>(k.at s1).lst P1 q.2 S1 r1 hp⟩⟩
theorem Mw{t:DA}(h:PA X es (LA t)):PE X (.List es pos) (LE (qK t)):=PE.imp (Bw h) λ σ H Q ⟨α,σd,st,K,G,F,P,R,S,t,k⟩=>
 ⟨α,σd,st,_,G,F,P,R,S,t,λ ds st1 q α1 G1 H1 vs s1 P1 S1 r1=>⟨by rw[<-r1.length];exact q.1,λ p hp=>(k.at s1).new P1 q.2 S1 r1 hp⟩⟩
abbrev bR:=List D->ae->DK->Prop
inductive Je(T:bR)(vs:List V)(H:Hp)(Q:VK):Prop
 |mk (α:List (Option Addr)) (ds:List D) (st:ae) (K:DK) (G F:Hp) (P:bw G F H) (rx:aB α G ds vs) (S:aD α st G) (h:T ds st K) (k:LK α G F K Q):Je T vs H Q
def gD(S:bR):Sp:=λ vs H Q _=>Je S vs H Q
def av(S:bR)(t:DA):DE:=λ σ st K=>t σ st λ ds st1=>S ds st1 K
theorem LE.call{S:bR}{t:DA}{σ:L2.St}{H:Hp}{Q:VK}(h:LE (av S t) σ H Q):FV (gD S) [] E0 (LA t) σ H Q:=by
 obtain⟨α,σd,st,K,G,F,P,R,S,t,k⟩:=h;refine⟨α,σd,st,_,G,F,P,R,S,t,λ ds st1 q α1 G1 H1 vs s1 P1 S1 r1=>?_⟩;try dsimp only
 rw[QO];exact⟨α1,ds,st1,K,G1,F,P1,r1,S1,q,k.at s1⟩
theorem K9{S:bR}{k:Nat}{f:Addr}{fd:FuncData}{ps:List Str}{x:Str}{p:Pos}{t:DA}(F:c_ X.prog X.w X.K X.mg X.base fP k f fd ps (gD S))(hr:bV k X.A)(hg:Gl X x)(hm:X.mg x=some (.ref f))(hk:PySem.W.keepIn X.K (.ref f)=true)(hb:Binds X.K fd ps [])
 (ha:PA X (e::es) (LA t)) (hdb:(x==("__debug__":Str))=false:=by decide) (he:starEach (e::es) X.env=(false,eval e X.env)::starEach es X.env:=by rfl) (hpl:(backTo pos (starEach es X.env)).any (·.1)=false:=by rfl):
 PE X (.Call (.Name x p) (e::es) [] pos) (LE (av S t)):=PE.imp (GV F hr hg hm hk hb .nil Ab ha hdb he hpl) λ _ _ _ h=>LE.call h
def ba(r:dw)(t:DA):DE:=λ σ st K=>t σ st λ ds st1=>r ds st1 K
theorem LE.cb{r:dw}{t:DA}{σ:L2.St}{H:Hp}{Q:VK}(h:LE (ba r t) σ H Q):IU (dY r) (LA t) σ H Q:=by
 obtain⟨α,σd,st,K,G,F,P,R,S,t,k⟩:=h;refine⟨α,σd,st,_,G,F,P,R,S,t,λ ds st1 q α1 G1 H1 vs s1 P1 S1 r1=>?_⟩;exact⟨α1,ds,st1,K,G1,F,P1,r1,S1,q,k.at s1⟩
end
section
variable {X:Cx}
theorem bD.imp{f:Value->Value->Sem Value}{r r':R2}(h:bD X f r)(k:∀x y H Q,r' x y H Q->r x y H Q):bD X f r':=λ pins s σ H x y v u Q I rx ry q=>h pins s σ H x y v u Q I rx ry (k x y H Q q)
theorem aZ.imp{f:Value}{r r':List V->Hp->VK->Prop}(h:aZ X f r)(k:∀xs H Q,r' xs H Q->r xs H Q):aZ X f r':=λ pins s σ H xs us Q I rs q=>h pins s σ H xs us Q I rs (k xs H Q q)
def pQ(C:Int->Int->Prop)(g:Int->Int->D):cG:=λ x y st K=>match x,y with| .int i,.int j=>C i j/\K (g i j) st|_,_=>False
theorem iA{f:Value->Value->Sem Value}{C:Int->Int->Prop}{g:Int->Int->D}{g':Int->Int->V}(hg:∀i j α H,Rep α H (g i j) (g' i j))(h:bD X f (rI C g')):bD X f (LR (pQ C g)):=bD.imp h λ x y H Q ⟨α,d,e,st,K,G,F',P,r1,r2,S,q,k⟩=>by
 cases d<;>cases e<;>first
  |exact q.elim
  |(unfold Rep at r1 r2;exact⟨_,_,r1,r2,q.1,k.here P q.2 S (hg _ _ _ _)⟩)
abbrev T2:Int->Int->Prop:=λ _ _=>True
theorem rL{g:Int->Int->V}{f:Value->Value->Sem Value}(h:bD X f (rN g)):bD X f (rI T2 g):=bD.imp h λ x y H Q ⟨i,j,e1,e2,_,q⟩=>⟨i,j,e1,e2,q⟩
abbrev Gq:cG:=pQ T2 λ i j=> .int (i-j)
abbrev BL:cG:=pQ (λ _ j=>j≠0/\j.natAbs.log2<9000) λ i j=> .int (i.fdiv j)
abbrev Ga:cG:=pQ (λ _ j=>j≠0) λ i j=> .int (i.fmod j)
abbrev Fz:cG:=pQ Ea λ i j=> .int (i^j.toNat)
abbrev Jr:cG:=pQ T2 λ i j=> .bl (decide (i<j))
abbrev J4:cG:=pQ T2 λ i j=> .bl (decide (i<=j))
abbrev K7:cG:=pQ T2 λ i j=> .bl (decide (j<i))
abbrev Lc:cG:=pQ T2 λ i j=> .bl (decide (j<=i))
theorem MK:bD X (binaryOp .Sub) (LR Gq):=iA (λ _ _ _ _=>by unfold Rep;rfl) (rL II)
theorem IK:bD X (binaryOp .FloorDiv) (LR BL):=iA (λ _ _ _ _=>by unfold Rep;rfl) (Fj λ i j _ _ _ _ _ hc q=>floordiv_int hc.1 q (.inl (PyProof.noPylong_of_log2 hc.2)))
theorem MH:bD X (binaryOp .Mod) (LR Ga):=iA (λ _ _ _ _=>by unfold Rep;rfl) GK
theorem LM:bD X (binaryOp .Pow) (LR Fz):=iA (λ _ _ _ _=>by unfold Rep;rfl) IT
theorem Ob:bD X (compareOp .Lt) (LR Jr):=iA (λ _ _ _ _=>by unfold Rep;rfl) (rL MB)
theorem NY:bD X (compareOp .LtE) (LR J4):=iA (λ _ _ _ _=>by unfold Rep;rfl) (rL Lm)
theorem N4:bD X (compareOp .Gt) (LR K7):=iA (λ _ _ _ _=>by unfold Rep;rfl) (rL L6)
theorem NG:bD X (compareOp .GtE) (LR Lc):=iA (λ _ _ _ _=>by unfold Rep;rfl) (rL MY)
def Fl:wX:=λ x st K=>match x with| .int i=>K (.int (-i)) st|_=>False
theorem Mr:yI X (unaryOp .USub) (F6 Fl):=λ pins s σ H x v Q I rx ⟨α,d,st,K,G,F',P,r,S,q,k⟩=>by
 cases d<;>first
  |exact q.elim
  |(unfold Rep at r;exact La pins s σ H x v Q I rx ⟨_,r,k.here P q S (by unfold Rep;rfl)⟩)
theorem Inv.qf{pins:List (Addr×Obj)}{σ:L2.St}{H:Hp}{s:Shared}{l:Addr}{xs:List V}(I:Inv X pins σ H s)(h:Rd H l (.lst xs)):
 xs.length<=sizeLine/\∃(its:List Value) (n:Nat),Vals xs its/\xs.length=its.length/\s.heap.get? l=some {cls:= .type "list",data:= .seq its.toArray n}:=by
 obtain⟨z,its,n,r,e⟩:=h.ok I.aC;exact⟨z,its,n,r,r.length,e⟩
theorem eK{G F H:Hp}(P:bw G F H){a:Addr}{u:HO}(h:Rd G a u):Rd H a u:=by
 rcases h with h|⟨o,h⟩
 . exact .inl (P.get h)
 . exact .inr ⟨o,P.get h⟩
theorem Hn:bD X (binaryOp .Add) (λ x y H Q=>∃l b xs zs,x= .ref l/\y= .ref b/\Rd H l (.lst xs)/\Rd H b (.lst zs)/\xs.length+zs.length<=sizeLine/\∀p,H p=none->Q (.ref p) (upd H p (.lst (xs++zs)))):=by
 intro pins s σ H x y v u Q I rx ry h;obtain⟨l,b,xs,zs,rfl,rfl,hH,hB,hz,q⟩:=h;cases rx;cases ry;obtain⟨z,its,n,r,hl,e⟩:=Inv.qf I hH;obtain⟨z2,its2,n2,r2,hl2,e2⟩:=Inv.qf I hB;refine PySem.P.add_list e e2 ?_ (by rw[Ph,Ph];omega);have ea:its.toArray++its2.toArray=(its++its2).toArray:=by simp
 rw[ea];exact⟨.ref _,_,I.EA (t':=s.toks) (r.append r2) (by rw[Py];omega),rfl,q _ I.fresh⟩
theorem HW:bD X (binaryOp .Mult) (λ x y H Q=>∃l k xs,x= .ref l/\y= .int k/\Rd H l (.lst xs)/\ -(2^63)<=k/\k<2^63/\xs.length*k.toNat<=sizeLine/\
 ∀p,H p=none->Q (.ref p) (upd H p (.lst (List.replicate k.toNat xs).flatten))):=by
 intro pins s σ H x y v u Q I rx ry h;obtain⟨l,k,xs,rfl,rfl,hH,h1,h2,hz,q⟩:=h;cases rx;obtain⟨t,rfl⟩:=ry;obtain⟨z,its,n,r,hl,e⟩:=Inv.qf I hH;have hlen:its.toArray.size*k.toNat<=sizeLine:=by rw[Ph,<-hl];exact hz
 have hcap:¬its.toArray.size*k.toNat>(2^63-1)/8:=by
  have:(sizeLine:Nat)<=(2^63-1)/8:=by decide
  omega
 have hfit:¬(!Builtin.List.listFitsIndex k)=true:=by
  rw[fitsIndex_both h1 h2];exact PV
 have hlong:¬Builtin.List.listTooLong (its.toArray.size*k.toNat)=true:=by
  rw[DQ hlen];exact PV
 have hnew:List.foldl (λ x1 x2=>x1++x2) #[] (List.replicate (if its.toArray.isEmpty=true then 0 else k.toNat) its.toArray)=(List.replicate k.toNat its).flatten.toArray:=by
  have f0:∀m:Nat,List.foldl (λ x1 x2=>x1++x2) #[] (List.replicate m its.toArray)=(List.replicate m its).flatten.toArray:=λ m=>by
   have:=foldl_rep its m [];rw[List.nil_append]at this;exact this
  rw[f0];cases its with
  |nil=>simp
  |cons a r'=>rw[O7 (by simp)]
 refine T_ (T:="list") (U:="int") (by decide) ⟨_,e,rfl⟩ (λ s'=>T9 s' k t) noFill_list_mul F.fills_int_mul Tg repeat_list F.slot_int_index.lookup
  (RV Tg (T9 s k t) F.entry_int_rmul (F.args_int_rmul_2 _ _) (int___rmul___int_list k t l its.toArray n)
    ⟨e,rfl,⟨_,e,rfl⟩,RV F.slot_list_mul ⟨_,e,rfl⟩ F.entry_list_mul (F.args_list_mul_2 _ _) (AutoListH.list___mul___list_int_3 l its.toArray n k t hfit hcap hlong) ⟨e,?_⟩⟩)
 rw[hnew];exact⟨.ref _,_,I.EA (t':=s.toks) (r.rep k.toNat) (by rw[len_rep,Q_];exact hz),rfl,q _ I.fresh⟩
theorem Fd:bD X (binaryOp .Add) (λ x y H Q=>∃a b xs ys,x= .ref a/\y= .ref b/\H a=some (.tup xs)/\H b=some (.tup ys)/\xs.length+ys.length<=sizeLine/\
 (xs=[]->Q (.ref b) H)/\(xs≠ []->ys=[]->Q (.ref a) H)/\(xs≠ []->ys≠ []->∀p,H p=none->Q (.ref p) (upd H p (.tup (xs++ys))))):=by
 intro pins s σ H x y v u Q I rx ry h;obtain⟨a,b,xs,ys,rfl,rfl,ha,hb,hz,q0,q1,q2⟩:=h;by_cases hx:xs=[]
 . cases rx;cases ry;obtain⟨its,r1,p1,_⟩:=I.tuple (.of ha);obtain⟨its2,r2,p2,_⟩:=I.tuple (.of hb);obtain⟨⟨cls,dd,data,sl⟩,ho,hc,n,hd⟩:=id p1;obtain⟨⟨cls2,dd2,data2,sl2⟩,ho2,hc2,n2,hd2⟩:=id p2;simp only at hc hd hc2 hd2;subst hc hd hc2 hd2;have hi:its=[]:=(L2.Vals.oY r1).mpr hx
   exact Vc ⟨_,ho,rfl⟩ ⟨_,ho2,rfl⟩ Ud U_ SM SF (Ss _ _)
    (tuple_addW0 a b its.toArray its2.toArray n n2 dd dd2 sl sl2 (by simp[hi])) ⟨ho,ho2,⟨.ref b,H,I,rfl,q0 hx⟩⟩
 . exact Ip pins s σ H _ _ v u Q I rx ry ⟨a,b,xs,ys,rfl,rfl,.of ha,.of hb,hx,hz,q1 hx,q2 hx⟩
theorem sO:fillsNumberSlot (.type "tuple") "mul"=pure false:=
 PySem.fillsNumberSlot_seq (id:="tuple.__mul__") (r:=some (.builtin "tuple.__rmul__")) Se.lookup (by decide+kernel) F.slot_tuple_rmul.lookup (by decide+kernel)
theorem Ac:seqRepeat? (.type "tuple")=pure (some (.builtin "tuple.__mul__")):=by
 unfold seqRepeat?;rw[PySem.seqSlot_of (T:="tuple") (name:="__mul__") (id:="tuple.__mul__") Se.lookup (by decide+kernel),PySem.seqSlot_of (T:="tuple") (name:="__rmul__") (id:="tuple.__rmul__") F.slot_tuple_rmul.lookup (by decide+kernel)];rfl
theorem xo(a:Int)(t:Tok)(l:Addr)(its:Array Value)(n:Nat)(dd:Option Addr)(sl:Array (Option Value)):Meets (Builtin.«int.__rmul__» ⟨[.int a t,.ref l],[]⟩) (λ _ R s=>s.heap.get? l=some {cls:= .type "tuple",dict:=dd,data:= .seq its n,slots:=sl}/\R (.ok (.ret Value.notImplemented)) s):=
 .of_wp λ P w A R s h=>by
  obtain⟨hp,g,d,tk,os⟩:=s;obtain⟨hl,h⟩:=h
  wp_walk
  exact⟨_,rfl,h⟩
theorem xw(l:Addr)(its:Array Value)(n:Nat)(dd:Option Addr)(sl:Array (Option Value))(x:Int)(u:Tok)(h0:(decide (x< -(2^63))||decide (x>=2^63))=false)(h1:(its.isEmpty||x==1)=true):
 Meets (Builtin.«tuple.__mul__» ⟨[.ref l,.int x u],[]⟩) (λ _ R s=>s.heap.get? l=some {cls:= .type "tuple",dict:=dd,data:= .seq its n,slots:=sl}/\R (.ok (.ret (.ref l))) s):=
 .of_wp λ P w A R s h=>by
  obtain⟨hp,g,d,tk,os⟩:=s;obtain⟨hl,h⟩:=h
  wp_walk
  refine Th (by rw[h0];rfl) ?_
  wp_walk
  exact⟨_,rfl,h⟩
theorem xf(l:Addr)(its:Array Value)(n:Nat)(dd:Option Addr)(sl:Array (Option Value))(x:Int)(u:Tok)(h0:(decide (x< -(2^63))||decide (x>=2^63))=false)(h1:(its.isEmpty||x==1)=false)(h2:(decide (x<=0)||its.isEmpty)=true):
 Meets (Builtin.«tuple.__mul__» ⟨[.ref l,.int x u],[]⟩) (λ _ R s=>s.heap.get? l=some {cls:= .type "tuple",dict:=dd,data:= .seq its n,slots:=sl}/\R (.ok (.ret (.ref s.heap.objs.size))) {s with heap:=s.heap.push {cls:= .type "tuple",data:= .seq #[]}}):=
 .of_wp λ P w A R s h=>by
  obtain⟨hp,g,d,tk,os⟩:=s;obtain⟨hl,h⟩:=h
  wp_walk
  refine Th (by rw[h0];rfl) ?_
  wp_walk
  exact⟨_,rfl,h⟩
theorem wa(l:Addr)(its:Array Value)(n:Nat)(dd:Option Addr)(sl:Array (Option Value))(x:Int)(u:Tok)(h0:(decide (x< -(2^63))||decide (x>=2^63))=false)(h1:(its.isEmpty||x==1)=false)(h2:(decide (x<=0)||its.isEmpty)=false)(h3:¬((its.size:Int)*x>(2^63-1)/8))(h4:Builtin.Tuple.tupleTooMany (its.size*x)=false)
 (hz:(List.foldl (λ x1 x2=>x1++x2) #[] (List.replicate x.toNat its)).size<=sizeLine):
 Meets (Builtin.«tuple.__mul__» ⟨[.ref l,.int x u],[]⟩) (λ _ R s=>s.heap.get? l=some {cls:= .type "tuple",dict:=dd,data:= .seq its n,slots:=sl}/\R (.ok (.ret (.ref s.heap.objs.size))) {s with heap:=s.heap.push {cls:= .type "tuple",data:= .seq (List.foldl (λ x1 x2=>x1++x2) #[] (List.replicate x.toNat its))}}):=
 .of_wp λ P w A R s h=>by
  obtain⟨hp,g,d,tk,os⟩:=s;obtain⟨hl,h⟩:=h
  wp_walk
  refine Th (by rw[h0];rfl) ?_
  wp_walk
  refine Th (PZ h3) ?_
  wp_walk
  exact⟨_,rfl,h⟩
theorem GF:bD X (binaryOp .Mult) (λ x y H Q=>∃l k xs,x= .ref l/\y= .int k/\H l=some (.tup xs)/\ -(2^63)<=k/\k<2^63/\xs.length*k.toNat<=sizeLine/\
 ((xs=[]\/k=1)->Q (.ref l) H)/\(¬(xs=[]\/k=1)->∀p,H p=none->Q (.ref p) (upd H p (.tup (List.replicate k.toNat xs).flatten)))):=by
 intro pins s σ H x y v u Q I rx ry h;obtain⟨l,k,xs,rfl,rfl,hH,h1,h2,hz,q1,q2⟩:=h;cases rx;obtain⟨t,rfl⟩:=ry;obtain⟨its,r,p1,_⟩:=I.tuple (.of hH);obtain⟨⟨cls,dd,data,sl⟩,ho,hc,n,hd⟩:=id p1;simp only at hc hd;subst hc hd;have hl:xs.length=its.length:=r.length
 have f0:(decide (k< -(2^63))||decide (k>=2^63))=false:=by
  rw[PZ (by omega),PZ (by omega)];rfl
 refine T_ (T:="tuple") (U:="int") (by decide) ⟨_,ho,rfl⟩ (λ s'=>T9 s' k t) sO F.fills_int_mul Tg Ac F.slot_int_index.lookup
  (RV Tg (T9 s k t) F.entry_int_rmul (F.args_int_rmul_2 _ _) (xo k t l its.toArray n dd sl) ⟨ho,rfl,⟨_,ho,rfl⟩,?_⟩)
 by_cases hs:xs=[]\/k=1
 . have f1:(its.toArray.isEmpty||k==1)=true:=by
    rcases hs with z|z
    . have:its=[]:=Q2.mp (by rw[<-hl,z];rfl);rw[this];rfl
    . rw[z];simp
   exact RV Se ⟨_,ho,rfl⟩ T7 (TF _ _) (xw l its.toArray n dd sl k t f0 f1) ⟨ho,⟨.ref l,H,I,rfl,q1 hs⟩⟩
 . have hne:its≠ []:=λ z=>hs (.inl (Q2.mp (by rw[hl,z];rfl)));have hk1:k≠1:=λ z=>hs (.inr z);have e1:its.toArray.isEmpty=false:=by simpa using hne
   have f1:(its.toArray.isEmpty||k==1)=false:=by rw[e1];simpa using hk1
   have new:∀(us:List Value) (ys:List V),Vals ys us->ys.length<=sizeLine->Inv X pins σ (upd H s.heap.objs.size (.tup ys)) {s with heap:=s.heap.push {cls:= .type "tuple",data:= .seq us.toArray}}:=λ us ys hv hy=>
    I.laid (t':=s.toks) (λ _ _ q=>Pa _ q) (O9 _) ⟨hy,us,hv,⟨_,Pt _ rfl,rfl,_,rfl⟩⟩
   by_cases h0:k<=0
   . have f2:(decide (k<=0)||its.toArray.isEmpty)=true:=by rw[QL h0];rfl
     refine RV Se ⟨_,ho,rfl⟩ T7 (TF _ _) (xf l its.toArray n dd sl k t f0 f1 f2) ⟨ho,?_⟩;have ez:k.toNat=0:=by omega
     rw[ez]at q2;exact⟨.ref _,_,new [] [] .nil (Po _),rfl,q2 hs _ I.fresh⟩
   . have f2:(decide (k<=0)||its.toArray.isEmpty)=false:=by rw[PZ h0,e1];rfl
     have hk:(k.toNat:Int)=k:=by omega
     have hlen:its.toArray.size*k.toNat<=sizeLine:=by rw[Ph,<-hl];exact hz
     have hsz:((its.toArray.size:Nat):Int)*k<=(sizeLine:Int):=by
      rw[<-hk]
      exact_mod_cast hlen
     have f3:¬(((its.toArray.size:Nat):Int)*k>(2^63-1)/8):=by
      have:((sizeLine:Nat):Int)<=(2^63-1)/8:=by decide
      omega
     have f4:Builtin.Tuple.tupleTooMany (((its.toArray.size:Nat):Int)*k)=false:=by
      unfold Builtin.Tuple.tupleTooMany;exact PZ (by omega)
     have hnew:List.foldl (λ x1 x2=>x1++x2) #[] (List.replicate k.toNat its.toArray)=(List.replicate k.toNat its).flatten.toArray:=by
      have:=foldl_rep its k.toNat [];rw[List.nil_append]at this;exact this
     have hfl:(List.replicate k.toNat its).flatten.length=its.length*k.toNat:=by rw[len_rep,Q_]
     refine RV Se ⟨_,ho,rfl⟩ T7 (TF _ _) (wa l its.toArray n dd sl k t f0 f1 f2 f3 f4 (by rw[hnew,Ph,hfl];exact hlen)) ⟨ho,?_⟩;rw[hnew];exact⟨.ref _,_,new _ _ (r.rep k.toNat) (by rw[len_rep,Q_];exact hz),rfl,q2 hs _ I.fresh⟩
def Gd:cG:=λ x y st K=>match x,y with
 | .int i,.int j=>K (.int (i+j)) st
 | .tup xs,.tup ys=>xs.length+ys.length<=sizeLine/\K (.tup (xs++ys)) st
 | .lst xs,.lst ys=>xs.length+ys.length<=sizeLine/\K (.lst (xs++ys)) st
 | .str x,.str y=>x.length+y.length<=sizeLine/\K (.str (x++y)) st
 |_,_=>False
theorem LV:bD X (binaryOp .Add) (LR Gd):=λ pins s σ H x y v u Q I rx ry ⟨α,d,e,st,K,G,F',P,r1,r2,S,q,k⟩=>by
 cases d<;>cases e<;>try exact q.elim
 . unfold Rep at r1 r2;exact KP pins s σ H x y v u Q I rx ry ⟨_,_,r1,r2,k.here P q S (by unfold Rep;rfl)⟩
 . unfold Rep at r1 r2;exact A7 pins s σ H x y v u Q I rx ry ⟨_,_,r1,r2,q.1,k.here P q.2 S (by unfold Rep;rfl)⟩
 . unfold Rep at r1 r2;obtain⟨a,vs,rfl,na,ha,ra⟩:=r1;obtain⟨b,ws,rfl,nb,hb,rb⟩:=r2;refine Hn pins s σ H _ _ v u Q I rx ry ⟨a,b,vs,ws,rfl,rfl,eK P ha,eK P hb,by rw[<-ra.length,<-rb.length];exact q.1,λ p hp=>?_⟩;exact k.lst P q.2 S (aM.mpr (d_ (aM.mp ra) (aM.mp rb))) hp
 . rename_i xs ys;unfold Rep at r1 r2;obtain⟨a,vs,rfl,na,ha,ra⟩:=r1;obtain⟨b,ws,rfl,nb,hb,rb⟩:=r2;have hl1:=ra.length;have hl2:=rb.length;refine Fd pins s σ H _ _ v u Q I rx ry ⟨a,b,vs,ws,rfl,rfl,P.get ha,P.get hb,by rw[<-hl1,<-hl2];exact q.1,λ z=>?_,λ _ z=>?_,λ _ _ p hp=>?_⟩
   . refine k.here P q.2 S ?_;unfold Rep;have:xs=[]:=by rw[z]at hl1;exact Q2.mp hl1
     subst this;exact⟨b,ws,rfl,nb,hb,rb⟩
   . refine k.here P q.2 S ?_;unfold Rep;have:ys=[]:=by rw[z]at hl2;exact Q2.mp hl2
     subst this;rw[QO];exact⟨a,vs,rfl,na,ha,ra⟩
   . exact k.tup P q.2 S (aM.mpr (d_ (aM.mp ra) (aM.mp rb))) hp
def F4:cG:=λ x y st K=>match x,y with
 | .int i,.int j=>IntMulOk i j/\K (.int (i*j)) st
 | .lst xs,.int k=>(-(2^63)<=k/\k<2^63/\xs.length*k.toNat<=sizeLine)/\K (.lst (List.replicate k.toNat xs).flatten) st
 | .tup xs,.int k=>(-(2^63)<=k/\k<2^63/\xs.length*k.toNat<=sizeLine)/\K (.tup (List.replicate k.toNat xs).flatten) st
 |_,_=>False
theorem LU:bD X (binaryOp .Mult) (LR F4):=λ pins s σ H x y v u Q I rx ry ⟨α,d,e,st,K,G,F',P,r1,r2,S,q,k⟩=>by
 cases d<;>cases e<;>try exact q.elim
 . unfold Rep at r1 r2;have h:bD X (binaryOp .Mult) (rI IntMulOk λ i j=> .int (i*j)):=Fj λ _ _ _ _ _ _ _ hc q=>mul_int q hc;exact h pins s σ H x y v u Q I rx ry ⟨_,_,r1,r2,q.1,k.here P q.2 S (by unfold Rep;rfl)⟩
 . unfold Rep at r1 r2;obtain⟨a,vs,rfl,na,ha,ra⟩:=r1;refine HW pins s σ H _ _ v u Q I rx ry ⟨a,_,vs,rfl,r2,eK P ha,q.1.1,q.1.2.1,by rw[<-ra.length];exact q.1.2.2,λ p hp=>?_⟩;exact k.lst P q.2 S (aM.mpr (k_ (aM.mp ra) _)) hp
 . rename_i xs m;have r1':=r1;unfold Rep at r1 r2;obtain⟨a,vs,rfl,na,ha,ra⟩:=r1;refine GF pins s σ H _ _ v u Q I rx ry ⟨a,_,vs,rfl,r2,P.get ha,q.1.1,q.1.2.1,by rw[<-ra.length];exact q.1.2.2,λ hs=>?_,λ _ p hp=>k.tup P q.2 S (aM.mpr (k_ (aM.mp ra) _)) hp⟩
   have e:(List.replicate m.toNat xs).flatten=xs:=by
    rcases hs with z|z
    . have:xs=[]:=Q2.mp (by rw[ra.length,z];rfl);rw[this];simp
    . rw[z];simp
   have q2:=q.2;rw[e]at q2;exact k.here P q2 S r1'
def live(st:ae):D->Bool
 | .ref n=>(match st[n]? with|some (.lst _)=>true|some (.ins _ _)=>true|_=>false)
 |_=>true
theorem qL{α:List (Option Addr)}{H:Hp}{st:ae}{n:Nat}{v:V}(S:aD α st H)(h:live st (.ref n)=true)(r:Rep α H (.ref n) v):∃a,v= .ref a:=by
 unfold live at h;simp only at h;split at h
 . rename_i e;obtain⟨a,ea,_⟩:=S.d6 e;exact⟨a,bY ea r⟩
 . rename_i e;obtain⟨a,ea,_⟩:=S.va e;exact⟨a,bY ea r⟩
 . cases h
def Ii:cG:=λ x y st K=>match y with| .aq=>live st x=true/\K (.bl (match x with| .aq=>false|_=>true)) st|_=>False
theorem Hx:bD X (compareOp .IsNot) (LR Ii):=bD.imp Hy λ x y H Q ⟨α,d,e,st,K,G,F',P,r1,r2,S,q,k⟩=>by
 cases e<;>try exact q.elim
 unfold Rep at r2;refine⟨r2,k.here P q.2 S ?_⟩;unfold Rep;cases d
 case ref n=>
  obtain⟨a,rfl⟩:=qL S q.1 r1;rfl
 all_goals(unfold Rep at r1;first|(rw[r1];rfl)|(obtain⟨a,vs,rfl,_⟩:=r1;rfl))
def mE:cG:=λ x y st K=>match y with
 | .int i=>(match x with
   | .lst xs=>(match cT xs i with|some d=>K d st|none=>False)
   | .tup xs=>(match cT xs i with|some d=>K d st|none=>False)
   | .ref n=>(match st[n]? with|some (.lst xs)=>(match cT xs i with|some d=>K d st|none=>False)|_=>False)
   |_=>False)
 |_=>False
theorem aB.cT{α:List (Option Addr)}{H:Hp}{ds:List D}{vs:List V}{i:Int}{d:D}(h:aB α H ds vs)(e:L2.cT ds i=some d):∃v,L2.cT vs i=some v/\Rep α H d v:=by
 unfold L2.cT at e⊢;rw[<-h.length];cases q:jy ds.length i with
 |none=>rw[q]at e;cases e
 |some j=>rw[q]at e;exact h.get e
theorem Od:Fx X (LR mE):=λ value slice pins s σ H x y v u Q I rx ry ⟨α,d,e,st,K,G,F',P,r1,r2,S,q,k⟩ hs=>by
 cases e<;>try exact q.elim
 unfold Rep at r2;cases d<;>try exact q.elim
 . rename_i i n;unfold mE at q;simp only at q;split at q
   . split at q
     . rename_i xs e1 _ d' e2;obtain⟨a,ea,vs,hv,rv⟩:=S.d6 e1;have r1':=bY ea r1;subst r1';obtain⟨z,ez,rz⟩:=rv.cT e2;exact zt value slice pins s σ H _ _ v u Q I rx ry ⟨a,vs,_,z,rfl,r2,.of (P.get hv),ez,k.here P q S rz⟩ hs
     . exact q.elim
   . exact q.elim
 . unfold mE at q;simp only at q;split at q
   . rename_i xs d' e2;unfold Rep at r1;obtain⟨a,vs,rfl,na,ha,ra⟩:=r1;obtain⟨z,ez,rz⟩:=ra.cT e2;exact zt value slice pins s σ H _ _ v u Q I rx ry ⟨a,vs,_,z,rfl,r2,.inl (eK P ha),ez,k.here P q S rz⟩ hs
   . exact q.elim
 . unfold mE at q;simp only at q;split at q
   . rename_i xs d' e2;unfold Rep at r1;obtain⟨a,vs,rfl,na,ha,ra⟩:=r1;obtain⟨z,ez,rz⟩:=ra.cT e2;exact IE value slice pins s σ H _ _ v u Q I rx ry ⟨a,vs,_,z,rfl,r2,.of (P.get ha),ez,k.here P q S rz⟩ hs
   . exact q.elim
theorem N7{a b:Expr}{ta tb:DE}{pos:Pos}(ha:PE X a (LE ta))(hb:PE X b (LE tb))(hs:oR b:=by intro _ _;rfl):PE X (.Subscript a b pos) (LE (ai mE ta tb)):=PE.imp (LB Od ha hb hs) λ _ _ _ h=>LE.op h
def items?(st:ae):D->Option (List D)
 | .lst xs=>some xs
 | .tup xs=>some xs
 | .ref n=>(match st[n]? with|some (.lst xs)=>some xs|_=>none)
 |_=>none
@[simp] theorem Nj(st:ae)(xs:List D):items? st (.lst xs)=some xs:=rfl
@[simp] theorem Ni(st:ae)(xs:List D):items? st (.tup xs)=some xs:=rfl
@[simp] theorem items_int(st:ae)(i:Int):items? st (.int i)=none:=rfl
@[simp] theorem NL(st:ae)(i:Bool):items? st (.bl i)=none:=rfl
@[simp] theorem items_str(st:ae)(i:Str):items? st (.str i)=none:=rfl
@[simp] theorem Nt(st:ae):items? st .aq=none:=rfl
theorem ao{st:ae}{n:Nat}{xs:List D}(h:st[n]?=some (.lst xs)):items? st (.ref n)=some xs:=by unfold items?;simp only[h]
theorem kG{α:List (Option Addr)}{H:Hp}{st:ae}{d:D}{v:V}{xs:List D}(S:aD α st H)(r:Rep α H d v)(e:items? st d=some xs):
 ∃p vs,v= .ref p/\aB α H xs vs/\(Rd H p (.lst vs)\/H p=some (.tup vs)):=by
 cases d<;>try(cases e;done)
 . unfold items? at e;simp only at e;split at e
   . rename_i ys q;cases e;obtain⟨a,ea,vs,h1,h2⟩:=S.d6 q;have r':=bY ea r;subst r';exact⟨a,vs,rfl,h2,.inl (.of h1)⟩
   . cases e
 . cases e;unfold Rep at r;obtain⟨a,vs,rfl,_,h1,h2⟩:=r;exact⟨a,vs,rfl,h2,.inl h1⟩
 . cases e;unfold Rep at r;obtain⟨a,vs,rfl,_,h1,h2⟩:=r;exact⟨a,vs,rfl,h2,.inr h1⟩
theorem Ao{K:PySem.W.Frag}{G F H:Hp}(P:bw G F H){p:Addr}{vs:List V}(h:Rd G p (.lst vs)\/G p=some (.tup vs)):i_ K H p vs\/fZ K H p vs:=h.elim (λ z=> .inl (.inl (eK P z))) λ z=> .inr (.of (P.get z))
theorem eH{α:List (Option Addr)}{H:Hp}{ds:List D}{xs:List V}{d:D}(r:aB α H ds xs)(e:ds=[d]):∃v,xs=[v]/\Rep α H d v:=by
 subst e;unfold aB at r;obtain⟨v,q,rfl,h1,h2⟩:=r;unfold aB at h2;subst h2;exact⟨v,rfl,h1⟩
theorem jJ{α:List (Option Addr)}{H:Hp}{ds:List D}{xs:List V}{d e:D}(r:aB α H ds xs)(q:ds=[d,e]):∃v u,xs=[v,u]/\Rep α H d v/\Rep α H e u:=by
 subst q;unfold aB at r;obtain⟨v,q,rfl,h1,h2⟩:=r;obtain⟨u,rfl,h3⟩:=eH h2 rfl;exact⟨v,u,rfl,h1,h3⟩
def vh:dw:=λ ds st K=>match ds with
 | [.str x]=>x.length<=sizeLine/\K (.int x.length) st
 | [d]=>(match items? st d with|some xs=>K (.int xs.length) st|none=>False)
 |_=>False
theorem MP:aZ X (.builtin "len") (dY vh):=λ pins s σ H xs us Q I rs ⟨α,ds,st,K,G,F',P,r,S,q,k⟩=>by
 unfold vh at q;split at q
 . rename_i x;obtain⟨v,rfl,r1⟩:=eH r rfl;unfold Rep at r1;subst r1;exact vH pins s σ H _ us Q I rs ⟨x,rfl,q.1,k.here P q.2 S (by unfold Rep;rfl)⟩
 . rename_i d _;split at q
   . rename_i ys e;obtain⟨v,rfl,r1⟩:=eH r rfl;obtain⟨p,vs,rfl,r2,h⟩:=kG S r1 e;refine wJ pins s σ H _ us Q I rs ⟨p,vs,rfl,Ao P h,k.here P q S (by unfold Rep;rw[r2.length])⟩
   . exact q.elim
 . exact q.elim
def Nx(g:Int->Int):dw:=λ ds st K=>match ds with| [.int i]=>K (.int (g i)) st|_=>False
abbrev Ay:dw:=Nx λ i=>if i<0 then-i else i
theorem M3:aZ X (.builtin "abs") (dY Ay):=aZ.imp Ec λ xs H Q ⟨α,ds,st,K,G,F',P,r,S,q,k⟩=>by
 unfold Ay Nx at q;split at q
 . obtain⟨v,rfl,r1⟩:=eH r rfl;unfold Rep at r1;subst r1;exact⟨_,rfl,k.here P q S (by unfold Rep;rfl)⟩
 . exact q.elim
def A8(g:Int->Int->Int):dw:=λ ds st K=>match ds with| [.int i,.int j]=>K (.int (g i j)) st|_=>False
abbrev zM:dw:=A8 λ i j=>if j>i then j else i
abbrev AM:dw:=A8 λ i j=>if j<i then j else i
theorem LW(hc:X.calm=true):aZ X (.builtin "max") (dY zM):=aZ.imp (Co hc) λ xs H Q ⟨α,ds,st,K,G,F',P,r,S,q,k⟩=>by
 unfold zM A8 at q;split at q
 . obtain⟨v,u,rfl,r1,r2⟩:=jJ r rfl;unfold Rep at r1 r2;subst r1 r2;exact⟨_,_,rfl,k.here P q S (by unfold Rep;rfl)⟩
 . exact q.elim
theorem LF(hc:X.calm=true):aZ X (.builtin "min") (dY AM):=aZ.imp (CI hc) λ xs H Q ⟨α,ds,st,K,G,F',P,r,S,q,k⟩=>by
 unfold AM A8 at q;split at q
 . obtain⟨v,u,rfl,r1,r2⟩:=jJ r rfl;unfold Rep at r1 r2;subst r1 r2;exact⟨_,_,rfl,k.here P q S (by unfold Rep;rfl)⟩
 . exact q.elim
def As:dw:=λ ds st K=>match ds with| [.int i]=>K (.int i) st| [.bl b]=>K (.int (if b then 1 else 0)) st|_=>False
theorem L8:aZ X (.type "int") (dY As):=aZ.imp Bq λ xs H Q ⟨α,ds,st,K,G,F',P,r,S,q,k⟩=>by
 unfold As at q;split at q
 . obtain⟨v,rfl,r1⟩:=eH r rfl;unfold Rep at r1;subst r1;exact .inl ⟨_,rfl,k.here P q S (by unfold Rep;rfl)⟩
 . obtain⟨v,rfl,r1⟩:=eH r rfl;unfold Rep at r1;subst r1;exact .inr ⟨_,rfl,k.here P q S (by unfold Rep;rfl)⟩
 . exact q.elim
def oZ:dw:=λ ds st K=>match ds with| [d]=>(match items? st d with|some xs=>K (.tup xs) st|none=>False)|_=>False
theorem HR:aZ X (.type "tuple") (dY oZ):=aZ.imp uV λ xs H Q ⟨α,ds,st,K,G,F',P,r,S,q,k⟩=>by
 unfold oZ at q;split at q
 . rename_i d;split at q
   . rename_i ys e;obtain⟨v,rfl,r1⟩:=eH r rfl;cases d with
     |tup zs=>
      cases e;have r0:=r1;unfold Rep at r1;obtain⟨a,vs,rfl,na,h1,h2⟩:=r1;exact⟨a,vs,rfl,.inr ⟨.of (P.get h1),k.here P q S r0⟩⟩
     |_=>
      obtain⟨p,vs,rfl,r2,h⟩:=kG S r1 e;refine⟨p,vs,rfl,?_⟩;rcases h with h|h
      . exact .inl ⟨.inl (eK P h),λ l hl=>k.tup P q S r2 hl⟩
      . first
         |(cases e;done)
         |(exfalso
           unfold items? at e;simp only at e
           first
            |(split at e
              . rename_i z;obtain⟨a,ea,vs',h1,h2⟩:=S.d6 z;have e':=bY ea r1;cases e';rw[h]at h1;cases h1
              . cases e)
            |(unfold Rep at r1
              obtain⟨a,vs',e',_,h1,_⟩:=r1;cases e';rcases h1 with h1|⟨o,h1⟩<;>(rw[h]at h1;cases h1)))
   . exact q.elim
 . exact q.elim
def sh:dw:=λ ds st K=>match ds with| [d]=>(match items? st d with|some xs=>K (.lst xs) st|none=>False)|_=>False
theorem KU:aZ X (.type "list") (dY sh):=aZ.imp nP λ xs H Q ⟨α,ds,st,K,G,F',P,r,S,q,k⟩=>by
 unfold sh at q;split at q
 . split at q
   . rename_i ys e;obtain⟨v,rfl,r1⟩:=eH r rfl;obtain⟨p,vs,rfl,r2,h⟩:=kG S r1 e;exact⟨p,vs,rfl,Ao P h,λ l hl=>k.lst P q S r2 hl⟩
   . exact q.elim
 . exact q.elim
def o4:dw:=λ ds st K=>match ds with| [d]=>(match items? st d with|some xs=>K (.ref st.length) (st++[.lst xs])|none=>False)|_=>False
theorem GN:aZ X (.type "list") (dY o4):=aZ.imp nP λ xs H Q ⟨α,ds,st,K,G,F',P,r,S,q,k⟩=>by
 unfold o4 at q;split at q
 . split at q
   . rename_i ys e;obtain⟨v,rfl,r1⟩:=eH r rfl;obtain⟨p,vs,rfl,r2,h⟩:=kG S r1 e;exact⟨p,vs,rfl,Ao P h,λ l hl=>k.new P q S r2 hl⟩
   . exact q.elim
 . exact q.elim
def il:List D->Option (List Bool)
 | []=>some []
 | .bl b::r=>(il r).map (b:: ·)
 |_::_=>none
def gO:List D->Option (List Int)
 | []=>some []
 | .int b::r=>(gO r).map (b:: ·)
 |_::_=>none
theorem sx{α:List (Option Addr)}{H:Hp}:∀ {ds:List D} {vs:List V} {bs:List Bool},aB α H ds vs->il ds=some bs->vs=bs.map V.bl
 | [],vs,bs,r,e=>by
   unfold aB at r;cases e;exact r
 |d::ds,vs,bs,r,e=>by
  unfold aB at r;obtain⟨v,q,rfl,h1,h2⟩:=r;cases d<;>try(cases e;done)
  unfold il at e;cases z:il ds with
  |none=>rw[z]at e;cases e
  |some cs=>
   rw[z]at e;cases e;unfold Rep at h1;rw[h1,sx h2 z];rfl
theorem nK{α:List (Option Addr)}{H:Hp}:∀ {ds:List D} {vs:List V} {bs:List Int},aB α H ds vs->gO ds=some bs->vs=bs.map V.int
 | [],vs,bs,r,e=>by
   unfold aB at r;cases e;exact r
 |d::ds,vs,bs,r,e=>by
  unfold aB at r;obtain⟨v,q,rfl,h1,h2⟩:=r;cases d<;>try(cases e;done)
  unfold gO at e;cases z:gO ds with
  |none=>rw[z]at e;cases e
  |some cs=>
   rw[z]at e;cases e;unfold Rep at h1;rw[h1,nK h2 z];rfl
theorem r9:∀ {bs:List Bool} {us:List Value},Vals (bs.map V.bl) us->us=bs.map Value.bool
 | [],_,.nil=>rfl
 |b::bs,_,.cons h t=>by
  have h:_=Value.bool b:=h;rw[h,r9 t];rfl
def vg:dw:=λ ds st K=>match ds with| [.lst xs]=>(match il xs with|some bs=>K (.bl (bs.all id)) st|none=>False)|_=>False
theorem range_all{α:Type}(l:List α)(f:α->Bool)(tr:Nat->Bool)(h:∀i x,l[i]?=some x->tr i=f x):(List.range l.length).all tr=l.all f:=by
 induction l generalizing tr with
 |nil=>rfl
 |cons a l ih=>
  rw[P7,Qg,SS,SS,Vd,h 0 a rfl];congr 1;exact ih (tr∘Nat.succ) λ i x e=>h (i+1) x (by simpa using e)
theorem MX(hc:X.calm=true):aZ X (.builtin "all") (dY vg):=λ pins s σ H xs us Q I rs ⟨α,ds,st,K,G,F',P,r,S,q,k⟩=>by
 unfold vg at q;split at q
 . rename_i ys;split at q
   . rename_i bs e;obtain⟨v,rfl,r1⟩:=eH r rfl;unfold Rep at r1;obtain⟨a,vs,rfl,na,h1,h2⟩:=r1;obtain⟨u,rfl,ru⟩:=vals1 rs;cases ru;have hv:=sx h2 e;subst hv;obtain⟨z,its,n,rv,hl,eo⟩:=Inv.qf I (eK P h1);have hits:=r9 rv;subst hits;have isL:s.heap.IsList a (bs.map Value.bool).toArray:=⟨_,eo,rfl,n,rfl⟩
     refine call_all_walk (R9 isL ?_);have hne:a≠s.heap.objs.size:=PB (Pm eo);refine⟨s.heap.objs.size,_,_,_,_,_,λ i=>(bs[i]?).getD true,rfl,Walks.list (A:=X.A.in1) (I.ok.hd hc) _ a hne (bs.map Value.bool).toArray,⟨⟨_,Pt _ rfl,rfl,rfl⟩,⟨_,Pa _ eo,rfl,n,rfl⟩⟩,?_,?_⟩
     . intro i w s' Q' E' hP hQ;rw[List.getElem?_toArray,PD]at hP;cases zb:bs[i]? with
       |none=>rw[zb]at hP;cases hP
       |some b=>
        rw[zb]at hP;cases hP;simp only[zb]at hQ;exact RG hQ
     . intro h' tk hk
       have kp:∀b o,s.heap.get? b=some o->h'.get? b=some o:=λ b o q=>hk b o (by
        intro hb;have:b=s.heap.objs.size:=by simpa using hb
        exact absurd (Pm q) (by rw[this];exact QC _)) (Pa _ q)
       have ea:(List.range (bs.map Value.bool).toArray.size).all (λ i=>(bs[i]?).getD true)=bs.all id:=by
        rw[Ph,O8];exact range_all bs id _ λ i x e=>by rw[e];rfl
       rw[ea];exact⟨.bl (bs.all id),H,I.kept (t':=tk) kp,rfl,k.here P q S (by unfold Rep;rfl)⟩
   . exact q.elim
 . exact q.elim
def gd(st:ae):D->Option String
 | .aq=>some "NoneType"
 | .bl _=>some "bool"
 | .int _=>some "int"
 | .str _=>some "str"
 | .lst _=>some "list"
 | .tup _=>some "tuple"
 | .ref n=>(match st[n]? with|some (.lst _)=>some "list"|_=>none)
 | .ty _=>none
@[simp] theorem OB(st:ae)(xs:List D):gd st (.lst xs)=some "list":=rfl
@[simp] theorem Ox(st:ae)(xs:List D):gd st (.tup xs)=some "tuple":=rfl
@[simp] theorem ty_int(st:ae)(i:Int):gd st (.int i)=some "int":=rfl
@[simp] theorem O3(st:ae)(i:Bool):gd st (.bl i)=some "bool":=rfl
@[simp] theorem ty_str(st:ae)(i:Str):gd st (.str i)=some "str":=rfl
@[simp] theorem OQ(st:ae):gd st .aq=some "NoneType":=rfl
def ql(t c:String):Bool:=t==c||(t=="bool"&&c=="int")
theorem wd{α:List (Option Addr)}{H:Hp}{st:ae}{K:PySem.W.Frag}{d:D}{v:V}{t:String}(S:aD α st H)(r:Rep α H d v)(e:gd st d=some t):gv K H v (.type t):=by
 cases d<;>unfold gd at e<;>try(cases e;done)
 . unfold Rep at r;cases e;subst r;exact .aq
 . unfold Rep at r;cases e;subst r;exact .bl _
 . unfold Rep at r;cases e;subst r;exact .int _
 . unfold Rep at r;cases e;subst r;exact .str _
 . simp only at e;split at e
   . rename_i z;cases e;obtain⟨a,ea,vs',h1,h2⟩:=S.d6 z;have r':=bY ea r;subst r';exact .lst h1
   . cases e
 . cases e;unfold Rep at r;obtain⟨a,vs,rfl,na,h1,h2⟩:=r;rcases h1 with h1|⟨o,h1⟩
   . exact .lst h1
   . exact .dE h1
 . cases e;unfold Rep at r;obtain⟨a,vs,rfl,na,h1,h2⟩:=r;exact .tup h1
theorem yE{G F H:Hp}{K:PySem.W.Frag}(P:bw G F H){x:V}{t:Value}(h:gv K G x t):gv K H x t:=by
 cases h with
 |aq=>exact .aq
 |bl x=>exact .bl x
 |int x=>exact .int x
 |str x=>exact .str x
 |pD x=>exact .pD x
 |lst e=>exact .lst (P.get e)
 |dE e=>exact .dE (P.get e)
 |tup e=>exact .tup (P.get e)
 |dK e=>exact .dK (P.get e)
 |dT e=>exact .dT (P.get e)
 |ins e a b c d f=>exact .ins (P.get e) a b c d f
def o6:List String:=["NoneType","bool","int","str","list","tuple"]
def jT:List String:=["bool","int","str","list","tuple"]
theorem yJ(K:PySem.W.Frag){t c:String}(ht:t∈o6)(hc:c∈jT):PySem.W.kitOne K (.type t) (.type c)=some (ql t c):=by
 simp only[o6,jT,Px,PR,R0]at ht hc;rcases ht with rfl|rfl|rfl|rfl|rfl|rfl<;>rcases hc with rfl|rfl|rfl|rfl|rfl<;>with_unfolding_all rfl
theorem wI{st:ae}{d:D}{t:String}(e:gd st d=some t):t∈o6:=by
 cases d<;>unfold gd at e<;>first
  |(cases e;done)
  |(cases e;decide)
  |(simp only at e;split at e<;>cases e;decide)
theorem kitx_of{pins:List (Addr×Obj)}{σ:L2.St}{H:Hp}{s:Shared}{x:V}{u:Value}{t:String}(I:Inv X pins σ H s)(rx:RelV x u)(ty:gv X.K H x (.type t)):
 ∃Hh:Heap->Prop,PySem.W.KitX X.K u (.type t) Hh/\Hh s.heap/\u≠ .builtin "__main__.__loader__#opaque":=by
 cases ty with
 |aq=>cases (show u=Value.none from rx);exact⟨_,PySem.W.kitx_none,True.intro,λ z=>nomatch z⟩
 |bl y=>cases (show u=Value.bool y from rx);exact⟨_,PySem.W.kitx_bool,True.intro,λ z=>nomatch z⟩
 |int i=>obtain⟨t,q⟩:=(show∃t,u=Value.int i t from rx);cases q;exact⟨_,PySem.W.kitx_int,True.intro,λ z=>nomatch z⟩
 |str y=>obtain⟨t,q⟩:=(show∃t,u=Value.str y t from rx);cases q;exact⟨_,PySem.W.kitx_str,True.intro,λ z=>nomatch z⟩
 |pD y=>obtain⟨t,q⟩:=(show∃t,u=Value.float y t from rx);cases q;exact⟨_,PySem.W.kitx_float,True.intro,λ z=>nomatch z⟩
 | @lst a xs ea=>
   cases (show u=Value.ref a from rx);obtain⟨_,_,n,_,h1⟩:=(show cw X.prog X.w H s.heap a (.lst xs)from I.aC a _ ea)
   exact⟨_,SI,⟨_,h1,rfl⟩,λ z=>nomatch z⟩
 | @dE a ob xs ea=>
   cases (show u=Value.ref a from rx);obtain⟨_,_,_,n,_,h1⟩:=(show cw X.prog X.w H s.heap a (.dE ob (.lst xs))from I.aC a _ ea)
   exact⟨_,SI,⟨_,h1,rfl⟩,λ z=>nomatch z⟩
 | @tup a xs ea=>
   cases (show u=Value.ref a from rx);obtain⟨_,_,_,p⟩:=(show cw X.prog X.w H s.heap a (.tup xs)from I.aC a _ ea)
   obtain⟨o,h1,h2,_⟩:=p;exact⟨_,PySem.W.kitx_tuple,⟨o,h1,h2⟩,λ z=>nomatch z⟩
 | @dK a kvs ea=>
   cases (show u=Value.ref a from rx);obtain⟨_,_,vs,_,p⟩:=(show cw X.prog X.w H s.heap a (.dK kvs)from I.aC a _ ea)
   obtain⟨o,es,ep,h1,h2,_⟩:=p;exact⟨_,SJ,⟨o,h1,h2.1⟩,λ z=>nomatch z⟩
 | @dT a kvs ea=>
   cases (show u=Value.ref a from rx);obtain⟨_,_,xs,_,o,es,ep,h1,h2,_⟩:=(show cw X.prog X.w H s.heap a (.dT kvs)from I.aC a _ ea)
   exact⟨_,SJ,⟨o,h1,h2.1⟩,λ z=>nomatch z⟩
def mq:List D->Option (List String)
 | []=>some []
 | .ty b::r=>(mq r).map (b:: ·)
 |_::_=>none
theorem wx{α:List (Option Addr)}{H:Hp}:∀ {ds:List D} {vs:List V} {bs:List String},aB α H ds vs->mq ds=some bs->vs=bs.map V.ty
 | [],vs,bs,r,e=>by
   unfold aB at r;cases e;exact r
 |d::ds,vs,bs,r,e=>by
  unfold aB at r;obtain⟨v,q,rfl,h1,h2⟩:=r;cases d<;>try(cases e;done)
  unfold mq at e;cases z:mq ds with
  |none=>rw[z]at e;cases e
  |some cs=>
   rw[z]at e;cases e;unfold Rep at h1;rw[h1,wx h2 z];rfl
theorem wg:∀ {bs:List String} {us:List Value},Vals (bs.map V.ty) us->us=bs.map Value.type
 | [],_,.nil=>rfl
 |b::bs,_,.cons h t=>by
  have h:_=Value.type b:=h;rw[h,wg t];rfl
theorem yX(K:PySem.W.Frag){t:String}(ht:t∈o6):∀cs:List String,(∀c∈cs,c∈jT)->PySem.W.kitAny K (.type t) (cs.map Value.type)=some (cs.any (ql t))
 | [],_=>rfl
 |c::cs,h=>by
  show(match PySem.W.kitOne K (.type t) (.type c)with|some true=>some true|some false=>PySem.W.kitAny K (.type t) (cs.map Value.type)|none=>none)=_;rw[yJ K ht (h c Pw),TV];cases ql t c with
  |true=>rfl
  |false=>exact yX K ht cs λ c hc=>h c (Pn _ hc)
def vb:dw:=λ ds st K=>match ds with
 | [d,.ty c]=>(match gd st d with|some t=>c∈jT/\K (.bl (ql t c)) st|none=>False)
 | [d,.tup cs]=>(match gd st d,mq cs with|some t,some cl=>(∀c∈cl,c∈jT)/\K (.bl (cl.any (ql t))) st|_,_=>False)
 |_=>False
theorem LJ:aZ X (.builtin "isinstance") (dY vb):=λ pins s σ H xs us Q I rs ⟨α,ds,st,K,G,F',P,r,S,q,k⟩=>by
 unfold vb at q;split at q
 . rename_i d c;split at q
   . rename_i t e;obtain⟨v,v2,rfl,r1,r2⟩:=jJ r rfl;obtain⟨u,u2,rfl,ru,ru2⟩:=vals2 rs;unfold Rep at r2;subst r2;cases (show u2=Value.type c from ru2);exact Bb I ru (yE P (wd S r1 e)) (yJ _ (wI e) q.1) λ tk=>⟨.bl (ql t c),H,I.tok tk,rfl,k.here P q.2 S (by unfold Rep;rfl)⟩
   . exact q.elim
 . rename_i d cs;split at q
   . rename_i t cl e ec;obtain⟨v,v2,rfl,r1,r2⟩:=jJ r rfl;obtain⟨u,u2,rfl,ru,ru2⟩:=vals2 rs;unfold Rep at r2;obtain⟨a,vs,rfl,na,h1,h2⟩:=r2;cases (show u2=Value.ref a from ru2);have hv:=wx h2 ec;subst hv;obtain⟨Hh,Z,hh,hne⟩:=kitx_of I ru (yE P (wd S r1 e));obtain⟨its,r',pl,hz⟩:=I.tuple (fZ.of (P.get h1));have hi:=wg r';subst hi;obtain⟨⟨cls,dd,data,sl⟩,ho,hc,n,hd⟩:=pl;simp only at hc hd;subst hc hd;exact PySem.W.kia_tup Z I.fh hh ho (yX _ (wI e) cl q.1) hne λ tk=>⟨.bl _,H,I.tok tk,rfl,k.here P q.2 S (by unfold Rep;rfl)⟩
   . exact q.elim
 . exact q.elim
end
end L3
namespace L3
open PySem PySem.Spec L2 PySem.SeqAt
open PyProof.Rows hiding St
mutual
def dm:D->D->Bool
 | .aq,.aq=>true
 | .bl a,.bl b=>a==b
 | .bl a,.int b=>(if a then 1 else 0)==b
 | .int a,.bl b=>a==(if b then 1 else 0)
 | .int a,.int b=>a==b
 | .str a,.str b=>a==b
 | .lst xs,.lst ys=>iF xs ys
 | .tup xs,.tup ys=>iF xs ys
 |_,_=>false
def iF:List D->List D->Bool
 | [],[]=>true
 |x::xs,y::ys=>dm x y&&iF xs ys
 |_,_=>false
end
def pl:Nat->D->Bool
 |_,.aq=>true
 |_,.bl _=>true
 |_,.int _=>true
 |_,.str _=>true
 |n+1,.lst xs=>xs.all (pl n)
 |n+1,.tup xs=>xs.all (pl n)
 |_,_=>false
mutual
theorem xa:∀(n:Nat) (d:D),pl n d=true->dm d d=true
 |_,.aq,_=>rfl
 |_,.bl _,_=>by simp[dm]
 |_,.int _,_=>by simp[dm]
 |_,.str _,_=>by simp[dm]
 |n+1,.lst xs,h=>by unfold dm;exact nW n xs (by unfold pl at h;exact h)
 |n+1,.tup xs,h=>by unfold dm;exact nW n xs (by unfold pl at h;exact h)
 |0,.lst xs,h=>by cases h
 |0,.tup xs,h=>by cases h
 |_,.ref _,h=>by unfold pl at h;cases h
 |_,.ty _,h=>by unfold pl at h;cases h
theorem nW:∀(n:Nat) (xs:List D),xs.all (pl n)=true->iF xs xs=true
 |_,[],_=>by unfold iF;rfl
 |n,x::xs,h=>by
  rw[SS,Qk]at h;unfold iF;rw[xa n x h.1,nW n xs h.2];rfl
end
mutual
theorem Rep.inj{α:List (Option Addr)}{H:Hp}:∀ {d e:D} {v:V} (n:Nat),pl n d=true->pl n e=true->Rep α H d v->Rep α H e v->d=e
 | .aq,e,v,n,_,he,h1,h2=>by
   unfold Rep at h1;subst h1;cases e<;>first|(unfold pl at he;cases he;done)|(unfold Rep at h2;cases h2;rfl)|(unfold Rep at h2;cases h2;done)|(unfold Rep at h2;obtain⟨_,_,h2,_⟩:=h2;cases h2)|rfl|(cases h2;done)|(obtain⟨_,_,h2,_⟩:=h2;cases h2)|(obtain⟨_,_,h2⟩:=h2;cases h2)
 | .bl b,e,v,n,_,he,h1,h2=>by
   unfold Rep at h1;subst h1;cases e<;>first|(unfold pl at he;cases he;done)|(unfold Rep at h2;cases h2;rfl)|(unfold Rep at h2;cases h2;done)|(unfold Rep at h2;obtain⟨_,_,h2,_⟩:=h2;cases h2)|(cases h2;rfl)|(cases h2;done)|(obtain⟨_,_,h2,_⟩:=h2;cases h2)|(obtain⟨_,_,h2⟩:=h2;cases h2)
 | .int b,e,v,n,_,he,h1,h2=>by
   unfold Rep at h1;subst h1;cases e<;>first|(unfold pl at he;cases he;done)|(unfold Rep at h2;cases h2;rfl)|(unfold Rep at h2;cases h2;done)|(unfold Rep at h2;obtain⟨_,_,h2,_⟩:=h2;cases h2)|(cases h2;rfl)|(cases h2;done)|(obtain⟨_,_,h2,_⟩:=h2;cases h2)|(obtain⟨_,_,h2⟩:=h2;cases h2)
 | .str b,e,v,n,_,he,h1,h2=>by
   unfold Rep at h1;subst h1;cases e<;>first|(unfold pl at he;cases he;done)|(unfold Rep at h2;cases h2;rfl)|(unfold Rep at h2;cases h2;done)|(unfold Rep at h2;obtain⟨_,_,h2,_⟩:=h2;cases h2)|(cases h2;rfl)|(cases h2;done)|(obtain⟨_,_,h2,_⟩:=h2;cases h2)|(obtain⟨_,_,h2⟩:=h2;cases h2)
 | .ty b,e,v,n,hd,he,h1,h2=>by unfold pl at hd;cases hd
 | .ref b,e,v,n,hd,he,h1,h2=>by unfold pl at hd;cases hd
 | .lst xs,e,v,0,hd,he,h1,h2=>by cases hd
 | .tup xs,e,v,0,hd,he,h1,h2=>by cases hd
 | .lst xs,e,v,n+1,hd,he,h1,h2=>by
   unfold Rep at h1;obtain⟨a,vs,rfl,na,ha,ra⟩:=h1;cases e<;>unfold Rep at h2<;>try(cases h2;done)
   . unfold pl at he;cases he
   . obtain⟨a',vs',e',na',ha',ra'⟩:=h2;cases e'
     have:vs=vs':=by
      rcases ha with ha|⟨o,ha⟩<;>rcases ha' with ha'|⟨o',ha'⟩<;>(rw[ha]at ha';first|(cases ha';rfl)|(cases ha';done))
     subst this;rw[aB.inj n (by unfold pl at hd;exact hd) (by unfold pl at he;exact he) ra ra']
   . obtain⟨a',vs',e',na',ha',ra'⟩:=h2;cases e';rcases ha with ha|⟨o,ha⟩<;>(rw[ha]at ha';cases ha')
 | .tup xs,e,v,n+1,hd,he,h1,h2=>by
   unfold Rep at h1;obtain⟨a,vs,rfl,na,ha,ra⟩:=h1;cases e<;>unfold Rep at h2<;>try(cases h2;done)
   . unfold pl at he;cases he
   . obtain⟨a',vs',e',na',ha',ra'⟩:=h2;cases e';rcases ha' with ha'|⟨o,ha'⟩<;>(rw[ha]at ha';cases ha')
   . obtain⟨a',vs',e',na',ha',ra'⟩:=h2;cases e';rw[ha]at ha';cases ha';rw[aB.inj n (by unfold pl at hd;exact hd) (by unfold pl at he;exact he) ra ra']
theorem aB.inj{α:List (Option Addr)}{H:Hp}:∀ {ds es:List D} {vs:List V} (n:Nat),ds.all (pl n)=true->es.all (pl n)=true->aB α H ds vs->aB α H es vs->ds=es
 | [],es,vs,n,_,_,h1,h2=>by
   unfold aB at h1;subst h1;cases es with
   |nil=>rfl
   |cons e es=>unfold aB at h2;obtain⟨_,_,h,_⟩:=h2;cases h
 |d::ds,es,vs,n,hd,he,h1,h2=>by
  unfold aB at h1;obtain⟨v,r,rfl,r1,r2⟩:=h1;cases es with
  |nil=>unfold aB at h2;cases h2
  |cons e es=>
   unfold aB at h2;obtain⟨v',r',h,q1,q2⟩:=h2;cases h;rw[SS,Qk]at hd he;rw[Rep.inj n hd.1 he.1 r1 q1,aB.inj n hd.2 he.2 r2 q2]
end
theorem p7:∀ {xs ys:List D},xs.length≠ys.length->iF xs ys=false
 | [],[],h=>absurd rfl h
 | [],_::_,_=>by unfold iF;rfl
 |_::_,[],_=>by unfold iF;rfl
 |x::xs,y::ys,h=>by
  unfold iF;rw[p7 (by simpa using h),UR]
theorem qC:∀ {xs ys:List D},xs.length=ys.length->iF xs ys=(List.range xs.length).all λ j=>dm (xs.getD j .aq) (ys.getD j .aq)
 | [],[],_=>by unfold iF;rfl
 | [],_::_,h=>by cases h
 |_::_,[],h=>by cases h
 |x::xs,y::ys,h=>by
  unfold iF;rw[P7,Qg,SS,Vd,qC (by simpa using h)];rfl
section
variable {X:Cx}{pins:List (Addr×Obj)}{σ:L2.St}{H:Hp}{s:Shared}{α:List (Option Addr)}
theorem oW{xs:List D}{vs:List V}{its:List Value}(r:aB α H xs vs)(v:Vals vs its)(j:Nat)(hj:j<its.length):∃x,xs[j]?=some (xs.getD j .aq)/\Rep α H (xs.getD j .aq) x/\RelV x its[j]:=by
 have h1:=r.length;have h2:=v.length;have hx:j<xs.length:=by omega
 have e:xs[j]?=some (xs.getD j .aq):=by rw[Pk hx,Pc,Pk hx];rfl
 obtain⟨x,q,rr⟩:=r.get e;obtain⟨u,q2,rv⟩:=v.get q;rw[Pk hj]at q2;cases q2;exact⟨x,e,rr,rv⟩
theorem mB{xs:List D}{n:Nat}(h:xs.all (pl n)=true)(j:Nat):pl n (xs.getD j .aq)=true:=by
 rw[Pc];cases e:xs[j]? with
 |none=>cases n<;>rfl
 |some d=>exact Qe.mp h d (PM e)
def Gu:D->Bool
 | .aq=>true
 | .bl _=>true
 | .int _=>true
 | .str _=>true
 |_=>false
theorem zA{A:Around}{d e:D}{x y:V}{u v:Value}(hd:Gu d=true)(he:Gu e=true)(rd:Rep α H d x)(re:Rep α H e y)(rx:RelV x u)(ry:RelV y v):RcAt A s u v (dm d e)/\EqAt A s u v (dm d e):=by
 cases d<;>cases e<;>try(first|(cases hd;done)|(cases he;done))
 all_goals(unfold Rep at rd re;subst rd re)
 all_goals(first|(obtain⟨t,rfl⟩:=rx;obtain⟨t',rfl⟩:=ry)|(obtain⟨t,rfl⟩:=rx;cases ry)|(cases rx;obtain⟨t,rfl⟩:=ry)|(cases rx;cases ry))
 all_goals unfold dm
 . exact⟨RcAt.none_none,EqAt.same _⟩
 . exact⟨RcAt.none_bool _,EqAt.none_bool _⟩
 . exact⟨RcAt.none_int _ _,EqAt.none_int _ _⟩
 . exact⟨RcAt.none_str _ _,EqAt.none_str _ _⟩
 . exact⟨RcAt.bool_none _,EqAt.bool_none _⟩
 . exact⟨RcAt.bool_bool _ _,EqAt.bool_bool _ _⟩
 . exact⟨RcAt.bool_int _ _ _,EqAt.bool_int _ _ _⟩
 . exact⟨RcAt.bool_str _ _ _,EqAt.bool_str _ _ _⟩
 . exact⟨RcAt.int_none _ _,EqAt.int_none _ _⟩
 . exact⟨RcAt.int_bool _ _ _,EqAt.int_bool _ _ _⟩
 . exact⟨RcAt.int_int _ _ _ _,EqAt.int_int _ _ _ _⟩
 . exact⟨RcAt.int_str _ _ _ _,EqAt.int_str _ _ _ _⟩
 . exact⟨RcAt.str_none _ _,EqAt.str_none _ _⟩
 . exact⟨RcAt.str_bool _ _ _,EqAt.str_bool _ _ _⟩
 . exact⟨RcAt.str_int _ _ _ _,EqAt.str_int _ _ _ _⟩
 . exact⟨RcAt.str_str _ _ _ _,EqAt.str_str _ _ _ _⟩
theorem lst_is(I:Inv X pins σ H s){xs:List D}{x:V}{u:Value}(r:Rep α H (.lst xs) x)(rx:RelV x u):∃a vs its,u= .ref a/\aB α H xs vs/\Vals vs its/\s.heap.IsList a its.toArray:=by
 unfold Rep at r;obtain⟨a,vs,rfl,na,ha,ra⟩:=r;cases rx;obtain⟨z,its,n,rv,hl,eo⟩:=Inv.qf I ha;exact⟨a,vs,its,rfl,ra,rv,⟨_,eo,rfl,n,rfl⟩⟩
theorem tup_is(I:Inv X pins σ H s){xs:List D}{x:V}{u:Value}(r:Rep α H (.tup xs) x)(rx:RelV x u):∃a vs its,u= .ref a/\aB α H xs vs/\Vals vs its/\s.heap.IsTuple a its.toArray:=by
 unfold Rep at r;obtain⟨a,vs,rfl,na,ha,ra⟩:=r;cases rx;obtain⟨its,r',p,hz⟩:=I.tuple (fZ.of ha);exact⟨a,vs,its,rfl,ra,r',p⟩
theorem uN(I:Inv X pins σ H s){A:Around}{xs:List D}{e:D}{x y:V}{u v:Value}(he:Gu e=true)(rd:Rep α H (.lst xs) x)(re:Rep α H e y)(rx:RelV x u)(ry:RelV y v)(hu:A.units<cLine):
 (RcAt A s u v (dm (.lst xs) e)/\EqAt A s u v (dm (.lst xs) e))/\RcAt A s v u (dm e (.lst xs))/\EqAt A s v u (dm e (.lst xs)):=by
 obtain⟨a,vs,its,rfl,_,_,hl⟩:=lst_is I rd rx;cases e<;>try(cases he;done)
 all_goals(unfold Rep at re;subst re)
 all_goals(first|(obtain⟨t,rfl⟩:=ry)|(cases ry))
 all_goals unfold dm
 . exact⟨⟨RcAt.list_none hl hu,EqAt.list_none hl hu⟩,RcAt.none_list hl hu,EqAt.none_list hl hu⟩
 . exact⟨⟨RcAt.list_bool _ hl hu,EqAt.list_bool _ hl hu⟩,RcAt.bool_list _ hl hu,EqAt.bool_list _ hl hu⟩
 . exact⟨⟨RcAt.list_int _ _ hl hu,EqAt.list_int _ _ hl hu⟩,RcAt.int_list _ _ hl hu,EqAt.int_list _ _ hl hu⟩
 . exact⟨⟨RcAt.list_str _ _ hl hu,EqAt.list_str _ _ hl hu⟩,RcAt.str_list _ _ hl hu,EqAt.str_list _ _ hl hu⟩
theorem ux(I:Inv X pins σ H s){A:Around}{xs:List D}{e:D}{x y:V}{u v:Value}(he:Gu e=true)(rd:Rep α H (.tup xs) x)(re:Rep α H e y)(rx:RelV x u)(ry:RelV y v)(hu:A.units<cLine):
 (RcAt A s u v (dm (.tup xs) e)/\EqAt A s u v (dm (.tup xs) e))/\RcAt A s v u (dm e (.tup xs))/\EqAt A s v u (dm e (.tup xs)):=by
 obtain⟨a,vs,its,rfl,_,_,hl⟩:=tup_is I rd rx;cases e<;>try(cases he;done)
 all_goals(unfold Rep at re;subst re)
 all_goals(first|(obtain⟨t,rfl⟩:=ry)|(cases ry))
 all_goals unfold dm
 . exact⟨⟨RcAt.tuple_none hl hu,EqAt.tuple_none hl hu⟩,RcAt.none_tuple hl hu,EqAt.none_tuple hl hu⟩
 . exact⟨⟨RcAt.tuple_bool _ hl hu,EqAt.tuple_bool _ hl hu⟩,RcAt.bool_tuple _ hl hu,EqAt.bool_tuple _ hl hu⟩
 . exact⟨⟨RcAt.tuple_int _ _ hl hu,EqAt.tuple_int _ _ hl hu⟩,RcAt.int_tuple _ _ hl hu,EqAt.int_tuple _ _ hl hu⟩
 . exact⟨⟨RcAt.tuple_str _ _ hl hu,EqAt.tuple_str _ _ hl hu⟩,RcAt.str_tuple _ _ hl hu,EqAt.str_tuple _ _ hl hu⟩
theorem yH{A:Around}{n:Nat}{d e:D}{x y:V}{a b:Addr}(hd:pl n d=true)(he:pl n e=true)(rd:Rep α H d x)(re:Rep α H e y)(rx:RelV x (.ref a))(ry:RelV y (.ref b))(h:RcAt A s (.ref a) (.ref b) (dm d e)):
 RcAt A s (.ref a) (.ref b) (dm d e)/\EqAt A s (.ref a) (.ref b) (dm d e):=by
 refine⟨h,?_⟩;by_cases hab:a=b
 . subst hab;have hx:x=y:=RelV.inj rx ry;subst hx;have:=Rep.inj n hd he rd re;subst this;rw[xa n d hd];exact EqAt.same _
 . exact EqAt.of_refs hab h
theorem Mh(I:Inv X pins σ H s):∀(n:Nat) (A:Around) (d e:D) (x y:V) (u v:Value),pl n d=true->pl n e=true->Rep α H d x->Rep α H e y->RelV x u->RelV y v->A.units+n<cLine->
 RcAt A s u v (dm d e)/\EqAt A s u v (dm d e):=by
 intro n;induction n with
 |zero=>
  intro A d e x y u v hd he rd re rx ry hu;refine zA ?_ ?_ rd re rx ry
  . cases d<;>first|rfl|(cases hd)
  . cases e<;>first|rfl|(cases he)
 |succ n ih=>
  intro A d e x y u v hd he rd re rx ry hu;have hu0:A.units<cLine:=by omega
  have hin:A.in1.units+n<cLine:=by rw[Around.in1_units];omega
  cases d<;>try(cases hd;done)
  case lst xs=>
   cases e<;>try(cases he;done)
   case lst ys=>
    have rd0:=rd;have re0:=re;have rx0:=rx;have ry0:=ry;obtain⟨a,vs,its,rfl,r1,v1,l1⟩:=lst_is I rd rx;obtain⟨b,ws,jts,rfl,r2,v2,l2⟩:=lst_is I re ry;have e1:=r1.length;have e2:=v1.length;have e3:=r2.length;have e4:=v2.length;refine yH hd he rd0 re0 rx0 ry0 ?_;unfold dm;by_cases hlen:xs.length=ys.length
    . rw[qC hlen];have hsz:its.toArray.size=jts.toArray.size:=by simp only[Ph];omega
      have hx:xs.length=its.toArray.size:=by simp only[Ph];omega
      rw[hx];refine RcAt.lists l1 l2 hsz hu0 λ j h1 h2=>?_;have h1':j<its.length:=by simpa using h1
      have h2':j<jts.length:=by simpa using h2
      obtain⟨p,_,q1,q2⟩:=oW r1 v1 j h1';obtain⟨p',_,q1',q2'⟩:=oW r2 v2 j h2';exact(ih A.in1 _ _ p p' _ _ (mB (by unfold pl at hd;exact hd) j) (mB (by unfold pl at he;exact he) j) q1 q1' (by simpa using q2) (by simpa using q2') hin).2
    . rw[p7 hlen];exact RcAt.lists_lengths l1 l2 (by simp only[Ph,Ua,ne_eq];omega) hu0
   case tup ys=>
    obtain⟨a,vs,its,rfl,r1,v1,l1⟩:=lst_is I rd rx;obtain⟨b,ws,jts,rfl,r2,v2,l2⟩:=tup_is I re ry;unfold dm;exact⟨RcAt.list_tuple l1 l2 hu0,EqAt.list_tuple l1 l2 hu0⟩
   all_goals exact(uN I rfl rd re rx ry hu0).1
  case tup xs=>
   cases e<;>try(cases he;done)
   case tup ys=>
    have rd0:=rd;have re0:=re;have rx0:=rx;have ry0:=ry;obtain⟨a,vs,its,rfl,r1,v1,l1⟩:=tup_is I rd rx;obtain⟨b,ws,jts,rfl,r2,v2,l2⟩:=tup_is I re ry;have e1:=r1.length;have e2:=v1.length;have e3:=r2.length;have e4:=v2.length;refine yH hd he rd0 re0 rx0 ry0 ?_;unfold dm
    have key:=RcAt.tuples (e:=λ j=>dm (xs.getD j .aq) (ys.getD j .aq)) l1 l2 hu0 λ j h1 h2=>by
     have h1':j<its.length:=by simpa using h1
     have h2':j<jts.length:=by simpa using h2
     obtain⟨p,_,q1,q2⟩:=oW r1 v1 j h1';obtain⟨p',_,q1',q2'⟩:=oW r2 v2 j h2';exact(ih A.in1 _ _ p p' _ _ (mB (by unfold pl at hd;exact hd) j) (mB (by unfold pl at he;exact he) j) q1 q1' (by simpa using q2) (by simpa using q2') hin).2
    by_cases hlen:xs.length=ys.length
    . rw[qC hlen];have hsz:its.toArray.size=jts.toArray.size:=by simp only[Ph];omega
      have hx:xs.length=its.toArray.size:=by simp only[Ph];omega
      rw[hsz,Ve,Ug,Bool.and_true,<-hsz,<-hx]at key;exact key
    . rw[p7 hlen];have hne:(its.toArray.size==jts.toArray.size)=false:=by simp only[Ph,RQ,ne_eq];omega
      rw[hne,UR]at key;exact key
   case lst ys=>
    obtain⟨a,vs,its,rfl,r1,v1,l1⟩:=tup_is I rd rx;obtain⟨b,ws,jts,rfl,r2,v2,l2⟩:=lst_is I re ry;unfold dm;exact⟨RcAt.tuple_list l1 l2 hu0,EqAt.tuple_list l1 l2 hu0⟩
   all_goals exact(ux I rfl rd re rx ry hu0).1
  all_goals
   cases e<;>try(cases he;done)
   case lst ys=>exact(uN I rfl re rd ry rx hu0).2
   case tup ys=>exact(ux I rfl re rd ry rx hu0).2
   all_goals exact zA rfl rfl rd re rx ry
def Kz:cG:=λ x y st K=>pl 40 x=true/\pl 40 y=true/\K (.bl (dm x y)) st
theorem Oi{k:Nat}(hr:bV k X.A):bD X (compareOp .Eq) (LR Kz):=λ pins s σ H x y v u Q I rx ry ⟨α,d,e,st,K,G,F',P,r1,r2,S,q,k⟩=>by
 have hu:=hr.units;exact(Mh I 40 X.A d e x y v u q.1 q.2.1 (r1.mono P.same) (r2.mono P.same) rx ry (by omega)).1 _ _ _ _ ⟨.bl (dm d e),H,I,rfl,k.here P q.2.2 S (by unfold Rep;rfl)⟩
def Ku:cG:=λ x y st K=>match x,y with
 | .int i,.int j=>K (.bl (!decide (i=j))) st
 | .bl i,.bl j=>K (.bl (!decide (i=j))) st
 | .str i,.str j=>K (.bl (!decide (i=j))) st
 |_,_=>False
theorem Of:bD X (compareOp .NotEq) (LR Ku):=bD.imp MF λ x y H Q ⟨α,d,e,st,K,G,F',P,r1,r2,S,q,k⟩=>by
 cases d<;>cases e<;>try exact q.elim
 all_goals(unfold Rep at r1 r2;subst r1 r2)
 . exact⟨rfl,k.here P q S (by unfold Rep;congr 2;exact Uj.mpr ⟨λ h=>by cases h;rfl,λ h=>by rw[h]⟩)⟩
 . exact⟨rfl,k.here P q S (by unfold Rep;congr 2;exact Uj.mpr ⟨λ h=>by cases h;rfl,λ h=>by rw[h]⟩)⟩
 . exact⟨rfl,k.here P q S (by unfold Rep;congr 2;exact Uj.mpr ⟨λ h=>by cases h;rfl,λ h=>by rw[h]⟩)⟩
end
end L3
namespace L3
open PySem PySem.Spec L2
open PyProof.Rows hiding St
def LC(α:List (Option Addr))(G F:Hp)(K:bf->ae->Prop)(Q:L2.St->Hp->Prop):Prop:=∀σd' st',K σd' st'->∀α' G' H' σ',Step α G α' G'->bw G' F H'->cQ α' G' σd' σ'->aD α' st' G'->Q σ' H'
structure u0(α:List (Option Addr))(G F:Hp)(DD:iZ)(D:Ends):Prop where
 nx:LC α G F DD.nx D.nx
 rt:LK α G F DD.rt D.rt
 bk:LC α G F DD.bk D.bk
 ct:LC α G F DD.ct D.ct
inductive Nr(t:DS)(D:Ends)(σ:L2.St)(H:Hp):Prop
 |mk (α:List (Option Addr)) (σd:bf) (st:ae) (DD:iZ) (G F:Hp) (P:bw G F H) (R:cQ α G σd σ) (S:aD α st G) (h:t DD σd st) (k:u0 α G F DD D):Nr t D σ H
def LS(t:DS):TS:=Nr t
theorem LC.at{α α1:List (Option Addr)}{G F G1:Hp}{K:bf->ae->Prop}{Q:L2.St->Hp->Prop}(h:LC α G F K Q)(s:Step α G α1 G1):LC α1 G1 F K Q:=λ d st' k α' G' H' v s' P R S=>h d st' k α' G' H' v (s.trans s') P R S
theorem LC.here{α:List (Option Addr)}{G F H:Hp}{K:bf->ae->Prop}{Q:L2.St->Hp->Prop}(h:LC α G F K Q)(P:bw G F H){σd:bf}{st:ae}{σ:L2.St}(k:K σd st)(R:cQ α G σd σ)(S:aD α st G):Q σ H:=h σd st k α G H σ Step.refl P R S
theorem u0.at{α α1:List (Option Addr)}{G F G1:Hp}{DD:iZ}{D:Ends}(h:u0 α G F DD D)(s:Step α G α1 G1):u0 α1 G1 F DD D:=⟨h.nx.at s,h.rt.at s,h.bk.at s,h.ct.at s⟩
section
variable {X:Cx}{a b c e o i:Expr}{es:List Expr}{ta tb tc te:DE}{pos:Pos}{st:Stmt}{sts:List Stmt}{t u:DS}
theorem PS.imp{t t':TS}(h:PS X st t)(f:∀D σ H,t' D σ H->t D σ H):PS X st t':=λ pins s σ H D I q=>h pins s σ H D I (f D σ H q)
theorem fg.imp{t t':TS}(h:fg X sts t)(f:∀D σ H,t' D σ H->t D σ H):fg X sts t':=λ pins s σ H D I q=>h pins s σ H D I (f D σ H q)
def cE:DS:=λ D σ st=>D.nx σ st
def az(t u:DS):DS:=λ D σ st=>t {D with nx:=u D} σ st
theorem HP:fg X [] (LS cE):=fg.imp HJ λ D σ H ⟨α,σd,st,DD,G,F,P,R,S,t,k⟩=>k.nx.here P t R S
theorem GC(h:PS X st (LS t)):fg X [st] (LS t):=GR h
theorem D4(h:PS X st (LS t))(h2:fg X sts (LS u)):fg X (st::sts) (LS (az t u)):=fg.imp (DR h h2) λ D σ H ⟨α,σd,st,DD,G,F,P,R,S,t,k⟩=>
 ⟨α,σd,st,_,G,F,P,R,S,t,λ σd' st' q α' G' H' σ' s' P' R' S'=>⟨α',σd',st',DD,G',F,P',R',S',q,k.at s'⟩,k.rt,k.bk,k.ct⟩
def bh(te:DE):DS:=λ D σ st=>te σ st D.rt
theorem JM(h:PE X e (LE te)):PS X (.Return (some e) pos) (LS (bh te)):=PS.imp (Jw h) λ D σ H ⟨α,σd,st,DD,G,F,P,R,S,t,k⟩=>⟨α,σd,st,_,G,F,P,R,S,t,k.rt⟩
def gb(te:DE):DS:=λ D σ st=>te σ st λ _ st1=>D.nx σ st1
theorem GZ(h:PE X e (LE te))(hs:swapsWith e none pos.line X.env=pure false:=by rfl):PS X (.Expr e pos) (LS (gb te)):=PS.imp (Hl h hs) λ D σ H ⟨α,σd,st,DD,G,F,P,R,S,t,k⟩=>
 ⟨α,σd,st,_,G,F,P,R,S,t,λ d st1 q α1 G1 H1 v s1 P1 S1 r1=>(k.nx.at s1).here P1 q (R.step s1) S1⟩
def cW(c:DT)(t u:DS):DS:=λ D σ st=>c σ st λ b st1=>if b=true then t D σ st1 else u D σ st1
theorem ME{x y:List Stmt}{tc:DT}(hc:PT X c (LT tc))(ha:fg X x (LS t))(hb:fg X y (LS u)):PS X (.If c x y pos) (LS (cW tc t u)):=PS.imp (MW hc ha hb) λ D σ H ⟨α,σd,st,DD,G,F,P,R,S,t,k⟩=>by
 refine⟨α,σd,st,_,G,F,P,R,S,t,λ b st1 q α1 G1 H1 s1 P1 S1=>?_⟩;cases b with
 |true=>exact⟨α1,σd,st1,DD,G1,F,P1,R.step s1,S1,q,k.at s1⟩
 |false=>exact⟨α1,σd,st1,DD,G1,F,P1,R.step s1,S1,q,k.at s1⟩
abbrev dJ:=D->bf->Option bf
def aV(i:Nat):dJ:=λ d σ=>some (σ.set i (some d))
def fO(i j:Nat):dJ:=λ d σ=>match d with| .tup [x,y]=>some ((σ.set i (some x)).set j (some y))|_=>none
inductive Nm(t:dJ)(v:V)(σ:L2.St)(H:Hp)(Q:L2.St->Hp->Prop):Prop
 |mk (α:List (Option Addr)) (σd:bf) (st:ae) (d:D) (K:bf->ae->Prop) (G F:Hp) (P:bw G F H) (R:cQ α G σd σ) (S:aD α st G) (r:Rep α G d v) (h:∃σ',t d σd=some σ'/\K σ' st) (k:LC α G F K Q):Nm t v σ H Q
def LG(t:dJ):TG:=Nm t
theorem PG.imp{tg:Expr}{t t':TG}(h:PG X tg t)(f:∀v σ H Q,t' v σ H Q->t v σ H Q):PG X tg t':=λ pins s σ H v u Q I r q=>h pins s σ H v u Q I r (f v σ H Q q)
theorem HY{tg:Expr}{i:Nat}(h:PG X tg (i5 i)):PG X tg (LG (aV i)):=PG.imp h λ v σ H Q ⟨α,σd,st,d,K,G,F,P,R,S,r,⟨σ',e,q⟩,k⟩=>by
 cases e;exact k.here P q (R.set i r) S
theorem IX{tg:Expr}{i j:Nat}(h:PG X tg (Jp X.K 2 (rl (i5 i) (rl (i5 j) EL)))):PG X tg (LG (fO i j)):=PG.imp h λ v σ H Q ⟨α,σd,st,d,K,G,F,P,R,S,r,⟨σ',e,q⟩,k⟩=>by
 unfold fO at e;split at e
 . rename_i x y;cases e;unfold Rep at r;obtain⟨a,vs,rfl,na,h1,h2⟩:=r;obtain⟨v1,v2,rfl,r1,r2⟩:=jJ h2 rfl;exact⟨a,_,rfl,.of (P.get h1),rfl,v1,_,rfl,v2,_,rfl,rfl,k.here P q ((R.set i r1).set j r2) S⟩
 . cases e
def aR(i:Nat)(te:DE):DS:=λ D σ st=>te σ st λ d st1=>D.nx (σ.set i (some d)) st1
theorem IY{i:Nat}(h:PS X st (ju (LE te) (i5 i))):PS X st (LS (aR i te)):=PS.imp h λ D σ H ⟨α,σd,st,DD,G,F,P,R,S,t,k⟩=>
 ⟨α,σd,st,_,G,F,P,R,S,t,λ d st1 q α1 G1 H1 v s1 P1 S1 r1=>(k.nx.at s1).here P1 q ((R.step s1).set i r1) S1⟩
def Aj(tg:dJ)(te:DE):DS:=λ D σ st=>te σ st λ d st1=>∃σ',tg d σ=some σ'/\D.nx σ' st1
theorem Kc{tg:dJ}(h:PS X st (ju (LE te) (LG tg))):PS X st (LS (Aj tg te)):=PS.imp h λ D σ H ⟨α,σd,st,DD,G,F,P,R,S,t,k⟩=>
 ⟨α,σd,st,_,G,F,P,R,S,t,λ d st1 q α1 G1 H1 v s1 P1 S1 r1=>⟨α1,σd,st1,d,DD.nx,G1,F,P1,R.step s1,S1,r1,q,k.nx.at s1⟩⟩
def AQ(i:Nat)(r:cG)(te:DE):DS:=λ D σ st=>match σ[i]? with|some (some x)=>te σ st λ y st1=>r x y st1 λ z st2=>D.nx (σ.set i (some z)) st2|_=>False
def wt(f:Int->Int->Int):cG:=λ x y st K=>match x,y with| .int i,.int j=>K (.int (f i j)) st|_,_=>False
theorem JU{i:Nat}{f:Int->Int->Int}(h:PS X st (Ka i (LE te) (Kq f))):PS X st (LS (AQ i (wt f) te)):=PS.imp h λ D σ H ⟨α,σd,st,DD,G,F,P,R,S,t,k⟩=>by
 unfold AQ at t;split at t
 . rename_i x e;obtain⟨v,ev,rv⟩:=R.at' i x e;refine⟨v,ev,α,σd,st,_,G,F,P,R,S,t,λ y st1 q α1 G1 H1 w s1 P1 S1 r1=>?_⟩;cases x<;>cases y<;>try exact q.elim
   have rv':=rv;unfold Rep at rv r1;exact⟨_,_,rv,r1,(k.nx.at s1).here P1 q ((R.step s1).set i (by unfold Rep;rfl)) S1⟩
 . exact t.elim
def wj(x y d:D)(st:ae)(K:ae->Prop):Prop:=match x,y with
 | .ref n,.int k=>(match st[n]? with
   |some (.lst xs)=>(match jy xs.length k with|some j=>K (st.set n (.lst (xs.set j d)))|none=>False)
   |_=>False)
 |_,_=>False
def Lf(to ti te:DE):DS:=λ D σ st=>te σ st λ d st1=>to σ st1 λ x st2=>ti σ st2 λ y st3=>wj x y d st3 λ st4=>D.nx σ st4
theorem Et{to ti:DE}(h:PS X st (ju (LE te) (xm (LE to) (LE ti) qV))):PS X st (LS (Lf to ti te)):=PS.imp h λ D σ H ⟨α,σd,st,DD,G,F,P,R,S,t,k⟩=>by
 refine⟨α,σd,st,_,G,F,P,R,S,t,λ d st1 q α1 G1 H1 v s1 P1 S1 r1=>?_⟩;refine⟨α1,σd,st1,_,G1,F,P1,R.step s1,S1,q,λ x st2 q2 α2 G2 H2 v2 s2 P2 S2 r2=>?_⟩;refine⟨α2,σd,st2,_,G2,F,P2,(R.step s1).step s2,S2,q2,λ y st3 q3 α3 G3 H3 v3 s3 P3 S3 r3=>?_⟩;cases x<;>cases y<;>try exact q3.elim
 rename_i n kk;unfold wj at q3;simp only at q3;split at q3
 . rename_i xs e;split at q3
   . rename_i j ej;obtain⟨p,ep,vs,hv,rv⟩:=S3.d6 e;have r2':=bY ep (r2.step s3);subst r2';unfold Rep at r3;have hm:some p∈α3:=PM ep;have rd:=(r1.step s2).step s3;refine⟨p,vs,kk,j,rfl,r3,P3.get hv,by rw[<-rv.length];exact ej,?_⟩;refine(((k.nx.at s1).at s2).at s3) σd _ q3 α3 (upd G3 p (.lst (vs.set j v))) _ σ (Step.write hm) (P3.write hv) ((((R.step s1).step s2).step s3).step (Step.write hm)) ?_;exact S3.write ep ⟨vs.set j v,aG,(aM.mpr (mM rd j (aM.mp rv))).step (Step.write hm)⟩
   . exact q3.elim
 . exact q3.elim
def oH(c:DT)(tb:DS):DS:=λ D σ st=>∃W:Nat->bf->ae->Prop,(∃m,W m σ st)/\∀m σ st,W m σ st->
 c σ st λ b st1=>if b=true then tb {D with nx:=λ σ' st'=>∃m',m'<m/\W m' σ' st',ct:=λ σ' st'=>∃m',m'<m/\W m' σ' st',bk:=D.nx} σ st1 else D.nx σ st1
theorem EU{tc:DT}(h:PS X st (Cn (LT tc) (LS t))):PS X st (LS (oH tc t)):=PS.imp h λ D σ H ⟨α,σd,st,DD,G,F,P,R,S,⟨W,⟨m0,w0⟩,turn⟩,k⟩=>by
 refine⟨λ m σ' H'=>∃α' σd' st' G',Step α G α' G'/\bw G' F H'/\cQ α' G' σd' σ'/\aD α' st' G'/\W m σd' st',⟨m0,α,σd,st,G,Step.refl,P,R,S,w0⟩,?_⟩;rintro m σ1 H1 ⟨α1,σd1,st1,G1,s1,P1,R1,S1,w1⟩;refine⟨α1,σd1,st1,_,G1,F,P1,R1,S1,turn m σd1 st1 w1,λ b st2 q α2 G2 H2 s2 P2 S2=>?_⟩;cases b with
 |false=>exact((k.nx.at s1).at s2).here P2 q (R1.step s2) S2
 |true=>
  refine⟨λ σ' H'=>∃m',m'<m/\∃α' σd' st' G',Step α G α' G'/\bw G' F H'/\cQ α' G' σd' σ'/\aD α' st' G'/\W m' σd' st',λ σ' H' z=>z,?_⟩;refine⟨α2,σd1,st2,_,G2,F,P2,R1.step s2,S2,q,?_⟩;refine⟨?_,(k.rt.at s1).at s2,(k.nx.at s1).at s2,?_⟩
  . rintro σd3 st3 ⟨m',hm,w3⟩ α3 G3 H3 σ3 s3 P3 R3 S3;exact⟨m',hm,α3,σd3,st3,G3,(s1.trans s2).trans s3,P3,R3,S3,w3⟩
  . rintro σd3 st3 ⟨m',hm,w3⟩ α3 G3 H3 σ3 s3 P3 R3 S3;exact⟨m',hm,α3,σd3,st3,G3,(s1.trans s2).trans s3,P3,R3,S3,w3⟩
abbrev DI:=bf->ae->(List D->(ae->Prop)->ae->Prop)->Prop
structure sS(J:It)(α:List (Option Addr))(G:Hp)(ok:ae->Prop)(xs:List D):Prop where
 stop:∀(n:Nat) α' G' F' H' st',Step α G α' G'->bw G' F' H'->aD α' st' G'->ok st'->xs.length<=n->J.stop n H'
 go:∀(n:Nat) d α' G' F' H' st',Step α G α' G'->bw G' F' H'->aD α' st' G'->ok st'->xs[n]?=some d->J.go n H'
 l9:∀(n:Nat) d α' G' F' H' st' x H'',Step α G α' G'->bw G' F' H'->aD α' st' G'->ok st'->xs[n]?=some d->J.l9 n H' x H''->∃G'',Step α' G' α' G''/\bw G'' F' H''/\aD α' st' G''/\Rep α' G'' d x
def LI(t:DI):TI:=λ σ H R=>∃α σd st K G F,bw G F H/\cQ α G σd σ/\aD α st G/\t σd st K/\∀xs ok st1,K xs ok st1->∀J α1 G1 H1,Step α G α1 G1->bw G1 F H1->aD α1 st1 G1->sS J α1 G1 ok xs->R J H1
def tI(d:D)(st1:ae)(K:List D->(ae->Prop)->ae->Prop):Prop:=match d with
 | .lst xs=>K xs (λ _=>True) st1
 | .tup xs=>K xs (λ _=>True) st1
 | .ref n=>(match st1[n]? with|some (.lst xs)=>K xs (λ st'=>st'[n]?=some (.lst xs)) st1|_=>False)
 |_=>False
def Lw(t:DE):DI:=λ σ st K=>t σ st λ d st1=>tI d st1 K
theorem yR{K:PySem.W.Frag}{a:Addr}{α:List (Option Addr)}{G:Hp}{ok:ae->Prop}{xs:List D}
 (h:∀α' G' st',Step α G α' G'->aD α' st' G'->ok st'->∃vs,Rd G' a (.lst vs)/\aB α' G' xs vs):sS (IP K a) α G ok xs where
 stop:=λ n α' G' F' H' st' s P S o hn=>by
  obtain⟨vs,h1,h2⟩:=h α' G' st' s S o;exact⟨vs,.inl (eK P h1),by rw[<-h2.length];exact hn⟩
 go:=λ n d α' G' F' H' st' s P S o hn=>by
  obtain⟨vs,h1,h2⟩:=h α' G' st' s S o;obtain⟨v,e,_⟩:=h2.get hn;exact⟨vs,v,.inl (eK P h1),e⟩
 l9:=λ n d α' G' F' H' st' x H'' s P S o hn y=>by
  obtain⟨vs,h1,h2⟩:=h α' G' st' s S o;obtain⟨v,e,r⟩:=h2.get hn;obtain⟨rfl,y⟩:=y;have:=y vs (.inl (eK P h1));rw[e]at this;cases this;exact⟨G',Step.refl,P,S,r⟩
theorem KI{K:PySem.W.Frag}{a:Addr}{α:List (Option Addr)}{G:Hp}{ok:ae->Prop}{xs:List D}
 (h:∀α' G' st',Step α G α' G'->aD α' st' G'->ok st'->∃vs,G' a=some (.tup vs)/\aB α' G' xs vs):sS (JJ K a) α G ok xs where
 stop:=λ n α' G' F' H' st' s P S o hn=>by
  obtain⟨vs,h1,h2⟩:=h α' G' st' s S o;exact⟨vs,.of (P.get h1),by rw[<-h2.length];exact hn⟩
 go:=λ n d α' G' F' H' st' s P S o hn=>by
  obtain⟨vs,h1,h2⟩:=h α' G' st' s S o;obtain⟨v,e,_⟩:=h2.get hn;exact⟨vs,v,.of (P.get h1),e⟩
 l9:=λ n d α' G' F' H' st' x H'' s P S o hn y=>by
  obtain⟨vs,h1,h2⟩:=h α' G' st' s S o;obtain⟨v,e,r⟩:=h2.get hn;obtain⟨rfl,y⟩:=y;have:=y vs (.of (P.get h1));rw[e]at this;cases this;exact⟨G',Step.refl,P,S,r⟩
theorem Eb{α α':List (Option Addr)}{G G':Hp}{a:Addr}{vs:List V}{xs:List D}(s:Step α G α' G')(na:some a∉α)(h1:Rd G a (.lst vs))(h2:aB α G xs vs):Rd G' a (.lst vs)/\aB α' G' xs vs:=by
 refine⟨?_,h2.step s⟩;rcases h1 with h|⟨o,h⟩
 . exact .inl (s.ext _ _ na h)
 . exact .inr ⟨o,s.ext _ _ na h⟩
theorem IQ{l tg:Expr}{tl:DE}(hl:PE X l (LE tl)):PI X tg l (LI (Lw tl)):=by
 intro pins s σ H R I h;obtain⟨α,σd,st,K,G,F,P,RS,S,t,k⟩:=h;refine bz (hl pins s σ H (λ x H1=>∃d α1 G1 st1,Step α G α1 G1/\bw G1 F H1/\aD α1 st1 G1/\Rep α1 G1 d x/\tI d st1 K) I ⟨α,σd,st,_,G,F,P,RS,S,t,λ d st1 q α1 G1 H1 v s1 P1 S1 r1=>⟨d,α1,G1,st1,s1,P1,S1,r1,q⟩⟩) λ v s1 ⟨x,H1,I1,rx,d,α1,G1,st1,s1',P1,S1,r1,q⟩=>?_;unfold tI at q
 have viaL:∀ {a:Addr} {vs:List V},x= .ref a->Rd H1 a (.lst vs)->R (IP X.K a) H1->wpAny (model X.prog X.w) X.A (pyIter v) (Fs X pins σ tg R) X.xe s1:=by
  intro a vs ex hr hR;subst ex;cases rx;obtain⟨its,rv,p,hz⟩:=I1.list (.inl hr);refine R9 p.isList ?_;refine⟨s1.heap.objs.size,[s1.heap.objs.size],_,_,H1,rfl,I1.kept (t':=s1.toks) λ b o e=>Pa _ e,Ds a _,⟨_,Pt _ rfl,rfl,rfl⟩,λ b hb=>?_,hR⟩;have e:b=s1.heap.objs.size:=by simpa using hb
  subst e;exact I1.sL (O9 _) (I1.aC.fresh (O9 _))
 have viaT:∀ {a:Addr} {vs:List V},x= .ref a->H1 a=some (.tup vs)->R (JJ X.K a) H1->wpAny (model X.prog X.w) X.A (pyIter v) (Fs X pins σ tg R) X.xe s1:=by
  intro a vs ex hr hR;subst ex;cases rx;obtain⟨its,rv,p,hz⟩:=I1.tuple (fZ.of hr);refine Rr (show s1.heap.IsTuple a its.toArray from p) ?_;refine⟨s1.heap.objs.size,[s1.heap.objs.size],_,_,H1,rfl,I1.kept (t':=s1.toks) λ b o e=>Pa _ e,Ax a _,⟨_,Pt _ rfl,rfl,rfl⟩,λ b hb=>?_,hR⟩;have e:b=s1.heap.objs.size:=by simpa using hb
  subst e;exact I1.sL (O9 _) (I1.aC.fresh (O9 _))
 cases d<;>try exact q.elim
 . rename_i n;simp only at q;split at q
   . rename_i xs e;obtain⟨a,ea,vs,h1,h2⟩:=S1.d6 e;have r1':=bY ea r1;subst r1';refine viaL rfl (eK P1 (.of h1)) (k _ _ st1 q _ α1 G1 H1 s1' P1 S1 (yR λ α' G' st' s S o=>?_));obtain⟨b,eb,ws,g1,g2⟩:=S.d6 o
     have hb:b=a:=by
      rcases s.pre _ _ ea with z|z<;>(rw[z]at eb;cases eb)
      rfl
     subst hb;exact⟨ws,.of g1,g2⟩
   . exact q.elim
 . unfold Rep at r1;obtain⟨a,vs,rfl,na,ha,ra⟩:=r1;exact viaL rfl (eK P1 ha) (k _ _ st1 q _ α1 G1 H1 s1' P1 S1 (yR λ α' G' st' s S o=>⟨vs,Eb s na ha ra⟩))
 . unfold Rep at r1;obtain⟨a,vs,rfl,na,ha,ra⟩:=r1;exact viaT rfl (P1.get ha) (k _ _ st1 q _ α1 G1 H1 s1' P1 S1 (KI λ α' G' st' s S o=>⟨vs,s.ext _ _ na ha,ra.step s⟩))
def cA(lo:Int)(n:Nat):List D:=(List.range n).map λ(k:Nat)=>D.int (lo+(k:Int))
theorem sj{lo:Int}{n k:Nat}:(cA lo n)[k]?=if k<n then some (.int (lo+(k:Int)))else none:=by
 unfold cA;rw[PD];by_cases h:k<n
 . rw[List.getElem?_range h,O_ h];rfl
 . rw[US (by simpa using h),O7 h];rfl
theorem cB{lo:Int}{n:Nat}:(cA lo n).length=n:=by unfold cA;simp
theorem wR{α:List (Option Addr)}{G:Hp}{lo:Int}{n:Nat}:sS (uO lo n) α G (λ _=>True) (cA lo n) where
 stop:=λ m α' G' F' H' st' s P S o hn=>by rw[cB]at hn;exact hn
 go:=λ m d α' G' F' H' st' s P S o hn=>by
  rw[sj]at hn;split at hn
  . assumption
  . cases hn
 l9:=λ m d α' G' F' H' st' x H'' s P S o hn y=>by
  obtain⟨rfl,rfl⟩:=y;rw[sj]at hn;split at hn
  . cases hn;exact⟨G',Step.refl,P,S,by unfold Rep;rfl⟩
  . cases hn
theorem PI.imp{tg iter:Expr}{t t':TI}(h:PI X tg iter t)(f:∀σ H R,t' σ H R->t σ H R):PI X tg iter t':=λ pins s σ H R I q=>h pins s σ H R I (f σ H R q)
def F5(ds:List D)(st1:ae)(K:List D->(ae->Prop)->ae->Prop):Prop:=match ds with
 | [.int j]=>(-(2^62)<=j/\j<2^62)/\K (cA 0 j.toNat) (λ _=>True) st1
 |_=>False
def FZ(ds:List D)(st1:ae)(K:List D->(ae->Prop)->ae->Prop):Prop:=match ds with
 | [.int i,.int j]=>(-(2^62)<=i/\i<2^62/\ -(2^62)<=j/\j<2^62)/\K (cA i (j-i).toNat) (λ _=>True) st1
 |_=>False
def Hz(t:DA):DI:=λ σ st K=>t σ st λ ds st1=>F5 ds st1 K
def GG(t:DA):DI:=λ σ st K=>t σ st λ ds st1=>FZ ds st1 K
theorem C6{tg iter:Expr}{t:DA}(h:PI X tg iter (zT (LA t))):PI X tg iter (LI (Hz t)):=PI.imp h λ σ H R ⟨α,σd,st,K,G,F,P,RS,S,t,k⟩=>by
 refine⟨α,σd,st,_,G,F,P,RS,S,t,λ ds st1 q α1 G1 H1 vs s1 P1 S1 r1=>?_⟩;match ds,q,r1 with
 | [.int j],q,r1=>
   obtain⟨v,rfl,r2⟩:=eH r1 rfl;unfold Rep at r2;subst r2;exact⟨j,rfl,q.1.1,q.1.2,k _ _ st1 q.2 _ α1 G1 H1 s1 P1 S1 wR⟩
theorem Dv{tg iter:Expr}{t:DA}(h:PI X tg iter (zF (LA t))):PI X tg iter (LI (GG t)):=PI.imp h λ σ H R ⟨α,σd,st,K,G,F,P,RS,S,t,k⟩=>by
 refine⟨α,σd,st,_,G,F,P,RS,S,t,λ ds st1 q α1 G1 H1 vs s1 P1 S1 r1=>?_⟩;match ds,q,r1 with
 | [.int i,.int j],q,r1=>
   obtain⟨v,u,rfl,r2,r3⟩:=jJ r1 rfl;unfold Rep at r2 r3;subst r2 r3;exact⟨i,j,rfl,q.1,k _ _ st1 q.2 _ α1 G1 H1 s1 P1 S1 wR⟩
def fD(tg:dJ)(body:DS)(ok:ae->Prop)(E:iZ):List D->bf->ae->Prop
 | [],σ,st=>ok st/\E.nx σ st
 |x::xs,σ,st=>ok st/\∃σ1,tg x σ=some σ1/\body {E with nx:=fD tg body ok E xs,ct:=fD tg body ok E xs,bk:=E.nx} σ1 st
def fy(src:DI)(tg:dJ)(body:DS):DS:=λ D σ st=>src σ st λ xs ok st1=>fD tg body ok D xs σ st1
theorem JN{src:DI}{tg:dJ}(h:PS X st (KG (LI src) (LG tg) (LS t))):PS X st (LS (fy src tg t)):=PS.imp h λ D σ H ⟨α,σd,st,DD,G,F,P,R,S,tt,k⟩=>by
 refine⟨α,σd,st,_,G,F,P,R,S,tt,λ xs ok st1 q J α1 G1 H1 s1 P1 S1 it=>?_⟩;refine⟨λ i m σ' H'=>∃α' σd' st' G',Step α1 G1 α' G'/\bw G' F H'/\cQ α' G' σd' σ'/\aD α' st' G'/\fD tg t ok DD (xs.drop i) σd' st'/\m=xs.length-i,⟨xs.length,α1,σd,st1,G1,Step.refl,P1,R.step s1,S1,q,rfl⟩,?_⟩;rintro i m σ2 H2 ⟨α2,σd2,st2,G2,s2,P2,R2,S2,q2,rfl⟩;cases e:xs[i]? with
 |none=>
  have hl:xs.length<=i:=Ub.mp e;rw[Qn hl]at q2;unfold fD at q2;exact .inl ⟨it.stop i α2 G2 F H2 st2 s2 P2 S2 q2.1 hl,((k.nx.at s1).at s2).here P2 q2.2 R2 S2⟩
 |some d=>
  have hl:i<xs.length:=(O6.mp e).1
  have ed:xs.drop i=d::xs.drop (i+1):=by
   rw[PF hl];congr 1;rw[Pk hl]at e;exact Qq e
  rw[ed]at q2;unfold fD at q2;obtain⟨aC,σ3,e3,q3⟩:=q2;refine .inr ⟨it.go i d α2 G2 F H2 st2 s2 P2 S2 aC e,λ σ' H'=>∃α' σd' st' G',Step α1 G1 α' G'/\bw G' F H'/\cQ α' G' σd' σ'/\aD α' st' G'/\fD tg t ok DD (xs.drop (i+1)) σd' st',?_,?_⟩
  . rintro σ' H' ⟨α',σd',st',G',z1,z2,z3,z4,z5⟩;exact⟨xs.length-(i+1),by omega,α',σd',st',G',z1,z2,z3,z4,z5,rfl⟩
  . intro x H' y;obtain⟨G3,s3,P3,S3,r3⟩:=it.l9 i d α2 G2 F H2 st2 x H' s2 P2 S2 aC e y;refine⟨α2,σd2,st2,d,λ σ' st'=>σ'=σ3/\st'=st2,G3,F,P3,R2.step s3,S3,r3,⟨σ3,e3,rfl,rfl⟩,?_⟩;rintro σ' st' ⟨rfl,rfl⟩ α4 G4 H4 σ4 s4 P4 R4 S4;have s24:=(s2.trans s3).trans s4;refine⟨α4,σ',st',_,G4,F,P4,R4,S4,q3,?_,((k.rt.at s1).at s24),(k.nx.at s1).at s24,?_⟩
    . intro σd5 st5 q5 α5 G5 H5 σ5 s5 P5 R5 S5;exact⟨α5,σd5,st5,G5,s24.trans s5,P5,R5,S5,q5⟩
    . intro σd5 st5 q5 α5 G5 H5 σ5 s5 P5 R5 S5;exact⟨α5,σd5,st5,G5,s24.trans s5,P5,R5,S5,q5⟩
end
def e_(fr:List (Option Nat))(σ:bf):bf:=fr.map λ o=>o.bind λ j=>(σ[j]?).join
theorem cQ.comp{α:List (Option Addr)}{G:Hp}{σd:bf}{σ:L2.St}{fr:List (Option Nat)}(h:cQ α G σd σ):cQ α G (e_ fr σd) (σC fr σ):=by
 refine⟨by unfold e_ σC;simp,λ i d e=>?_⟩;unfold e_ at e;rw[PD]at e;cases q:fr[i]? with
 |none=>rw[q]at e;cases e
 |some o=>
  rw[q]at e;cases o with
  |none=>simp at e
  |some j=>
   simp only[RW,Option.some.injEq,Uh]at e
   have ej:σd[j]?=some (some d):=by
    cases r:σd[j]? with
    |none=>rw[r]at e;cases e
    |some u=>rw[r]at e;simp at e;rw[e]
   obtain⟨v,ev,rv⟩:=h.at' j d ej;refine⟨v,?_,rv⟩;unfold σC;rw[PD,q];simp[ev]
def cp(tg:dJ)(c:DT)(te:DE)(ok:ae->Prop)(σc:bf):List D->List D->ae->(List D->ae->Prop)->Prop
 | [],acc,st,K=>ok st/\K acc st
 |x::xs,acc,st,K=>ok st/\∃σ2,tg x σc=some σ2/\c σ2 st λ b st1=>if b=true then te σ2 st1 λ y st2=>cp tg c te ok σc xs (acc++[y]) st2 K else cp tg c te ok σc xs acc st1 K
def cy(src:DI)(fr:List (Option Nat))(tg:dJ)(c:DT)(te:DE):DE:=λ σ st K=>src σ st λ xs ok st1=>xs.length<=sizeLine/\cp tg c te ok (e_ fr σ) xs [] st1 λ ys st2=>K (.lst ys) st2
def dN(src:DI)(fr:List (Option Nat))(tg:dJ)(c:DT)(te:DE):DE:=λ σ st K=>src σ st λ xs ok st1=>xs.length<=sizeLine/\cp tg c te ok (e_ fr σ) xs [] st1 λ ys st2=>K (.ref st2.length) (st2++[.lst ys])
def bM:DT:=λ _ st K=>K true st
def iE(fr:List (Option Nat))(tg:dJ):Prop:=∀(σ:bf) (d:D) (σ2:bf),tg d (e_ fr σ)=some σ2->σ2.length=(e_ fr σ).length/\∀(i:Nat) (e:D),(e_ fr σ)[i]?=some (some e)->σ2[i]?=some (some e)
theorem oq{fr:List (Option Nat)}{σ:bf}{k:Nat}(h:fr[k]?=some none){e:D}(q:(e_ fr σ)[k]?=some (some e)):False:=by
 unfold e_ at q;rw[PD,h]at q;simp at q
theorem g7{fr:List (Option Nat)}{k:Nat}(h:fr[k]?=some none:=by rfl):iE fr (aV k):=λ σ d σ2 e=>by
 cases e;refine⟨Pl,λ i x q=>?_⟩;by_cases hi:i=k
 . subst hi;exact(oq h q).elim
 . rw[Pb (Pj hi)];exact q
theorem zg{fr:List (Option Nat)}{k j:Nat}(h:fr[k]?=some none:=by rfl)(h':fr[j]?=some none:=by rfl):iE fr (fO k j):=λ σ d σ2 e=>by
 unfold fO at e;split at e
 . cases e;refine⟨by rw[Pl,Pl],λ i x q=>?_⟩;by_cases hi:i=k
   . subst hi;exact(oq h q).elim
   . by_cases hj:i=j
     . subst hj;exact(oq h' q).elim
     . rw[Pb (Pj hj),Pb (Pj hi)];exact q
 . cases e
section
variable {X:Cx}
theorem K3{c:Expr}{t:DT}(h:PT X c (LT t)):nB X [c] (LT t):=GO h
theorem DH:nB X [] (LT bM):=λ pins s σ H Q I ⟨α,σd,st,K,G,F,P,R,S,t,k⟩=>GB pins s σ H Q I (k true st t α G H Step.refl P S)
theorem LE.comp{src:DI}{fr:List (Option Nat)}{tg:dJ}{c:DT}{te:DE}(fit:iE fr tg){σ:L2.St}{H:Hp}{Q:VK}{α:List (Option Addr)}{σd:bf}{st:ae}{KE:List D->ae->Prop}{G F:Hp}(P:bw G F H)(R:cQ α G σd σ)(S:aD α st G)
 (t:src σd st λ xs ok st1=>xs.length<=sizeLine/\cp tg c te ok (e_ fr σd) xs [] st1 KE)
 (fin:∀ys st2 α2 G2 H2 l vs,KE ys st2->Step α G α2 G2->bw G2 (upd F l (.lst vs)) H2->F l=none->aD α2 st2 G2->aB α2 G2 ys vs->Q (.ref l) H2):
 o3 (LI src) fr (LG tg) (LT c) (LE te) σ H Q:=by
 refine⟨α,σd,st,_,G,F,P,R,S,t,λ xs ok st1 q J α1 G1 H1 s1 P1 S1 it l hl=>?_⟩;obtain⟨hsz,q⟩:=q;obtain⟨hG,hF⟩:=P1.none hl
 refine⟨λ i m σ' H'=>∃α' st' G' acc vs,Step α1 G1 α' G'/\bw G' (upd F l (.lst vs)) H'/\cQ α' G' (e_ fr σd) σ'/\aD α' st' G'/\aB α' G' acc vs/\acc.length<=i/\i<=xs.length/\cp tg c te ok (e_ fr σd) (xs.drop i) acc st' KE/\m=xs.length-i,
  ⟨xs.length,α1,st1,G1,[],[],Step.refl,P1.hide hl,(R.step s1).comp,S1,by unfold aB;rfl,O9 _,Po _,q,rfl⟩,?_⟩
 rintro i m σ2 H2 ⟨α2,st2,G2,acc,vs,s2,P2,R2,S2,ra,hacc,hi,q2,rfl⟩;cases e:xs[i]? with
 |none=>
  have hl2:xs.length<=i:=Ub.mp e;rw[Qn hl2]at q2;unfold cp at q2;exact .inl ⟨it.stop i α2 G2 _ H2 st2 s2 P2 S2 q2.1 hl2,fin acc st2 α2 G2 H2 l vs q2.2 (s1.trans s2) P2 hF S2 ra⟩
 |some d=>
  have hl2:i<xs.length:=(O6.mp e).1
  have ed:xs.drop i=d::xs.drop (i+1):=by
   rw[PF hl2];congr 1;rw[Pk hl2]at e;exact Qq e
  rw[ed]at q2;unfold cp at q2;obtain⟨aC,σ3,e3,q3⟩:=q2;refine .inr ⟨it.go i d α2 G2 _ H2 st2 s2 P2 S2 aC e,λ σ' H'=>∃α' st' G' acc vs,Step α1 G1 α' G'/\bw G' (upd F l (.lst vs)) H'/\cQ α' G' (e_ fr σd) σ'/\aD α' st' G'/\aB α' G' acc vs/\acc.length<=i+1/\cp tg c te ok (e_ fr σd) (xs.drop (i+1)) acc st' KE,?_,?_⟩
  . rintro σ' H' ⟨α',st',G',acc',vs',z1,z2,z3,z4,z5,z6,z7⟩;exact⟨xs.length-(i+1),by omega,α',st',G',acc',vs',z1,z2,z3,z4,z5,z6,hl2,z7,rfl⟩
  . intro x H' y;obtain⟨G3,s3,P3,S3,r3⟩:=it.l9 i d α2 G2 _ H2 st2 x H' s2 P2 S2 aC e y;refine⟨α2,e_ fr σd,st2,d,λ σ' st'=>σ'=σ3/\st'=st2,G3,_,P3,R2.step s3,S3,r3,⟨σ3,e3,rfl,rfl⟩,?_⟩;rintro σ' st' ⟨rfl,rfl⟩ α4 G4 H4 σ4 s4 P4 R4 S4;have s24:=(s2.trans s3).trans s4;have Rc:cQ α4 G4 (e_ fr σd) σ4:=⟨by rw[<-(fit σd d σ' e3).1];exact R4.len,λ j z hz=>R4.at' j z ((fit σd d σ' e3).2 j z hz)⟩
    refine⟨α4,σ',st',_,G4,_,P4,R4,S4,q3,λ b st5 q5 α5 G5 H5 s5 P5 S5=>?_⟩;cases b with
    |false=>exact⟨α5,st5,G5,acc,vs,s24.trans s5,P5,Rc.step s5,S5,((ra.step s3).step s4).step s5,by omega,q5⟩
    |true=>
     refine⟨α5,σ',st5,_,G5,_,P5,R4.step s5,S5,q5,λ z st6 q6 α6 G6 H6 v6 s6 P6 S6 r6=>?_⟩;have hr:=(((ra.step s3).step s4).step s5).step s6;refine⟨vs,(P6.frame aG).1,by rw[<-hr.length];omega,α6,st6,G6,acc++[z],vs++[v6],(s24.trans s5).trans s6,?_,(Rc.step s5).step s6,S6,aM.mpr (d_ (aM.mp hr) (.cons r6 .nil)),by rw[Py,UP];omega,q6⟩;have:=P6.OM (p:=l) (o':= .lst (vs++[v6])) aG;rw[HD]at this;exact this
theorem KD{scope:Scope}{Nc:List Str}{elt tg iter:Expr}{ifs:List Expr}{pos:Pos}{src:DI}{fr:List (Option Nat)}{dtg:dJ}{c:DT}{te:DE}(S:bN X scope Nc fr)(hi:PI X tg iter (LI src))
 (hg:∀C s H ex,PG (a7 X scope Nc C s H ex) tg (LG dtg)) (ht:∀C s H ex,nB (a7 X scope Nc C s H ex) ifs (LT c)) (he:∀C s H ex,PE (a7 X scope Nc C s H ex) elt (LE te)) (fit:iE fr dtg)
 (hx:X.xe=λ _ _=>False:=by rfl) (hc:X.calm=true:=by rfl) (hs:∀x,foldedSetIterable iter X.env x=pure x:=by intro _;rfl):PE X (.ListComp elt [⟨tg,iter,ifs,0⟩] scope pos) (LE (cy src fr dtg c te)):=
 PE.imp (yQ hx hc S hi hg ht he hs) λ σ H Q ⟨α,σd,st,K,G,F,P,R,S,t,k⟩=>LE.comp fit P R S t λ ys st2 α2 G2 H2 l vs q s2 P2 hl S2 r=>by
  have hg:G2 l=none:=(P2.frame aG).2;refine k _ st2 q α2 (upd G2 l (.lst vs)) H2 (.ref l) (s2.trans (Step.laid hg)) (P2.show hl) (S2.laid hg) ?_;unfold Rep;exact⟨l,vs,rfl,S2.iq hg,.of aG,r.step (Step.laid hg)⟩
theorem Hf{scope:Scope}{Nc:List Str}{elt tg iter:Expr}{ifs:List Expr}{pos:Pos}{src:DI}{fr:List (Option Nat)}{dtg:dJ}{c:DT}{te:DE}(S:bN X scope Nc fr)(hi:PI X tg iter (LI src))
 (hg:∀C s H ex,PG (a7 X scope Nc C s H ex) tg (LG dtg)) (ht:∀C s H ex,nB (a7 X scope Nc C s H ex) ifs (LT c)) (he:∀C s H ex,PE (a7 X scope Nc C s H ex) elt (LE te)) (fit:iE fr dtg)
 (hx:X.xe=λ _ _=>False:=by rfl) (hc:X.calm=true:=by rfl) (hs:∀x,foldedSetIterable iter X.env x=pure x:=by intro _;rfl):PE X (.ListComp elt [⟨tg,iter,ifs,0⟩] scope pos) (LE (dN src fr dtg c te)):=
 PE.imp (yQ hx hc S hi hg ht he hs) λ σ H Q ⟨α,σd,st,K,G,F,P,R,S,t,k⟩=>LE.comp fit P R S t λ ys st2 α2 G2 H2 l vs q s2 P2 hl S2 r=>by
  have hg:G2 l=none:=(P2.frame aG).2;refine k _ _ q (α2++[some l]) (upd G2 l (.lst vs)) H2 (.ref l) (s2.trans (Step.cell hg)) (P2.show hl) (S2.cell hg ⟨vs,aG,r.step (Step.cell hg)⟩) ?_;unfold Rep;refine .inr ⟨l,?_,rfl⟩;rw[PH (by rw[S2.len];exact O9 _),S2.len,QM];rfl
theorem HH{st:Stmt}{k:Nat}{src:DI}{fr:List (Option Nat)}{dtg:dJ}{c:DT}{te:DE}(fit:iE fr dtg)(h:PS X st (ju (o3 (LI src) fr (LG dtg) (LT c) (LE te)) (i5 k))):PS X st (LS (aR k (cy src fr dtg c te))):=
 PS.imp h λ D σ H ⟨α,σd,st,DD,G,F,P,R,S,t,q⟩=>LE.comp fit P R S t λ ys st2 α2 G2 H2 l vs qq s2 P2 hl S2 r=>by
  have hg:G2 l=none:=(P2.frame aG).2;have s3:=s2.trans (Step.laid (o:= .lst vs) hg);refine q.nx _ st2 qq α2 (upd G2 l (.lst vs)) H2 _ s3 (P2.show hl) ((R.step s3).set k ?_) (S2.laid hg);unfold Rep;exact⟨l,vs,rfl,S2.iq hg,.of aG,r.step (Step.laid hg)⟩
theorem EV{st:Stmt}{k:Nat}{src:DI}{fr:List (Option Nat)}{dtg:dJ}{c:DT}{te:DE}(fit:iE fr dtg)(h:PS X st (ju (o3 (LI src) fr (LG dtg) (LT c) (LE te)) (i5 k))):PS X st (LS (aR k (dN src fr dtg c te))):=
 PS.imp h λ D σ H ⟨α,σd,st,DD,G,F,P,R,S,t,q⟩=>LE.comp fit P R S t λ ys st2 α2 G2 H2 l vs qq s2 P2 hl S2 r=>by
  have hg:G2 l=none:=(P2.frame aG).2;have s3:=s2.trans (Step.cell (o:= .lst vs) hg);refine q.nx _ _ qq (α2++[some l]) (upd G2 l (.lst vs)) H2 _ s3 (P2.show hl) ((R.step s3).set k ?_) (S2.cell hg ⟨vs,aG,r.step (Step.cell hg)⟩);unfold Rep;refine .inr ⟨l,?_,rfl⟩;rw[PH (by rw[S2.len];exact O9 _),S2.len,QM];rfl
def aS(N:List Str)(ds:List D):bf:=ds.map some++List.replicate (N.length-ds.length) none
theorem cQ.start{α:List (Option Addr)}{G:Hp}{N:List Str}{ds:List D}{vs:List V}(r:aB α G ds vs):cQ α G (aS N ds) (L2.start N vs):=by
 have hl:=r.length;refine⟨by unfold aS L2.start;simp[hl],λ i d e=>?_⟩;unfold aS at e;by_cases hi:i<ds.length
 . rw[Pd (by simpa using hi),PD]at e;cases q:ds[i]? with
   |none=>rw[q]at e;cases e
   |some x=>
    rw[q]at e;cases e;obtain⟨v,ev,rv⟩:=r.get q;refine⟨v,?_,rv⟩;unfold L2.start;rw[Pd (by rw[O8];omega),PD,ev];rfl
 . rw[PH (by simpa using hi),Us]at e;split at e<;>cases e
theorem M7{P:Program}{w:World}{K:PySem.W.Frag}{mg:Str->Option Value}{base:Heap}{x qual:Str}{st:Stmt}{f:Addr}{fd:FuncData}{N ps:List Str}{k:Nat}{sp:bR}{t:DS}(F:kv K x qual st f fd)(S:iU N ps (aX st))
 (hbody:∀(cdv:Value) (A:Around) (outer:List Env) (s:Shared) (H:Hp) (E:XK),bV k (A.deeper (envOfC qual (aX st) s.heap.objs.size f cdv))->fg (ly fP P w K mg base N qual (aX st) f cdv A outer s H E).pj (dQ st) (LS t))
 (hsp:∀ds st K,sp ds st K->ds.length=ps.length/\t {nx:=λ _ st'=>K .aq st',rt:=K} (aS N ds) st):c_ P w K mg base fP (k+1) f fd ps (gD sp):=by
 refine F.ok S (λ vs H Q E h=>?_) λ cdv A outer s H vs Q E hr h=>⟨_,hbody cdv A outer s H E hr,?_⟩
 . obtain⟨α,ds,st,K,G,F,P,r,S,q,k⟩:=h;rw[<-r.length];exact(hsp ds st K q).1
 . obtain⟨α,ds,st,K,G,F,P,r,S,q,k⟩:=h;refine⟨α,aS N ds,st,_,G,F,P,cQ.start r,S,(hsp ds st K q).2,?_,k,?_,?_⟩
   . intro σd' st' kk α' G' H' σ' s' P' R' S';exact k .aq st' kk α' G' H' .aq s' P' S' (by unfold Rep;rfl)
   . intro σd' st' kk;exact kk.elim
   . intro σd' st' kk;exact kk.elim
def lQ(to te:DE):DE:=λ σ st K=>to σ st λ x st1=>match x with
 | .ref n=>(match st1[n]? with
   |some (.lst _)=>te σ st1 λ y st2=>∃y',[y]=[y']/\(match st2[n]? with|some (.lst xs)=>xs.length<sizeLine/\K .aq (st2.set n (.lst (xs++[y'])))|_=>False)
   |_=>False)
 |_=>False
end
structure kH(K:PySem.W.Frag)(mg:Str->Option Value)(x qual:Str)(st:Stmt)(ps:List Str)(f:Addr)(fd:FuncData):Prop where
 fn:kv K x qual st f fd
 mg:mg x=some (.ref f)
 bd:Binds K fd ps []
def gH(sc:Scope)(N:List Str)(scope:Scope)(Nc:List Str)(fr:List (Option Nat)):Bool:=
 (scope.kind== .function)&&scope.names.all (λ x=>x.2 != .cell||scope.names.lookup x.1==some .cell)&&scope.names.all (λ x=>x.2 != .local||scope.names.lookup x.1==some .local)&&
 scope.names.all (λ x=>x.2 != .free||sc.names.lookup x.1==some .cell||sc.names.lookup x.1==some .free)&&(fr.length==Nc.length)&&
 (List.range fr.length).all λ i=>match fr[i]?,Nc[i]? with
   |some (some j),some x=>(N[j]?==some x)&&(scope.names.lookup x==some .free)&&(sc.names.lookup x==some .cell||sc.names.lookup x==some .free)
   |_,_=>true
theorem bN.look{X:Cx}{scope:Scope}{Nc:List Str}{fr:List (Option Nat)}(sc:Scope)(N:List Str)(h:gH sc N scope Nc fr=true)(hsc:X.env.scope=sc:=by rfl)(hN:X.N=N:=by rfl):bN X scope Nc fr:=by
 unfold gH at h;simp only[Qk]at h;obtain⟨⟨⟨⟨⟨h1,h2⟩,h3⟩,h4⟩,h5⟩,h6⟩:=h;subst hsc hN;refine⟨by simpa using h1,λ x hx hk=>?_,λ x hx hk=>?_,λ x hx hk=>?_,by simpa using h5,λ i j x e1 e2=>?_⟩
 . have:=Qe.mp h2 x hx;rw[hk]at this;simpa using this
 . have:=Qe.mp h3 x hx;rw[hk]at this;simpa using this
 . have:=Qe.mp h4 x hx;rw[hk]at this;have z:X.env.scope.names.lookup x.1=some .cell\/X.env.scope.names.lookup x.1=some .free:=by simpa using this
   exact z
 . have hi:i<fr.length:=(O6.mp e2).1;have:=Qe.mp h6 i (QD.mpr hi);rw[e1,e2]at this;simp only[Qk,Ti,QV]at this;exact⟨this.1.1,this.1.2,this.2⟩
section
variable {X:Cx}
theorem NT{e:Expr}{es:List Expr}{pos p:Pos}{x:Str}{id:String}{r:dw}{t:DA}(hc:aZ X (.builtin id) (dY r))(ha:PA X (e::es) (LA t))(hm:X.mg x=none)(hv:bootBuiltins x=some (.builtin id))(hg:Gl X x:=by rfl)(hn:x≠"__name__":=by decide)(hdb:(x==("__debug__":Str))=false:=by decide)
 (he:starEach (e::es) X.env=(false,eval e X.env)::starEach es X.env:=by rfl) (hpl:(backTo pos (starEach es X.env)).any (·.1)=false:=by rfl):PE X (.Call (.Name x p) (e::es) [] pos) (LE (ba r t)):=PE.imp (xg hc hg hm hv ha hn hdb he hpl) λ _ _ _ h=>LE.cb h
theorem ND{e:Expr}{es:List Expr}{pos p:Pos}{x:Str}{T:String}{r:dw}{t:DA}(hc:aZ X (.type T) (dY r))(ha:PA X (e::es) (LA t))(hm:X.mg x=none)(hv:bootBuiltins x=some (.type T))(hg:Gl X x:=by rfl)(hn:x≠"__name__":=by decide)(hdb:(x==("__debug__":Str))=false:=by decide)
 (he:starEach (e::es) X.env=(false,eval e X.env)::starEach es X.env:=by rfl) (hpl:(backTo pos (starEach es X.env)).any (·.1)=false:=by rfl):PE X (.Call (.Name x p) (e::es) [] pos) (LE (ba r t)):=PE.imp (uh hc hg hm hv ha hn hdb he hpl) λ _ _ _ h=>LE.cb h
theorem NX{pos:Pos}{x:Str}{T:String}(hm:X.mg x=none)(hv:bootBuiltins x=some (.type T))(hg:Gl X x:=by rfl)(hn:x≠"__name__":=by decide)(hdb:(x==("__debug__":Str))=false:=by decide):PE X (.Name x pos) (LE (dC (.ty T))):=
 oX (v:= .ty T) (GL hg hm hv rfl hn hdb) λ _ _=>by unfold Rep;rfl
theorem NV{e:Expr}{es:List Expr}{pos p:Pos}{x qual:Str}{st:Stmt}{ps:List Str}{f:Addr}{fd:FuncData}{k:Nat}{S:bR}{t:DA}(A:kH X.K X.mg x qual st ps f fd)(F:c_ X.prog X.w X.K X.mg X.base fP k f fd ps (gD S))(hr:bV k X.A)
 (ha:PA X (e::es) (LA t)) (hg:Gl X x:=by rfl) (hdb:(x==("__debug__":Str))=false:=by decide) (he:starEach (e::es) X.env=(false,eval e X.env)::starEach es X.env:=by rfl) (hpl:(backTo pos (starEach es X.env)).any (·.1)=false:=by rfl):
 PE X (.Call (.Name x p) (e::es) [] pos) (LE (av S t)):=K9 F hr hg A.mg A.fn.kp A.bd ha hdb he hpl
theorem x3{M:Model}{A:Around}{E:Value->Shared->Prop}{s:Shared}{Q:Value->Shared->Prop}{x:V}{v:Value}{b:Bool}(r:RelV x v)(h:Q (.bool (v== .bool b)) s):wpAny M A (compareOp .Is v (.bool b)) Q E s:=by
 cases x
 case bl c=>
  cases r;have e:(Value.bool c==Value.bool b)=(c==b):=by cases c<;>cases b<;>rfl
  rw[e]at h;exact is_bool h
 all_goals first
  |(cases r;exact Pf h)
  |(obtain⟨t,rfl⟩:=r;exact Pf h)
def wD(d:D)(b:Bool):Bool:=match d with| .bl c=>c==b|_=>false
def KO(d:D):Bool:=match d with| .aq=>true|_=>false
def Fp:cG:=λ x y st K=>match y with| .aq=>live st x=true/\K (.bl (KO x)) st| .bl b=>live st x=true/\K (.bl (wD x b)) st|_=>False
theorem zy{α:List (Option Addr)}{H:Hp}{st:ae}{d:D}{v:V}{u:Value}{b:Bool}(S:aD α st H)(hl:live st d=true)(r:Rep α H d v)(ru:RelV v u):(u==Value.bool b)=wD d b:=by
 cases d
 case ref n=>
  obtain⟨a,rfl⟩:=qL S hl r;cases ru;rfl
 all_goals unfold Rep at r
 case bl c=>
  subst r;cases ru;cases c<;>cases b<;>rfl
 all_goals first
  |(subst r;first|(cases ru;rfl)|(obtain⟨t,rfl⟩:=ru;rfl))
  |(obtain⟨a,vs,rfl,_⟩:=r;cases ru;rfl)
theorem L4:bD X (compareOp .Is) (LR Fp):=λ pins s σ H x y v u Q I rx ry ⟨α,d,e,st,K,G,F',P,r1,r2,S,q,k⟩=>by
 cases e<;>try exact q.elim
 . unfold Rep at r2;refine Km pins s σ H x y v u Q I rx ry ⟨r2,k.here P q.2 S ?_⟩;unfold Rep;cases d
   case ref n=>
    obtain⟨a,rfl⟩:=qL S q.1 r1;rfl
   all_goals(unfold Rep at r1;first|(rw[r1];rfl)|(obtain⟨a,vs,rfl,_⟩:=r1;rfl))
 . rename_i b;unfold Rep at r2;subst r2;cases ry;refine x3 rx ?_;rw[zy S q.1 r1 rx];exact⟨.bl (wD d b),H,I,rfl,k.here P q.2 S (by unfold Rep;rfl)⟩
theorem LE.append{to te:DE}{σ:L2.St}{H:Hp}{Q:VK}(h:LE (lQ to te) σ H Q):Kw X.K "list" zl (LE to) (LA (ab te af)) σ H Q:=by
 obtain⟨α,σd,st,K,G,F,P,R,S,t,k⟩:=h;refine⟨α,σd,st,_,G,F,P,R,S,t,λ x st1 q α1 G1 H1 v s1 P1 S1 r1=>?_⟩;cases x<;>try exact q.elim
 rename_i n;simp only at q;split at q
 . rename_i ys e;obtain⟨p,ep,vs,h1,h2⟩:=S1.d6 e;have r1':=bY ep r1;subst r1';refine⟨.inl ⟨rfl,vs,.inl (.of (P1.get h1))⟩,α1,σd,st1,λ ds st2=>∃y,ds=[y]/\(match st2[n]? with|some (.lst xs)=>xs.length<sizeLine/\K .aq (st2.set n (.lst (xs++[y])))|_=>False),G1,F,P1,R.step s1,S1,?_,?_⟩
   . refine Eq.mp ?_ q;rfl
   . rintro ds st2 ⟨y,rfl,q2⟩ α2 G2 H2 ws s2 P2 S2 r2;obtain⟨w,rfl,rw'⟩:=eH r2 rfl;split at q2
     . rename_i xs e2;obtain⟨p2,ep2,us,g1,g2⟩:=S2.d6 e2
       have:p2=p:=by
        rcases s2.pre _ _ ep with z|z<;>(rw[z]at ep2;cases ep2)
        rfl
       subst this;have hm:some p2∈α2:=PM ep2;refine⟨p2,us,w,rfl,rfl,P2.get g1,by rw[<-g2.length];exact q2.1,?_⟩;refine((k.at s1).at s2) _ _ q2.2 α2 (upd G2 p2 (.lst (us++[w]))) _ .aq (Step.write hm) (P2.write g1) ?_ (by unfold Rep;rfl);exact S2.write ep2 ⟨us++[w],aG,(aM.mpr (d_ (aM.mp g2) (.cons rw' .nil))).step (Step.write hm)⟩
     . exact q2.elim
 . exact q.elim
theorem DV{o e:Expr}{to te:DE}{apos cpos:Pos}(ho:PE X o (LE to))(he:PE X e (LE te))(hbase:attributeBase o "append" X.env (eval o X.env)=eval o X.env:=by rfl)
 (hfew:((backTo cpos (starEach [e] X.env)).all (λ x=> !x.1)&&(backToKw cpos (keywordEach [] X.env)).all (λ x=>x.1.isSome)
   &&decide (([e]:List Expr).length+([]:List Keyword).length+(if([]:List Keyword).isEmpty then 0 else 1)<30))=true:=by rfl)
 (hline:(apos.endLine==cpos.line)=true:=by rfl) (hs:starEach [e] X.env=(false,eval e X.env)::starEach [] X.env:=by rfl) (hplain:(backTo cpos (starEach [] X.env)).any (·.1)=false:=by rfl):PE X (.Call (.Attribute o "append" apos) [e] [] cpos) (LE (lQ to te)):=
 PE.imp (F3 Ut PySem.F.slot_list_append PySem.F.type_list_append uM ho (jZ he om hs) hbase hfew hline hs hplain) λ _ _ _ h=>LE.append h
end
end L3
namespace L3
open PySem L2
open PySem.Spec hiding items?
open PyProof.Rows hiding St
section
variable {X:Cx}
@[irreducible] def ck:cG:=Gd
theorem ve:bD X (binaryOp .Add) (LR ck):=by unfold ck;exact LV
@[irreducible] def fx:cG:=Gq
theorem FW:bD X (binaryOp .Sub) (LR fx):=by unfold fx;exact MK
@[irreducible] def cJ:cG:=F4
theorem oV:bD X (binaryOp .Mult) (LR cJ):=by unfold cJ;exact LU
@[irreducible] def gQ:cG:=BL
theorem B_:bD X (binaryOp .FloorDiv) (LR gQ):=by unfold gQ;exact IK
@[irreducible] def fi:cG:=Ga
theorem FH:bD X (binaryOp .Mod) (LR fi):=by unfold fi;exact MH
@[irreducible] def nF:cG:=Fz
theorem F7:bD X (binaryOp .Pow) (LR nF):=by unfold nF;exact LM
@[irreducible] def nJ:cG:=Jr
theorem zY:bD X (compareOp .Lt) (LR nJ):=by unfold nJ;exact Ob
@[irreducible] def uv:cG:=J4
theorem D5:bD X (compareOp .LtE) (LR uv):=by unfold uv;exact NY
@[irreducible] def iC:cG:=K7
theorem AL:bD X (compareOp .Gt) (LR iC):=by unfold iC;exact N4
@[irreducible] def Bp:cG:=Lc
theorem DN:bD X (compareOp .GtE) (LR Bp):=by unfold Bp;exact NG
@[irreducible] def h_:cG:=Ku
theorem zZ:bD X (compareOp .NotEq) (LR h_):=by unfold h_;exact Of
@[irreducible] def kP:cG:=Fp
theorem EZ:bD X (compareOp .Is) (LR kP):=by unfold kP;exact L4
@[irreducible] def dR:cG:=Kz
theorem AH{k:Nat}(hr:bV k X.A):bD X (compareOp .Eq) (LR dR):=by unfold dR;exact Oi hr
@[irreducible] def ft:wX:=Fl
theorem MO:yI X (unaryOp .USub) (F6 ft):=by unfold ft;exact Mr
@[irreducible] def aH:cG:=mE
theorem NA{a b:Expr}{ta tb:DE}{pos:Pos}(ha:PE X a (LE ta))(hb:PE X b (LE tb))(hs:oR b:=by intro _ _;rfl):PE X (.Subscript a b pos) (LE (ai aH ta tb)):=by unfold aH;exact N7 ha hb hs
@[irreducible] def cR:dw:=vh
theorem jH:aZ X (.builtin "len") (dY cR):=by unfold cR;exact MP
@[irreducible] def ou:dw:=Ay
theorem Az:aZ X (.builtin "abs") (dY ou):=by unfold ou;exact M3
@[irreducible] def sT:dw:=zM
theorem F2(hc:X.calm=true):aZ X (.builtin "max") (dY sT):=by unfold sT;exact LW hc
@[irreducible] def sQ:dw:=AM
theorem FX(hc:X.calm=true):aZ X (.builtin "min") (dY sQ):=by unfold sQ;exact LF hc
@[irreducible] def nC:dw:=As
theorem FQ:aZ X (.type "int") (dY nC):=by unfold nC;exact L8
@[irreducible] def du:dw:=oZ
theorem tK:aZ X (.type "tuple") (dY du):=by unfold du;exact HR
@[irreducible] def i8:dw:=sh
theorem oK:aZ X (.type "list") (dY i8):=by unfold i8;exact KU
@[irreducible] def mh:dw:=o4
theorem yD:aZ X (.type "list") (dY mh):=by unfold mh;exact GN
@[irreducible] def tM:dw:=vg
theorem Gk(hc:X.calm=true):aZ X (.builtin "all") (dY tM):=by unfold tM;exact MX hc
@[irreducible] def nM:dw:=vb
theorem FF:aZ X (.builtin "isinstance") (dY nM):=by unfold nM;exact LJ
@[irreducible] def lz:D->ae->(List D->(ae->Prop)->ae->Prop)->Prop:=tI
def cY(t:DE):DI:=λ σ st K=>t σ st λ d st1=>lz d st1 K
theorem Kx{l tg:Expr}{tl:DE}(hl:PE X l (LE tl)):PI X tg l (LI (cY tl)):=by unfold cY lz;exact IQ hl
@[irreducible] def vn:List D->ae->(List D->(ae->Prop)->ae->Prop)->Prop:=F5
@[irreducible] def vk:List D->ae->(List D->(ae->Prop)->ae->Prop)->Prop:=FZ
def b_(t:DA):DI:=λ σ st K=>t σ st λ ds st1=>vn ds st1 K
def oP(t:DA):DI:=λ σ st K=>t σ st λ ds st1=>vk ds st1 K
theorem BG{tg iter:Expr}{t:DA}(h:PI X tg iter (zT (LA t))):PI X tg iter (LI (b_ t)):=by unfold b_ vn;exact C6 h
theorem BO{tg iter:Expr}{t:DA}(h:PI X tg iter (zF (LA t))):PI X tg iter (LI (oP t)):=by unfold oP vk;exact Dv h
@[irreducible] def qM:D->D->D->ae->(ae->Prop)->Prop:=wj
def de(to ti te:DE):DS:=λ D σ st=>te σ st λ d st1=>to σ st1 λ x st2=>ti σ st2 λ y st3=>qM x y d st3 λ st4=>D.nx σ st4
theorem Eo{st:Stmt}{to ti te:DE}(h:PS X st (ju (LE te) (xm (LE to) (LE ti) qV))):PS X st (LS (de to ti te)):=by unfold de qM;exact Et h
end
section
variable {st:ae}{K:DK}{i j:Int}{b c:Bool}{xs ys:List D}{d e:D}{n:Nat}
theorem cN(k:K (.int (i+j)) st):ck (.int i) (.int j) st K:=by unfold ck;exact k
theorem yT(h:xs.length+ys.length<=sizeLine)(k:K (.lst (xs++ys)) st):ck (.lst xs) (.lst ys) st K:=by unfold ck;exact⟨h,k⟩
theorem f9(k:K (.int (i-j)) st):fx (.int i) (.int j) st K:=by unfold fx;exact⟨trivial,k⟩
theorem dG(h:IntMulOk i j)(k:K (.int (i*j)) st):cJ (.int i) (.int j) st K:=by unfold cJ;exact⟨h,k⟩
theorem y9(h: -(2^63)<=i/\i<2^63/\xs.length*i.toNat<=sizeLine)(k:K (.lst (List.replicate i.toNat xs).flatten) st):cJ (.lst xs) (.int i) st K:=by unfold cJ;exact⟨h,k⟩
theorem HL(h: -(2^63)<=i/\i<2^63/\xs.length*i.toNat<=sizeLine)(k:K (.tup (List.replicate i.toNat xs).flatten) st):cJ (.tup xs) (.int i) st K:=by unfold cJ;exact⟨h,k⟩
theorem iQ(h0:j≠0)(h:j.natAbs.log2<9000)(k:K (.int (i.fdiv j)) st):gQ (.int i) (.int j) st K:=by unfold gQ;exact⟨⟨h0,h⟩,k⟩
theorem jm(h0:j≠0)(k:K (.int (i.fmod j)) st):fi (.int i) (.int j) st K:=by unfold fi;exact⟨h0,k⟩
theorem rX(h:Ea i j)(k:K (.int (i^j.toNat)) st):nF (.int i) (.int j) st K:=by unfold nF;exact⟨h,k⟩
theorem FJ(k:K (.bl (decide (i<j))) st):nJ (.int i) (.int j) st K:=by unfold nJ;exact⟨trivial,k⟩
theorem Fe(k:K (.bl (decide (i<=j))) st):uv (.int i) (.int j) st K:=by unfold uv;exact⟨trivial,k⟩
theorem Fh(k:K (.bl (decide (j<i))) st):iC (.int i) (.int j) st K:=by unfold iC;exact⟨trivial,k⟩
theorem Ma(k:K (.bl (decide (j<=i))) st):Bp (.int i) (.int j) st K:=by unfold Bp;exact⟨trivial,k⟩
theorem Gi(k:K (.bl (!decide (i=j))) st):h_ (.int i) (.int j) st K:=by unfold h_;exact k
theorem Lh(k:K (.bl (!decide (b=c))) st):h_ (.bl b) (.bl c) st K:=by unfold h_;exact k
theorem ma(h:live st d=true)(k:K (.bl (KO d)) st):kP d .aq st K:=by unfold kP;exact⟨h,k⟩
theorem JV(h:live st d=true)(k:K (.bl (wD d b)) st):kP d (.bl b) st K:=by unfold kP;exact⟨h,k⟩
theorem Ah(h1:pl 40 d=true)(h2:pl 40 e=true)(k:K (.bl (dm d e)) st):dR d e st K:=by unfold dR;exact⟨h1,h2,k⟩
theorem GX(a b:Int):(a==b)=decide (a=b):=by
 by_cases h:a=b
 . subst h;simp
 . simp[h]
theorem Dy(k:K (.bl (decide (i=j))) st):dR (.int i) (.int j) st K:=by
 refine Ah rfl rfl ?_;have:dm (.int i) (.int j)=decide (i=j):=by unfold dm;exact GX i j
 rw[this];exact k
theorem gI(k:K (.int (-i)) st):ft (.int i) st K:=by unfold ft;exact k
theorem D6(h:items? st d=some xs)(a:cT xs i=some e)(k:K e st):mE d (.int i) st K:=by
 cases d<;>unfold items? at h<;>first
  |(cases h;done)
  |(cases h;simp only[mE,a];exact k)
  |(simp only at h
    split at h
    . rename_i q;cases h;simp only[mE,q,a];exact k
    . cases h)
theorem ax(h:items? st d=some xs)(a:cT xs i=some e)(k:K e st):aH d (.int i) st K:=by unfold aH;exact D6 h a k
theorem cu(h:items? st d=some xs)(k:K (.int xs.length) st):cR [d] st K:=by
 unfold cR vh;split
 . rename_i z;cases z;cases h
 . rename_i z;cases z;rw[h];exact k
 . rename_i z1 z2;exact absurd rfl (z2 d)
theorem Iq(i:Int):(if i<0 then-i else i)=((i.natAbs:Nat):Int):=by split<;>omega
theorem rP(k:K (.int ((i.natAbs:Nat):Int)) st):ou [.int i] st K:=by unfold ou;show K (.int (if i<0 then-i else i)) st;rw[Iq];exact k
theorem IG(k:K (.int (if j>i then j else i)) st):sT [.int i,.int j] st K:=by unfold sT;exact k
theorem BM(k:K (.int (if j<i then j else i)) st):sQ [.int i,.int j] st K:=by unfold sQ;exact k
theorem iS(k:K (.int (if b then 1 else 0)) st):nC [.bl b] st K:=by unfold nC;exact k
theorem dc(h:items? st d=some xs)(k:K (.tup xs) st):du [d] st K:=by unfold du oZ;simp only[h];exact k
theorem jU(h:items? st d=some xs)(k:K (.lst xs) st):i8 [d] st K:=by unfold i8 sh;simp only[h];exact k
theorem wy(h:items? st d=some xs)(k:K (.ref st.length) (st++[.lst xs])):mh [d] st K:=by unfold mh o4;simp only[h];exact k
theorem CY{bs:List Bool}(h:il xs=some bs)(k:K (.bl (bs.all id)) st):tM [.lst xs] st K:=by unfold tM vg;simp only[h];exact k
theorem nZ{t c:String}(h:gd st d=some t)(hc:c∈jT)(k:K (.bl (ql t c)) st):nM [d,.ty c] st K:=by unfold nM vb;simp only[h];exact⟨hc,k⟩
theorem oh{K:List D->(ae->Prop)->ae->Prop}(h:items? st d=some xs)(k:∀ok:ae->Prop,ok st->K xs ok st):lz d st K:=by
 unfold lz tI
 cases d<;>unfold items? at h<;>first
  |(cases h;done)
  |(cases h;exact k _ trivial)
  |(simp only at h
    split at h
    . rename_i q;cases h;simp only[q];exact k _ q
    . cases h)
theorem Hw{K:List D->(ae->Prop)->ae->Prop}(k:K xs (λ _=>True) st):lz (.lst xs) st K:=by unfold lz;exact k
theorem gh{K:List D->(ae->Prop)->ae->Prop}(k:K xs (λ _=>True) st):lz (.tup xs) st K:=by unfold lz;exact k
theorem cC{K:List D->(ae->Prop)->ae->Prop}(h: -(2^62)<=j/\j<2^62)(k:K (cA 0 j.toNat) (λ _=>True) st):vn [.int j] st K:=by unfold vn;exact⟨h,k⟩
theorem Hj{K:List D->(ae->Prop)->ae->Prop}(h: -(2^62)<=i/\i<2^62/\ -(2^62)<=j/\j<2^62)(k:K (cA i (j-i).toNat) (λ _=>True) st):vk [.int i,.int j] st K:=by unfold vk;exact⟨h,k⟩
theorem eX{K:ae->Prop}{m:Nat}(h:st[n]?=some (.lst xs))(e:jy xs.length i=some m)(k:K (st.set n (.lst (xs.set m d)))):qM (.ref n) (.int i) d st K:=by unfold qM wj;simp only[h,e];exact k
end
def Du(K:PySem.W.Frag):Bool:=K.all λ p=>p.2.cls != .type "list"
theorem pz{a:Addr}{o:Obj}:∀ {l:List (Addr×Obj)},l.lookup a=some o->(a,o)∈l
 | [],h=>by cases h
 |(b,u)::r,h=>by
  rw[Qd]at h;split at h
  . rename_i z;cases h;have:a=b:=by simpa using z
    subst this;exact Pw
  . exact Pn _ (pz h)
theorem uY{K:PySem.W.Frag}(h:Du K=true){a:Addr}{o:Obj}(e:K.lookup a=some o):o.cls≠ .type "list":=by
 have:=Qe.mp h (a,o) (pz e);simpa using this
theorem uE{α:List (Option Addr)}{G:Hp}:∀ns:List Int,aB α G (ns.map D.int) (ns.map V.int)
 | []=>by unfold aB;rfl
 |n::ns=>by
  rw[Qj,Qj];unfold aB;exact⟨_,_,rfl,by unfold Rep;rfl,uE ns⟩
def notStar:Expr->Bool
 | .Starred .. =>false
 |_=>true
theorem aY{e:Expr}{es:List Expr}{env:Env}(h:notStar e=true):starEach (e::es) env=(false,eval e env)::starEach es env:=by
 cases e<;>first|rfl|cases h
def fe:List Expr->Bool
 | []=>true
 |e::es=>notStar e&&fe es
theorem iO{pos:Pos}{env:Env}:∀ {es:List Expr},fe es=true->(backTo pos (starEach es env)).any (·.1)=false
 | [],_=>rfl
 |e::es,h=>by
  unfold fe at h;rw[Qk]at h;rw[aY h.1];have ih:=iO (pos:=pos) (env:=env) h.2;unfold backTo at ih⊢;rw[Qj,TV,ih];rfl
def kF:Expr->Bool
 | .Slice .. =>false
 |_=>true
def oJ:Expr->Bool
 | .Name .. =>true
 | .Call .. =>true
 | .Subscript .. =>true
 | .Attribute .. =>true
 |_=>false
def iK:Expr->Bool
 | .ListComp .. =>false
 | .SetComp .. =>false
 | .DictComp .. =>false
 |_=>true
section
variable {X:Cx}
theorem D0{b:Expr}(h:kF b=true):oR b:=by
 intro o i;cases b<;>first|rfl|cases h
theorem AI{e:Expr}(h:oJ e=true):∀whole,isTrue e X.env whole=(do let v <-whole;standAt e.pos;holding [v] (truthy v)):=by
 intro whole;cases e<;>first|(cases h;done)|rfl
theorem tQ{e:Expr}{tg:Option Expr}{n:Nat}{env:Env}(h:iK e=true):swapsWith e tg n env=pure false:=by
 cases e<;>first|(cases h;done)|rfl
theorem EB{e:Expr}{es:List Expr}{te:DE}{tr:DA}(ha:PE X e (LE te))(hr:PA X es (LA tr))(hs:notStar e=true:=by rfl):PA X (e::es) (LA (ab te tr)):=jZ ha hr (aY hs)
theorem Mi{e:Expr}{es:List Expr}{pos p:Pos}{x:Str}{id:String}{r:dw}{t:DA}(hc:aZ X (.builtin id) (dY r))(ha:PA X (e::es) (LA t))(hm:X.mg x=none)(hv:bootBuiltins x=some (.builtin id))(hn:x≠"__name__")(hdb:(x==("__debug__":Str))=false)(hg:Gl X x:=by rfl)(hs:notStar e=true:=by rfl)(hs2:fe es=true:=by rfl):
 PE X (.Call (.Name x p) (e::es) [] pos) (LE (ba r t)):=NT hc ha hm hv hg hn hdb (aY hs) (iO hs2)
theorem LN{e:Expr}{es:List Expr}{pos p:Pos}{x:Str}{T:String}{r:dw}{t:DA}(hc:aZ X (.type T) (dY r))(ha:PA X (e::es) (LA t))(hm:X.mg x=none)(hv:bootBuiltins x=some (.type T))(hn:x≠"__name__")(hdb:(x==("__debug__":Str))=false)(hg:Gl X x:=by rfl)(hs:notStar e=true:=by rfl)(hs2:fe es=true:=by rfl):
 PE X (.Call (.Name x p) (e::es) [] pos) (LE (ba r t)):=ND hc ha hm hv hg hn hdb (aY hs) (iO hs2)
theorem LP{e:Expr}{es:List Expr}{pos p:Pos}{x qual:Str}{st:Stmt}{ps:List Str}{f:Addr}{fd:FuncData}{k:Nat}{S:bR}{t:DA}(A:kH X.K X.mg x qual st ps f fd)(F:c_ X.prog X.w X.K X.mg X.base fP k f fd ps (gD S))(hr:bV k X.A)
 (ha:PA X (e::es) (LA t)) (hdb:(x==("__debug__":Str))=false) (hg:Gl X x:=by rfl) (hs:notStar e=true:=by rfl) (hs2:fe es=true:=by rfl):
 PE X (.Call (.Name x p) (e::es) [] pos) (LE (av S t)):=NV A F hr ha hg hdb (aY hs) (iO hs2)
theorem Mt{a b:Expr}{ta tb:DE}{pos:Pos}(ha:PE X a (LE ta))(hb:PE X b (LE tb))(hs:kF b=true:=by rfl):PE X (.Subscript a b pos) (LE (ai aH ta tb)):=NA ha hb (D0 hs)
theorem G8{e:Expr}{te:DE}(he:PE X e (LE te))(h:oJ e=true:=by rfl):PT X e (LT (aU te)):=JF he (AI h)
theorem EO{e:Expr}{te:DE}{pos:Pos}(he:PE X e (LE te))(h:iK e=true:=by rfl):PS X (.Expr e pos) (LS (gb te)):=GZ he (tQ h)
theorem HZ{i:Nat}{x:Str}{e:Expr}{te:TE}{pos pos':Pos}(hN:X.N.Nodup)(hi:X.N[i]?=some x)(hx:Loc X.env.scope x)(he:PE X e te)(hf:X.fn x=true\/X.env.scope.names.lookup x=some .local:=by first|exact .inl rfl|exact .inr rfl)(h:iK e=true:=by rfl):
 PS X (.Assign [.Name x pos'] e pos) (ju te (i5 i)):=IS hN hi hx he (tQ h) hf
theorem HV{i:Nat}{x:Str}{pos:Pos}(hd:(x==("__debug__":Str))=false)(hcd:(x==("__classdict__":Str))=false)(hv:vA X.env.scope x)(hN:X.N[i]?=some x:=by rfl):PE X (.Name x pos) (LE (aa i)):=MI (Ld hN hv hd hcd)
theorem J8{o i e:Expr}{to ti te:TE}{pos pos':Pos}(he:PE X e te)(ho:PE X o to)(hi:PE X i ti)(h1:iK e=true:=by rfl)(h2:kF i=true:=by rfl):PS X (.Assign [.Subscript o i pos'] e pos) (ju te (xm to ti qV)):=
 xS he (wB ho hi set_list (by intro v;cases i<;>first|rfl|cases h2)) (by unfold swapsWithSole;exact tQ h1) (by cases e<;>rfl) rfl
end
@[irreducible] def JE(X:Cx)(e:Expr)(t:DE):Prop:=PE X e (LE t)
@[irreducible] def JT(X:Cx)(e:Expr)(t:DT):Prop:=PT X e (LT t)
@[irreducible] def JW(X:Cx)(e:Expr)(t:DT):Prop:=PW X e (LT t)
@[irreducible] def JA(X:Cx)(es:List Expr)(t:DA):Prop:=PA X es (LA t)
@[irreducible] def JS(X:Cx)(s:Stmt)(t:DS):Prop:=PS X s (LS t)
@[irreducible] def JB(X:Cx)(s:List Stmt)(t:DS):Prop:=fg X s (LS t)
@[irreducible] def JG(X:Cx)(e:Expr)(t:dJ):Prop:=PG X e (LG t)
@[irreducible] def JI(X:Cx)(tg e:Expr)(t:DI):Prop:=PI X tg e (LI t)
@[irreducible] def JC(X:Cx)(es:List Expr)(t:DT):Prop:=nB X es (LT t)
section
variable {X:Cx}{a b c e o i:Expr}{es:List Expr}{ta tb tc te to ti:DE}{t u:DT}{ar:DA}{pos p pos':Pos}{s:Stmt}{ss:List Stmt}{T U:DS}
theorem Di{n:Nat}{x:Str}(hd:(x==("__debug__":Str))=false)(hcd:(x==("__classdict__":Str))=false)(hv:vA X.env.scope x)(hN:X.N[n]?=some x:=by rfl):JE X (.Name x pos) (aa n):=by unfold JE;exact HV hd hcd hv hN
theorem nE{x:Str}{T:String}(hm:X.mg x=none)(hv:bootBuiltins x=some (.type T))(hn:x≠"__name__")(hdb:(x==("__debug__":Str))=false)(hg:Gl X x):JE X (.Name x pos) (dC (.ty T)):=by unfold JE;exact NX hm hv hg hn hdb
theorem d8{k:Int}{j:Nat}:JE X (.Constant (.int k) j pos) (dC (.int k)):=by unfold JE;exact Lx
theorem AR{k:Bool}{j:Nat}:JE X (.Constant (.bool k) j pos) (dC (.bl k)):=by unfold JE;exact N6
theorem Gw{j:Nat}:JE X (.Constant .none j pos) (dC .aq):=by unfold JE;exact Lo
theorem lb{op:Operator}{r:cG}(ho:bD X (binaryOp op) (LR r))(ha:JE X a ta)(hb:JE X b tb):JE X (.BinOp a op b pos) (ai r ta tb):=by unfold JE at*;exact NN ho ha hb
theorem oS(ha:JE X a ta):JE X (.UnaryOp .USub a pos) (i9 ft ta):=by unfold JE at*;exact N1 MO ha
theorem Gg(ha:JE X a ta):JE X (.UnaryOp .Not a pos) (u_ (aU ta)):=by unfold JE at*;exact MV ha
theorem Gp{op:BoolOp}(ha:JE X a ta):JE X (.BoolOp op [a] pos) ta:=by unfold JE at*;exact Me ha
theorem FL(ha:JE X a ta)(hb:JE X (.BoolOp .And (b::es) pos) tb):JE X (.BoolOp .And (a::b::es) pos) (jE ta tb):=by unfold JE at*;exact MR ha hb
theorem Jm(ha:JE X a ta)(hb:JE X (.BoolOp .Or (b::es) pos) tb):JE X (.BoolOp .Or (a::b::es) pos) (A5 ta tb):=by unfold JE at*;exact NW ha hb
theorem Fi{op:CmpOp}{r:cG}(ho:bD X (compareOp op) (LR r))(hm:behindInMarks op b=false)(ha:JE X a ta)(hb:JE X b tb):JE X (.Compare a [op] [b] pos) (ai r ta tb):=by unfold JE at*;exact MU ho ha hb hm
theorem Ff(hc:JT X c t)(ha:JE X a ta)(hb:JE X b tb):JE X (.IfExp c a b pos) (vG t ta tb):=by unfold JE at*;unfold JT at hc;exact LX hc ha hb
theorem vi{n:Nat}(h:JA X es ar):JE X (.Tuple es n pos) (fF ar):=by unfold JE;unfold JA at h;exact MM h
theorem F1(h:JA X es ar):JE X (.List es pos) (lB ar):=by unfold JE;unfold JA at h;exact Mo h
theorem vj(h:JA X es ar):JE X (.List es pos) (qK ar):=by unfold JE;unfold JA at h;exact Mw h
theorem a8:JA X [] af:=by unfold JA;exact om
theorem aA(ha:JE X e te)(hr:JA X es ar)(hs:notStar e=true:=by rfl):JA X (e::es) (ab te ar):=by unfold JA at*;unfold JE at ha;exact EB ha hr hs
theorem cO(ha:JE X a ta)(hb:JE X b tb)(hs:kF b=true:=by rfl):JE X (.Subscript a b pos) (ai aH ta tb):=by unfold JE at*;exact Mt ha hb hs
theorem dO{x:Str}{id:String}{r:dw}(hc:aZ X (.builtin id) (dY r))(ha:JA X (e::es) ar)(hm:X.mg x=none)(hv:bootBuiltins x=some (.builtin id))(hn:x≠"__name__")(hdb:(x==("__debug__":Str))=false)(hg:Gl X x)(hs:notStar e=true:=by rfl)(hs2:fe es=true:=by rfl):JE X (.Call (.Name x p) (e::es) [] pos) (ba r ar):=by
 unfold JE;unfold JA at ha;exact Mi hc ha hm hv hn hdb hg hs hs2
theorem js{x:Str}{T:String}{r:dw}(hc:aZ X (.type T) (dY r))(ha:JA X (e::es) ar)(hm:X.mg x=none)(hv:bootBuiltins x=some (.type T))(hn:x≠"__name__")(hdb:(x==("__debug__":Str))=false)(hg:Gl X x)(hs:notStar e=true:=by rfl)(hs2:fe es=true:=by rfl):JE X (.Call (.Name x p) (e::es) [] pos) (ba r ar):=by
 unfold JE;unfold JA at ha;exact LN hc ha hm hv hn hdb hg hs hs2
theorem cn{x qual:Str}{st:Stmt}{ps:List Str}{f:Addr}{fd:FuncData}{k:Nat}{S:bR}(A:kH X.K X.mg x qual st ps f fd)(F:c_ X.prog X.w X.K X.mg X.base fP k f fd ps (gD S))(hr:bV k X.A)(ha:JA X (e::es) ar)(hdb:(x==("__debug__":Str))=false)(hg:Gl X x)(hs:notStar e=true:=by rfl)(hs2:fe es=true:=by rfl):
 JE X (.Call (.Name x p) (e::es) [] pos) (av S ar):=by unfold JE;unfold JA at ha;exact LP A F hr ha hdb hg hs hs2
theorem Es{apos cpos:Pos}(ho:JE X o to)(he:JE X e te)(hbase:attributeBase o "append" X.env (eval o X.env)=eval o X.env:=by rfl)(hline:(apos.endLine==cpos.line)=true:=by rfl)(hs:notStar e=true:=by rfl):JE X (.Call (.Attribute o "append" apos) [e] [] cpos) (lQ to te):=by
 unfold JE at*;refine DV ho he hbase ?_ hline (aY hs) rfl;rw[aY hs];rfl
theorem oC{op:CmpOp}{r:cG}(ho:bD X (compareOp op) (LR r))(hm:behindInMarks op b=false)(ha:JE X a ta)(hb:JE X b tb):JT X (.Compare a [op] [b] pos) (aU (ai r ta tb)):=by unfold JE at*;unfold JT;exact IL ho ha hb hm
theorem Ki(ha:JT X a t):JT X (.UnaryOp .Not a pos) (kQ t):=by unfold JT at*;exact Jd ha
theorem BD(he:JE X e te)(h:oJ e=true:=by rfl):JT X e (aU te):=by unfold JT;unfold JE at he;exact G8 he h
theorem GJ(ha:JT X a t):JW X (.BoolOp .And [a] pos) t:=by unfold JW;unfold JT at ha;exact HA ha
theorem KS(ha:JT X a t):JW X (.BoolOp .Or [a] pos) t:=by unfold JW;unfold JT at ha;exact IB ha
theorem Lg(ha:JT X a t)(hb:JW X (.BoolOp .And (b::es) pos) u):JW X (.BoolOp .And (a::b::es) pos) (gL t u):=by unfold JW at*;unfold JT at ha;exact J5 ha hb
theorem Ly(ha:JT X a t)(hb:JW X (.BoolOp .Or (b::es) pos) u):JW X (.BoolOp .Or (a::b::es) pos) (ny t u):=by unfold JW at*;unfold JT at ha;exact Mu ha hb
theorem Mv(h:JW X e t):JT X e t:=by unfold JT;unfold JW at h;exact PW.pt h
theorem mI{l tg:Expr}(hl:JE X l ta):JI X tg l (cY ta):=by unfold JI;unfold JE at hl;exact Kx hl
theorem j8{tg:Expr}(hg:Gl X "range")(hm:X.mg "range"=none)(ha:JA X [a] ar)(hs:notStar a=true:=by rfl):JI X tg (.Call (.Name "range" p) [a] [] pos) (b_ ar):=by unfold JI;unfold JA at ha;exact BG (Cw hg hm ha (aY hs))
theorem EK{tg:Expr}(hg:Gl X "range")(hm:X.mg "range"=none)(ha:JA X [a,b] ar)(hs:notStar a=true:=by rfl)(hs2:notStar b=true:=by rfl):JI X tg (.Call (.Name "range" p) [a,b] [] pos) (oP ar):=by unfold JI;unfold JA at ha;exact BO (DC hg hm ha (by rw[aY hs,aY hs2];rfl) (aY hs2))
theorem kn{k:Nat}{x:Str}(hN:X.N.Nodup)(hx:Loc X.env.scope x:=by first|exact Or.inl rfl|exact Or.inr rfl)(hf:X.fn x=true\/X.env.scope.names.lookup x=some .local:=by first|exact .inl rfl|exact .inr rfl)(hi:X.N[k]?=some x:=by rfl):JG X (.Name x pos) (aV k):=by unfold JG;exact HY (sV hN hi hx hf)
theorem u3{k j n:Nat}{x y:Str}{px py:Pos}(hc:X.calm=true)(hN:X.N.Nodup)(hx:Loc X.env.scope x:=by first|exact Or.inl rfl|exact Or.inr rfl)(hf:X.fn x=true\/X.env.scope.names.lookup x=some .local:=by first|exact .inl rfl|exact .inr rfl)(hy:Loc X.env.scope y:=by first|exact Or.inl rfl|exact Or.inr rfl)(hg:X.fn y=true\/X.env.scope.names.lookup y=some .local:=by first|exact .inl rfl|exact .inr rfl)(hi:X.N[k]?=some x:=by rfl)(hj:X.N[j]?=some y:=by rfl):
 JG X (.Tuple [.Name x px,.Name y py] n pos) (fO k j):=by unfold JG;exact IX (BW hc (mV (sV hN hi hx hf) (mV (sV hN hj hy hg) y6)))
theorem iN:JC X [] bM:=by unfold JC;exact DH
theorem Cf(h:JT X c t):JC X [c] t:=by unfold JC;unfold JT at h;exact K3 h
theorem oA{scope:Scope}{Nc:List Str}{elt tg iter:Expr}{ifs:List Expr}{src:DI}{fr:List (Option Nat)}{dtg:dJ}(S:bN X scope Nc fr)(hi:JI X tg iter src)(hg:∀C s H ex,JG (a7 X scope Nc C s H ex) tg dtg)(ht:∀C s H ex,JC (a7 X scope Nc C s H ex) ifs t)(he:∀C s H ex,JE (a7 X scope Nc C s H ex) elt te)(fit:iE fr dtg)
 (hx:X.xe=λ _ _=>False:=by rfl) (hc:X.calm=true:=by rfl) (hs:∀x,foldedSetIterable iter X.env x=pure x:=by intro _;rfl):JE X (.ListComp elt [⟨tg,iter,ifs,0⟩] scope pos) (cy src fr dtg t te):=by
 unfold JE JI JG JC at*;exact KD S hi hg ht he fit hx hc hs
theorem mi{scope:Scope}{Nc:List Str}{elt tg iter:Expr}{ifs:List Expr}{src:DI}{fr:List (Option Nat)}{dtg:dJ}(S:bN X scope Nc fr)(hi:JI X tg iter src)(hg:∀C s H ex,JG (a7 X scope Nc C s H ex) tg dtg)(ht:∀C s H ex,JC (a7 X scope Nc C s H ex) ifs t)(he:∀C s H ex,JE (a7 X scope Nc C s H ex) elt te)(fit:iE fr dtg)
 (hx:X.xe=λ _ _=>False:=by rfl) (hc:X.calm=true:=by rfl) (hs:∀x,foldedSetIterable iter X.env x=pure x:=by intro _;rfl):JE X (.ListComp elt [⟨tg,iter,ifs,0⟩] scope pos) (dN src fr dtg t te):=by
 unfold JE JI JG JC at*;exact Hf S hi hg ht he fit hx hc hs
theorem sv:JB X [] cE:=by unfold JB;exact HP
theorem di(h:JS X s T):JB X [s] T:=by unfold JB;unfold JS at h;exact GC h
theorem bL(h:JS X s T)(h2:JB X ss U):JB X (s::ss) (az T U):=by unfold JB at*;unfold JS at h;exact D4 h h2
theorem ke(h:JE X e te):JS X (.Return (some e) pos) (bh te):=by unfold JS;unfold JE at h;exact JM h
theorem iL(h:JE X e te)(hc:iK e=true:=by rfl):JS X (.Expr e pos) (gb te):=by unfold JS;unfold JE at h;exact EO h hc
theorem vd{x y:List Stmt}(hc:JT X c t)(ha:JB X x T)(hb:JB X y U):JS X (.If c x y pos) (cW t T U):=by unfold JS;unfold JB at*;unfold JT at hc;exact ME hc ha hb
theorem vP{x:List Stmt}(hc:JT X c t)(hb:JB X x T)(hx:X.xe=λ _ _=>False:=by rfl):JS X (.While c x [] pos) (oH t T):=by unfold JS;unfold JB at hb;unfold JT at hc;exact EU (EM (by rw[hx];exact PassesOwn.never) hc hb)
theorem nR{tg iter:Expr}{x:List Stmt}{src:DI}{dtg:dJ}(hi:JI X tg iter src)(hg:JG X tg dtg)(hb:JB X x T)(hx:X.xe=λ _ _=>False:=by rfl)(hc:X.calm=true:=by rfl)(hs:∀x,foldedSetIterable iter X.env x=pure x:=by intro _;rfl):JS X (.For tg iter x [] pos) (fy src dtg T):=by
 unfold JS;unfold JI at hi;unfold JG at hg;unfold JB at hb;exact JN (IV (by rw[hx];exact PassesOwn.never) hc hi hg hb hs)
theorem f7{k:Nat}{x:Str}(hN:X.N.Nodup)(hx:Loc X.env.scope x)(he:JE X e te)(hf:X.fn x=true\/X.env.scope.names.lookup x=some .local:=by first|exact .inl rfl|exact .inr rfl)(h:iK e=true:=by rfl)(hi:X.N[k]?=some x:=by rfl):JS X (.Assign [.Name x pos'] e pos) (aR k te):=by
 unfold JS;unfold JE at he;exact IY (HZ hN hi hx he hf h)
theorem zB{scope:Scope}{Nc:List Str}{elt tg iter:Expr}{ifs:List Expr}{src:DI}{fr:List (Option Nat)}{dtg:dJ}{k:Nat}{x:Str}(hN:X.N.Nodup)(hl:Loc X.env.scope x)(S:bN X scope Nc fr)(hi:JI X tg iter src)(hg:∀C s H ex,JG (a7 X scope Nc C s H ex) tg dtg)(ht:∀C s H ex,JC (a7 X scope Nc C s H ex) ifs t)(he:∀C s H ex,JE (a7 X scope Nc C s H ex) elt te)(fit:iE fr dtg)
 (hf:X.fn x=true\/X.env.scope.names.lookup x=some .local:=by first|exact .inl rfl|exact .inr rfl) (hsw:swapsWith (.ListComp elt [⟨tg,iter,ifs,0⟩] scope p) (some (.Name x pos')) pos.line X.env=pure true:=by rfl) (hni:X.N[k]?=some x:=by rfl) (hx:X.xe=λ _ _=>False:=by rfl) (hc:X.calm=true:=by rfl) (hs:∀x,foldedSetIterable iter X.env x=pure x:=by intro _;rfl):
 JS X (.Assign [.Name x pos'] (.ListComp elt [⟨tg,iter,ifs,0⟩] scope p) pos) (aR k (cy src fr dtg t te)):=by
 unfold JS;unfold JE JI JG JC at*;exact HH fit (yV hx hc S hi hg ht he hN hni hl hf hsw hs)
theorem Ek{scope:Scope}{Nc:List Str}{elt tg iter:Expr}{ifs:List Expr}{src:DI}{fr:List (Option Nat)}{dtg:dJ}{k:Nat}{x:Str}(hN:X.N.Nodup)(hl:Loc X.env.scope x)(S:bN X scope Nc fr)(hi:JI X tg iter src)(hg:∀C s H ex,JG (a7 X scope Nc C s H ex) tg dtg)(ht:∀C s H ex,JC (a7 X scope Nc C s H ex) ifs t)(he:∀C s H ex,JE (a7 X scope Nc C s H ex) elt te)(fit:iE fr dtg)
 (hf:X.fn x=true\/X.env.scope.names.lookup x=some .local:=by first|exact .inl rfl|exact .inr rfl) (hsw:swapsWith (.ListComp elt [⟨tg,iter,ifs,0⟩] scope p) (some (.Name x pos')) pos.line X.env=pure true:=by rfl) (hni:X.N[k]?=some x:=by rfl) (hx:X.xe=λ _ _=>False:=by rfl) (hc:X.calm=true:=by rfl) (hs:∀x,foldedSetIterable iter X.env x=pure x:=by intro _;rfl):
 JS X (.Assign [.Name x pos'] (.ListComp elt [⟨tg,iter,ifs,0⟩] scope p) pos) (aR k (dN src fr dtg t te)):=by
 unfold JS;unfold JE JI JG JC at*;exact EV fit (yV hx hc S hi hg ht he hN hni hl hf hsw hs)
theorem gX(he:JE X e te)(ho:JE X o to)(hi:JE X i ti)(h1:iK e=true:=by rfl)(h2:kF i=true:=by rfl):JS X (.Assign [.Subscript o i pos'] e pos) (de to ti te):=by unfold JS;unfold JE at*;exact Eo (J8 he ho hi h1 h2)
theorem J6{k:Nat}{x:Str}{op:Operator}{f:Int->Int->Int}(hN:X.N.Nodup)(hx:Loc X.env.scope x)(he:JE X e te)(ho:KN X op (Kq f))(hf:X.fn x=true\/X.env.scope.names.lookup x=some .local:=by first|exact .inl rfl|exact .inr rfl)(hi:X.N[k]?=some x:=by rfl):JS X (.AugAssign (.Name x pos') op e pos) (AQ k (wt f) te):=by
 unfold JS;unfold JE at he;exact JU (Jy hN hi hx he ho hf)
theorem J3{tg:Expr}{dtg:dJ}(he:JE X e te)(hg:JG X tg dtg)(hs:swapsWithSole [tg] e pos.line X.env=pure false:=by rfl)(hw:swappedStores [tg] e X.env=pure none:=by rfl)(h1:(assignEach [tg] X.env).map (·.2)=[assign tg X.env]:=by rfl):JS X (.Assign [tg] e pos) (Aj dtg te):=by
 unfold JS;unfold JE at he;unfold JG at hg;exact Kc (xS he hg hs hw h1)
end
theorem mD{P:Program}{w:World}{K:PySem.W.Frag}{mg:Str->Option Value}{base:Heap}{x qual:Str}{st:Stmt}{f:Addr}{fd:FuncData}{N ps:List Str}{k:Nat}{sp:bR}{t:DS}(F:kv K x qual st f fd)(S:iU N ps (aX st))
 (hbody:∀(cdv:Value) (A:Around) (outer:List Env) (s:Shared) (H:Hp) (E:XK),bV k (A.deeper (envOfC qual (aX st) s.heap.objs.size f cdv))->JB (ly fP P w K mg base N qual (aX st) f cdv A outer s H E).pj (dQ st) t)
 (hsp:∀ds st K,sp ds st K->ds.length=ps.length/\t {nx:=λ _ st'=>K .aq st',rt:=K} (aS N ds) st):c_ P w K mg base fP (k+1) f fd ps (gD sp):=by
 unfold JB at hbody;exact M7 F S hbody hsp
end L3
namespace HT
open PySem PyProof.Rows
section
variable {prog:Program}{w:World}{A:Around}{E:Value->Shared->Prop}{s:Shared}
theorem nu{t sl:Addr}{items:Array Value}{vl vu:Value}{lo hi:Option Int}{Q:Value->Shared->Prop}(ht:IsTup s.heap t items)(hs:s.heap.IsSliceOf sl vl vu .none)(pl:IsPart vl lo)(pu:IsPart vu hi)
 (hw:bp items.size 0 lo=0/\bp items.size items.size hi=items.size) (h:Q (.ref t) s):wpAny (model prog w) A (getItem (.ref t) (.ref sl)) Q E s:=by
 obtain⟨os,hos,hcs,hds⟩:=id hs;have hTs:s.TypeIs (.ref sl) "slice":=⟨os,hos,hcs⟩
 unfold getItem;try with_reducible refine QY ?_
 first|refine O5 (Pf ?_)|skip
 refine O5 (wpAny_sequenceKey ht.typeIs (by decide) ?_)
 refine O5 (QQ (name:=Str.ofString "__getitem__") ht.typeIs QB
  (Rk QB ht.typeIs entry_tuple_getitem ?_ (args_tuple_getitem _ _)))
 show wpAny _ _ (Builtin.Tuple.tupleItemsOf (.ref t) >>= _) _ _ s;refine O5 (tupleItemsOf_ ht ?_);refine O5 (Ue hTs ?_);rw[O_ (by decide)];refine O5 (ku hs pl pu ?_)
 have hyes:(((bp items.size 0 lo:Nat):Int)==0&&(1:Int)==1&&(bp items.size items.size hi-bp items.size 0 lo)==items.size)=true:=by
  rw[hw.1,hw.2];simp
 show wpAny _ _ (if(((bp items.size 0 lo:Nat):Int)==0&&(1:Int)==1&&(bp items.size items.size hi-bp items.size 0 lo)==items.size)=true then _ else _) _ _ s;rw[O_ hyes];refine O5 ?_;unfold Builtin.Tuple.tupleIsExact;exact O5 (Ue ht.typeIs (Pf (O5 (SD (Pf ⟨_,rfl,Pf h⟩)))))
end
end HT
namespace L3
open PySem L2
open PySem.Spec hiding items?
open PyProof.Rows hiding St
abbrev DO:=bf->ae->(Option Int->ae->Prop)->Prop
def fb:DO:=λ _ st K=>K none st
def ix(t:DE):DO:=λ σ st K=>t σ st λ d st1=>match d with| .int i=>K (some i) st1|_=>False
def cutD(xs:List D)(lo hi:Option Int):List D:=(xs.drop (HT.bp xs.length 0 lo)).take (HT.bp xs.length xs.length hi-HT.bp xs.length 0 lo)
def xG(d:D)(lo hi:Option Int)(st:ae)(K:DK):Prop:=match d with
 | .lst xs=>K (.lst (cutD xs lo hi)) st
 | .tup xs=>K (.tup (cutD xs lo hi)) st
 | .ref n=>(match st[n]? with|some (.lst xs)=>K (.lst (cutD xs lo hi)) st|_=>False)
 |_=>False
@[irreducible] def iu:D->Option Int->Option Int->ae->DK->Prop:=xG
def fR(t:DE)(lo hi:DO):DE:=λ σ st K=>t σ st λ d st1=>lo σ st1 λ l st2=>hi σ st2 λ u st3=>iu d l u st3 K
theorem qQ{α:List (Option Addr)}{G:Hp}{xs:List D}{vs:List V}{lo hi:Option Int}(r:aB α G xs vs):aB α G (cutD xs lo hi) (mH vs lo hi):=by
 unfold cutD mH;rw[<-r.length];exact aM.mpr (pE _ (pv _ (aM.mp r)))
def OX(α:List (Option Addr))(G F:Hp)(K:Option Int->ae->Prop)(Q:Option Int->Hp->Prop):Prop:=∀o st',K o st'->∀α' G' H',Step α G α' G'->bw G' F H'->aD α' st' G'->Q o H'
inductive Ny(t:DO)(σ:L2.St)(H:Hp)(Q:Option Int->Hp->Prop):Prop
 |mk (α:List (Option Addr)) (σd:bf) (st:ae) (K:Option Int->ae->Prop) (G F:Hp) (P:bw G F H) (R:cQ α G σd σ) (S:aD α st G) (h:t σd st K) (k:OX α G F K Q):Ny t σ H Q
def LO(t:DO):TO:=Ny t
section
variable {X:Cx}
theorem PO.imp{e:Option Expr}{t t':TO}(h:PO X e t)(f:∀σ H Q,t' σ H Q->t σ H Q):PO X e t':=λ pins s σ H Q I q=>h pins s σ H Q I (f σ H Q q)
theorem Ho:PO X none (LO fb):=PO.imp HI λ σ H Q ⟨α,σd,st,K,G,F,P,R,S,t,k⟩=>k none st t α G H Step.refl P S
theorem G7{e:Expr}{te:DE}(h:PE X e (LE te)):PO X (some e) (LO (ix te)):=PO.imp (Ib h) λ σ H Q ⟨α,σd,st,K,G,F,P,R,S,t,k⟩=>by
 refine⟨α,σd,st,_,G,F,P,R,S,t,λ d st1 q α1 G1 H1 v s1 P1 S1 r1=>?_⟩;cases d<;>try exact q.elim
 unfold Rep at r1;exact⟨_,r1,k _ st1 q α1 G1 H1 s1 P1 S1⟩
def OC(x:V)(lo hi:Option Int)(H:Hp)(Q:VK):Prop:=∃α d st K G F,bw G F H/\Rep α G d x/\aD α st G/\iu d lo hi st K/\LK α G F K Q
theorem He:CW X (λ x lo hi H Q=>∃a xs,x= .ref a/\H a=some (.tup xs)/\((HT.bp xs.length 0 lo=0/\HT.bp xs.length xs.length hi=xs.length)->Q (.ref a) H)/\(¬(HT.bp xs.length 0 lo=0/\HT.bp xs.length xs.length hi=xs.length)->∀p,H p=none->Q (.ref p) (upd H p (.tup (mH xs lo hi))))):=by
 intro pins s σ H x v vl vu lo hi sl Q I rx hs pl pu h;obtain⟨a,xs,rfl,hx,q1,q2⟩:=h;by_cases hw:HT.bp xs.length 0 lo=0/\HT.bp xs.length xs.length hi=xs.length
 . cases rx;obtain⟨its,r,ht,hz⟩:=I.tuple (fZ.of hx);have hlen:its.toArray.size=xs.length:=by rw[Ph];exact r.length.symm
   exact⟨"tuple",_,QB.lookup,ht.typeIs,HT.nu ht hs pl pu (by rw[hlen];exact hw) ⟨.ref a,H,I,rfl,q1 hw⟩⟩
 . exact Kj pins s σ H _ v vl vu lo hi sl Q I rx hs pl pu ⟨a,xs,rfl,.of hx,hw,q2 hw⟩
theorem BA{xs:List D}{lo hi:Option Int}(hw:HT.bp xs.length 0 lo=0/\HT.bp xs.length xs.length hi=xs.length):cutD xs lo hi=xs:=by
 unfold cutD;rw[hw.1,hw.2];simp
theorem K4:CW X OC:=by
 intro pins s σ H x v vl vu lo hi sl Q I rx hs pl pu ⟨α,d,st,K,G,F',P,r1,S,q,k⟩;unfold iu xG at q;cases d<;>try exact q.elim
 . rename_i n;simp only at q;split at q
   . rename_i xs e;obtain⟨a,ea,vs,h1,h2⟩:=S.d6 e;have r1':=bY ea r1;subst r1';exact zx pins s σ H _ v vl vu lo hi sl Q I rx hs pl pu ⟨a,vs,rfl,.inl (.of (P.get h1)),λ p hp=>k.lst P q S (qQ h2) hp⟩
   . exact q.elim
 . unfold Rep at r1;obtain⟨a,vs,rfl,na,ha,ra⟩:=r1;exact zx pins s σ H _ v vl vu lo hi sl Q I rx hs pl pu ⟨a,vs,rfl,.inl (eK P ha),λ p hp=>k.lst P q S (qQ ra) hp⟩
 . rename_i xs;have r0:=r1;unfold Rep at r1;obtain⟨a,vs,rfl,na,ha,ra⟩:=r1;refine He pins s σ H _ v vl vu lo hi sl Q I rx hs pl pu ⟨a,vs,rfl,P.get ha,λ hw=>?_,λ _ p hp=>k.tup P q S (qQ ra) hp⟩;rw[<-ra.length]at hw;simp only at q;rw[BA hw]at q;exact k.here P q S r0
theorem Ia{e:Expr}{lo hi:Option Expr}{te:DE}{tl th:DO}{p2 pos:Pos}(he:PE X e (LE te))(hl:PO X lo (LO tl))(hh:PO X hi (LO th)):PE X (.Subscript e (.Slice lo hi none p2) pos) (LE (fR te tl th)):=PE.imp (Ef K4 he hl hh) λ σ H Q ⟨α,σd,st,K,G,F,P,R,S,t,k⟩=>by
 refine⟨α,σd,st,_,G,F,P,R,S,t,λ d st1 q α1 G1 H1 v s1 P1 S1 r1=>?_⟩;refine⟨α1,σd,st1,_,G1,F,P1,R.step s1,S1,q,λ l st2 q2 α2 G2 H2 s2 P2 S2=>?_⟩;refine⟨α2,σd,st2,_,G2,F,P2,(R.step s1).step s2,S2,q2,λ u st3 q3 α3 G3 H3 s3 P3 S3=>?_⟩;exact⟨α3,d,st3,K,G3,F,P3,(r1.step s2).step s3,S3,q3,((k.at s1).at s2).at s3⟩
@[irreducible] def JO(X:Cx)(e:Option Expr)(t:DO):Prop:=PO X e (LO t)
theorem zp:JO X none fb:=by unfold JO;exact Ho
theorem yC{e:Expr}{te:DE}(h:JE X e te):JO X (some e) (ix te):=by unfold JO;unfold JE at h;exact G7 h
theorem sM{e:Expr}{lo hi:Option Expr}{te:DE}{tl th:DO}{p2 pos:Pos}(he:JE X e te)(hl:JO X lo tl)(hh:JO X hi th):JE X (.Subscript e (.Slice lo hi none p2) pos) (fR te tl th):=by unfold JE at*;unfold JO at*;exact Ia he hl hh
end
theorem kJ{st:ae}{K:DK}{xs:List D}{lo hi:Option Int}(k:K (.lst (cutD xs lo hi)) st):iu (.lst xs) lo hi st K:=by unfold iu;exact k
theorem Dq{st:ae}{K:DK}{xs:List D}{lo hi:Option Int}(k:K (.tup (cutD xs lo hi)) st):iu (.tup xs) lo hi st K:=by unfold iu;exact k
theorem C8{st:ae}{K:DK}{xs:List D}{lo hi:Option Int}{n:Nat}(h:st[n]?=some (.lst xs))(k:K (.lst (cutD xs lo hi)) st):iu (.ref n) lo hi st K:=by unfold iu xG;simp only[h];exact k
section
variable {prog:Program}{w:World}{A:Around}{E:Value->Shared->Prop}{s:Shared}
theorem AJ{iT tp:Addr}{n:Nat}{its:Array Value}{v:Value}{Q:Value->Shared->Prop}(hI:s.heap.IsTupleIter iT tp n)(hT:s.heap.IsTuple tp its)(hv:its[n]?=some v)
 (q:∀g,g.IsTupleIter iT tp (n+1)->Heap.SameBut iT s.heap g->Q v {s with heap:=g}):wpAny (model prog w) A (Builtin.SmallTypes.nextOf (.ref iT)) Q E s:=by
 obtain⟨oI,eI,cI,dI⟩:=id hI;obtain⟨oT,eT,_,nT,dT⟩:=hT;unfold Builtin.SmallTypes.nextOf;refine O5 (QQ (name:=Str.ofString "__next__") hI.typeIs RE (Rk RE hI.typeIs TH ?_ (TB _)));show wpAny _ _ (field (.ref iT) 0 >>= _) _ _ s;refine O5 (QF eI dI (x:= .ref tp) rfl ?_);show wpAny _ _ (if(Value.ref tp==Value.none)=true then _ else _) _ _ s;rw[O7 (show¬((Value.ref tp==Value.none)=true)from PV)];show wpAny _ _ (field (.ref iT) 1 >>= _) _ _ s;refine O5 (QF eI dI (x:= .int n 0) rfl ?_);show wpAny _ _ (seqItems? (.ref tp) >>= _) _ _ s;refine O5 (Q1 eT dT ?_);simp only[Pp,hv];refine O5 (wpAny_setField eI dI (by simp) (Pf ⟨v,rfl,Pf (q _ ?_ (QI ..))⟩));refine⟨_,SW _ eI (Obj.isFreed_of_fields (Obj.data_mapFields dI _)),(Obj.cls_mapFields ..).trans cI,?_⟩;rw[Obj.data_mapFields dI];simp[rawInt]
theorem CK{iT tp:Addr}{n:Nat}{its:Array Value}{Q:Value->Shared->Prop}(hh:A.handled=none)(hI:s.heap.IsTupleIter iT tp n)(hT:s.heap.IsTuple tp its)(hv:its[n]?=none)
 (q:∀g e,Heap.ExtBut iT s.heap g->(∃o,g.get? e=some o/\o.cls= .type "StopIteration")->E (.ref e) {s with heap:=g}):wpAny (model prog w) A (Builtin.SmallTypes.nextOf (.ref iT)) Q E s:=by
 obtain⟨oI,eI,cI,dI⟩:=id hI;obtain⟨oT,eT,_,nT,dT⟩:=hT;unfold Builtin.SmallTypes.nextOf;refine O5 (QQ (name:=Str.ofString "__next__") hI.typeIs RE (Rk RE hI.typeIs TH ?_ (TB _)));show wpAny _ _ (field (.ref iT) 0 >>= _) _ _ s;refine O5 (QF eI dI (x:= .ref tp) rfl ?_);show wpAny _ _ (if(Value.ref tp==Value.none)=true then _ else _) _ _ s;rw[O7 (show¬((Value.ref tp==Value.none)=true)from PV)];show wpAny _ _ (field (.ref iT) 1 >>= _) _ _ s;refine O5 (QF eI dI (x:= .int n 0) rfl ?_);show wpAny _ _ (seqItems? (.ref tp) >>= _) _ _ s;refine O5 (Q1 eT dT ?_);simp only[Pp,hv];refine O5 (SD (O5 (wpAny_setField eI dI (by simp) ?_)));show wpAny _ _ (newExc (.type "StopIteration") [] >>= _) _ _ _;refine O5 ?_;simp only[newExc,newTuple];refine O5 (RH ?_ (by size_fits));refine O5 (m:=firstArgMember _ _) (wpAny_of_eq (a:=Value.none) (by first|rfl|(simp only[firstArgMember];rfl)) ?_);refine RH ?_ (by size_fits);simp only[raiseNew];refine O5 (wpAny_handled ?_);first|rw[show A.in1.handled=none from hh]|rw[hh]
 refine O5 (Pf (wpAny_throw ?_));exact q _ _ (((QI ..).extBut.push _).push _) ⟨_,Pt _ rfl,rfl⟩
end
section
variable {st:ae}{K:DK}{i j:Int}{b c:Bool}{xs ys:List D}{d e:D}{n:Nat}
theorem eqT(h:i=j)(k:K (.bl true) st):dR (.int i) (.int j) st K:=Dy (by rw[QL h];exact k)
theorem F9(h:i≠j)(k:K (.bl false) st):dR (.int i) (.int j) st K:=Dy (by rw[PZ h];exact k)
theorem eq2(h1:i=j->K (.bl true) st)(h2:i≠j->K (.bl false) st):dR (.int i) (.int j) st K:=by
 by_cases h:i=j
 . exact eqT h (h1 h)
 . exact F9 h (h2 h)
theorem neT(h:i≠j)(k:K (.bl true) st):h_ (.int i) (.int j) st K:=Gi (by rw[PZ h];exact k)
theorem KJ(h:i=j)(k:K (.bl false) st):h_ (.int i) (.int j) st K:=Gi (by rw[QL h];exact k)
theorem ne2(h1:i≠j->K (.bl true) st)(h2:i=j->K (.bl false) st):h_ (.int i) (.int j) st K:=by
 by_cases h:i=j
 . exact KJ h (h2 h)
 . exact neT h (h1 h)
theorem OT(h:i<j)(k:K (.bl true) st):nJ (.int i) (.int j) st K:=FJ (by rw[QL h];exact k)
theorem OA(h:j<=i)(k:K (.bl false) st):nJ (.int i) (.int j) st K:=FJ (by rw[PZ (by omega)];exact k)
theorem Jf(h1:i<j->K (.bl true) st)(h2:j<=i->K (.bl false) st):nJ (.int i) (.int j) st K:=by
 by_cases h:i<j
 . exact OT h (h1 h)
 . exact OA (by omega) (h2 (by omega))
theorem OL(h:i<=j)(k:K (.bl true) st):uv (.int i) (.int j) st K:=Fe (by rw[QL h];exact k)
theorem OV(h:j<i)(k:K (.bl false) st):uv (.int i) (.int j) st K:=Fe (by rw[PZ (by omega)];exact k)
theorem OJ(h1:i<=j->K (.bl true) st)(h2:j<i->K (.bl false) st):uv (.int i) (.int j) st K:=by
 by_cases h:i<=j
 . exact OL h (h1 h)
 . exact OV (by omega) (h2 (by omega))
theorem OW(h:j<i)(k:K (.bl true) st):iC (.int i) (.int j) st K:=Fh (by rw[QL h];exact k)
theorem OP(h:i<=j)(k:K (.bl false) st):iC (.int i) (.int j) st K:=Fh (by rw[PZ (by omega)];exact k)
theorem uI(h1:j<i->K (.bl true) st)(h2:i<=j->K (.bl false) st):iC (.int i) (.int j) st K:=by
 by_cases h:j<i
 . exact OW h (h1 h)
 . exact OP (by omega) (h2 (by omega))
theorem NO(h1:b≠c->K (.bl true) st)(h2:b=c->K (.bl false) st):h_ (.bl b) (.bl c) st K:=by
 refine Lh ?_;by_cases h:b=c
 . rw[QL h];exact h2 h
 . rw[PZ h];exact h1 h
theorem Kb(h:b=c)(k:K (.bl false) st):h_ (.bl b) (.bl c) st K:=NO (λ z=>absurd h z) λ _=>k
theorem OG{P:Prop}(h:xs.length<=1000)(k:P):xs.length<=sizeLine/\P:=⟨by rw[QZ];omega,k⟩
theorem bU{m:Nat}(h:m<=1000):m<=sizeLine:=by rw[QZ];omega
theorem tO(h0:0<=i)(e:xs[i.toNat]?=some d):cT xs i=some d:=by
 have:=fC e;rw[Int.toNat_of_nonneg h0]at this;exact this
theorem og{m:Nat}(h0:0<=i)(h:i.toNat<m):jy m i=some i.toNat:=by
 unfold jy;have:i<(m:Int):=by omega
 simp[h0,this]
end
theorem gq{tg:dJ}{body:DS}{ok:ae->Prop}{E:iZ}(I:List D->bf->ae->Prop)(hend:∀σ st,I [] σ st->ok st/\E.nx σ st)
 (hstep:∀x xs σ st,I (x::xs) σ st->(∀σ' st',I xs σ' st'->fD tg body ok E xs σ' st')->ok st/\∃σ1,tg x σ=some σ1/\body {E with nx:=fD tg body ok E xs,ct:=fD tg body ok E xs,bk:=E.nx} σ1 st):
 ∀xs σ st,I xs σ st->fD tg body ok E xs σ st
 | [],σ,st,h=>by unfold fD;exact hend σ st h
 |x::xs,σ,st,h=>by unfold fD;exact hstep x xs σ st h λ σ' st' h'=>gq I hend hstep xs σ' st' h'
theorem cX{tg:dJ}{c:DT}{te:DE}{ok:ae->Prop}{σc:bf}{K:List D->ae->Prop}(I:List D->List D->ae->Prop)(hend:∀acc st,I [] acc st->ok st/\K acc st)
 (hstep:∀x xs acc st,I (x::xs) acc st->(∀acc' st',I xs acc' st'->cp tg c te ok σc xs acc' st' K)->ok st/\∃σ2,tg x σc=some σ2/\c σ2 st λ b st1=>if b=true then te σ2 st1 λ y st2=>cp tg c te ok σc xs (acc++[y]) st2 K else cp tg c te ok σc xs acc st1 K):
 ∀xs acc st,I xs acc st->cp tg c te ok σc xs acc st K
 | [],acc,st,h=>by unfold cp;exact hend acc st h
 |x::xs,acc,st,h=>by unfold cp;exact hstep x xs acc st h λ acc' st' h'=>cX I hend hstep xs acc' st' h'
theorem comp_map{tg:dJ}{te:DE}{ok:ae->Prop}{σc:bf}{st:ae}{K:List D->ae->Prop}{g:D->D}(aC:ok st)(xs:List D)(hx:∀x∈xs,∀K',K' (g x) st->∃σ2,tg x σc=some σ2/\te σ2 st K')(k:K (xs.map g) st):cp tg bM te ok σc xs [] st K:=by
 refine cX (λ r acc st'=>st'=st/\(∀x∈r,x∈xs)/\acc++r.map g=xs.map g) (λ acc st' h=>?_) (λ x r acc st' h next=>?_) xs [] st ⟨rfl,λ _ h=>h,rfl⟩
 . obtain⟨rfl,_,e⟩:=h;rw[List.map_nil,QO]at e;rw[e];exact⟨aC,k⟩
 . obtain⟨rfl,hm,e⟩:=h;obtain⟨σ2,e2,q⟩:=hx x (hm x Pw) (λ y st2=>cp tg bM te ok σc r (acc++[y]) st2 K) (next _ _ ⟨rfl,λ z hz=>hm z (Pn _ hz),by rw[<-e];simp⟩);exact⟨aC,σ2,e2,q⟩
theorem eZ{A B:DS}{E:iZ}{σ:bf}{st:ae}(J:bf->ae->Prop)(h:∀nx,(∀σ' st',J σ' st'->nx σ' st')->A {E with nx:=nx} σ st)(k:∀σ' st',J σ' st'->B E σ' st'):az A B E σ st:=h (B E) k
def JQ(n:Nat)(K:DK)(y:D)(st2:ae):Prop:=∃y',[y]=[y']/\(match st2[n]? with|some (.lst xs)=>xs.length<sizeLine/\K .aq (st2.set n (.lst (xs++[y'])))|_=>False)
theorem zC{n:Nat}{K:DK}{y:D}{st:ae}{xs:List D}(e:st[n]?=some (.lst xs))(h:xs.length<sizeLine)(k:K .aq (st.set n (.lst (xs++[y])))):JQ n K y st:=by
 refine⟨y,rfl,?_⟩;simp only[e];exact⟨h,k⟩
@[irreducible] def jS(to te:DE):DE:=lQ to te
theorem BZ{σ:bf}{st:ae}{K:DK}{i n:Nat}{xs:List D}{te:DE}(ei:σ[i]?=some (some (.ref n)))(e:st[n]?=some (.lst xs))(h:te σ st (JQ n K)):jS (aa i) te σ st K:=by
 unfold jS lQ aa;simp only[ei,e];exact h
theorem ue{X:Cx}{o e:Expr}{to te:DE}{apos cpos:Pos}(ho:JE X o to)(he:JE X e te)(hbase:attributeBase o "append" X.env (eval o X.env)=eval o X.env:=by rfl)(hline:(apos.endLine==cpos.line)=true:=by rfl)(hs:notStar e=true:=by rfl):JE X (.Call (.Attribute o "append" apos) [e] [] cpos) (jS to te):=by
 unfold jS;exact Es ho he hbase hline hs
@[irreducible] def kL(i:Nat)(t:DS):DS:=λ D σ st=>match σ[i]? with
 |some (some (.ref n))=>(match st[n]? with|some (.lst xs)=>t D (σ.set i (some (.lst xs))) (st.set n .dead)|_=>False)
 |_=>False
section
variable {X:Cx}
theorem JY{s:Stmt}{i:Nat}{t:DS}(h:PS X s (LS t)):PS X s (LS (kL i t)):=PS.imp h λ D σ H ⟨α,σd,st,DD,G,F,P,R,S,q,k⟩=>by
 unfold kL at q;split at q
 . rename_i n e;split at q
   . rename_i xs e2;have hn:n<st.length:=(O6.mp e2).1;obtain⟨v,ev,rv⟩:=R.at' i _ e;have R2:cQ (α.set n none) G (σd.set i (some (.lst xs))) (σ.set i (some v)):=(R.step Step.dE).set i (S.GU e2 rv)
     have es:σ.set i (some v)=σ:=by
      refine List.ext_getElem? λ j=>?_;by_cases hj:i=j
      . subst hj;rw[Pg (O6.mp ev).1,ev]
      . rw[Pb hj]
     rw[es]at R2;exact⟨α.set n none,_,_,DD,G,F,P,R2,S.dE hn,q,k.at Step.dE⟩
   . exact q.elim
 . exact q.elim
theorem xi{s:Stmt}{i:Nat}{t:DS}(h:JS X s t):JS X s (kL i t):=by unfold JS at*;exact JY h
end
theorem vZ{σ:bf}{st:ae}{E:iZ}{i n:Nat}{t:DS}{xs:List L3.D}(e:σ[i]?=some (some (.ref n)))(e2:st[n]?=some (.lst xs))(k:t E (σ.set i (some (.lst xs))) (st.set n .dead)):kL i t E σ st:=by
 unfold kL;simp only[e,e2];exact k
structure Src(P:Program)(w:World)(t a:Addr)(J:Nat->Heap->Prop)(us:Array Value):Prop where
 fr:∀n g k,J n g->(∀b,b=t\/b=a->∀o,g.get? b=some o->k.get? b=some o)->J n k
 lv:∀n g,J n g->(∃o,g.get? t=some o)/\∃o,g.get? a=some o
 nx:∀n (A:Around) (s:Shared) (Q:Value->Shared->Prop) (E:Value->Shared->Prop) v,J n s.heap->us[n]?=some v->(∀k,J (n+1) k->Heap.SameBut t s.heap k->Q v {s with heap:=k})->wpAny (model P w) A (Builtin.SmallTypes.nextOf (.ref t)) Q E s
 en:∀n (A:Around) (s:Shared) (Q:Value->Shared->Prop) (E:Value->Shared->Prop),A.handled=none->J n s.heap->us[n]?=none->(∀k e,Heap.ExtBut t s.heap k->(∃o,k.get? e=some o/\o.cls= .type "StopIteration")->E (.ref e) {s with heap:=k})->wpAny (model P w) A (Builtin.SmallTypes.nextOf (.ref t)) Q E s
section
variable {P:Program}{w:World}
theorem src_list(t a:Addr)(hne:a≠t)(us:Array Value):Src P w t a (λ n g=>g.IsListIter t a n/\g.IsList a us) us where
 fr:=λ n g k j kp=>⟨j.1.at λ o e=>kp t (.inl rfl) o e,j.2.at λ o e=>kp a (.inr rfl) o e⟩
 lv:=λ n g j=>⟨let⟨o,e,_⟩:=j.1;⟨o,e⟩,let⟨o,e,_⟩:=j.2;⟨o,e⟩⟩
 nx:=λ n A s Q E v j hv q=>wpAny_nextOf_list_item j.1 j.2 hv λ k jk sb=>q k ⟨jk,j.2.extBut sb.extBut hne⟩ sb
 en:=λ n A s Q E hh j hv q=>wpAny_nextOf_list_end hh j.1 j.2 hv q
theorem Iy(t a:Addr)(hne:a≠t)(us:Array Value):Src P w t a (λ n g=>g.IsTupleIter t a n/\g.IsTuple a us) us where
 fr:=λ n g k j kp=>by
  obtain⟨⟨o,e,r⟩,⟨o2,e2,r2⟩⟩:=j;exact⟨⟨o,kp t (.inl rfl) o e,r⟩,⟨o2,kp a (.inr rfl) o2 e2,r2⟩⟩
 lv:=λ n g j=>⟨let⟨o,e,_⟩:=j.1;⟨o,e⟩,let⟨o,e,_⟩:=j.2;⟨o,e⟩⟩
 nx:=λ n A s Q E v j hv q=>AJ j.1 j.2 hv λ k jk sb=>q k ⟨jk,j.2.extBut sb.extBut hne⟩ sb
 en:=λ n A s Q E hh j hv q=>CK hh j.1 j.2 hv q
theorem Src.ext{t a c:Addr}{J:Nat->Heap->Prop}{us:Array Value}(S:Src P w t a J us){n:Nat}{g k:Heap}(j:J n g)(x:Heap.ExtBut c g k)(h1:c≠t)(h2:c≠a):J n k:=
 S.fr n g k j λ b hb o e=>x b o (by rcases hb with rfl|rfl;exact Pj h1;exact Pj h2) e
structure zf(z ti to t1 t2 a1 a2:Addr):Prop where
 nd: [z,ti,to,t1,t2].Nodup
 a1:a1∉[z,ti,to,t1,t2]
 a2:a2∉[z,ti,to,t1,t2]
section
variable {z ti to t1 t2 a1 a2:Addr}
theorem zf.n(D:zf z ti to t1 t2 a1 a2):(ti≠z/\to≠z/\t1≠z/\t2≠z)/\(ti≠to/\ti≠t1/\ti≠t2)/\(to≠t1/\to≠t2)/\t1≠t2:=by
 have:=D.nd;simp only[RC,Px,Sg,PR,QA,R6,List.nodup_nil]at this;obtain⟨⟨b1,b2,b3,b4⟩,⟨b5,b6,b7⟩,⟨b8,b9⟩,b10⟩:=this;exact⟨⟨Pj b1,Pj b2,Pj b3,Pj b4⟩,⟨b5,b6,b7⟩,⟨b8,b9⟩,b10⟩
theorem BE{A:Around}{s:Shared}{E:Value->Shared->Prop}{J1 J2:Nat->Heap->Prop}{us vs:Array Value}{n:Nat}{x y a b:Value}{Q:Value->Shared->Prop}(D:zf z ti to t1 t2 a1 a2)(S1:Src P w t1 a1 J1 us)(S2:Src P w t2 a2 J2 vs)
 (Z:IsZip s.heap z ti to .none) (pI:IsPair s.heap ti (.ref t1) (.ref t2)) (pO:IsPair s.heap to a b) (j1:J1 n s.heap) (j2:J2 n s.heap) (ex:us[n]?=some x) (ey:vs[n]?=some y)
 (q:∀k,IsZip k z ti to (rawInt s.heap.objs.size)->IsPair k to x y->J1 (n+1) k->J2 (n+1) k->IsPair k s.heap.objs.size x y->k.objs.size=s.heap.objs.size+1->
   (∀c o,c≠z->c≠to->c≠t1->c≠t2->s.heap.get? c=some o->k.get? c=some o)->Q (.ref s.heap.objs.size) {s with heap:=k}):
 wpAny (model P w) A (Builtin.«zip.__next__» ⟨[.ref z],[]⟩) (λ fin s'=>∃v,fin= .done (.ret v)/\Q v s') E s:=by
 obtain⟨⟨n1,n2,n3,n4⟩,⟨n5,n6,n7⟩,⟨n8,n9⟩,n10⟩:=D.n;have m1:=D.a1;have m2:=D.a2;simp only[Px,Sg,PR,QA,R6]at m1 m2;show wpAny _ _ (field (.ref z) 2 >>= _) _ _ _;refine O5 (QF Z rfl (x:= .bool false) rfl ?_);show wpAny _ _ (field (.ref z) 3 >>= _) _ _ _;refine O5 (QF Z rfl (x:= .ref ti) rfl ?_);refine O5 (Q1 pI rfl ?_);show wpAny _ _ (Builtin.SmallTypes.ownedTupleIsFree (.ref z) >>= _) _ _ _;refine O5 ?_;unfold Builtin.SmallTypes.ownedTupleIsFree;refine O5 (QF Z rfl (x:= .none) rfl (Pf ?_));simp only[Rg];refine O5 (SD ?_);refine O5 (QF Z rfl (x:= .ref to) rfl ?_);refine O5 (Rt Z (by simp) λ k1 Z1 b1=>?_);replace Z1:IsZip k1 z ti to .ellipsis:=Z1;refine O5 ?_;simp only[List.zipIdx_cons,List.zipIdx_nil,Uu,UQ];refine O5 (O5 (TX ?_));show wpAny _ _ (Builtin.SmallTypes.nextOf (.ref t1) >>= _) _ _ _;refine O5 (S1.nx n _ _ _ _ x (S1.ext j1 b1.extBut (Pj n3) (Pj m1.1)) ex λ k2 j1b b2=>Pf ?_);have pO2:IsPair k2 to a b:=b2.extBut _ _ n8 (b1.extBut _ _ n2 pO);refine O5 (Q1 pO2 rfl ?_);refine O5 (Tj pO2 λ k3 pO3 b3=>?_);replace pO3:IsPair k3 to x b:=pO3;refine O5 (UD (Pf ?_));refine O5 (O5 (TX ?_));show wpAny _ _ (Builtin.SmallTypes.nextOf (.ref t2) >>= _) _ _ _;have j2c:J2 n k3:=S2.ext (S2.ext (S2.ext j2 b1.extBut (Pj n4) (Pj m2.1)) b2.extBut n10 (Pj m2.2.2.2.1)) b3.extBut n9 (Pj m2.2.2.1);refine O5 (S2.nx n _ _ _ _ y j2c ey λ k4 j2d b4=>Pf ?_);have pO4:IsPair k4 to x b:=b4.extBut _ _ n9 pO3;refine O5 (Q1 pO4 rfl ?_);refine O5 (Tj pO4 λ k5 pO5 b5=>?_);replace pO5:IsPair k5 to x y:=pO5;refine O5 (UD (Pf (Pf ?_)));refine O5 (Q1 pO5 rfl ?_);refine O5 (wpAny_newTuple ?_);have sz:k5.objs.size=s.heap.objs.size:=by rw[b5.1,b4.1,b3.1,b2.1,b1.1]
 have Z5:IsZip k5 z ti to .ellipsis:=b5.extBut _ _ (Pj n2) (b4.extBut _ _ (Pj n4) (b3.extBut _ _ (Pj n2) (b2.extBut _ _ (Pj n3) Z1)));have kp5:∀c o,c≠z->c≠to->c≠t1->c≠t2->s.heap.get? c=some o->k5.get? c=some o:=λ c o c1 c2 c3 c4 e=>b5.extBut _ _ c2 (b4.extBut _ _ c4 (b3.extBut _ _ c2 (b2.extBut _ _ c3 (b1.extBut _ _ c1 e))));have j1e:J1 (n+1) k5:=S1.ext (S1.ext (S1.ext j1b b3.extBut n8 (Pj m1.2.2.1)) b4.extBut (Pj n10) (Pj m1.2.2.2.2)) b5.extBut n8 (Pj m1.2.2.1);have j2e:J2 (n+1) k5:=S2.ext j2d b5.extBut n9 (Pj m2.2.2.1);have ltz:z<k5.objs.size:=Pm Z5;show wpAny _ _ (Builtin.SmallTypes.ownedTupleHandOut (.ref z) (.ref k5.objs.size) >>= _) _ _ _;refine O5 ?_;unfold Builtin.SmallTypes.ownedTupleHandOut;have Z6:IsZip (k5.push {cls:= .type "tuple",data:= .seq #[x,y]}) z ti to .ellipsis:=Pa _ Z5;refine O5 (Rt Z6 (by simp) λ k7 Z7 b7=>?_);replace Z7:IsZip k7 z ti to (rawInt k5.objs.size):=Z7;refine Rt Z7 (by simp) λ k8 Z8 b8=>?_;replace Z8:IsZip k8 z ti to (rawInt k5.objs.size):=Z8;have up:∀c o,c≠z->k5.get? c=some o->k8.get? c=some o:=λ c o c1 e=>b8.extBut _ _ c1 (b7.extBut _ _ c1 (Pa _ e));have pT:IsPair k8 k5.objs.size x y:=b8.extBut _ _ (RM ltz) (b7.extBut _ _ (RM ltz) (Pt _ rfl));have sz8:k8.objs.size=k5.objs.size+1:=by rw[b8.1,b7.1,QE]
 rw[sz]at Z8 pT sz8;refine Pf ⟨_,rfl,?_⟩;show Q (.ref k5.objs.size) _;rw[sz];refine q k8 Z8 (up _ _ n2 pO5) (S1.fr _ _ _ j1e λ b hb o e=>up b o ?_ e) (S2.fr _ _ _ j2e λ b hb o e=>up b o ?_ e) pT sz8 λ c o c1 c2 c3 c4 e=>up c o c1 (kp5 c o c1 c2 c3 c4 e)
 . rcases hb with rfl|rfl
   . exact n3
   . exact m1.1
 . rcases hb with rfl|rfl
   . exact n4
   . exact m2.1
theorem Ex{A:Around}{s:Shared}{E:Value->Shared->Prop}{J1 J2:Nat->Heap->Prop}{us vs:Array Value}{n:Nat}{a b:Value}{Q:Fin->Shared->Prop}(hh:A.handled=none)(D:zf z ti to t1 t2 a1 a2)(S1:Src P w t1 a1 J1 us)(S2:Src P w t2 a2 J2 vs)
 (Z:IsZip s.heap z ti to .none) (pI:IsPair s.heap ti (.ref t1) (.ref t2)) (pO:IsPair s.heap to a b) (j1:J1 n s.heap) (j2:J2 n s.heap) (he:us[n]?=none\/vs[n]?=none)
 (q:∀k e,(∀c o,c≠z->c≠to->c≠t1->c≠t2->s.heap.get? c=some o->k.get? c=some o)->(∃o,k.get? e=some o/\o.cls= .type "StopIteration")->E (.ref e) {s with heap:=k}):
 wpAny (model P w) A (Builtin.«zip.__next__» ⟨[.ref z],[]⟩) Q E s:=by
 obtain⟨⟨n1,n2,n3,n4⟩,⟨n5,n6,n7⟩,⟨n8,n9⟩,n10⟩:=D.n;have m1:=D.a1;have m2:=D.a2;simp only[Px,Sg,PR,QA,R6]at m1 m2;show wpAny _ _ (field (.ref z) 2 >>= _) _ _ _;refine O5 (QF Z rfl (x:= .bool false) rfl ?_);show wpAny _ _ (field (.ref z) 3 >>= _) _ _ _;refine O5 (QF Z rfl (x:= .ref ti) rfl ?_);refine O5 (Q1 pI rfl ?_);show wpAny _ _ (Builtin.SmallTypes.ownedTupleIsFree (.ref z) >>= _) _ _ _;refine O5 ?_;unfold Builtin.SmallTypes.ownedTupleIsFree;refine O5 (QF Z rfl (x:= .none) rfl (Pf ?_));simp only[Rg];refine O5 (SD ?_);refine O5 (QF Z rfl (x:= .ref to) rfl ?_);refine O5 (Rt Z (by simp) λ k1 Z1 b1=>?_);replace Z1:IsZip k1 z ti to .ellipsis:=Z1;refine O5 ?_;simp only[List.zipIdx_cons,List.zipIdx_nil,Uu,UQ];refine O5 (O5 (TX ?_));show wpAny _ _ (Builtin.SmallTypes.nextOf (.ref t1) >>= _) _ _ _;have j1a:J1 n k1:=S1.ext j1 b1.extBut (Pj n3) (Pj m1.1);cases ex:us[n]? with
 |none=>
  refine O5 (S1.en n _ _ _ _ hh j1a ex λ k2 e b2 hx=>?_);obtain⟨oe,he1,he2⟩:=hx;have Z2:IsZip k2 z ti to .ellipsis:=b2 _ _ (Pj n3) Z1;have hez:e≠z:=λ c=>by subst c;rw[Z2]at he1;cases he1;simp at he2
  refine Rt Z2 (by simp) λ k3 _ b3=>q k3 e (λ c o c1 _ c3 _ f=>b3.extBut _ _ c1 (b2 _ _ c3 (b1.extBut _ _ c1 f))) ⟨oe,b3.extBut _ _ hez he1,he2⟩
 |some x=>
  have ey:vs[n]?=none:=by
   rcases he with h|h
   . rw[ex]at h;cases h
   . exact h
  refine O5 (S1.nx n _ _ _ _ x j1a ex λ k2 j1b b2=>Pf ?_);have pO2:IsPair k2 to a b:=b2.extBut _ _ n8 (b1.extBut _ _ n2 pO);refine O5 (Q1 pO2 rfl ?_);refine O5 (Tj pO2 λ k3 pO3 b3=>?_);refine O5 (UD (Pf ?_));refine O5 (O5 (TX ?_));show wpAny _ _ (Builtin.SmallTypes.nextOf (.ref t2) >>= _) _ _ _;have j2c:J2 n k3:=S2.ext (S2.ext (S2.ext j2 b1.extBut (Pj n4) (Pj m2.1)) b2.extBut n10 (Pj m2.2.2.2.1)) b3.extBut n9 (Pj m2.2.2.1);refine O5 (S2.en n _ _ _ _ hh j2c ey λ k4 e b4 hx=>?_);obtain⟨oe,he1,he2⟩:=hx;have Z4:IsZip k4 z ti to .ellipsis:=b4 _ _ (Pj n4) (b3.extBut _ _ (Pj n2) (b2.extBut _ _ (Pj n3) Z1));have hez:e≠z:=λ c=>by subst c;rw[Z4]at he1;cases he1;simp at he2
  refine Rt Z4 (by simp) λ k5 _ b5=>q k5 e (λ c o c1 c2 c3 c4 f=>b5.extBut _ _ c1 (b4 _ _ c4 (b3.extBut _ _ c2 (b2.extBut _ _ c3 (b1.extBut _ _ c1 f))))) ⟨oe,b5.extBut _ _ hez he1,he2⟩
end
end
theorem Gy{X:Cx}{pins:List (Addr×Obj)}{σ:L2.St}{H:Hp}{s:Shared}{g:Heap}{tk:Nat}{fp:List Addr}{T:Addr}{xs:List V}(I:Inv X pins σ H s)(hf:∀b∈fp,iH X pins H b)
 (k:∀b o,b∉fp->s.heap.get? b=some o->g.get? b=some o) (hT:s.heap.objs.size<=T) (new:cw X.prog X.w (upd H T (.tup xs)) g T (.tup xs)):Inv X pins σ (upd H T (.tup xs)) {s with heap:=g,toks:=tk}:=by
 have hn:H T=none:=I.aC.fresh hT;have nfp:∀b u,H b=some u->b∉fp:=λ b u e z=>by rw[(hf b z).1]at e;cases e
 have nT:∀b u,H b=some u->b≠T:=λ b u e=>cF e hn
 refine I.step (g':=s.gens) (d':=s.drawn) (ch:=fp) (λ b hb=>?_) (λ b o _ _ hc e _=>k b o hc e) (λ b o _ _ hc e _=>⟨o.slots,k b o hc e⟩) (λ b o _ e n=>?_) (λ b o hc e=>⟨o,k b o hc e⟩)
  (λ b ys e=>by rw[au (nT b _ e)];exact e) (λ b o u e=>by rw[au (nT b _ e)];exact e) (λ b ps e=>⟨#[],by rw[au (nT b _ e),e];simp⟩) (λ m hm=>?_) (λ b u e=>?_) I.bare
 . obtain⟨f0,f1,f2,f3,f4,f5⟩:=hf b hb;exact⟨f3,f1,f4,f5⟩
 . rw[au (PB (Pu (Pm e) hT))];exact n
 . obtain⟨o,es,ep,ho,r⟩:=hm;exact⟨o,es,ep,k _ o (λ z=>(hf _ z).2.1 rfl) ho,r⟩
 . by_cases hb:b=T
   . subst hb;rw[aG]at e;cases e;exact new
   . rw[au hb]at e;refine(I.aC b u e).lO (λ c v hc q=>k c v ?_ q) (λ c q=>by rw[au (nT c _ q)];exact q) λ c ys q=>by rw[au (nT c _ q)];exact q
     rcases hc with z|z
     . rw[z];exact nfp b u e
     . exact nfp c _ z
theorem Fw{X:Cx}{pins:List (Addr×Obj)}{σ:L2.St}{H:Hp}{s:Shared}{g:Heap}{tk:Nat}{fp:List Addr}(I:Inv X pins σ H s)(hf:∀b∈fp,iH X pins H b)
 (k:∀b o,b∉fp->s.heap.get? b=some o->g.get? b=some o):Inv X pins σ H {s with heap:=g,toks:=tk}:=by
 have nfp:∀b u,H b=some u->b∉fp:=λ b u e z=>by rw[(hf b z).1]at e;cases e
 refine I.step (g':=s.gens) (d':=s.drawn) (ch:=fp) (λ b hb=>?_) (λ b o _ _ hc e _=>k b o hc e) (λ b o _ _ hc e _=>⟨o.slots,k b o hc e⟩) (λ b o _ e n=>n) (λ b o hc e=>⟨o,k b o hc e⟩)
  (λ b ys e=>e) (λ b o u e=>e) (λ b ps e=>⟨#[],by rw[e];simp⟩) (λ m hm=>?_) (λ b u e=>?_) I.bare
 . obtain⟨f0,f1,f2,f3,f4,f5⟩:=hf b hb;exact⟨f3,f1,f4,f5⟩
 . obtain⟨o,es,ep,ho,r⟩:=hm;exact⟨o,es,ep,k _ o (λ z=>(hf _ z).2.1 rfl) ho,r⟩
 . refine(I.aC b u e).lO (λ c v hc q=>k c v ?_ q) (λ c q=>q) λ c ys q=>q;rcases hc with z|z
   . rw[z];exact nfp b u e
   . exact nfp c _ z
inductive SK where
 |l|t
def lV(k:SK)(K:PySem.W.Frag)(H:Hp)(a:Addr)(xs:List V):Prop:=match k with
 | .l=>i_ K H a xs
 | .t=>fZ K H a xs
def m7(k:SK)(t a:Addr)(n:Nat)(g:Heap):Prop:=match k with
 | .l=>g.IsListIter t a n
 | .t=>g.IsTupleIter t a n
def iD(k:SK)(g:Heap)(a:Addr)(us:Array Value):Prop:=match k with
 | .l=>g.IsList a us
 | .t=>g.IsTuple a us
def xh(k:SK)(a:Addr):Obj:=match k with
 | .l=>{cls:= .type "list_iterator",data:= .fields #[.ref a,.int 0 0]}
 | .t=>{cls:= .type "tuple_iterator",data:= .fields #[.ref a,.int 0 0]}
theorem jM{P:Program}{w:World}(k:SK)(t a:Addr)(hne:a≠t)(us:Array Value):Src P w t a (λ n g=>m7 k t a n g/\iD k g a us) us:=by
 cases k
 . exact src_list t a hne us
 . exact Iy t a hne us
theorem ip{X:Cx}{pins:List (Addr×Obj)}{σ:L2.St}{H:Hp}{s:Shared}{k:SK}{a:Addr}{xs:List V}(I:Inv X pins σ H s)(h:lV k X.K H a xs):∃its:List Value,Vals xs its/\iD k s.heap a its.toArray:=by
 cases k
 . obtain⟨its,rv,p,_⟩:=I.list h;exact⟨its,rv,p.isList⟩
 . obtain⟨its,rv,p,_⟩:=I.tuple h;exact⟨its,rv,p⟩
theorem sW{X:Cx}{pins:List (Addr×Obj)}{σ:L2.St}{H:Hp}{s:Shared}{k:SK}{a:Addr}{xs ys:List V}(I:Inv X pins σ H s)(h:lV k X.K H a xs)(h':lV k X.K H a ys):xs=ys:=by
 cases k
 . exact I.we h h'
 . exact I.uG h h'
theorem C3{P:Program}{w:World}{A:Around}{s:Shared}{E:Value->Shared->Prop}{k:SK}{a:Addr}{us:Array Value}{Q:Value->Shared->Prop}(h:iD k s.heap a us)(q:Q (.ref s.heap.objs.size) {s with heap:=s.heap.push (xh k a)}):wpAny (model P w) A (pyIter (.ref a)) Q E s:=by
 cases k
 . exact R9 h q
 . exact Rr h q
theorem iD.push{k:SK}{g:Heap}{a:Addr}{us:Array Value}(h:iD k g a us)(o:Obj):iD k (g.push o) a us:=by
 cases k
 . obtain⟨o',e,r⟩:=h;exact⟨o',Pa _ e,r⟩
 . obtain⟨o',e,r⟩:=h;exact⟨o',Pa _ e,r⟩
theorem iD.some{k:SK}{g:Heap}{a:Addr}{us:Array Value}(h:iD k g a us):∃o,g.get? a=Option.some o:=by
 cases k
 . obtain⟨o',e,r⟩:=h;exact⟨o',e⟩
 . obtain⟨o',e,r⟩:=h;exact⟨o',e⟩
theorem yU{k:SK}{g h:Heap}{t a:Addr}(e:g.get? t=Option.some (xh k a)):m7 k t a 0 g:=by
 cases k
 . exact⟨_,e,rfl,rfl⟩
 . exact⟨_,e,rfl,rfl⟩
theorem l_{k:SK}{t a:Addr}{n:Nat}{g g':Heap}(h:m7 k t a n g)(kp:∀o,g.get? t=Option.some o->g'.get? t=Option.some o):m7 k t a n g':=by
 cases k
 . obtain⟨o,e,r⟩:=h;exact⟨o,kp o e,r⟩
 . obtain⟨o,e,r⟩:=h;exact⟨o,kp o e,r⟩
theorem j5{k:SK}{t a:Addr}{n:Nat}{g:Heap}(h:m7 k t a n g):∃o,g.get? t=Option.some o/\∀v,o.data≠ .cell v:=by
 cases k
 . obtain⟨o,e,c,d⟩:=h;exact⟨o,e,λ v z=>by rw[d]at z;cases z⟩
 . obtain⟨o,e,c,d⟩:=h;exact⟨o,e,λ v z=>by rw[d]at z;cases z⟩
def Nz(K:PySem.W.Frag)(k1 k2:SK)(a1 a2:Addr):It:=
 ⟨λ i H=>∃xs ys x y,lV k1 K H a1 xs/\lV k2 K H a2 ys/\xs[i]?=some x/\ys[i]?=some y,
  λ i H v H'=>∃T x y,H T=none/\v= .ref T/\H'=upd H T (.tup [x,y])/\(∀xs,lV k1 K H a1 xs->xs[i]?=some x)/\∀ys,lV k2 K H a2 ys->ys[i]?=some y,
  λ i H=>∃xs ys,lV k1 K H a1 xs/\lV k2 K H a2 ys/\(xs.length<=i\/ys.length<=i)⟩
def Ml(z ti to t1 t2 a1 a2:Addr)(k1 k2:SK)(i:Nat)(h:Heap):Prop:=IsZip h z ti to .none/\IsPair h ti (.ref t1) (.ref t2)/\(∃a b,IsPair h to a b)/\m7 k1 t1 a1 i h/\m7 k2 t2 a2 i h
theorem D7{P:Program}{w:World}{K:PySem.W.Frag}{elts:List Expr}{kx:Nat}{pos:Pos}{z ti to t1 t2 a1 a2:Addr}(k1 k2:SK)(D:zf z ti to t1 t2 a1 a2):
 Turn P w K (.Tuple elts kx pos) (Nz K k1 k2 a1 a2) [z,ti,to,t1,t2] z (Ml z ti to t1 t2 a1 a2 k1 k2) where
 mem:=by simp
 obj:=λ i h st b hb=>by
  obtain⟨Z,pI,⟨a,b',pO⟩,i1,i2⟩:=st;simp only[Px,PR,R0]at hb;rcases hb with rfl|rfl|rfl|rfl|rfl
  . exact⟨_,Z,λ v e=>by cases e⟩
  . exact⟨_,pI,λ v e=>by cases e⟩
  . exact⟨_,pO,λ v e=>by cases e⟩
  . exact j5 i1
  . exact j5 i2
 keep:=λ i h h' st k=>by
  obtain⟨Z,pI,⟨a,b',pO⟩,i1,i2⟩:=st;exact⟨k z (by simp) _ Z,k ti (by simp) _ pI,⟨a,b',k to (by simp) _ pO⟩,l_ i1 (k t1 (by simp)),l_ i2 (k t2 (by simp))⟩
 item:=by
  intro X hP hw hK hc i pins s σ H E I hf st hg;subst hP hw hK;obtain⟨Z,pI,⟨a,b',pO⟩,i1,i2⟩:=st;obtain⟨xs,ys,x,y,q1,q2,ex,ey⟩:=hg;obtain⟨us,r1,l1⟩:=ip I q1;obtain⟨vs,r2,l2⟩:=ip I q2;obtain⟨u,eu,ru⟩:=r1.get ex;obtain⟨v,ev,rv⟩:=r2.get ey;have m1:=D.a1;have m2:=D.a2;simp only[Px,Sg,PR,QA,R6]at m1 m2;obtain⟨⟨n1,n2,n3,n4⟩,⟨n5,n6,n7⟩,⟨n8,n9⟩,n10⟩:=D.n;have tz:s.TypeIs (.ref z) "zip":=⟨_,Z,rfl⟩
  unfold pyNext;refine O5 (TY (QQ (name:=Str.ofString "__next__") tz To (Rk To tz F.entry_zip_next (BE D (jM k1 t1 a1 m1.2.2.2.1 us.toArray) (jM k2 t2 a2 m2.2.2.2.2 vs.toArray) Z pI pO ⟨i1,l1⟩ ⟨i2,l2⟩ (x:=u) (y:=v) (by simpa using eu) (by simpa using ev) λ k Z2 pO2 j1 j2 pT szk kp=>Pf ⟨_,rfl,?_⟩) (F.args_zip_next_1 _))));refine wpAny_letOwnedTupleGo_zip (s:={s with heap:=k}) Z2 λ k' Z3 b3=>?_;have hT:s.heap.objs.size≠z:=RM (Pm Z)
  have kp3:∀b o,b∉[z,ti,to,t1,t2]->s.heap.get? b=some o->k'.get? b=some o:=λ b o hb e=>by
   simp only[Px,Sg,PR,QA,R6]at hb;exact b3.extBut _ _ hb.1 (kp b o hb.1 hb.2.2.1 hb.2.2.2.1 hb.2.2.2.2 e)
  refine⟨.ref s.heap.objs.size,upd H s.heap.objs.size (.tup [x,y]),Gy (s:=s) (tk:=s.toks) I hf kp3 (O9 _) ?_,rfl,⟨s.heap.objs.size,x,y,I.aC.fresh (O9 _),rfl,rfl,?_,?_⟩,?_,?_⟩
  . refine⟨Pz rfl,[u,v],.cons ru (.cons rv .nil),?_⟩;exact⟨_,b3.extBut _ _ hT pT,rfl,_,rfl⟩
  . intro xs' q';rw[sW I q' q1];exact ex
  . intro ys' q';rw[sW I q' q2];exact ey
  . refine⟨Z3,b3.extBut _ _ n1 (kp _ _ n1 n5 n6 n7 pI),⟨_,_,b3.extBut _ _ n2 pO2⟩,l_ j1.1 λ o e=>b3.extBut _ _ n3 e,l_ j2.1 λ o e=>b3.extBut _ _ n4 e⟩
  . intro b hb
    have:b≠s.heap.objs.size:=by
     obtain⟨o,e,_⟩:∃o,s.heap.get? b=some o/\True:=by
      simp only[Px,PR,R0]at hb;rcases hb with rfl|rfl|rfl|rfl|rfl
      . exact⟨_,Z,trivial⟩
      . exact⟨_,pI,trivial⟩
      . exact⟨_,pO,trivial⟩
      . obtain⟨o,e,_⟩:=j5 i1;exact⟨o,e,trivial⟩
      . obtain⟨o,e,_⟩:=j5 i2;exact⟨o,e,trivial⟩
     exact PB (Pm e)
    rw[au this];exact(hf b hb).1
 done:=by
  intro X hP hw hK hc i pins s σ H E I hf st hg;subst hP hw hK;obtain⟨Z,pI,⟨a,b',pO⟩,i1,i2⟩:=st;obtain⟨xs,ys,q1,q2,he⟩:=hg;obtain⟨us,r1,l1⟩:=ip I q1;obtain⟨vs,r2,l2⟩:=ip I q2;have e1:=r1.length;have e2:=r2.length;have m1:=D.a1;have m2:=D.a2;simp only[Px,Sg,PR,QA,R6]at m1 m2;have tz:s.TypeIs (.ref z) "zip":=⟨_,Z,rfl⟩
  unfold pyNext;refine O5 (TY (QQ (name:=Str.ofString "__next__") tz To (Rk To tz F.entry_zip_next (Ex (I.ok.hd hc) D (jM k1 t1 a1 m1.2.2.2.1 us.toArray) (jM k2 t2 a2 m2.2.2.2.2 vs.toArray) Z pI pO ⟨i1,l1⟩ ⟨i2,l2⟩ ?_ λ k e kp hx=>?_) (F.args_zip_next_1 _))))
  . rcases he with h|h
    . left;simp;omega
    . right;simp;omega
  . obtain⟨o,ho,hc2⟩:=hx;refine O5 (wpAny_isInstance (T:="StopIteration") (b:=true) ⟨o,ho,hc2⟩ isSubtype_stop ?_);refine Pf ⟨rfl,Fw (s:=s) (tk:=s.toks) I hf λ b o hb e=>?_⟩;simp only[Px,Sg,PR,QA,R6]at hb;exact kp b o hb.1 hb.2.2.1 hb.2.2.2.1 hb.2.2.2.2 e
 self:=λ _ _ _ _ _ st h=>wpAny_pyIter_zip st.1 h
abbrev Fg(h:Heap)(k1:SK)(a1:Addr):Heap:=h.push (xh k1 a1)
abbrev Gf(h:Heap)(k1 k2:SK)(a1 a2:Addr):Heap:=(Fg h k1 a1).push (xh k2 a2)
abbrev FP(h:Heap)(k1 k2:SK)(a1 a2:Addr):Heap:=(Gf h k1 k2 a1 a2).push {cls:= .type "tuple",data:= .seq #[.ref h.objs.size,.ref (Fg h k1 a1).objs.size]}
abbrev Gm(h:Heap)(k1 k2:SK)(a1 a2:Addr):Heap:=(FP h k1 k2 a1 a2).push {cls:= .type "tuple",data:= .seq #[.none,.none]}
abbrev zj(h:Heap)(k1 k2:SK)(a1 a2:Addr):Heap:=(Gm h k1 k2 a1 a2).push {cls:= .type "zip",data:= .fields #[.none,.bool false,.bool false,.ref (Gf h k1 k2 a1 a2).objs.size,.ref (FP h k1 k2 a1 a2).objs.size]}
theorem CU(k1 k2:SK)(a1 a2:Addr)(us vs:Array Value):Meets (Builtin.«zip.__new__» ⟨[.type "zip",.ref a1,.ref a2],[]⟩) (λ _ R s=>iD k1 s.heap a1 us/\iD k2 s.heap a2 vs/\
 R (.ok (.ret (.ref (Gm s.heap k1 k2 a1 a2).objs.size))) {s with heap:=zj s.heap k1 k2 a1 a2}):=
 .of_wp λ P w A R s h=>by
  obtain⟨hp,g,d,tk,os⟩:=s;obtain⟨c1,c2,h⟩:=h;have hsub:=sub_zip;have L1:iD k1 (Shared.heap ⟨hp,g,d,tk,os⟩) a1 us:=c1;have L2:iD k2 (Shared.heap ⟨hp.push (xh k1 a1),g,d,tk,os⟩) a2 vs:=iD.push c2 _
  wp_walk using C3 L1,C3 L2
  exact⟨_,rfl,h⟩
theorem Eu{P:Program}{w:World}{A:Around}{s:Shared}{E:Value->Shared->Prop}{k1 k2:SK}{a1 a2:Addr}{us vs:Array Value}{Q:Value->Shared->Prop}(c1:iD k1 s.heap a1 us)(c2:iD k2 s.heap a2 vs)
 (q:∀g n,n=s.heap.objs.size->IsZip g (n+4) (n+2) (n+3) .none->IsPair g (n+2) (.ref n) (.ref (n+1))->IsPair g (n+3) .none .none->m7 k1 n a1 0 g->m7 k2 (n+1) a2 0 g->(∀c o,s.heap.get? c=some o->g.get? c=some o)->Q (.ref (n+4)) {s with heap:=g}):
 wpAny (model P w) A (call (.type "zip") [.ref a1,.ref a2]) Q E s:=by
 refine callType_new F.called_zip (by decide) (F.typeCall_zip_2 _ _) (F.newCall_zip_2 _ _) (λ ob=>F.args_object_init_3 ob _ _) F.entry_zip_new (CU k1 k2 a1 a2 us vs) ⟨c1,c2,?_⟩;have y1:(Fg s.heap k1 a1).objs.size=s.heap.objs.size+1:=QE ..;have y2:(Gf s.heap k1 k2 a1 a2).objs.size=s.heap.objs.size+2:=by rw[QE,y1]
 have y3:(FP s.heap k1 k2 a1 a2).objs.size=s.heap.objs.size+3:=by rw[QE,y2]
 have y4:(Gm s.heap k1 k2 a1 a2).objs.size=s.heap.objs.size+4:=by rw[QE,y3]
 have e5:(zj s.heap k1 k2 a1 a2).get? (Gm s.heap k1 k2 a1 a2).objs.size=some _:=Pt _ rfl;have e4:(zj s.heap k1 k2 a1 a2).get? (FP s.heap k1 k2 a1 a2).objs.size=some _:=Pa _ (Pt _ rfl);have e3:(zj s.heap k1 k2 a1 a2).get? (Gf s.heap k1 k2 a1 a2).objs.size=some _:=Pa _ (Pa _ (Pt _ rfl));have e2:(zj s.heap k1 k2 a1 a2).get? (Fg s.heap k1 a1).objs.size=some (xh k2 a2):=Pa _ (Pa _ (Pa _ (Pt _ (by cases k2<;>rfl))));have e1:(zj s.heap k1 k2 a1 a2).get? s.heap.objs.size=some (xh k1 a1):=Pa _ (Pa _ (Pa _ (Pa _ (Pt _ (by cases k1<;>rfl)))));show _/\_;rw[y2,y3,y4]at e5;rw[y1,y2]at e3;rw[y3]at e4;rw[y1]at e2;rw[y4];exact⟨⟨_,e5,rfl⟩,q _ _ rfl e5 e3 e4 (yU (h:=s.heap) e1) (yU (h:=s.heap) e2) λ c o x=>Pa _ (Pa _ (Pa _ (Pa _ (Pa _ x))))⟩
def Gr:D->SK
 | .tup _=> .t
 |_=> .l
def Bg(k:SK)(G:Hp)(a:Addr)(vs:List V):Prop:=match k with
 | .l=>Rd G a (.lst vs)
 | .t=>G a=some (.tup vs)
theorem gK{K:PySem.W.Frag}{k:SK}{G F H:Hp}(P:bw G F H){a:Addr}{vs:List V}(h:Bg k G a vs):lV k K H a vs:=by
 cases k
 . exact .inl (eK P h)
 . exact fZ.of (P.get h)
theorem j4{α:List (Option Addr)}{H:Hp}{st:ae}{d:D}{v:V}{xs:List D}(S:aD α st H)(r:Rep α H d v)(e:items? st d=some xs):∃p vs,v= .ref p/\aB α H xs vs/\Bg (Gr d) H p vs:=by
 cases d<;>try(cases e;done)
 . unfold items? at e;simp only at e;split at e
   . rename_i ys q;cases e;obtain⟨a,ea,vs,h1,h2⟩:=S.d6 q;exact⟨a,vs,bY ea r,h2,Rd.of h1⟩
   . cases e
 . cases e;unfold Rep at r;obtain⟨a,vs,rfl,_,h1,h2⟩:=r;exact⟨a,vs,rfl,h2,h1⟩
 . cases e;unfold Rep at r;obtain⟨a,vs,rfl,_,h1,h2⟩:=r;exact⟨a,vs,rfl,h2,h1⟩
def eL(xs ys:List D):List D:=(xs.zip ys).map λ p=> .tup [p.1,p.2]
theorem qE{xs ys:List D}:(eL xs ys).length=min xs.length ys.length:=by unfold eL;simp
theorem qx{xs ys:List D}{n:Nat}{d:D}(e:(eL xs ys)[n]?=some d):∃x y,xs[n]?=some x/\ys[n]?=some y/\d= .tup [x,y]:=by
 unfold eL at e;rw[PD]at e;cases q:(xs.zip ys)[n]? with
 |none=>rw[q]at e;cases e
 |some p=>
  rw[q]at e;cases e;rw[List.getElem?_zip_eq_some]at q;exact⟨p.1,p.2,q.1,q.2,rfl⟩
theorem K0{K:PySem.W.Frag}{k1 k2:SK}{a1 a2:Addr}{α:List (Option Addr)}{G:Hp}{ok:ae->Prop}{xs ys:List D}
 (h:∀α' G' st',Step α G α' G'->aD α' st' G'->ok st'->∃vs ws,Bg k1 G' a1 vs/\Bg k2 G' a2 ws/\aB α' G' xs vs/\aB α' G' ys ws):sS (Nz K k1 k2 a1 a2) α G ok (eL xs ys) where
 stop:=λ n α' G' F' H' st' s P S o hn=>by
  obtain⟨vs,ws,h1,h2,r1,r2⟩:=h α' G' st' s S o;rw[qE]at hn;refine⟨vs,ws,gK P h1,gK P h2,?_⟩;have:=r1.length;have:=r2.length;omega
 go:=λ n d α' G' F' H' st' s P S o hn=>by
  obtain⟨vs,ws,h1,h2,r1,r2⟩:=h α' G' st' s S o;obtain⟨x,y,ex,ey,rfl⟩:=qx hn;obtain⟨v,ev,_⟩:=r1.get ex;obtain⟨u,eu,_⟩:=r2.get ey;exact⟨vs,ws,v,u,gK P h1,gK P h2,ev,eu⟩
 l9:=λ n d α' G' F' H' st' x H'' s P S o hn y=>by
  obtain⟨vs,ws,h1,h2,r1,r2⟩:=h α' G' st' s S o;obtain⟨c,e,ec,ee,rfl⟩:=qx hn;obtain⟨T,v,u,hT,rfl,rfl,y1,y2⟩:=y;obtain⟨v',ev,rv⟩:=r1.get ec;obtain⟨u',eu,ru⟩:=r2.get ee;rw[y1 vs (gK P h1)]at ev;rw[y2 ws (gK P h2)]at eu;cases ev;cases eu;have hg:=(P.none hT).1;refine⟨upd G' T (.tup [v,u]),Step.laid hg,P.laid hT,S.laid hg,?_⟩;unfold Rep;refine⟨T,[v,u],rfl,S.iq hg,aG,?_⟩;unfold aB;refine⟨v,[u],rfl,rv.step (Step.laid hg),?_⟩;unfold aB;exact⟨u,[],rfl,ru.step (Step.laid hg),by unfold aB;rfl⟩
def EG(ds:List D)(st1:ae)(K:List D->(ae->Prop)->ae->Prop):Prop:=match ds with
 | [x,y]=>(match items? st1 x,items? st1 y with
   |some xs,some ys=>K (eL xs ys) (λ st'=>items? st' x=some xs/\items? st' y=some ys) st1
   |_,_=>False)
 |_=>False
@[irreducible] def qX:List D->ae->(List D->(ae->Prop)->ae->Prop)->Prop:=EG
def qk(t:DA):DI:=λ σ st K=>t σ st λ ds st1=>qX ds st1 K
theorem Iu{n a1 a2:Nat}(h1:a1<n)(h2:a2<n):zf (n+4) (n+2) (n+3) n (n+1) a1 a2:=by
 have e0:([n+4,n+2,n+3,n,n+1]:List Nat).Nodup:=by
  simp only[RC,Px,Sg,PR,QA,R6,List.nodup_nil];omega
 have e1:∀a:Nat,a<n->a∉([n+4,n+2,n+3,n,n+1]:List Nat):=λ a ha=>by
  simp only[Px,Sg,PR,QA,R6];omega
 exact⟨e0,e1 a1 h1,e1 a2 h2⟩
theorem Js{X:Cx}{a b:Expr}{elts:List Expr}{kx:Nat}{tpos p pos:Pos}{t:DA}(hg:Gl X "zip")(hm:X.mg "zip"=none)(ha:PA X [a,b] (LA t))(hs:starEach [a,b] X.env=[(false,eval a X.env),(false,eval b X.env)])(hs2:starEach [b] X.env=[(false,eval b X.env)]):
 PI X (.Tuple elts kx tpos) (.Call (.Name "zip" p) [a,b] [] pos) (LI (qk t)):=by
 intro pins s σ H R I h;obtain⟨α,σd,st,K,G,F,P,RS,S,t,k⟩:=h;refine Call_ (je I hg hm boot_zip (Q5 (bz (ha pos pins s σ H (λ vs H1=>∃ds α1 G1 st1,Step α G α1 G1/\bw G1 F H1/\aD α1 st1 G1/\aB α1 G1 ds vs/\qX ds st1 K) I ⟨α,σd,st,_,G,F,P,RS,S,t,λ ds st1 q α1 G1 H1 vs s1 P1 S1 r1=>⟨ds,α1,G1,st1,s1,P1,S1,r1,q⟩⟩) λ us s1 ⟨vs,H1,I1,rv,ds,α1,G1,st1,w1,P1,S1,r1,q⟩=>?_) (by rw[hs,hs2]) (by rw[hs2];rfl)));unfold qX EG at q;split at q
 . rename_i x y;split at q
   . rename_i xs ys ex ey;obtain⟨v1,v2,rfl,q1,q2⟩:=jJ r1 rfl;obtain⟨p1,vs1,rfl,g1,c1⟩:=j4 S1 q1 ex;obtain⟨p2,vs2,rfl,g2,c2⟩:=j4 S1 q2 ey;obtain⟨u1,u2,rfl,ru1,ru2⟩:=vals2 rv;cases ru1;cases ru2;obtain⟨its1,_,l1⟩:=ip I1 (gK P1 c1);obtain⟨its2,_,l2⟩:=ip I1 (gK P1 c2);refine Eu l1 l2 λ g n hn Z pI pO i1 i2 kp=>?_;obtain⟨o1,eo1⟩:=l1.some;obtain⟨o2,eo2⟩:=l2.some;refine wpAny_pyIter_zip (s:={s1 with heap:=g}) Z ?_;refine⟨n+4,[n+4,n+2,n+3,n,n+1],_,_,H1,rfl,I1.kept (t':=s1.toks) kp,D7 (Gr x) (Gr y) (Iu (by rw[hn];exact Pm eo1) (by rw[hn];exact Pm eo2)),⟨Z,pI,⟨_,_,pO⟩,i1,i2⟩,λ b hb=>?_,?_⟩
     . have hb':s1.heap.objs.size<=b:=by
        simp only[Px,PR,R0]at hb;rcases hb with rfl|rfl|rfl|rfl|rfl<;>(rw[<-hn];first|exact O9 _|exact Sf _ _)
       exact I1.sL hb' (I1.aC.fresh hb')
     . refine k _ _ st1 q _ α1 G1 H1 w1 P1 S1 (K0 λ α' G' st' s' S' o=>?_);obtain⟨p1',ws1,e1,f1,d1⟩:=j4 S' (q1.step s') o.1;obtain⟨p2',ws2,e2,f2,d2⟩:=j4 S' (q2.step s') o.2;cases e1;cases e2;exact⟨ws1,ws2,d1,d2,f1,f2⟩
   . exact q.elim
 . exact q.elim
theorem oo{st:ae}{x y:D}{xs ys:List D}{K:List D->(ae->Prop)->ae->Prop}(ex:items? st x=some xs)(ey:items? st y=some ys)(k:∀ok:ae->Prop,(∀st',items? st' x=some xs->items? st' y=some ys->ok st')->K (eL xs ys) ok st):qX [x,y] st K:=by
 unfold qX EG;simp only[ex,ey];exact k _ λ st' h1 h2=>⟨h1,h2⟩
theorem u6{X:Cx}{a b:Expr}{elts:List Expr}{kx:Nat}{tpos p pos:Pos}{ar:DA}(hg:Gl X "zip")(hm:X.mg "zip"=none)(ha:JA X [a,b] ar)(hs:notStar a=true:=by rfl)(hs2:notStar b=true:=by rfl):JI X (.Tuple elts kx tpos) (.Call (.Name "zip" p) [a,b] [] pos) (qk ar):=by
 unfold JI;unfold JA at ha;exact Js hg hm ha (by rw[aY hs,aY hs2];rfl) (aY hs2)
theorem wm(f:Nat->Int):∀n,preSum f (n+1)=f 0+preSum (λ i=>f (i+1)) n
 |0=>by show preSum f 0+f 0=f 0+0;show(0:Int)+f 0=f 0+0;omega
 |n+1=>by
  have h:=wm f n;show preSum f (n+1)+f (n+1)=f 0+(preSum (λ i=>f (i+1)) n+f (n+1));rw[h];omega
theorem zw:∀ns:List Int,preSum (λ i=>ns.getD i 0) ns.length=ns.sum
 | []=>rfl
 |n::ns=>by
  rw[P7,wm];have:(λ i=>(n::ns).getD (i+1) 0)=λ i=>ns.getD i 0:=by funext i;simp
  rw[this,zw ns,List.sum_cons];rfl
section
variable {X:Cx}
def vc:dw:=λ ds st K=>match ds with| [.lst xs]=>(match gO xs with|some ns=>K (.int ns.sum) st|none=>False)|_=>False
theorem jn:∀ {ns:List Int} {us:List Value},Vals (ns.map V.int) us->∀(i:Nat) (u:Value),us[i]?=some u->∃t,u=Value.int (ns.getD i 0) t
 | [],_,.nil,i,u,e=>by simp at e
 |n::ns,_,.cons h t,0,u,e=>by
  obtain⟨tk,rfl⟩:=h;simp at e;exact⟨tk,by rw[<-e];rfl⟩
 |n::ns,_,.cons h t,i+1,u,e=>by
  obtain⟨tk,q⟩:=jn t i u (by simpa using e);exact⟨tk,by rw[q];simp⟩
theorem LH(hc:X.calm=true):aZ X (.builtin "sum") (dY vc):=λ pins s σ H xs us Q I rs ⟨α,ds,st,K,G,F',P,r,S,q,k⟩=>by
 unfold vc at q;split at q
 . rename_i ys;split at q
   . rename_i ns e;obtain⟨v,rfl,r1⟩:=eH r rfl;unfold Rep at r1;obtain⟨a,vs,rfl,na,h1,h2⟩:=r1;obtain⟨u,rfl,ru⟩:=vals1 rs;cases ru;have hv:=nK h2 e;subst hv;obtain⟨z,its,n,rv,hl,eo⟩:=Inv.qf I (eK P h1);have isL:s.heap.IsList a its.toArray:=⟨_,eo,rfl,n,rfl⟩
     refine call_sum_walkAnyB (R9 isL ?_);have hne:a≠s.heap.objs.size:=PB (Pm eo);refine⟨s.heap.objs.size,_,_,_,_,_,_,λ i=>ns.getD i 0,rfl,(Walks.list (A:=X.A.in1) (I.ok.hd hc) _ a hne its.toArray).toS,⟨⟨_,Pt _ rfl,rfl,rfl⟩,⟨_,Pa _ eo,rfl,n,rfl⟩⟩,?_,?_,?_⟩
     . intro b hb;rw[QE];simp only[Px,PR,R0]at hb;rcases hb with rfl|rfl
       . exact PL _
       . exact P0 (Pm eo)
     . intro i w hw;obtain⟨t,e⟩:=jn rv i w (by simpa using hw);exact .inl ⟨t,e⟩
     . intro s' t' hm
       have kp:∀b o,s.heap.get? b=some o->s'.heap.get? b=some o:=λ b o q=>hm.heap b o (by
        intro hb;have:b=s.heap.objs.size:=by simpa using hb
        exact absurd (Pm q) (by rw[this];exact QC _)) (Pa _ q)
       have es:s'= {s with heap:=s'.heap,toks:=s'.toks}:=by
        have g:=hm.gens;have d:=hm.drawn;have o:=hm.os;cases s';cases s
        simp_all
       have en:preSum (λ i=>ns.getD i 0) its.toArray.size=ns.sum:=by
        have:its.toArray.size=ns.length:=by rw[Ph,<-hl,O8]
        rw[this];exact zw ns
       rw[en,es];exact⟨.int ns.sum,H,I.kept (t':=s'.toks) kp,⟨t',rfl⟩,k.here P q S (by unfold Rep;rfl)⟩
   . exact q.elim
 . exact q.elim
@[irreducible] def qO:dw:=vc
theorem Ft(hc:X.calm=true):aZ X (.builtin "sum") (dY qO):=by unfold qO;exact LH hc
end
theorem ints_map:∀ns:List Int,gO (ns.map D.int)=some ns
 | []=>rfl
 |n::ns=>by simp[gO,ints_map ns]
theorem Dm{st:ae}{K:DK}{xs:List D}{ns:List Int}(h:gO xs=some ns)(k:K (.int ns.sum) st):qO [.lst xs] st K:=by unfold qO vc;simp only[h];exact k
section
variable {X:Cx}{pos:Pos}
end
end L3
namespace L3
open PySem L2 PySem.SeqAt
open PySem.Spec hiding items?
open PyProof.Rows hiding St
section
variable {X:Cx}{pins:List (Addr×Obj)}{σ:L2.St}{H:Hp}{s:Shared}{α:List (Option Addr)}
end
theorem nQ{st:ae}{n:Nat}{xs:List D}(h:items? st (.ref n)=some xs):st[n]?=some (.lst xs):=by
 unfold items? at h;simp only at h;split at h
 . rename_i q;cases h;exact q
 . cases h
theorem mr{st:ae}{d:D}{xs:List D}{K:List D->(ae->Prop)->ae->Prop}(h:items? st d=some xs)(k:∀ok:ae->Prop,(∀st',items? st' d=some xs->ok st')->K xs ok st):lz d st K:=by
 cases d with
 |lst ys=>cases h;exact Hw (k _ λ _ _=>trivial)
 |tup ys=>cases h;exact gh (k _ λ _ _=>trivial)
 |ref n=>
  have e:=nQ h;unfold lz tI;simp only[e];exact k _ λ st' h'=>nQ h'
 |_=>cases h
theorem mT{env:Env}:∀(l:List (Str×NameKind)) (x:Str),(l.lookup x=some .cell\/l.lookup x=some .free)->
 ((l.map λ(n,k)=>if(k== .free&&env.scope.kind== .function&&env.kindOf n==some .cell)then(n,.cell)else(n,k)).lookup x=some .cell\/(l.map λ(n,k)=>if(k== .free&&env.scope.kind== .function&&env.kindOf n==some .cell)then(n,.cell)else(n,k)).lookup x=some .free)
 | [],x,h=>by simp at h
 |(n,k)::l,x,h=>by
  rw[Qj];dsimp only;by_cases hx:x=n
  . subst hx;rw[SX]at h;split
    . rw[SX];exact .inl rfl
    . rw[SX];exact h
  . have hb:(x==n)=false:=by simpa using hx
    have e1:List.lookup x ((n,k)::l)=List.lookup x l:=by rw[Qd,hb]
    rw[e1]at h;have ih:=mT (env:=env) l x h;split
    . rw[Qd,hb];exact ih
    . rw[Qd,hb];exact ih
theorem bN.A9{X0:Cx}{scope0 scope:Scope}{Nc0 Nc:List Str}{C:Addr}{s:Shared}{H:Hp}{ex:List Addr}{fr:List (Option Nat)}(h:gH scope0 Nc0 scope Nc fr=true):bN (a7 X0 scope0 Nc0 C s H ex) scope Nc fr:=by
 unfold gH at h;simp only[Qk]at h;obtain⟨⟨⟨⟨⟨h1,h2⟩,h3⟩,h4⟩,h5⟩,h6⟩:=h;refine⟨by simpa using h1,λ x hx hk=>?_,λ x hx hk=>?_,λ x hx hk=>?_,by simpa using h5,λ i j x e1 e2=>?_⟩
 . have:=Qe.mp h2 x hx;rw[hk]at this;simpa using this
 . have:=Qe.mp h3 x hx;rw[hk]at this;simpa using this
 . have:=Qe.mp h4 x hx;rw[hk]at this;have z:scope0.names.lookup x.1=some .cell\/scope0.names.lookup x.1=some .free:=by simpa using this
   exact mT _ _ z
 . have hi:i<fr.length:=(O6.mp e2).1;have:=Qe.mp h6 i (QD.mpr hi);rw[e1,e2]at this;simp only[Qk,Ti,QV]at this;exact⟨this.1.1,this.1.2,mT _ _ this.2⟩
end L3
namespace L3
open PySem L2
open PySem.Spec hiding items?
open PyProof.Rows hiding St
section
variable {X:Cx}
end
theorem CQ{n:Nat}{d:D}(h:d∈cA 0 n):∃i:Nat,i<n/\d= .int (i:Int):=by
 unfold cA at h;obtain⟨i,hi,rfl⟩:=Qa.mp h;rw[QD]at hi;exact⟨i,hi,by rw[Su]⟩
theorem Cc{f:Nat->D}(n:Nat):(cA 0 n).map (λ d=>match d with| .int i=>f i.toNat|_=> .aq)=(List.range n).map f:=by
 unfold cA;rw[Qb];refine Qy λ i _=>?_;show f ((0:Int)+(i:Int)).toNat=f i;have:((0:Int)+(i:Int)).toNat=i:=by omega
 rw[this]
theorem ij{tg:dJ}{te:DE}{σc:bf}{st:ae}{K:List D->ae->Prop}(f:Nat->D)(n:Nat)(hx:∀i:Nat,i<n->∀K',K' (f i) st->∃σ2,tg (.int (i:Int)) σc=some σ2/\te σ2 st K')(k:K ((List.range n).map f) st):cp tg bM te (λ _=>True) σc (cA 0 n) [] st K:=by
 refine comp_map (g:=λ d=>match d with| .int i=>f i.toNat|_=> .aq) trivial _ (λ d hd K' q=>?_) (by rw[Cc];exact k);obtain⟨i,hi,rfl⟩:=CQ hd;exact hx i hi K' q
theorem et{tg:dJ}{body:DS}{E:iZ}(n:Nat)(I:Nat->bf->ae->Prop)(hend:∀σ st,I n σ st->E.nx σ st)
 (hstep:∀(j:Nat) σ st (rest:List D),j<n->I j σ st->(∀σ' st',I (j+1) σ' st'->fD tg body (λ _=>True) E rest σ' st')->∃σ1,tg (.int (j:Int)) σ=some σ1/\body {E with nx:=fD tg body (λ _=>True) E rest,ct:=fD tg body (λ _=>True) E rest,bk:=E.nx} σ1 st)
 {σ:bf} {st:ae} (h0:I 0 σ st):fD tg body (λ _=>True) E (cA 0 n) σ st:=by
 refine gq (λ rest σ st=>∃j:Nat,j<=n/\rest=(List.range (n-j)).map (λ i=>D.int (((j+i:Nat):Int)))/\I j σ st) ?_ ?_ _ _ _ ⟨0,Po _,by unfold cA;simp,h0⟩
 . rintro σ st ⟨j,hj,hr,hI⟩
   have:n-j=0:=by
    cases q:n-j with
    |zero=>rfl
    |succ m=>rw[q,Qg]at hr;cases hr
   have hjn:j=n:=by omega
   subst hjn;exact⟨trivial,hend σ st hI⟩
 . rintro d rest σ st ⟨j,hj,hr,hI⟩ next
   cases q:n-j with
   |zero=>rw[q]at hr;cases hr
   |succ m=>
    rw[q,Qg,Qj,Qb]at hr;simp only[RX]at hr;obtain⟨rfl,hrest⟩:=hr;refine⟨trivial,hstep j σ st rest (by omega) hI λ σ' st' h'=>next σ' st' ⟨j+1,by omega,?_,h'⟩⟩;have:n-(j+1)=m:=by omega
    rw[this,hrest];refine Qy λ i _=>?_;show D.int (((j+(i+1):Nat):Int))=D.int (((j+1+i:Nat):Int));congr 2;omega
abbrev DM:=Nat->List D->ae->DK->Prop
def LiftM(r:DM)(rM:V->List V->Hp->VK->Prop):Prop:=∀(α:List (Option Addr)) (G F H:Hp) (st:ae) (K:DK) (Q:VK) (n:Nat) (a:Addr) (ds:List D) (ws:List V),bw G F H->aD α st G->α[n]?=some (some a)->aB α G ds ws->r n ds st K->LK α G F K Q->rM (.ref a) ws H Q
@[irreducible] def gR(r:DM)(to:DE)(ta:DA):DE:=λ σ st K=>to σ st λ x st1=>match x with
 | .ref n=>(match st1[n]? with|some (.lst _)=>ta σ st1 λ ds st2=>(∃xs,st2[n]?=some (.lst xs))/\r n ds st2 K|_=>False)
 |_=>False
section
variable {X:Cx}
theorem LE.NK{r:DM}{rM:V->List V->Hp->VK->Prop}(L:LiftM r rM){to:DE}{ta:DA}{σ:L2.St}{H:Hp}{Q:VK}(h:LE (gR r to ta) σ H Q):Kw X.K "list" rM (LE to) (LA ta) σ H Q:=by
 obtain⟨α,σd,st,K,G,F,P,R,S,t,k⟩:=h;unfold gR at t;refine⟨α,σd,st,_,G,F,P,R,S,t,λ x st1 q α1 G1 H1 v s1 P1 S1 r1=>?_⟩;cases x<;>try exact q.elim
 rename_i n;simp only at q;split at q
 . rename_i ys e;obtain⟨p,ep,vs,h1,h2⟩:=S1.d6 e;have r1':=bY ep r1;subst r1';refine⟨.inl ⟨rfl,vs,.inl (.of (P1.get h1))⟩,α1,σd,st1,_,G1,F,P1,R.step s1,S1,q,?_⟩;rintro ds st2 ⟨⟨xs,e2⟩,q2⟩ α2 G2 H2 ws s2 P2 S2 r2;obtain⟨p2,ep2,_⟩:=S2.d6 e2
   have:p2=p:=by
    rcases s2.pre _ _ ep with z|z<;>(rw[z]at ep2;cases ep2)
    rfl
   subst this;exact L α2 G2 F H2 st2 K Q n p2 ds ws P2 S2 ep2 r2 q2 ((k.at s1).at s2)
 . exact q.elim
theorem CH{r:DM}{rM:V->List V->Hp->VK->Prop}{name:Str}{id:String}(L:LiftM r rM)(slot:Slot "list" name id)(hty:typeOf (.builtin id)=pure (.type "method_descriptor"))(hm:Le X id rM){o e:Expr}{es:List Expr}{to:DE}{ta:DA}{apos cpos:Pos}(ho:PE X o (LE to))(ha:PA X (e::es) (LA ta))
 (hbase:attributeBase o name X.env (eval o X.env)=eval o X.env) (hfew:((backTo cpos (starEach (e::es) X.env)).all (λ x=> !x.1)&&(backToKw cpos (keywordEach [] X.env)).all (λ x=>x.1.isSome)
   &&decide ((e::es).length+([]:List Keyword).length+(if([]:List Keyword).isEmpty then 0 else 1)<30))=true)
 (hline:(apos.endLine==cpos.line)=true) (hs:starEach (e::es) X.env=(false,eval e X.env)::starEach es X.env) (hplain:(backTo cpos (starEach es X.env)).any (·.1)=false):PE X (.Call (.Attribute o name apos) (e::es) [] cpos) (LE (gR r to ta)):=
 PE.imp (F3 Ut slot hty hm ho ha hbase hfew hline hs hplain) λ _ _ _ h=>LE.NK L h
end
abbrev ur:=D->bf->ae->(bf->ae->Prop)->Prop
inductive JH(t:ur)(v:V)(σ:L2.St)(H:Hp)(Q:L2.St->Hp->Prop):Prop
 |mk (α:List (Option Addr)) (σd:bf) (st:ae) (d:D) (K:bf->ae->Prop) (G F:Hp) (P:bw G F H) (R:cQ α G σd σ) (S:aD α st G) (r:Rep α G d v) (h:t d σd st K) (k:LC α G F K Q):JH t v σ H Q
def xt(t:ur):TG:=JH t
def kO(to ti:DE):ur:=λ d σ st K=>to σ st λ x st1=>ti σ st1 λ y st2=>qM x y d st2 λ st3=>K σ st3
section
variable {X:Cx}{pos:Pos}
theorem Dz{tg:Expr}{to ti:DE}(h:PG X tg (xm (LE to) (LE ti) qV)):PG X tg (xt (kO to ti)):=PG.imp h λ v σ H Q ⟨α,σd,st,d,K,G,F,P,R,S,r,q,k⟩=>by
 unfold kO qM at q;refine⟨α,σd,st,_,G,F,P,R,S,q,λ x st2 q2 α2 G2 H2 v2 s2 P2 S2 r2=>?_⟩;refine⟨α2,σd,st2,_,G2,F,P2,R.step s2,S2,q2,λ y st3 q3 α3 G3 H3 v3 s3 P3 S3 r3=>?_⟩;cases x<;>cases y<;>try exact q3.elim
 rename_i n kk;unfold wj at q3;simp only at q3;split at q3
 . rename_i xs e;split at q3
   . rename_i j ej;obtain⟨p,ep,vs,hv,rv⟩:=S3.d6 e;have r2':=bY ep (r2.step s3);subst r2';unfold Rep at r3;have hm:some p∈α3:=PM ep;have rd:=(r.step s2).step s3;refine⟨p,vs,kk,j,rfl,r3,P3.get hv,by rw[<-rv.length];exact ej,?_⟩;refine((k.at s2).at s3) σd _ q3 α3 (upd G3 p (.lst (vs.set j v))) _ σ (Step.write hm) (P3.write hv) (((R.step s2).step s3).step (Step.write hm)) ?_;exact S3.write ep ⟨vs.set j v,aG,(aM.mpr (mM rd j (aM.mp rv))).step (Step.write hm)⟩
   . exact q3.elim
 . exact q3.elim
def oB(t u:ur):ur:=λ d σ st K=>match d with| .tup [x,y]=>t x σ st λ σ1 st1=>u y σ1 st1 K|_=>False
theorem G_{a b:Expr}{kx:Nat}{t u:ur}(hc:X.calm=true)(ha:PG X a (xt t))(hb:PG X b (xt u))(hn:(assignEach [a,b] X.env).length=2)(hst:(assignEach [a,b] X.env).findIdx? (·.1)=none)(hs1:C5 X [a,b] (rl (xt t) (rl (xt u) EL))):
 PG X (.Tuple [a,b] kx pos) (xt (oB t u)):=PG.imp (BW hc hs1 hn hst) λ v σ H Q ⟨α,σd,st,d,K,G,F,P,R,S,r,q,k⟩=>by
 unfold oB at q;split at q
 . rename_i x y;unfold Rep at r;obtain⟨p,vs,rfl,na,h1,h2⟩:=r;obtain⟨v1,v2,rfl,r1,r2⟩:=jJ h2 rfl;refine⟨p,_,rfl,.of (P.get h1),rfl,v1,_,rfl,α,σd,st,x,_,G,F,P,R,S,r1,q,λ σ1 st1 q1 α1 G1 H1 σ1' s1 P1 R1 S1=>?_⟩;refine⟨v2,_,rfl,α1,σ1,st1,y,_,G1,F,P1,R1,S1,r2.step s1,q1,λ σ2 st2 q2 α2 G2 H2 σ2' s2 P2 R2 S2=>?_⟩;exact⟨rfl,((k.at s1).at s2).here P2 q2 R2 S2⟩
 . exact q.elim
def u9(t:ur)(te:DE):DS:=λ E σ st=>te σ st λ d st1=>t d σ st1 E.nx
theorem Hi{s:Stmt}{te:DE}{t:ur}(h:PS X s (ju (LE te) (xt t))):PS X s (LS (u9 t te)):=PS.imp h λ D σ H ⟨α,σd,st,DD,G,F,P,R,S,q,k⟩=>
 ⟨α,σd,st,_,G,F,P,R,S,q,λ d st1 q1 α1 G1 H1 v s1 P1 S1 r1=>⟨α1,σd,st1,d,DD.nx,G1,F,P1,R.step s1,S1,r1,q1,k.nx.at s1⟩⟩
theorem Iv{o1 i1 o2 i2 e:Expr}{kx:Nat}{p1 p2 tp:Pos}{to1 ti1 to2 ti2 te:DE}(ho1:JE X o1 to1)(hi1:JE X i1 ti1)(ho2:JE X o2 to2)(hi2:JE X i2 ti2)(he:JE X e te)(hc:X.calm=true:=by rfl)
 (hs:swapsWithSole [.Tuple [.Subscript o1 i1 p1,.Subscript o2 i2 p2] kx tp] e pos.line X.env=pure false:=by rfl) (hw:swappedStores [.Tuple [.Subscript o1 i1 p1,.Subscript o2 i2 p2] kx tp] e X.env=pure none:=by rfl)
 (h1:(assignEach [.Tuple [.Subscript o1 i1 p1,.Subscript o2 i2 p2] kx tp] X.env).map (·.2)=[assign (.Tuple [.Subscript o1 i1 p1,.Subscript o2 i2 p2] kx tp) X.env]:=by rfl) (hn:(assignEach [.Subscript o1 i1 p1,.Subscript o2 i2 p2] X.env).length=2:=by rfl) (hst:(assignEach [.Subscript o1 i1 p1,.Subscript o2 i2 p2] X.env).findIdx? (·.1)=none:=by rfl)
 (ha1:∀v,assign (.Subscript o1 i1 p1) X.env v=(do
   let ov <-holding [v] (eval o1 X.env)
   let iv <-holding [v,ov] (eval i1 X.env)
   standAt p1
   holding [v,ov,iv] (setItem ov iv v)
   release [v,ov,iv] []):=by intro _;rfl) (ha2:∀v,assign (.Subscript o2 i2 p2) X.env v=(do
   let ov <-holding [v] (eval o2 X.env)
   let iv <-holding [v,ov] (eval i2 X.env)
   standAt p2
   holding [v,ov,iv] (setItem ov iv v)
   release [v,ov,iv] []):=by intro _;rfl):
 JS X (.Assign [.Tuple [.Subscript o1 i1 p1,.Subscript o2 i2 p2] kx tp] e pos) (u9 (oB (kO to1 ti1) (kO to2 ti2)) te):=by
 unfold JS;unfold JE at*;have g1:=Dz (wB ho1 hi1 set_list ha1);have g2:=Dz (wB ho2 hi2 set_list ha2);exact Hi (xS he (G_ hc g1 g2 hn hst (mV g1 (mV g2 y6))) hs hw h1)
end
section
variable {X:Cx}
theorem tH{M:Model}{A:Around}{E:Value->Shared->Prop}{s:Shared}{Q:Value->Shared->Prop}{x:V}{v:Value}{b:Bool}(r:RelV x v)(h:Q (.bool (!(v== .bool b))) s):wpAny M A (compareOp .IsNot v (.bool b)) Q E s:=by
 cases x
 case bl c=>
  cases r;cases c<;>cases b<;>exact Pf h
 all_goals first
  |(cases r;exact Pf h)
  |(obtain⟨t,rfl⟩:=r;exact Pf h)
def xC:cG:=λ x y st K=>match y with| .aq=>live st x=true/\K (.bl (!KO x)) st| .bl b=>live st x=true/\K (.bl (!wD x b)) st|_=>False
theorem ES:bD X (compareOp .IsNot) (LR xC):=λ pins s σ H x y v u Q I rx ry ⟨α,d,e,st,K,G,F',P,r1,r2,S,q,k⟩=>by
 cases e<;>try exact q.elim
 . refine Hx pins s σ H x y v u Q I rx ry ⟨α,d,.aq,st,K,G,F',P,r1,r2,S,⟨q.1,?_⟩,k⟩;have q2:=q.2;cases d<;>exact q2
 . rename_i b;unfold Rep at r2;subst r2;cases ry;refine tH rx ?_;rw[zy S q.1 r1 rx];exact⟨.bl (!wD d b),H,I,rfl,k.here P q.2 S (by unfold Rep;rfl)⟩
@[irreducible] def rD:cG:=xC
theorem xp:bD X (compareOp .IsNot) (LR rD):=by unfold rD;exact ES
end
section
variable {st:ae}{K:DK}{d:D}{b:Bool}
theorem LY(h:live st d=true)(k:K (.bl (!wD d b)) st):rD d (.bl b) st K:=by unfold rD;exact⟨h,k⟩
end
section
variable {X:Cx}
end
end L3
namespace L3
open PySem L2
open PySem.Spec hiding items?
open PyProof.Rows hiding St
open AutoSeq1 (wpAny_loadPart')
theorem G9{P:Program}{w:World}{A:Around}(hh:A.handled=none)(k:SK)(t a:Addr)(hne:a≠t)(us:Array Value):Draws P w A t [t,a] us.size (λ i v=>us[i]?=some v) (λ n g=>m7 k t a n g/\iD k g a us) where
 live:=λ i h z=>((jM (P:=P) (w:=w) k t a hne us).lv i h z).1
 frame:=λ i h h' z kp=>(jM (P:=P) (w:=w) k t a hne us).fr i h h' z λ b hb o e=>kp b (by rcases hb with rfl|rfl<;>simp) o e
 item:=λ i s Q E hi z q=>(jM (P:=P) (w:=w) k t a hne us).nx i A s Q E us[i] z (by simp[hi]) λ g j sb=>q _ g s.toks (by simp[hi]) j sb
 done:=λ s Q E z q=>(jM (P:=P) (w:=w) k t a hne us).en us.size A s Q E hh z (by simp) q
theorem mN(l:Addr)(items:Array Value)(n:Nat)(dct:Option Addr)(sl:Array (Option Value)):
 Meets (Builtin.«enumerate.__new__» ⟨[.type "enumerate",.ref l],[]⟩) (λ _ R s=>s.heap.get? l=some {cls:= .type "tuple",dict:=dct,data:= .seq items n,slots:=sl}/\
  R (.ok (.ret (.ref (s.heap.push {cls:= .type "tuple_iterator",data:= .fields #[.ref l,.int 0 0]}).objs.size)))
   {s with heap:=(s.heap.push {cls:= .type "tuple_iterator",data:= .fields #[.ref l,.int 0 0]}).push {cls:= .type "enumerate",data:= .fields #[.none,.bool false,.ref s.heap.objs.size,rawInt 0,.none,.none]}}):=
 .of_wp λ prog w A R s h=>by
  obtain⟨hp,g,d,tk,os⟩:=s;obtain⟨hl,h⟩:=h;have hsub:=sub_enumerate;have hL:Heap.IsTuple (Shared.heap ⟨hp,g,d,tk,os⟩) l items:=⟨_,hl,rfl,n,rfl⟩
  wp_walk using wpAny_loadPart' hl
  refine wpAny_stack_any λ st=>Pf ?_;split
  . rename_i c _ _ _ _ _;cases (c==Value.type "enumerate")
    . wp_walk using wpAny_loadPart' hl,Rr hL
      exact⟨_,rfl,h⟩
    . wp_walk using wpAny_loadPart' hl,Rr hL
      exact⟨_,rfl,h⟩
  . wp_walk using wpAny_loadPart' hl,Rr hL
    exact⟨_,rfl,h⟩
theorem Cq{P:Program}{w:World}{A:Around}{s:Shared}{E:Value->Shared->Prop}{k:SK}{a:Addr}{us:Array Value}{Q:Value->Shared->Prop}(c:iD k s.heap a us)
 (q:∀g,IsEnum g (s.heap.objs.size+1) s.heap.objs.size 0 .none->m7 k s.heap.objs.size a 0 g->(∀b o,s.heap.get? b=some o->g.get? b=some o)->Q (.ref (s.heap.objs.size+1)) {s with heap:=g}):
 wpAny (model P w) A (call (.type "enumerate") [.ref a]) Q E s:=by
 cases k
 . exact call_enumerate_list c λ g h1 h2 _ h4=>q g h1 h2 h4
 . obtain⟨⟨c,dct,dt,sl⟩,hl,hc,n,hd⟩:=c;replace hc:c= .type "tuple":=hc;replace hd:dt= .seq us n:=hd;subst hc hd
   refine callType_new F.called_enumerate (by decide) (F.typeCall_enumerate_1 _) (F.newCall_enumerate_1 _) (λ obj=>F.args_object_init_2 obj _) F.entry_enumerate_new
    (mN a us n dct sl) ⟨hl,?_⟩
   have hz:(s.heap.push {cls:= .type "tuple_iterator",data:= .fields #[.ref a,.int 0 0]}).objs.size=s.heap.objs.size+1:=QE ..;show _/\_;rw[hz]
   have he:IsEnum ((s.heap.push {cls:= .type "tuple_iterator",data:= .fields #[.ref a,.int 0 0]}).push
    {cls:= .type "enumerate",data:= .fields #[.none,.bool false,.ref s.heap.objs.size,rawInt 0,.none,.none]}) (s.heap.objs.size+1) s.heap.objs.size 0 .none:=by
    have:=Pt (s.heap.push {cls:= .type "tuple_iterator",data:= .fields #[.ref a,.int 0 0]})
     (o:={cls:= .type "enumerate",data:= .fields #[.none,.bool false,.ref s.heap.objs.size,rawInt 0,.none,.none]}) rfl
    rw[hz]at this;exact this
   exact⟨⟨_,he,rfl⟩,q _ he ⟨_,Pa _ (Pt _ rfl),rfl,rfl⟩ λ b o x=>Pa _ (Pa _ x)⟩
def Nu(K:PySem.W.Frag)(k:SK)(a:Addr):It:=
 ⟨λ i H=>∃xs x,lV k K H a xs/\xs[i]?=some x,
  λ i H v H'=>∃T x,H T=none/\v= .ref T/\H'=upd H T (.tup [.int (i:Int),x])/\∀xs,lV k K H a xs->xs[i]?=some x,
  λ i H=>∃xs,lV k K H a xs/\xs.length<=i⟩
def Og(e t a:Addr)(k:SK)(i:Nat)(h:Heap):Prop:=(∃old,IsEnum h e t i old)/\m7 k t a i h
theorem Bz{P:Program}{w:World}{K:PySem.W.Frag}{elts:List Expr}{kx:Nat}{pos:Pos}{e t a:Addr}(k:SK)(n1:e≠t)(n2:a≠e)(n3:a≠t):
 Turn P w K (.Tuple elts kx pos) (Nu K k a) [e,t] e (Og e t a k) where
 mem:=by simp
 obj:=λ i h st b hb=>by
  obtain⟨⟨old,he⟩,i1⟩:=st;simp only[Px,PR,R0]at hb;rcases hb with rfl|rfl
  . exact⟨_,he,λ v z=>by cases z⟩
  . exact j5 i1
 keep:=λ i h h' st kp=>by
  obtain⟨⟨old,he⟩,i1⟩:=st;exact⟨⟨old,kp e (by simp) _ he⟩,l_ i1 (kp t (by simp))⟩
 item:=by
  intro X hP hw hK hc i pins s σ H E I hf st hg;subst hP hw hK;obtain⟨⟨old,he⟩,i1⟩:=st;obtain⟨xs,x,q1,ex⟩:=hg;obtain⟨us,r1,l1⟩:=ip I q1;obtain⟨u,eu,ru⟩:=r1.get ex
  have hlt:i<us.toArray.size:=by
   have:=(O6.mp eu).1;simpa using this
  refine wpAny_pyNext_enum_itemD (G9 (A:=X.A.in1) (show X.A.in1.handled=none from I.ok.hd hc) k t a n3 us.toArray) he ⟨i1,l1⟩ hlt n1 (by simp only[Px,PR,R0,Sg];exact⟨n1,Pj n2⟩) λ y h' tk py ho hs hT hsz kp=>⟨_,rfl,?_⟩
  have hy:y=u:=by
   have:us[i]?=some y:=by simpa using py
   rw[eu]at this;cases this;rfl
  subst hy;refine wpAny_letOwnedTupleGo_enum (s:={s with heap:=h',toks:=tk+1}) ho λ k' he' sb=>?_;have hTe:s.heap.objs.size≠e:=RM (Pm he)
  have kp3:∀b o,b∉[e,t]->s.heap.get? b=some o->k'.get? b=some o:=λ b o hb eb=>by
   simp only[Px,Sg,PR,QA,R6]at hb;exact sb.extBut _ _ hb.1 (kp b o hb.1 hb.2 eb)
  refine⟨.ref s.heap.objs.size,upd H s.heap.objs.size (.tup [.int (i:Int),x]),Gy (s:=s) (tk:=tk+1) I hf kp3 (O9 _) ?_,rfl,⟨s.heap.objs.size,x,I.aC.fresh (O9 _),rfl,rfl,?_⟩,?_,?_⟩
  . refine⟨Pz rfl,[.int (i:Int) tk,y],.cons ⟨tk,rfl⟩ (.cons ru .nil),?_⟩;exact⟨_,sb.extBut _ _ hTe hT,rfl,_,rfl⟩
  . intro xs' q';rw[sW I q' q1];exact ex
  . refine⟨⟨_,by simpa using he'⟩,l_ hs.1 λ o eo=>sb.extBut _ _ (Pj n1) eo⟩
  . intro b hb
    have:b≠s.heap.objs.size:=by
     obtain⟨o,eb⟩:∃o,s.heap.get? b=some o:=by
      simp only[Px,PR,R0]at hb;rcases hb with rfl|rfl
      . exact⟨_,he⟩
      . obtain⟨o,eo,_⟩:=j5 i1;exact⟨o,eo⟩
     exact PB (Pm eb)
    rw[au this];exact(hf b hb).1
 done:=by
  intro X hP hw hK hc i pins s σ H E I hf st hg;subst hP hw hK;obtain⟨⟨old,he⟩,i1⟩:=st;obtain⟨xs,q1,hle⟩:=hg;obtain⟨us,r1,l1⟩:=ip I q1;have e1:=r1.length;have tz:s.TypeIs (.ref e) "enumerate":=⟨_,he,rfl⟩
  unfold pyNext;refine O5 (TY (QQ (name:=Str.ofString "__next__") tz F.slot_enumerate_next (Rk F.slot_enumerate_next tz F.entry_enumerate_next ?_ (F.args_enumerate_next_1 _))));show wpAny _ _ (field (.ref e) 2 >>= _) _ _ _;refine O5 (QF he rfl (x:= .ref t) rfl ?_);refine O5 ((jM k t a n3 us.toArray).en i _ s _ _ (I.ok.hd hc) ⟨i1,l1⟩ (by simp;omega) λ g x sb hx=>?_);obtain⟨o,ho,hc2⟩:=hx;refine O5 (wpAny_isInstance (T:="StopIteration") (b:=true) ⟨o,ho,hc2⟩ isSubtype_stop ?_);refine Pf ⟨rfl,Fw (s:=s) (tk:=s.toks) I hf λ b o hb eb=>?_⟩;simp only[Px,Sg,PR,QA,R6]at hb;exact sb b o hb.2 eb
 self:=λ _ _ _ _ _ st h=>wpAny_pyIter_enum st.1.choose_spec h
def gN:Nat->List D->List D
 |_,[]=>[]
 |i,x::xs=> .tup [.int (i:Int),x]::gN (i+1) xs
theorem t9:∀ {xs:List D} {i:Nat},(gN i xs).length=xs.length
 | [],_=>rfl
 |_::xs,i=>by unfold gN;rw[P7,P7,t9]
theorem oy:∀ {xs:List D} {i n:Nat} {d:D},(gN i xs)[n]?=some d->∃x,xs[n]?=some x/\d= .tup [.int ((i+n:Nat):Int),x]
 | [],_,_,_,e=>by unfold gN at e;cases e
 |x::xs,i,0,d,e=>by
  unfold gN at e;rw[List.getElem?_cons_zero]at e;cases e;exact⟨x,rfl,rfl⟩
 |x::xs,i,n+1,d,e=>by
  unfold gN at e;rw[Ri]at e;obtain⟨y,h1,h2⟩:=oy e;refine⟨y,by rw[Ri];exact h1,?_⟩;rw[h2,show i+1+n=i+(n+1) by omega]
theorem GY{K:PySem.W.Frag}{k:SK}{a:Addr}{α:List (Option Addr)}{G:Hp}{ok:ae->Prop}{xs:List D}
 (h:∀α' G' st',Step α G α' G'->aD α' st' G'->ok st'->∃vs,Bg k G' a vs/\aB α' G' xs vs):sS (Nu K k a) α G ok (gN 0 xs) where
 stop:=λ n α' G' F' H' st' s P S o hn=>by
  obtain⟨vs,h1,r1⟩:=h α' G' st' s S o;rw[t9]at hn;refine⟨vs,gK P h1,?_⟩;have:=r1.length;omega
 go:=λ n d α' G' F' H' st' s P S o hn=>by
  obtain⟨vs,h1,r1⟩:=h α' G' st' s S o;obtain⟨x,ex,rfl⟩:=oy hn;obtain⟨v,ev,_⟩:=r1.get ex;exact⟨vs,v,gK P h1,ev⟩
 l9:=λ n d α' G' F' H' st' x H'' s P S o hn y=>by
  obtain⟨vs,h1,r1⟩:=h α' G' st' s S o;obtain⟨c,ec,rfl⟩:=oy hn;obtain⟨T,v,hT,rfl,rfl,y1⟩:=y;obtain⟨v',ev,rv⟩:=r1.get ec;rw[y1 vs (gK P h1)]at ev;cases ev;have hg:=(P.none hT).1;refine⟨upd G' T (.tup [.int (n:Int),v]),Step.laid hg,P.laid hT,S.laid hg,?_⟩;unfold Rep;refine⟨T,[.int (n:Int),v],rfl,S.iq hg,aG,?_⟩;unfold aB;refine⟨.int (n:Int),[v],rfl,?_,?_⟩
  . unfold Rep;rw[QW]
  unfold aB;exact⟨v,[],rfl,rv.step (Step.laid hg),by unfold aB;rfl⟩
def Ag(ds:List D)(st1:ae)(K:List D->(ae->Prop)->ae->Prop):Prop:=match ds with
 | [x]=>(match items? st1 x with
   |some xs=>K (gN 0 xs) (λ st'=>items? st' x=some xs) st1
   |_=>False)
 |_=>False
@[irreducible] def oa:List D->ae->(List D->(ae->Prop)->ae->Prop)->Prop:=Ag
def Av(t:DA):DI:=λ σ st K=>t σ st λ ds st1=>oa ds st1 K
theorem CB:bootBuiltins "enumerate"=some (.type "enumerate"):=by decide+kernel
theorem HM{X:Cx}{a:Expr}{elts:List Expr}{kx:Nat}{tpos p pos:Pos}{t:DA}(hg:Gl X "enumerate")(hm:X.mg "enumerate"=none)(ha:PA X [a] (LA t))(hs:starEach [a] X.env=[(false,eval a X.env)]):
 PI X (.Tuple elts kx tpos) (.Call (.Name "enumerate" p) [a] [] pos) (LI (Av t)):=by
 intro pins s σ H R I h;obtain⟨α,σd,st,K,G,F,P,RS,S,t,k⟩:=h;refine Call_ (je I hg hm CB (Q5 (bz (ha pos pins s σ H (λ vs H1=>∃ds α1 G1 st1,Step α G α1 G1/\bw G1 F H1/\aD α1 st1 G1/\aB α1 G1 ds vs/\oa ds st1 K) I ⟨α,σd,st,_,G,F,P,RS,S,t,λ ds st1 q α1 G1 H1 vs s1 P1 S1 r1=>⟨ds,α1,G1,st1,s1,P1,S1,r1,q⟩⟩) λ us s1 ⟨vs,H1,I1,rv,ds,α1,G1,st1,w1,P1,S1,r1,q⟩=>?_) (by rw[hs];rfl) (by rfl)));unfold oa Ag at q;split at q
 . rename_i x;split at q
   . rename_i xs ex;obtain⟨v1,rfl,q1⟩:=eH r1 rfl;obtain⟨p1,vs1,rfl,g1,c1⟩:=j4 S1 q1 ex;obtain⟨u1,rfl,ru1⟩:=vals1 rv;cases ru1;obtain⟨its1,_,l1⟩:=ip I1 (gK P1 c1);refine Cq l1 λ g he i1 kp=>?_;obtain⟨o1,eo1⟩:=l1.some;have hp1:p1<s1.heap.objs.size:=Pm eo1;refine wpAny_pyIter_enum (s:={s1 with heap:=g}) he ?_;refine⟨s1.heap.objs.size+1,[s1.heap.objs.size+1,s1.heap.objs.size],_,_,H1,rfl,I1.kept (t':=s1.toks) kp,Bz (Gr x) (RM (PL _)) (PB (P0 hp1)) (PB hp1),⟨⟨_,he⟩,i1⟩,λ b hb=>?_,?_⟩
     . have hb':s1.heap.objs.size<=b:=by
        simp only[Px,PR,R0]at hb;rcases hb with rfl|rfl
        . exact Si _
        . exact O9 _
       exact I1.sL hb' (I1.aC.fresh hb')
     . refine k _ _ st1 q _ α1 G1 H1 w1 P1 S1 (GY λ α' G' st' s' S' o=>?_);obtain⟨p1',ws1,e1,f1,d1⟩:=j4 S' (q1.step s') o;cases e1;exact⟨ws1,d1,f1⟩
   . exact q.elim
 . exact q.elim
theorem Ig{st:ae}{x:D}{xs:List D}{K:List D->(ae->Prop)->ae->Prop}(ex:items? st x=some xs)(k:∀ok:ae->Prop,(∀st',items? st' x=some xs->ok st')->K (gN 0 xs) ok st):oa [x] st K:=by
 unfold oa Ag;simp only[ex];exact k _ λ st' h1=>h1
theorem BH{X:Cx}{a:Expr}{elts:List Expr}{kx:Nat}{tpos p pos:Pos}{ar:DA}(hg:Gl X "enumerate")(hm:X.mg "enumerate"=none)(ha:JA X [a] ar)(hs:notStar a=true:=by rfl):JI X (.Tuple elts kx tpos) (.Call (.Name "enumerate" p) [a] [] pos) (Av ar):=by
 unfold JI;unfold JA at ha;exact HM hg hm ha (aY hs)
end L3
namespace L3
open PySem L2
open PySem.Spec hiding items?
open PyProof.Rows hiding St
section
variable {prog:Program}{w:World}{A:Around}{E:Value->Shared->Prop}{s:Shared}
end
section
variable {X:Cx}{tg:Expr}
end
theorem mZ{A B:Type}{F:A->B->Prop}{x:A}{y:B}(h:F x y):∀ {xs:List A} {ys:List B} (i:Nat),Paired F xs ys->Paired F (xs.take i++x::xs.drop i) (ys.take i++y::ys.drop i)
 |_,_,0,t=> .cons h t
 |_,_,i+1,.nil=>by simpa using(Paired.cons h .nil)
 |_,_,i+1,.cons r t=> .cons r (mZ h i t)
section
variable {X:Cx}
def KW:V->List V->Hp->VK->Prop:=λ x vs H Q=>∃(l:Addr) (xs:List V) (i:Int) (y:V),x= .ref l/\vs=[.int i,y]/\H l=some (.lst xs)/\0<=i/\i<2^62/\i.toNat<=xs.length/\xs.length<sizeLine/\Q .aq (upd H l (.lst (xs.take i.toNat++y::xs.drop i.toNat)))
theorem Hc{its:List Value}{i:Int}{u:Value}(h0:0<=i)(h:i.toNat<=its.length):(its.toArray.extract 0 (if i<0 then(i+(its.toArray.size:Int)).toNat else min i.toNat its.toArray.size)).push u++its.toArray.extract (if i<0 then(i+(its.toArray.size:Int)).toNat else min i.toNat its.toArray.size)=(its.take i.toNat++u::its.drop i.toNat).toArray:=by
 have hk:(if i<0 then(i+(its.toArray.size:Int)).toNat else min i.toNat its.toArray.size)=i.toNat:=by
  rw[O7 (by omega),Ph];omega
 rw[hk];exact PySem.W.kl_ins_eq its i.toNat u
theorem IH:IZ X "list.insert" KW:=by
 intro pins s σ H x vs v us Q I rx rv h;obtain⟨l,xs,i,y,rfl,rfl,hH,h0,h1,h2,hz,q⟩:=h;cases rx;obtain⟨u1,u2,rfl,ru1,ru2⟩:=vals2 rv;obtain⟨t,rfl⟩:=ru1;obtain⟨z,its,n,r,hl,e⟩:=I.ER hH;have fit:Builtin.List.listFitsIndex i=true:=fitsIndex_both (by omega) (by omega);have hsz:its.toArray.size<=sizeLine:=by rw[Ph,<-hl];exact z
 have hft:¬(!Builtin.List.listFitsIndex i)=true:=by rw[fit];exact PV
 have M:=AutoSeq1.list_insert_list_int_val_1 l its.toArray n i t u2 hft hsz;refine RV F.slot_list_insert ⟨_,e,rfl⟩ F.entry_list_insert (F.args_list_insert_3 _ _ _) M ⟨e,?_⟩;refine⟨.aq,_,I.w9 (its':=its.take i.toNat++u2::its.drop i.toNat) hH e (Hc h0 (by omega)) (mZ ru2 i.toNat r) ?_,rfl,q⟩;rw[Py,P7,P_,Qx];omega
def jF:DM:=λ n ds st K=>match ds with
 | [.int i,d]=>(match st[n]? with|some (.lst xs)=>(0<=i/\i<=xs.length/\i<2^62/\xs.length<sizeLine)/\K .aq (st.set n (.lst (xs.take i.toNat++d::xs.drop i.toNat)))|_=>False)
 |_=>False
theorem C0:LiftM jF KW:=by
 intro α G F H st K Q n a ds ws P S ea rs q k;unfold jF at q;split at q
 . rename_i i d;split at q
   . rename_i xs e;obtain⟨⟨h0,h1,h2,h3⟩,q⟩:=q;obtain⟨v,u,rfl,r1,r2⟩:=jJ rs rfl;unfold Rep at r1;subst r1;obtain⟨a',ea',vs,g1,g2⟩:=S.d6 e;rw[ea]at ea';cases ea';have hl:=g2.length;have hm:some a∈α:=PM ea;refine⟨a,vs,i,u,rfl,rfl,P.get g1,h0,h2,by omega,by omega,?_⟩;refine k .aq _ q α (upd G a (.lst (vs.take i.toNat++u::vs.drop i.toNat))) _ .aq (Step.write hm) (P.write g1) ?_ (by unfold Rep;rfl);exact S.write ea ⟨vs.take i.toNat++u::vs.drop i.toNat,aG,(aM.mpr (mZ r2 i.toNat (aM.mp g2))).step (Step.write hm)⟩
   . exact q.elim
 . exact q.elim
theorem FK{o e f:Expr}{to te tf:DE}{apos cpos:Pos}(ho:JE X o to)(he:JE X e te)(hf:JE X f tf)(hbase:attributeBase o "insert" X.env (eval o X.env)=eval o X.env:=by rfl)(hline:(apos.endLine==cpos.line)=true:=by rfl)(hs:notStar e=true:=by rfl)(hs2:notStar f=true:=by rfl):JE X (.Call (.Attribute o "insert" apos) [e,f] [] cpos) (gR jF to (ab te (ab tf af))):=by
 unfold JE at*;refine CH C0 PySem.F.slot_list_insert PySem.F.type_list_insert IH ho (jZ he (jZ hf om (aY hs2)) (aY hs)) hbase ?_ hline (aY hs) ?_
 . rw[aY hs,aY hs2];rfl
 . rw[aY hs2];rfl
end
end L3
namespace L3
open PySem L2
open PySem.Spec hiding items?
open PyProof.Rows hiding St
open PySem PySem.Spec L2 PySem.SeqAt
section
variable {X:Cx}
end
end L3
namespace L3
open PySem L2
open PySem.Spec hiding items?
open PyProof.Rows hiding St
section
variable {X:Cx}
end
section
variable {P:Program}{w:World}
section
variable {z ti to t1 t2 t3 a1 a2 a3:Addr}
end
end
section
variable {X:Cx}
end
end L3
namespace L3
open PySem L2
open PySem.Spec hiding items?
open PyProof.Rows hiding St
open Sem (wp)
section
variable {prog:Program}{w:World}{A:Around}{s:Shared}{E:Value->Shared->Prop}
end
section
variable {prog:Program}{w:World}{A:Around}{R:Result->Shared->Prop}{I:Addr}{fp wr:List Addr}{G:Array GenState->Array GenState->Prop}{n:Nat}{P:Nat->Value->Prop}{Sx:Nat->Shared->Prop}
end
section
variable {prog:Program}{w:World}{A:Around}{E:Value->Shared->Prop}{s:Shared}
end
section
variable {X:Cx}{pins:List (Addr×Obj)}{σ:L2.St}{H:Hp}{s:Shared}{α:List (Option Addr)}
end
end L3
namespace L3
open PySem L2
open PySem.Spec hiding items?
open PyProof.Rows hiding St
section
variable {X:Cx}
theorem range_any{α:Type}(l:List α)(f:α->Bool)(tr:Nat->Bool)(h:∀i x,l[i]?=some x->tr i=f x):(List.range l.length).any tr=l.any f:=by
 induction l generalizing tr with
 |nil=>rfl
 |cons a l ih=>
  rw[P7,Qg,TV,TV,List.any_map,h 0 a rfl];congr 1;exact ih (tr∘Nat.succ) λ i x e=>h (i+1) x (by simpa using e)
end
def putD(f:Str)(v:D):List (Str×D)->List (Str×D)
 | []=>[(f,v)]
 |(g,x)::r=>if g=f then(g,v)::r else(g,x)::putD f v r
theorem g4.look{α:List (Option Addr)}{H:Hp}{f:Str}{v:D}:∀ {fs:List (Str×D)} {vs:List (Str×V)},g4 α H fs vs->fs.lookup f=some v->∃u,vs.lookup f=some u/\Rep α H v u
 | [],_,_,e=>by cases e
 |(g,x)::fs,_,.cons (b:=q) h t,e=>by
  obtain⟨g',y⟩:=q;obtain⟨h1,h2⟩:=h;simp only at h1 h2;subst h1;rw[Qd]at e⊢;cases hb:f==g with
  |true=>rw[hb]at e;cases e;exact⟨y,rfl,h2⟩
  |false=>rw[hb]at e;exact g4.look t e
theorem g4.none{α:List (Option Addr)}{H:Hp}{f:Str}:∀ {fs:List (Str×D)} {vs:List (Str×V)},g4 α H fs vs->fs.lookup f=Option.none->vs.lookup f=Option.none
 | [],_,.nil,_=>rfl
 |(g,x)::fs,_,.cons (b:=q) h t,e=>by
  obtain⟨g',y⟩:=q;obtain⟨h1,h2⟩:=h;simp only at h1 h2;subst h1;rw[Qd]at e⊢;cases hb:f==g with
  |true=>rw[hb]at e;cases e
  |false=>rw[hb]at e;exact g4.none t e
theorem g4.put{α:List (Option Addr)}{H:Hp}{f:Str}{d:D}{v:V}(r:Rep α H d v):∀ {fs:List (Str×D)} {vs:List (Str×V)},g4 α H fs vs->g4 α H (putD f d fs) (eW f v vs)
 | [],_,.nil=> .cons ⟨rfl,r⟩ .nil
 |(g,x)::fs,_,.cons (b:=q) h t=>by
  obtain⟨g',y⟩:=q;obtain⟨h1,h2⟩:=h;simp only at h1 h2;subst h1;unfold putD eW;by_cases hb:g=f
  . rw[O_ hb,O_ hb];exact .cons ⟨rfl,r⟩ t
  . rw[O7 hb,O7 hb];exact .cons ⟨rfl,h2⟩ (g4.put r t)
def Er(C:Addr)(f:Str)(d:D)(st:ae)(K:DK):Prop:=match d with
 | .ref n=>(match st[n]? with|some (.ins C' fs)=>C'=C/\∃v,fs.lookup f=some v/\K v st|_=>False)
 |_=>False
@[irreducible] def Ar(C:Addr)(f:Str):D->ae->DK->Prop:=Er C f
def cS(C:Addr)(f:Str)(te:DE):DE:=λ σ st K=>te σ st λ d st1=>Ar C f d st1 K
theorem bS{C:Addr}{f:Str}{n:Nat}{st:ae}{K:DK}{fs:List (Str×D)}{v:D}(e:st[n]?=some (.ins C fs))(h:fs.lookup f=some v)(k:K v st):Ar C f (.ref n) st K:=by
 unfold Ar Er;simp only[e];exact⟨trivial,v,h,k⟩
def AX(C:Addr)(f:Str)(x d:D)(st:ae)(K:ae->Prop):Prop:=match x with
 | .ref n=>(match st[n]? with|some (.ins C' fs)=>C'=C/\fs.length<1000/\K (st.set n (.ins C (putD f d fs)))|_=>False)
 |_=>False
@[irreducible] def vq(C:Addr)(f:Str):D->D->ae->(ae->Prop)->Prop:=AX C f
def kM(C:Addr)(f:Str)(to te:DE):DS:=λ D σ st=>te σ st λ d st1=>to σ st1 λ x st2=>vq C f x d st2 λ st3=>D.nx σ st3
theorem jX{C:Addr}{f:Str}{n:Nat}{d:D}{st:ae}{K:ae->Prop}{fs:List (Str×D)}(e:st[n]?=some (.ins C fs))(h:fs.length<1000)(k:K (st.set n (.ins C (putD f d fs)))):vq C f (.ref n) d st K:=by
 unfold vq AX;simp only[e];exact⟨trivial,h,k⟩
def zK(C:Addr)(m:Str)(x:D)(st:ae)(k:Prop):Prop:=match x with
 | .ref n=>(match st[n]? with|some (.ins C' fs)=>C'=C/\fs.lookup m=none/\k|_=>False)
 |_=>False
@[irreducible] def vo(C:Addr)(m:Str):D->ae->Prop->Prop:=zK C m
theorem hZ{C:Addr}{m:Str}{n:Nat}{st:ae}{k:Prop}{fs:List (Str×D)}(e:st[n]?=some (.ins C fs))(h:fs.lookup m=none)(q:k):vo C m (.ref n) st k:=by
 unfold vo zK;simp only[e];exact⟨trivial,h,q⟩
def gB(C:Addr)(m:Str)(S:bR)(to:DE)(t:DA):DE:=λ σ st K=>to σ st λ x st1=>vo C m x st1 (t σ st1 λ ds st2=>S (x::ds) st2 K)
def Au(C:Addr)(S:bR)(t:DA):DE:=λ σ st K=>t σ st λ ds st1=>S (.ref st1.length::ds) (st1++[.ins C []]) λ r st2=>r= .aq/\K (.ref st1.length) st2
section
variable {X:Cx}{C f g:Addr}{fd:FuncData}{k:Nat}{x m fl:Str}{e o value:Expr}{es:List Expr}{p pos pos' apos:Pos}{te to:DE}{t:DA}{S:bR}{ps:List Str}
theorem L7(c:kq X.K C)(na:eJ X.K C fl)(he:PE X e (LE te))(hb:attributeBase e fl X.env (eval e X.env)=eval e X.env):PE X (.Attribute e fl pos) (LE (cS C fl te)):=PE.imp (Kv he hb) λ σ H Q ⟨α,σd,st,K,G,F,P,R,S,t,k⟩=>by
 refine⟨α,σd,st,_,G,F,P,R,S,t,λ d st1 q α1 G1 H1 v s1 P1 S1 r1=>?_⟩;unfold Ar Er at q;cases d<;>try exact q.elim
 simp only at q;split at q
 . rename_i C' fs e';obtain⟨rfl,w,hw,q⟩:=q;obtain⟨a,ea,dx,vs,h1,h2⟩:=S1.va e';have r1':=bY ea r1;subst r1';obtain⟨u,hu,ru⟩:=h2.look hw;exact⟨a,_,dx,vs,u,rfl,P1.get h1,c,na,hu,(k.at s1).here P1 q S1 ru⟩
 . exact q.elim
theorem KY(c:kq X.K C)(na:eJ X.K C fl)(ho:PE X o (LE to))(hv:PE X value (LE te))(hs:swapsWith value (some (.Attribute o fl pos')) pos.line X.env=pure false):PS X (.Assign [.Attribute o fl pos'] value pos) (LS (kM C fl to te)):=PS.imp (JP ho hv hs) λ D σ H ⟨α,σd,st,DD,G,F,P,R,S,t,k⟩=>by
 refine⟨α,σd,st,_,G,F,P,R,S,t,λ d st1 q α1 G1 H1 v s1 P1 S1 r1=>?_⟩;refine⟨α1,σd,st1,_,G1,F,P1,R.step s1,S1,q,λ x st2 q2 α2 G2 H2 v2 s2 P2 S2 r2=>?_⟩;unfold vq AX at q2;cases x<;>try exact q2.elim
 simp only at q2;split at q2
 . rename_i C' fs e';obtain⟨rfl,hl,q2⟩:=q2;obtain⟨a,ea,dx,vs,h1,h2⟩:=S2.va e';have r2':=bY ea r2;subst r2';have hm:some a∈α2:=PM ea;have lv:vs.length<1000:=by rw[<-h2.length];exact hl
   refine⟨a,_,dx,vs,rfl,P2.get h1,c,na,lv,?_⟩;refine((k.nx.at s1).at s2) σd _ q2 α2 (upd G2 a (.ins _ dx (eW fl v vs))) _ σ (Step.write hm) (P2.write h1) (((R.step s1).step s2).step (Step.write hm)) ?_;exact S2.write ea ⟨dx,eW fl v vs,aG,(h2.put (r1.step s2)).step (Step.write hm)⟩
 . exact q2.elim
theorem LE.Lv{σ:L2.St}{H:Hp}{Q:VK}(h:LE (gB C m S to t) σ H Q):Gx C m (gD S) [] E0 (LE to) (LA t) σ H Q:=by
 obtain⟨α,σd,st,K,G,F,P,R,Sr,tt,k⟩:=h;refine⟨α,σd,st,_,G,F,P,R,Sr,tt,λ d st1 q α1 G1 H1 v s1 P1 S1 r1=>?_⟩;unfold vo zK at q;cases d<;>try exact q.elim
 simp only at q;split at q
 . rename_i n C' fs e';obtain⟨rfl,hl,q⟩:=q;obtain⟨a,ea,dx,vs,h1,h2⟩:=S1.va e';have r1':=bY ea r1;subst r1';refine⟨a,dx,vs,rfl,P1.get h1,h2.none hl,?_⟩;refine⟨α1,σd,st1,_,G1,F,P1,R.step s1,S1,q,λ ds st2 q2 α2 G2 H2 us s2 P2 S2 r2=>?_⟩;try dsimp only
   rw[QO];exact⟨α2,_,st2,K,G2,F,P2,by unfold aB;exact⟨_,_,rfl,r1.step s2,r2⟩,S2,q2,(k.at s1).at s2⟩
 . exact q.elim
theorem LE.make{σ:L2.St}{H:Hp}{Q:VK}(h:LE (Au C S t) σ H Q):Fm C (gD S) [] E0 (LA t) σ H Q:=by
 obtain⟨α,σd,st,K,G,F,P,R,Sr,tt,k⟩:=h;refine⟨α,σd,st,_,G,F,P,R,Sr,tt,λ ds st1 q α1 G1 H1 us s1 P1 S1 r1=>?_⟩;intro x dx hx hdx hne;have hgd:=(P1.none hdx).1;have P2:=P1.laid (o:= .own x) hdx;have S2:=S1.laid (o:= .own x) hgd;have hx2:upd H1 dx (.own x) x=none:=by rw[au (Pj hne)];exact hx
 have hg2:=(P2.none hx2).1;have P3:=P2.laid (o:= .ins C dx []) hx2;have S3:=S2.cell (o:= .ins C dx []) (c:= .ins C []) hg2 ⟨dx,[],aG,.nil⟩;have s2:Step α1 G1 α1 (upd G1 dx (.own x)):=Step.laid hgd;have s3:Step α1 (upd G1 dx (.own x)) (α1++[some x]) (upd (upd G1 dx (.own x)) x (.ins C dx [])):=Step.cell hg2
 have rx:Rep (α1++[some x]) (upd (upd G1 dx (.own x)) x (.ins C dx [])) (.ref st1.length) (.ref x):=by
  unfold Rep;refine .inr ⟨x,?_,rfl⟩;rw[PH (by rw[S1.len];exact O9 _),S1.len,QM];rfl
 rw[QO];refine⟨α1++[some x],.ref st1.length::ds,st1++[.ins C []],_,_,F,P3,by unfold aB;exact⟨_,_,rfl,rx,(r1.step s2).step s3⟩,S3,q,λ d st2 q2 α' G' H' v s' P' S' r'=>?_⟩;obtain⟨rfl,q2⟩:=q2;unfold Rep at r';exact⟨r',(((k.at s1).at s2).at s3) _ st2 q2 α' G' H' _ s' P' S' (rx.step s')⟩
end
section
variable {X:Cx}{tg:Expr}
end
section
variable {X:Cx}
end
section
variable {X:Cx}{e o i value:Expr}{es:List Expr}{te to ti:DE}{t:DA}{pos pos' tpos apos p:Pos}{C f:Addr}{fl m x:Str}{S:bR}{k:Nat}{fd:FuncData}{ps:List Str}
theorem Df{value o:Expr}{fl:Str}{pos':Pos}{n:Nat}{env:Env}:swapsWith value (some (.Attribute o fl pos')) n env=pure false:=by cases value<;>rfl
theorem cq(c:kq X.K C)(na:eJ X.K C fl)(he:JE X e te)(hb:attributeBase e fl X.env (eval e X.env)=eval e X.env:=by rfl):JE X (.Attribute e fl pos) (cS C fl te):=by unfold JE at*;exact L7 c na he hb
theorem jY(c:kq X.K C)(na:eJ X.K C fl)(ho:JE X o to)(hv:JE X value te):JS X (.Assign [.Attribute o fl pos'] value pos) (kM C fl to te):=by unfold JS;unfold JE at*;exact KY c na ho hv Df
theorem jj{pl:Sem Bool}(he:JE X o to)(c:kq X.K C)(hm:Meth X.K C m f)(F:c_ X.prog X.w X.K X.mg X.base fP k f fd ps (gD S))(hr:bV k X.A)(hb:Binds X.K fd ps [])(ha:JA X (e::es) t)
 (hs:notStar e=true:=by rfl) (hs2:fe es=true:=by rfl)
 (ht:eval (.Call (.Attribute o m apos) (e::es) [] pos) X.env=(do
   let ov <-eval o X.env
   standAt apos.atName
   let(f,first) <-holding [ov] (getMethod ov m pl)
   callWith pos f first (backTo pos (starEach (e::es) X.env)) (backToKw pos (keywordEach [] X.env))):=by rfl):
 JE X (.Call (.Attribute o m apos) (e::es) [] pos) (gB C m S to t):=by
 unfold JE at*;unfold JA at ha;exact PE.imp (HQ he c hm F hr hb .nil Ab ha (aY hs) (iO hs2) ht) λ _ _ _ h=>LE.Lv h
theorem Kf(M:Mk X.K C f)(F:c_ X.prog X.w X.K X.mg X.base fP k f fd ps (gD S))(hr:bV (k+1) X.A)(hg:Gl X x)(hmg:X.mg x=some (.ref C))(hb:Binds X.K fd ps [])(ha:JA X (e::es) t)(hdb:(x==("__debug__":Str))=false)
 (hs:notStar e=true:=by rfl) (hs2:fe es=true:=by rfl):JE X (.Call (.Name x p) (e::es) [] pos) (Au C S t):=by
 unfold JE;unfold JA at ha;exact PE.imp (Hr M F hr hg hmg hb .nil Ab ha hdb (aY hs) (iO hs2)) λ _ _ _ h=>LE.make h
end
end L3
namespace L3
open PySem PySem.Spec L2
open PyProof.Rows hiding St
def Jn(xs:Array Keyed)(i:Nat):Int:=match xs[i]? with
 |some p=>numOf p.2
 |none=>0
theorem kE{xs ys:Array Keyed}{i j:Nat}(h:xs[i]?=ys[j]?):Jn xs i=Jn ys j:=by unfold Jn;rw[h]
theorem jb{xs:Array Keyed}{i j:Nat}(hj:j<=xs.size)(k:Nat):
 K (mirror xs i j ((j-i)/2)) k=K xs (if i<=k/\k<j then i+j-1-k else k)/\Jn (mirror xs i j ((j-i)/2)) k=Jn xs (if i<=k/\k<j then i+j-1-k else k):=by
 have e:=getElem?_mirror_all (i:=i) hj k;split at e<;>rename_i h
 . rw[O_ h];exact⟨K_congr e,kE e⟩
 . rw[O7 h];exact⟨K_congr e,kE e⟩
theorem BQ{xs:Array Keyed}{src d:Nat}(hs:src<xs.size)(hd:d<=src)(k:Nat):
 K (bubble xs src d) k=K xs (if k=src-d then src else if src-d<k/\k<=src then k-1 else k)/\Jn (bubble xs src d) k=Jn xs (if k=src-d then src else if src-d<k/\k<=src then k-1 else k):=by
 have e:=getElem?_bubble hs d hd k;split at e<;>rename_i h
 . rw[O_ h];exact⟨K_congr e,kE e⟩
 . rw[O7 h];split at e<;>rename_i h2
   . rw[O_ h2];exact⟨K_congr e,kE e⟩
   . rw[O7 h2];exact⟨K_congr e,kE e⟩
def ji(xs:Array Keyed)(i j:Nat):Prop:=K xs i<K xs j\/(K xs i=K xs j/\Jn xs i<Jn xs j)
def gG(xs:Array Keyed)(k:Nat):Prop:=∀i j,i<j->j<k->ji xs i j
def fX(n:Nat)(xs:Array Keyed)(k:Nat):Prop:=∀i j,i<j->k<=j->j<n->Jn xs i<Jn xs j
theorem gG.to{xs:Array Keyed}{k:Nat}(h:gG xs k):SortedTo xs k:=λ i j hij hj=>by
 rcases Nat.lt_or_eq_of_le hij with e|e
 . rcases h i j e hj with q|q<;>omega
 . subst e;exact SN _
theorem gG.more{xs:Array Keyed}{n k m:Nat}(h:gG xs k)(t:fX n xs k)(s:SortedTo xs m)(hm:m<=n):gG xs m:=λ i j hij hj=>by
 by_cases hk:j<k
 . exact h i j hij hk
 . have a:=s i j (QK hij) hj;have b:=t i j hij (Rl hk) (Pu hj hm);unfold ji;omega
theorem fX.up{xs:Array Keyed}{n k m:Nat}(t:fX n xs k)(h:k<=m):fX n xs m:=λ i j a b c=>t i j a (Pe h b) c
theorem fX.mix{xs ys:Array Keyed}{n k:Nat}(t:fX n xs k)(f:Nat->Nat)(hf:∀i,Jn ys i=Jn xs (f i))(h1:∀i,i<k->f i<k)(h2:∀i,k<=i->f i=i):fX n ys k:=λ i j a b c=>by
 rw[hf,hf,h2 j b];refine t _ _ ?_ b c;by_cases hi:i<k
 . exact Pu (h1 i hi) b
 . rw[h2 i (Rl hi)];exact a
section
variable {prog:Program}{w:World}{A:Around}{E:Value->Shared->Prop}{s:Shared}{a₀:Array Keyed}
theorem De{st:SortSt}{ok:Nat}{Q:Bool->SortSt->Prop}(h0:IntKeys a₀)(h1:1<=ok)(aC:ok<=a₀.size)(hB:SBase a₀ st)(hs:gG (arrOf st) ok)(ht:fX a₀.size (arrOf st) ok)
 (h:∀st',SBase a₀ st'->gG (arrOf st') a₀.size->Q true st'):wpS (model prog w) A E s (binarySort' 0 a₀.size ok) Q st:=by
 rw[binarySort'_eq];simp only[QW]
 refine Qs (wpS_mono (Tq (I:=λ k c q=>c=(none,())/\SBase a₀ q/\k<=a₀.size/\gG (arrOf q) k/\fX a₀.size (arrOf q) k)
  (Q:=λ c q=>c=(none,())/\SBase a₀ q/\gG (arrOf q) a₀.size) ?st ?en ?be) ?po)
 case po=>rintro c q ⟨rfl,b1,b2⟩;exact Q3 (h q b1 b2)
 case be=>rw[show max ok 1=ok by omega];exact⟨rfl,hB,aC,hs,ht⟩
 case en=>
  rintro c q ⟨rfl,b1,b2,b3,_⟩;rw[show max (max ok 1) a₀.size=a₀.size by omega]at b3;exact⟨rfl,b1,b3⟩
 case st=>
  rintro k c q hk1 hk2 ⟨rfl,qB,_,qS,qT⟩
  refine Qs (wpS_mono (Tq (I:=λ x c q'=>q'=q/\∃l r,c=(none,l,r)/\l<=r/\r<=k/\r-l<=k-x/\(∀i,i<l->K (arrOf q) i<=K (arrOf q) k)/\(∀i,r<=i->i<k->K (arrOf q) k<K (arrOf q) i))
   (Q:=λ c q'=>q'=q/\∃l,c=(none,l,l)/\l<=k/\(∀i,i<l->K (arrOf q) i<=K (arrOf q) k)/\(∀i,l<=i->i<k->K (arrOf q) k<K (arrOf q) i)) ?a ?b ?c) ?d)
  case c=>exact⟨rfl,0,k,rfl,by omega,by omega,by omega,λ i hi=>by omega,λ i x y=>by omega⟩
  case b=>
   rintro c q' ⟨rfl,l,r,rfl,e1,e2,e3,e4,e5⟩;have:r=l:=by omega
   subst this;exact⟨rfl,r,rfl,e2,e4,e5⟩
  case a=>
   rintro x c q' _ hx ⟨rfl,l,r,rfl,e1,e2,e3,e4,e5⟩;dsimp only;by_cases hlr:l>=r
   . rw[O_ hlr];have:r=l:=by omega
     subst this;exact Q3 ⟨rfl,r,rfl,e2,e4,e5⟩
   . rw[O7 hlr];refine Qs (wpS_ltK qB h0 hk2 (by omega) ?_);have so:=qS.to;by_cases hl:K (arrOf q') k<K (arrOf q') ((l+r)/2)
     . simp only[hl,UE,Rg];exact Q3 ⟨rfl,l,(l+r)/2,rfl,by omega,by omega,by omega,e4,λ i x y=>Int.lt_of_lt_of_le hl (so _ _ x y)⟩
     . simp only[hl,Uk,PJ,Qp];refine Q3 ⟨rfl,(l+r)/2+1,r,rfl,by omega,by omega,by omega,λ i x=>?_,e5⟩;have:=so i ((l+r)/2) (by omega) (by omega);omega
  case d=>
   rintro c q' ⟨rfl,l,rfl,hlk,e4,e5⟩;show wpS _ _ _ _ (do moveDown' k l;pure (ForInStep.yield (none,()))) _ _;rw[moveDown'_eq];have hks:k<(arrOf q').size:=by rw[qB.size];exact hk2
   have bb:=BQ (xs:=arrOf q') hks (show k-l<=k by omega);rw[show k-(k-l)=l by omega]at bb;refine Qs (wpS_modify (Q3 ⟨rfl,qB.setArr (bubble_perm _ _ _),by omega,λ i j hij hj=>?_,fX.mix (qT.up (Si k)) _ (λ i=>(bb i).2) (λ i hi=>?_) (λ i hi=>?_)⟩))
   . show ji (bubble (arrOf q') k (k-l)) i j;unfold ji;rw[(bb i).1,(bb i).2,(bb j).1,(bb j).2];by_cases hil:i<l
     . rw[O7 (show¬i=l by omega),O7 (show¬(l<i/\i<=k) by omega)];by_cases hjl:j=l
       . rw[O_ hjl];have x:=e4 i hil;have y:=qT i k (by omega) (O9 _) hk2;omega
       . rw[O7 hjl];by_cases hj2:l<j/\j<=k
         . rw[O_ hj2];exact qS i (j-1) (by omega) (by omega)
         . rw[O7 hj2];exact qS i j hij (by omega)
     . by_cases hie:i=l
       . rw[O_ hie,O7 (show¬j=l by omega),O_ (show l<j/\j<=k by omega)];exact .inl (e5 _ (by omega) (by omega))
       . rw[O7 hie,O_ (show l<i/\i<=k by omega),O7 (show¬j=l by omega),O_ (show l<j/\j<=k by omega)];exact qS _ _ (by omega) (by omega)
   . show(if i=l then k else if l<i/\i<=k then i-1 else i)<k+1;split
     . omega
     . split<;>omega
   . show(if i=l then k else if l<i/\i<=k then i-1 else i)=i;rw[O7 (by omega),O7 (by omega)]
def uf(xs:Array Keyed)(m q:Nat):Prop:=q+1<=m/\∀i j,i<j->j<m->(m<=i+(q+1)->K xs i=K xs j/\Jn xs i<Jn xs j)/\(i+(q+1)<m->(m<=j+(q+1)->K xs j<K xs i)/\ji xs j i)
theorem uf.all{xs:Array Keyed}{m q:Nat}(h:uf xs m q)(hm:m<=xs.size):(q=0\/0<q)/\∀i j,i<j->j<m->ji (mirror xs (m-(q+1)) m ((m-(m-(q+1)))/2)) j i:=by
 refine⟨by omega,λ i j hij hj=>?_⟩;have b:=jb (i:=m-(q+1)) (j:=m) hm;unfold ji;rw[(b i).1,(b i).2,(b j).1,(b j).2];by_cases hi:m-(q+1)<=i/\i<m
 . rw[O_ hi,O_ (show m-(q+1)<=j/\j<m by omega)];have:=(h.2 (m-(q+1)+m-1-j) (m-(q+1)+m-1-i) (by omega) (by omega)).1 (by omega);omega
 . rw[O7 hi];by_cases hj2:m-(q+1)<=j/\j<m
   . rw[O_ hj2];have:=((h.2 i (m-(q+1)+m-1-j) (by omega) (by omega)).2 (by omega)).1 (by omega);omega
   . rw[O7 hj2];exact((h.2 i j hij hj).2 (by omega)).2
theorem uf.zero{xs:Array Keyed}{m:Nat}(h:uf xs m 0):∀i j,i<j->j<m->ji xs j i:=λ i j hij hj=>((h.2 i j hij hj).2 (by omega)).2
theorem jQ{n:Nat}{xs:Array Keyed}{i j k:Nat}(t:fX n xs k)(hj:j<=xs.size)(hk:j<=k):fX n (mirror xs i j ((j-i)/2)) k:=
 t.mix _ (λ a=>(jb hj a).2) (λ a ha=>by split<;>omega) λ a ha=>by rw[O7 (by omega)]
theorem Ci{st:SortSt}{n:Nat}{Q:DescSt->SortSt->Prop}(h0:IntKeys a₀)(hn:n<=a₀.size)(hB:SBase a₀ st)(hs:uf (arrOf st) n 0)(ht:fX a₀.size (arrOf st) n)
 (h:∀m q st',SBase a₀ st'->n<=m->m<=a₀.size->uf (arrOf st') m q->fX a₀.size (arrOf st') m->Q (none,m,q) st'):
 wpS (model prog w) A E s (descLoop n a₀.size) Q st:=by
 unfold descLoop;refine Tq (I:=λ x c st'=>∃q,c=(none,x,q)/\SBase a₀ st'/\uf (arrOf st') x q/\fX a₀.size (arrOf st') x) ?st ?en ⟨0,rfl,hB,hs,ht⟩
 case en=>
  rintro c st' ⟨q,rfl,b1,b2,b3⟩;rw[show max n a₀.size=a₀.size by omega]at b2 b3⊢;exact h _ q st' b1 hn (O9 _) b2 b3
 case st=>
  rintro x c st' hx1 hx2 ⟨q,rfl,b1,b2,b3⟩;dsimp only;have hq:=b2.1;have hsz:x<=(arrOf st').size:=by rw[b1.size];omega
  refine Qs (wpS_ltK b1 h0 hx2 (by omega) ?_);by_cases hl:K (arrOf st') x<K (arrOf st') (x-1)
  . simp only[hl,UE,Rg];by_cases hq0:q>0
    . rw[O_ hq0];have al:=(b2.all hsz).2;have km:=jb (i:=x-(q+1)) (j:=x) hsz;refine Qs (UG (Q3 ⟨0,rfl,b1.setArr (UH _ _ _ _),⟨by omega,λ i j hij hj=>⟨λ hh=>by omega,λ hh=>⟨λ hj2=>?_,?_⟩⟩⟩,(jQ b3 hsz (O9 _)).up (Si x)⟩))
      . have hjx:j=x:=by omega
        subst hjx;show K (mirror (arrOf st') _ _ _) j<K (mirror (arrOf st') _ _ _) i;rw[(km i).1,(km j).1,O7 (show¬(j-(q+1)<=j/\j<j) by omega)]
        have key:∀t,t<j->K (arrOf st') (j-1)<=K (arrOf st') t:=λ t ht=>by
         by_cases e:t=j-1
         . rw[e];exact SN _
         . have z:=b2.2 t (j-1) (by omega) (by omega);by_cases g:j<=t+(q+1)
           . have:=(z.1 g).1;omega
           . have:=(z.2 (by omega)).2;unfold ji at this;omega
        split
        . have:=key (j-(q+1)+j-1-i) (by omega);omega
        . have:=key i hij;omega
      . show ji (mirror (arrOf st') _ _ _) j i;by_cases hjx:j<x
        . exact al i j hij hjx
        . have hjx:j=x:=by omega
          subst hjx;refine .inl ?_;rw[(km i).1,(km j).1,O7 (show¬(j-(q+1)<=j/\j<j) by omega)]
          have key:∀t,t<j->K (arrOf st') (j-1)<=K (arrOf st') t:=λ t ht=>by
           by_cases e:t=j-1
           . rw[e];exact SN _
           . have z:=b2.2 t (j-1) (by omega) (by omega);by_cases g:j<=t+(q+1)
             . have:=(z.1 g).1;omega
             . have:=(z.2 (by omega)).2;unfold ji at this;omega
          split
          . have:=key (j-(q+1)+j-1-i) (by omega);omega
          . have:=key i hij;omega
    . rw[O7 hq0];have hq0:q=0:=by omega
      subst hq0;have z0:=b2.zero
      have lx:∀i,i<x->K (arrOf st') x<K (arrOf st') i:=λ i hi=>by
       by_cases e:i=x-1
       . rw[e];exact hl
       . have:=z0 i (x-1) (by omega) (by omega);unfold ji at this;omega
      refine Q3 ⟨0,rfl,b1,⟨by omega,λ i j hij hj=>⟨λ hh=>by omega,λ hh=>⟨λ hj2=>?_,?_⟩⟩⟩,b3.up (Si x)⟩
      . have hjx:j=x:=by omega
        subst hjx;exact lx i hij
      . by_cases hjx:j<x
        . exact z0 i j hij hjx
        . have hjx:j=x:=by omega
          subst hjx;exact .inl (lx i hij)
  . simp only[hl,Uk,PJ,Qp];refine Qs (wpS_ltK b1 h0 (by omega) hx2 ?_);by_cases hg:K (arrOf st') (x-1)<K (arrOf st') x
    . simp only[hg,UE,Rg];exact Q3 (h x q st' b1 hx1 (by omega) b2 b3)
    . simp only[hg,Uk,PJ,Qp];have he:K (arrOf st') x=K (arrOf st') (x-1):=by omega
      refine Q3 ⟨q+1,rfl,b1,⟨by omega,λ i j hij hj=>⟨λ hh=>?_,λ hh=>⟨λ hj2=>?_,?_⟩⟩⟩,b3.up (Si x)⟩
      . by_cases hjx:j<x
        . exact(b2.2 i j hij hjx).1 (by omega)
        . have hjx:j=x:=by omega
          subst hjx;refine⟨?_,b3 i j hij (O9 _) hx2⟩;rw[he];by_cases e:i=j-1
          . rw[e]
          . exact((b2.2 i (j-1) (by omega) (by omega)).1 (by omega)).1
      . by_cases hjx:j<x
        . exact((b2.2 i j hij hjx).2 (by omega)).1 (by omega)
        . have hjx:j=x:=by omega
          subst hjx;rw[he];exact((b2.2 i (j-1) (by omega) (by omega)).2 (by omega)).1 (by omega)
      . by_cases hjx:j<x
        . exact((b2.2 i j hij hjx).2 (by omega)).2
        . have hjx:j=x:=by omega
          subst hjx;refine .inl ?_;rw[he];exact((b2.2 i (j-1) (by omega) (by omega)).2 (by omega)).1 (by omega)
theorem tU{st:SortSt}{n:Nat}{Q:Option Nat->SortSt->Prop}(h0:IntKeys a₀)(h1:1<=n)(hn:n<=a₀.size)(hB:SBase a₀ st)(hs:∀i j,i<j->j<n->ji (arrOf st) j i)(ht:fX a₀.size (arrOf st) n)
 (h:∀m st',SBase a₀ st'->1<=m->m<=a₀.size->gG (arrOf st') m->fX a₀.size (arrOf st') m->Q (some m) st'):wpS (model prog w) A E s (tail3 n a₀.size) Q st:=by
 unfold tail3;have hsz:n<=(arrOf st).size:=by rw[hB.size];exact hn
 refine Qs (UG ?_);have km:=jb (xs:=arrOf st) (i:=0) (j:=n) hsz
 have s1:gG (mirror (arrOf st) 0 n ((n-0)/2)) n:=λ i j hij hj=>by
  unfold ji;rw[(km i).1,(km i).2,(km j).1,(km j).2,O_ (by omega),O_ (by omega)];exact hs _ _ (by omega) (by omega)
 have t1:=jQ (i:=0) ht hsz (O9 _);have hB':SBase a₀ (setArr st (mirror (arrOf st) 0 n ((n-0)/2))):=hB.setArr (UH _ _ _ _);refine Qs (wpS_ascLoop h0 (O9 _) h1 hn hB' s1.to λ m m1 m2 sm _=>Q3 (h m _ hB' (by omega) m2 (s1.more t1 sm m2) (t1.up m1)))
theorem uA{st:SortSt}{n:Nat}{Q:Option Nat->SortSt->Prop}(h0:IntKeys a₀)(hn:n+1<=a₀.size)(hB:SBase a₀ st)(hs:uf (arrOf st) (n+1) 0)(ht:fX a₀.size (arrOf st) (n+1))
 (h:∀m st',SBase a₀ st'->1<=m->m<=a₀.size->gG (arrOf st') m->fX a₀.size (arrOf st') m->Q (some m) st'):wpS (model prog w) A E s (descPart n a₀.size) Q st:=by
 unfold descPart;refine Qs (wpS_lift (SD ⟨rfl,?_⟩));refine Qs (Ci h0 hn hB hs ht λ m q st' b1 b2 b3 b4 b5=>?_);dsimp only;have hsz:m<=(arrOf st').size:=by rw[b1.size];exact b3
 by_cases hq:q>0
 . rw[O_ hq];exact Qs (UG (tU h0 (by omega) b3 (b1.setArr (UH _ _ _ _)) (b4.all hsz).2 (jQ b5 hsz (O9 _)) h))
 . rw[O7 hq];have:q=0:=by omega
   subst this;exact tU h0 (by omega) b3 b1 b4.zero b5 h
theorem Bi{st:SortSt}{Q:Option Nat->SortSt->Prop}(h0:IntKeys a₀)(h1:1<=a₀.size)(hB:SBase a₀ st)(ht:fX a₀.size (arrOf st) 1)
 (h:∀m st',SBase a₀ st'->1<=m->m<=a₀.size->gG (arrOf st') m->fX a₀.size (arrOf st') m->Q (some m) st'):wpS (model prog w) A E s (countRun' 0 a₀.size) Q st:=by
 rw[countRun0_eq];have s1:gG (arrOf st) 1:=λ i j hij hj=>by omega
 refine Qs (wpS_ascLoop h0 (O9 _) (O9 1) h1 hB s1.to λ n n1 n2 sn hor=>?_);dsimp only;have s2:=s1.more ht sn n2;by_cases hn:n=a₀.size
 . rw[O_ (by simpa using hn)];exact Q3 (h n st hB n1 n2 s2 (ht.up n1))
 . rw[O7 (by simpa using hn)];have hl:=hor.resolve_left hn;by_cases hg:n>1
   . rw[O_ hg];refine Qs (wpS_ltK hB h0 (by omega) (by omega) ?_);by_cases hr:K (arrOf st) 0<K (arrOf st) (n-1)
     . simp only[hr,UE,Rg];exact Q3 (h n st hB n1 n2 s2 (ht.up n1))
     . simp only[hr,Uk,PJ,Qp];have hsz:n<=(arrOf st).size:=by rw[hB.size];exact n2
       have eqs:∀k,k<n->K (arrOf st) k=K (arrOf st) (n-1):=λ k hk=>by
        have x:=sn 0 k (by omega) hk;have y:=sn k (n-1) (by omega) (by omega);omega
       have km:=jb (xs:=arrOf st) (i:=0) (j:=n) hsz;refine Qs (UG (uA h0 (by omega) (hB.setArr (UH _ _ _ _)) ⟨by omega,λ i j hij hj=>⟨λ hh=>by omega,λ hh=>⟨λ hj2=>?_,?_⟩⟩⟩ (jQ (ht.up (by omega)) hsz (by omega)) h))
       . have hjn:j=n:=by omega
         subst hjn;show K (mirror (arrOf st) _ _ _) j<K (mirror (arrOf st) _ _ _) i;rw[(km i).1,(km j).1,O7 (show¬(0<=j/\j<j) by omega),O_ (by omega),eqs (0+j-1-i) (by omega)];exact hl
       . show ji (mirror (arrOf st) _ _ _) j i;unfold ji;rw[(km i).1,(km i).2,(km j).1,(km j).2,O_ (show 0<=i/\i<n by omega)];by_cases hjn:j<n
         . rw[O_ (by omega)];refine .inr ⟨(eqs _ (by omega)).trans (eqs _ (by omega)).symm,ht _ _ (by omega) (by omega) (by omega)⟩
         . have hjn:j=n:=by omega
           subst hjn;rw[O7 (by omega),eqs (0+j-1-i) (by omega)];exact .inl hl
   . rw[O7 hg];have hn1:n=1:=by omega
     subst hn1;refine uA h0 (by omega) hB ⟨by omega,λ i j hij hj=>⟨λ hh=>by omega,λ hh=>?_⟩⟩ (ht.up (by omega)) h;have hi0:i=0:=by omega
     have hj1:j=1:=by omega
     subst hi0;subst hj1;exact⟨λ _=>hl,.inl hl⟩
theorem BF{st:SortSt}{Q:Unit->SortSt->Prop}(h0:IntKeys a₀)(hB:SBase a₀ st)(ht:fX a₀.size (arrOf st) 1)(h2:2<=a₀.size)(h64:a₀.size<64)
 (h:∀st',(arrOf st').Perm a₀->failedOf st'=none->gG (arrOf st') a₀.size->Q () st'):wpS (model prog w) A E s sortRuns' Q st:=by
 rw[sortRuns'_eq];refine Qs (wpS_get ?_);dsimp only
 have hmr:minRun' a₀.size a₀.size 0=a₀.size:=by
  cases e:a₀.size with
  |zero=>rw[e]at h2;omega
  |succ f=>rw[minRun'_succ,O_ (by omega)]
 simp only[hB.size,hmr]
 have dn:∀ {q:SortSt},SBase a₀ q->gG (arrOf q) a₀.size->∃p,p=setPending q ((pendingOf q).push (0,a₀.size,0))/\(arrOf p).Perm a₀/\failedOf p=none/\pendingOf p= #[(0,a₀.size,0)]/\gG (arrOf p) a₀.size:=λ{q} b s=>
  ⟨_,rfl,b.perm,b.failed,by show(pendingOf q).push _=_;rw[b.pend];rfl,s⟩
 refine Qs (wpS_mono (Tq
  (I:=λ x c q=>(x=0/\c=(none,0)/\q=st)\/(1<=x/\c=(none,a₀.size)/\(arrOf q).Perm a₀/\failedOf q=none/\pendingOf q= #[(0,a₀.size,0)]/\gG (arrOf q) a₀.size))
  (Q:=λ c q=>c=(none,a₀.size)/\(arrOf q).Perm a₀/\failedOf q=none/\pendingOf q= #[(0,a₀.size,0)]/\gG (arrOf q) a₀.size) ?st ?en (.inl ⟨rfl,rfl,rfl⟩)) ?po)
 case en=>
  rintro c q (⟨hx,_,_⟩|⟨_,hc,hD⟩)
  . omega
  . exact⟨hc,hD⟩
 case st=>
  rintro x c q _ hx (⟨rfl,rfl,rfl⟩|⟨_,rfl,hD⟩)
  . dsimp only;rw[O7 (by omega)];simp only[Vf,Ve,QW];refine Qs (Bi h0 (by omega) hB ht λ m q2 b1 b2 b3 b4 b5=>?_);dsimp only;by_cases hm:m<a₀.size
    . rw[O_ hm];refine Qs (wpS_lift (SD ⟨rfl,?_⟩));refine Qs (De h0 b2 b3 b1 b4 b5 λ q3 d1 d2=>?_);simp only[Sh,PJ,Qp];refine Qs (wpS_get ?_);have hb:(pendingOf q3).back?=none:=by rw[d1.pend];rfl
      rw[hb];dsimp only;obtain⟨p,rfl,z⟩:=dn d1 d2;exact Qs (wpS_modify (Q3 (.inr ⟨by omega,rfl,z⟩)))
    . rw[O7 hm];have hm:m=a₀.size:=by omega
      subst hm;refine Qs (wpS_get ?_);have hb:(pendingOf q2).back?=none:=by rw[b1.pend];rfl
      rw[hb];dsimp only;obtain⟨p,rfl,z⟩:=dn b1 b4;exact Qs (wpS_modify (Q3 (.inr ⟨by omega,rfl,z⟩)))
  . dsimp only;rw[O_ (O9 _)];exact Q3 ⟨rfl,hD⟩
 case po=>
  rintro c q ⟨rfl,d1,d2,d3,d4⟩;dsimp only;refine Qs (wpS_mono (Tq (I:=λ _ c q'=>q'=q/\c=(none,())) (Q:=λ c q'=>q'=q/\c=(none,())) ?_ (λ _ _ z=>z) ⟨rfl,rfl⟩) ?_)
  . rintro x c q' _ _ ⟨rfl,rfl⟩;refine Qs (wpS_get ?_);rw[O_ (by rw[d3];exact O9 1)];exact Q3 ⟨rfl,rfl⟩
  . rintro c q' ⟨rfl,rfl⟩;exact Q3 (h _ d1 d2 d4)
end
end L3
namespace L2
open PySem PySem.Spec PyProof.Rows
structure Entry(K:PySem.W.Frag)(ts:List (Addr×Addr))(a:Addr)(ns:List Int)(H:Hp):Prop where
 lst:i_ K H a (ns.map V.int)
 tab:∀q∈ts,H q.2=some (.g9 #[])/\q.2≠a
theorem uL:∀ {vs:List Value} {ns:List Int},IntsAre vs ns->Vals (ns.map V.int) vs
 |_,_,.nil=> .nil
 |_,_,.cons n t h=> .cons ⟨t,rfl⟩ (uL h)
structure Ky(K:PySem.W.Frag)(ts:List (Addr×Addr))(h:Heap):Prop where
 hd:∀q∈ts,PySem.W.codeHdIn K q.1 q.2=true
 no:∀q∈ts,K.lookup q.2=none
 at':∀q∈ts,h.get? q.2=some (PySem.W.tabObj #[])
theorem Be{P:Program}{w:World}{K:PySem.W.Frag}{mg mb:Str->Option Value}{k:Nat}{fa a:Addr}{fd:FuncData}{x:Str}{sp:Sp}{s₁:Shared}{vs:List Value}{ns:List Int}{ts:List (Addr×Addr)}
 (KX:K.In s₁.heap) (hns:s₁.heap.Ns mainGlobals mg) (hb:s₁.heap.Ns builtinsNs mb) (hbb:∀x:Str,x≠"__name__"->mb x=bootBuiltins x) (hlim:s₁.heap.NoLimit) (hse:s₁.heap.NoSeer) (hgt:P.given.tree=none)
 (hbm:∃bm ob,mg "__builtins__"=some (.ref bm)/\bm≠builtinsNs/\s₁.heap.get? bm=some ob/\ob.cls= .type "module"/\ob.dict=some builtinsNs/\ob.data= .plain) (hT:Ky K ts s₁.heap) (hg:s₁.gens= #[])
 (ha:s₁.heap.get? a=some {cls:= .type "list",data:= .seq vs.toArray}) (hi:IntsAre vs ns) (hl:ns.length<=sizeLine) (hr:bV k callerA)
 (F:∀base:Heap,K.In base->base.Ns mainGlobals mg->c_ P w K mg base (λ _ _ _ _ _ _=>False) k fa fd [x] sp) (hbind:∀(s:Shared) (u:Value),BindsTo s fd ⟨[u],[]⟩ [(x,u)])
 (hsp:∀H:Hp,Entry K ts a ns H->sp [.ref a] H (λ v _=>v= .bl true) λ _ _ _=>False):
 codeAny (model P w) callerA (.call (.ref fa) ⟨[.ref a],[]⟩) (λ r s'=>r= .ok (.ret (.bool true))/\OldK s₁.heap s'.heap/\s'.os=s₁.os/\AllBare s'.gens) s₁:=by
 have rv:=uL hi;have lenV:=hi.length
 have nta:∀q∈ts,q.2≠a:=λ q hq z=>by
  have:=hT.at' q hq;rw[z,ha]at this;cases this
 let sc:Option HO:=match K.lookup a with
  |some _=>none
  |none=>some (.dE {cls:= .type "list",data:= .seq vs.toArray} (.lst (ns.map V.int)))
 let H:Hp:=λ b=>if b=a then sc else if b∈ts.map (·.2)then some (.g9 #[])else none
 have Ha:H a=sc:=O_ rfl
 have Ht:∀q∈ts,H q.2=some (.g9 #[]):=λ q hq=>by
  show(if q.2=a then sc else if q.2∈ts.map (·.2)then some (HO.g9 #[])else none)=_;rw[O7 (nta q hq),O_ (Tx hq)]
 have Hs:∀b u,H b=some u->(b=a/\K.lookup a=none/\u= .dE {cls:= .type "list",data:= .seq vs.toArray} (.lst (ns.map V.int)))\/(∃q∈ts,q.2=b/\u= .g9 #[]):=λ b u e=>by
  have e':(if b=a then sc else if b∈ts.map (·.2)then some (HO.g9 #[])else none)=some u:=e;by_cases hba:b=a
  . rw[O_ hba]at e'
    have e2:(match K.lookup a with
     |some _=>none
     |none=>some (HO.dE {cls:= .type "list",data:= .seq vs.toArray} (.lst (ns.map V.int))))=some u:=e'
    cases q:K.lookup a with
    |some o=>rw[q]at e2;cases e2
    |none=>rw[q]at e2;cases e2;exact .inl ⟨hba,rfl,rfl⟩
  . rw[O7 hba]at e';by_cases hbt:b∈ts.map (·.2)
    . rw[O_ hbt]at e';cases e';obtain⟨q,hq,e⟩:=Qa.mp hbt;exact .inr ⟨q,hq,e,rfl⟩
    . rw[O7 hbt]at e';cases e'
 have aC:fA P w H s₁.heap:=λ b u e=>by
  rcases Hs b u e with⟨rfl,_,rfl⟩|⟨q,hq,rfl,rfl⟩
  . exact⟨ha,by rw[O8];exact hl,vs,_,rv,ha⟩
  . exact hT.at' q hq
 have hE:Entry K ts a ns H:=by
  refine⟨?_,λ q hq=>⟨Ht q hq,nta q hq⟩⟩;cases q:K.lookup a with
  |some o=>
   have e:=KX a o q;rw[ha]at e;cases e;exact .inr ⟨_,vs.toArray,_,q,rfl,rfl,rfl,by rw[Ph,lenV];exact hl,by simpa using rv⟩
  |none=>
   refine .inl (.inr ⟨{cls:= .type "list",data:= .seq vs.toArray},?_⟩);rw[Ha]
   show(match K.lookup a with
    |some _=>none
    |none=>some (HO.dE {cls:= .type "list",data:= .seq vs.toArray} (.lst (ns.map V.int))))=_
   rw[q]
 have dictNo:∀ {b:Addr} {o:Obj},s₁.heap.get? b=some o->(∀es ep,o.data≠ .seq es ep)->o.cls≠ .none->H b=none:=λ{b o} e d1 d2=>by
  cases q:H b with
  |none=>rfl
  |some u=>
   rcases Hs b u q with⟨rfl,_,_⟩|⟨t,ht,rfl,_⟩
   . rw[ha]at e;cases e;exact absurd rfl (d1 _ _)
   . rw[hT.at' t ht]at e;cases e;exact absurd rfl d2
 have nsK:∀ {b:Addr} {m:Str->Option Value},s₁.heap.Ns b m->(lI s₁.heap H).Ns b m:=λ{b m} ⟨o,es,ep,e,d,r⟩=>by
  refine⟨o,es,ep,mJ e ?_,d,r⟩;cases q:H b with
  |none=>rfl
  |some u=>
   rcases Hs b u q with⟨rfl,_,_⟩|⟨t,ht,rfl,_⟩
   . rw[ha]at e;cases e;cases d
   . rw[hT.at' t ht]at e;cases e;cases d
 have hKb:K.In (lI s₁.heap H):=λ b o e=>mJ (KX b o e) (by
  cases q:H b with
  |none=>rfl
  |some u=>
   rcases Hs b u q with⟨rfl,z,_⟩|⟨t,ht,rfl,_⟩
   . rw[z]at e;cases e
   . rw[hT.no t ht]at e;cases e)
 obtain⟨bm,ob,b1,b2,b3,b4,b5,b6⟩:=hbm;have hbmK:(lI s₁.heap H).get? bm=some ob:=mJ b3 (dictNo b3 (λ es ep z=>by rw[b6]at z;cases z) (λ z=>by rw[b4]at z;cases z))
 have seK:(lI s₁.heap H).NoSeer:=by
  obtain⟨⟨m1,a1,a2⟩,⟨m2,c1,c2⟩,⟨m3,d1,d2⟩,⟨mg',bm',ob',e1,e2,e3,e4,e5⟩⟩:=hse;refine⟨⟨m1,nsK a1,a2⟩,⟨m2,nsK c1,c2⟩,⟨m3,nsK d1,d2⟩,⟨mg',bm',ob',nsK e1,e2,mJ e3 ?_,e4,e5⟩⟩;cases q:H bm' with
  |none=>rfl
  |some u=>
   rcases Hs bm' u q with⟨rfl,_,_⟩|⟨t,ht,rfl,_⟩
   . rw[ha]at e3;cases e3;exact absurd (show Value.type "list"=Value.type "module" from e4) (by intro z;injection z with z;exact absurd z (by decide))
   . rw[hT.at' t ht]at e3;cases e3;cases e4
 have hM:Mod K mg (lI s₁.heap H):=⟨hKb,nsK hns,⟨mb,nsK hb,hbb⟩,let⟨mc,h1,h2⟩:=hlim;⟨mc,nsK h1,h2⟩,seK,⟨bm,ob,b1,b2,hbmK,b4,b5,b6⟩⟩
 have e0:qw P w K mg (lI s₁.heap H) callerA [] s₁ H:=⟨rfl,hM,λ b o e=>Ir e,Td (Dg _ _),trivial,λ b hb=>absurd (show b∈([]:List Addr)from hb) (by simp),aC,.of_eq hg,hgt⟩
 refine Sn ((F _ hKb (nsK hns)).run callerA [] s₁ H ⟨[.ref a],[]⟩ [.ref a] [.ref a] _ _ hr e0 (hbind s₁ (.ref a)) (.cons rfl .nil) (hsp H hE)) λ r s' h=>?_;cases r with
 |error e=>exact False.elim h
 |ok fl=>
  cases fl with
  |next=>exact False.elim h
  |brk=>exact False.elim h
  |cont=>exact False.elim h
  |ret u=>
   obtain⟨v,H',os,bare,un,hok',r',q⟩:=h;have q':v= .bl true:=q;subst q';obtain rfl:u=Value.bool true:=r';have noF:∀b:Addr,b∉mf ([]:List Env):=λ b z=>absurd (show b∈([]:List Addr)from z) (by simp);refine⟨rfl,⟨λ b o e=>?_,λ b o e=>un.there b o e (by simp)⟩,os,bare⟩;cases q:H b with
   |none=>exact .inl (un.keep b o e q (noF b) (by simp))
   |some u=>
    rcases Hs b u q with⟨rfl,_,rfl⟩|⟨t,ht,rfl,rfl⟩
    . obtain⟨e2,_⟩:=hok' b _ (un.kc b _ _ q);rw[ha]at e;cases e;exact .inl e2
    . obtain⟨more,e1⟩:=un.ko _ _ q;have e2:s'.heap.get? t.2=some {cls:= .none,data:= .fields (#[]++more)}:=hok' _ _ e1;have e3:=hT.at' t ht;rw[e3]at e;cases e;have C:PySem.W.CodeHd s₁.heap t.1 t.2:=PySem.W.codeHd_of_K KX (hT.hd t ht);exact .inr (.inl ⟨(C.tab e3).isCodeTable,rfl,#[],more,rfl,e2⟩)
theorem Mb{l:PySem.W.OpenLaw}{n k:Nat}{q:Program}{loose:List Str}{XP:(Str->Option Value)->Heap->Prop}{YP:World->Heap->Prop}{d:DefRec}{K:Params->PySem.W.Frag}{sp:World->Sp}{x:Str}{ts:List (Addr×Addr)}
 (hn:l.most=some n) (hn2:n<=sizeLine) (hdf:d.params.defaults=[]) (hr:bV k callerA) (hq:importsNone q=true) (hgt:l.prog.given.tree=none)
 (hY:∀(w:World) (h:Heap),YP w h->(K w.params).In h/\Ky (K w.params) ts h)
 (F:∀(w:World) (mg:Str->Option Value) (fa:Addr) (h:Heap),(K w.params).In h->h.Ns mainGlobals mg->mg d.name=some (.ref fa)->
   ∃fd:FuncData,(∀(s:Shared) (u:Value),BindsTo s fd ⟨[u],[]⟩ [(x,u)])/\
    ∀base:Heap,(K w.params).In base->base.Ns mainGlobals mg->c_ l.prog w (K w.params) mg base (λ _ _ _ _ _ _=>False) k fa fd [x] (sp w))
 (hsp:∀(w:World) (H:Hp) (a:Addr) (ns:List Int),ns.length<=n->Entry (K w.params) ts a ns H->sp w [.ref a] H (λ v _=>v= .bl true) λ _ _ _=>False):
 PySem.W.WalkO q loose XP YP l.row.toRowW d [] (λ f vs=>PySem.call f vs):=by
 refine Att.x5 hn hdf λ w s₀ s₁ mg mb fa o pm cd doc a vs ns G Y ho hd hcd hmg hobj hints hlen hg=>?_;obtain⟨KX,hT⟩:=hY w _ Y;obtain⟨fd,hb,hF⟩:=F w mg fa _ KX G.T.g hmg;exact Be KX G.T.g G.T.b G.T.builtins G.T.nolimit (G.T.seer hq) hgt G.T.bmain hT hg hobj hints (Pe hlen hn2) hr hF hb λ H hE=>hsp w H a ns hlen hE
end L2
namespace L3
open PySem PySem.Spec L2
open PyProof.Rows hiding St
section
variable {X:Cx}{pins:List (Addr×Obj)}{σ:L2.St}{H:Hp}{s:Shared}{p:Addr}{o o':Obj}{h':Heap}
theorem iI{t':Nat}(I:Inv X pins σ H s)(hd:∀v,o.data≠ .cell v)(hfr:o.isFreed=false:=by rfl):Inv X (pins++[(s.heap.objs.size,o)]) σ H {s with heap:=s.heap.push o,toks:=t'}:=by
 have I':=I.kept (h':=s.heap.push o) (t':=t') (λ b u e=>Pa _ e);refine I'.o7 λ q hq=>?_;rcases PQ.mp hq with hq|hq
 . exact I'.pin q (PC _ hq)
 . have e:q=(s.heap.objs.size,o):=by simpa using hq
   subst e;exact⟨Pt _ hfr,I.aC.fresh (O9 _),RM I.lt,I.JD (O9 _),hd⟩
theorem dW(I:Inv X (pins++[(p,o)]) σ H s):s.heap.get? p=some o/\H p=none/\p≠X.env.locals/\p∉X.fs/\∀v,o.data≠ .cell v:=
 I.pin (p,o) (PC _ (PC _ (Ql.mpr rfl)))
theorem xH(I:Inv X (pins++[(p,o)]) σ H s):∀x c,X.env.cells.lookup x=some c->c≠p:=λ x c e z=>by
 obtain⟨v,u,hu,hd⟩:=I.cell x c e;obtain⟨h1,_,_,_,h5⟩:=dW I;rw[z,h1]at hu;cases hu;exact h5 v hd
theorem kg{t':Nat}(I:Inv X (pins++[(p,o)]) σ H s)(hs:Heap.SameBut p s.heap h')(hn:h'.get? p=some o')(hd:∀v,o'.data≠ .cell v)(h0:X.s₀.heap.objs.size<=p)(hp:∀q∈X.pn++pins,q.1≠p):
 Inv X (pins++[(p,o')]) σ H {s with heap:=h',toks:=t'}:=by
 obtain⟨_,n,neL,nfs,_⟩:=dW I;have I0:Inv X pins σ H s:=I.fm;have I1:=I0.turned (t':=t') (h':=h') (it:=p) (λ b u hb e=>(hs.2 b hb).trans e) n neL (.inr h0) (xH I) hp;refine I1.o7 λ q hq=>?_;rcases PQ.mp hq with hq|hq
 . exact I1.pin q (PC _ hq)
 . have e:q=(p,o'):=by simpa using hq
   subst e;exact⟨hn,n,neL,nfs,hd⟩
theorem Dc{u:HO}(I:Inv X (pins++[(p,o)]) σ H s)(h0:X.s₀.heap.objs.size<=p)(hp:∀q∈X.pn++pins,q.1≠p)(new:cw X.prog X.w (upd H p u) s.heap p u):Inv X pins σ (upd H p u) s:=by
 obtain⟨e0,n,neL,nfs,_⟩:=dW I;have ne:∀ {b:Addr} {w:HO},H b=some w->b≠p:=λ e=>cF e n;have ne0:∀ {b:Addr} {w:Obj},X.s₀.heap.get? b=some w->b≠p:=λ e=>PB (Pu (Pm e) h0);refine⟨I.ok,I.os,I.bare,⟨I.base.keep,I.base.slot,λ b w e q hx=>?_,I.base.there,λ b xs e=>?_,λ b w y e=>?_,λ b ps e=>?_⟩,I.loc,I.cell,?_,λ x c e=>?_,λ q hq=>?_,λ b w e=>?_,I.len⟩
 . rw[au (ne0 e)];exact I.base.free b w e q hx
 . have:=I.base.lq b xs e;rw[au (ne this)];exact this
 . have:=I.base.kc b w y e;rw[au (ne this)];exact this
 . obtain⟨m,q⟩:=I.base.ko b ps e;exact⟨m,by rw[au (ne q)];exact q⟩
 . rw[au (Pj neL)];exact I.free
 . rw[au (xH I x c e)];exact I.fN x c e
 . have hq':q∈X.pn++(pins++[(p,o)]):=by
    rcases PQ.mp hq with z|z
    . exact QR _ z
    . exact PC _ (QR _ z)
   obtain⟨a1,a2,a3⟩:=I.pin q hq';exact⟨a1,by rw[au (hp q hq)];exact a2,a3⟩
 . by_cases hb:b=p
   . subst hb;rw[aG]at e;cases e;exact new
   . rw[au hb]at e;exact(I.aC b w e).lO (λ _ _ _ q=>q) (λ c q=>by rw[au (ne q)];exact q) λ c xs q=>by rw[au (ne q)];exact q
end
def jC(X:Cx)(pins:List (Addr×Obj))(σ:L2.St)(R:Hp->Prop)(own:List (Addr×Obj))(s:Shared):Prop:=∃H,Inv X (pins++own) σ H s/\R H
section
variable {X:Cx}{pins:List (Addr×Obj)}{σ:L2.St}{R:Hp->Prop}{s:Shared}{A:Around}{E:Value->Shared->Prop}{a kS:Addr}{e1 e:Nat}{keys:Array Value}{P:PySem.Fin->Shared->Prop}
structure Own(X:Cx)(pins:List (Addr×Obj))(p:Addr):Prop where
 ge:X.s₀.heap.objs.size<=p
 ne:∀q∈X.pn++pins,q.1≠p
theorem oO{H:Hp}(I:Inv X pins σ H s):Own X pins s.heap.objs.size:=⟨I.sz,λ q hq=>PB (Pm (I.pin q hq).1)⟩
theorem vV{p:Addr}{q:Addr×Obj}(h:Own X pins p)(hq:q.1≠p):Own X (pins++[q]) p:=⟨h.ge,λ r hr=>by
 rcases PQ.mp hr with z|z
 . exact h.ne r (QR _ z)
 . rcases PQ.mp z with z|z
   . exact h.ne r (PC _ z)
   . have e:r=q:=by simpa using z
     rw[e];exact hq⟩
theorem xk{x y:Addr×Obj}(J:jC X pins σ R [x,y] s):∃H,Inv X ((pins++[x])++[y]) σ H s/\R H:=by
 obtain⟨H,I,r⟩:=J;exact⟨H,by rw[QJ];exact I,r⟩
theorem BN{x y:Addr×Obj}{H:Hp}(I:Inv X ((pins++[x])++[y]) σ H s)(r:R H):jC X pins σ R [x,y] s:=⟨H,by rw[QJ]at I;exact I,r⟩
theorem w6{st:SortSt}(J:jC X pins σ R [(a,seqObj "list" #[] e1),(kS,seqObj "list" keys e)] s)(ha:Own X pins a)(hk:Own X pins kS)(hka:kS≠a)(hz1:keys.size<=sizeLine)(hz2:(arrOf st).size<=sizeLine)(hf:failedOf st=none)
 (h:∀s' c,jC X pins σ R [(a,seqObj "list" ((arrOf st).map (·.2)) c)] s'->P (.done (.ret .none)) s'):
 wpAny (model X.prog X.w) A (PyProof.Rows.ksk_tail a false e1 (.ref kS) st) P E s:=by
 obtain⟨H,I,r⟩:=xk J;have k1:=(dW I).1;have s1:=QI s.heap kS (Obj.mapSeq λ _=>(#[]:Array Value));have I1:=kg (t':=s.toks) I s1 (Sl k1 λ _=> #[]) (λ v z=>by cases z) hk.ge (vV hk hka.symm).ne;have I2:Inv X (pins++[(a,seqObj "list" #[] e1)]) σ H {s with heap:=s.heap.update kS (Obj.mapSeq λ _=>(#[]:Array Value)),toks:=s.toks}:=I1.fm;have a1:=(dW I2).1;have s2:=QI (s.heap.update kS (Obj.mapSeq λ _=>(#[]:Array Value))) a (Obj.mapSeq λ _=>(arrOf st).map (·.2));have I3:=kg (t':=s.toks) I2 s2 (Sl a1 λ _=>(arrOf st).map (·.2)) (λ v z=>by cases z) ha.ge ha.ne;unfold ksk_tail;simp only[PJ,Qp];refine O5 (TZ k1 rfl ?_ hz1 (Po _));refine O5 (UD ?_);refine O5 (seqEpoch_at a1 rfl ?_);refine O5 (TZ a1 rfl ?_ (Po _) (Nat.le_succ_of_le (by rw[UT];exact hz2)));rw[hf];simp only[bne_self_eq_false,PJ,Qp];exact Pf (h _ _ ⟨H,I3,r⟩)
def Aw(kz:List Int)(vs out:List Value):Prop:=
 ∃ps:List (Int×Value),ps.Perm (kz.zip vs)/\out=ps.map Prod.snd/\ps.Pairwise λ p q=>p.1<q.1\/(p.1=q.1/\numOf p.2<numOf q.2)
theorem yB{kz:List Int}{vs:List Value}(hk:IntsAre keys.toList kz){xs:Array Keyed}(hp:xs.Perm (keys.zip vs.toArray))(hs:gG xs xs.size):Aw kz vs (xs.map (·.2)).toList:=by
 have hl:xs.toList.Perm (keys.toList.zip vs):=by rw[<-ksk_zip];exact Array.perm_iff_toList_perm.mp hp
 refine⟨xs.toList.map λ p=>(numOf p.1,p.2),?_,?_,?_⟩
 . have e2:(keys.toList.zip vs).map (λ p:Keyed=>(numOf p.1,p.2))=kz.zip vs:=by
    rw[<-hk.nums,List.zip_map_left];exact Qy λ⟨x,y⟩ _=>rfl
   rw[<-e2];exact hl.map _
 . rw[Array.toList_map,Qb];rfl
 . rw[Uc];intro i j hi hj hij;have hi':i<xs.size:=by simpa using hi
   have hj':j<xs.size:=by simpa using hj
   have q:=hs i j hij hj';unfold ji Jn at q;rw[K_eq hi',K_eq hj',getElem?_pos xs i hi',getElem?_pos xs j hj']at q;simpa using q
theorem GD{kz:List Int}{vs:List Value}(J:jC X pins σ R [(a,seqObj "list" #[] e1),(kS,seqObj "list" keys e)] s)(ha:Own X pins a)(hk:Own X pins kS)(hka:kS≠a)(hi:IntsAre keys.toList kz)(hl:kz.length=vs.length)(h64:vs.length<64)
 (hup:vs.Pairwise λ x y=>numOf x<numOf y)
 (h:∀s' out c,jC X pins σ R [(a,seqObj "list" out c)] s'->Aw kz vs out.toList->P (.done (.ret .none)) s'):
 wpAny (model X.prog X.w) A (ksk_end a false vs.toArray e1 (.ref kS) keys) P E s:=by
 have hsz:keys.size=vs.length:=by have:=hi.length;rw[PU]at this;omega
 have hzs:(keys.zip vs.toArray).size=vs.length:=by rw[Array.size_zip,hsz,Ph,Ve]
 have hbig:vs.length<=sizeLine:=Pe (QK h64) (by decide)
 have hta:fX (keys.zip vs.toArray).size (keys.zip vs.toArray) 1:=λ i j hij _ hj=>by
  rw[hzs]at hj
  have e1:(keys.zip vs.toArray)[i]?=some (keys.toList[i]'(by rw[PU];omega),vs[i]'(by omega)):=by
   rw[<-SY,ksk_zip,Pk (by rw[Uv,PU];omega),List.getElem_zip]
  have e2:(keys.zip vs.toArray)[j]?=some (keys.toList[j]'(by rw[PU];omega),vs[j]'(by omega)):=by
   rw[<-SY,ksk_zip,Pk (by rw[Uv,PU];omega),List.getElem_zip]
  unfold Jn;rw[e1,e2];exact Uc.mp hup i j (by omega) (by omega) hij
 unfold ksk_end;simp only[PJ,Qp];by_cases h2:vs.toArray.size<2
 . rw[O_ h2,O_ h2];refine O5 (Pf ?_);rw[StateT.run_pure];refine O5 (Pf ?_);refine w6 (st:=SortSt.mk' general' (keys.zip vs.toArray) #[] 7 none) J ha hk hka (by omega) (by show(keys.zip vs.toArray).size<=_;omega) rfl λ s' c J'=>h s' _ c J' ?_;refine yB hi (Array.Perm.refl _) λ i j hij hj=>?_;have hj':j<(keys.zip vs.toArray).size:=hj;rw[Ph]at h2;omega
 . rw[O7 h2,O7 h2];rw[Ph]at h2;rw[ksk_kind hi (by omega)];refine O5 (Pf ?_)
   refine O5 (Q7 (BF (a₀:=keys.zip vs.toArray) (st:=SortSt.mk' oneType' (keys.zip vs.toArray) #[] 7 none)
    (Q:=λ _ st'=>(arrOf st').Perm (keys.zip vs.toArray)/\failedOf st'=none/\gG (arrOf st') (keys.zip vs.toArray).size)
    (ksk_intKeys hi) ⟨Array.Perm.refl _,rfl,rfl,rfl⟩ hta (by omega) (by omega) λ st' b1 b2 b3=>⟨b1,b2,b3⟩) ?_ λ _ _ z=>z)
   rintro⟨⟨⟩,st'⟩ s' ⟨rfl,hp,hf,hs⟩;have hz2:=hp.size_eq;refine w6 (st:=st') J ha hk hka (by omega) (by rw[hz2];omega) hf λ s' c J'=>h s' _ c J' (yB hi hp (by rw[hz2];exact hs))
theorem E9{f:Value}{kz:List Int}{vs:List Value}(J:jC X pins σ R [(a,seqObj "list" #[] e1),(kS,seqObj "list" #[] 0)] s)(ha:Own X pins a)(hk:Own X pins kS)(hka:kS≠a)(hl:kz.length=vs.length)(h64:vs.length<64)
 (hup:vs.Pairwise λ x y=>numOf x<numOf y)
 (turn:∀(i:Nat) (v:Value) (k:Int),vs[i]?=some v->kz[i]?=some k->∀(own:List (Addr×Obj)) (s:Shared),jC X pins σ R own s->wpAny (model X.prog X.w) A (call f [v]) (λ u s'=>(∃t,u= .int k t)/\jC X pins σ R own s') (λ _ _=>False) s)
 (h:∀s' out c,jC X pins σ R [(a,seqObj "list" out c)] s'->Aw kz vs out.toList->P (.done (.ret .none)) s'):
 wpAny (model X.prog X.w) A (ksk_rest a f false vs.toArray e1 (.ref kS)) P E s:=by
 have hbig:vs.length<=sizeLine:=Pe (QK h64) (by decide);unfold ksk_rest;refine O5 (SD ?_)
 first
  |rw[List.forIn_toArray]
  |(rw[<-Sv];simp only[List.toList_toArray])
  |rw[<-Sv]
 refine O5 (ksk_fold (λ i s'=>∃kA e,jC X pins σ R [(a,seqObj "list" #[] e1),(kS,seqObj "list" kA e)] s'/\IntsAre kA.toList (kz.take i)) vs 0 s ⟨#[],0,J,by simpa using IntsAre.nil⟩ ?st ?en)
 case st=>
  rintro j x s' hx ⟨kA,e,J',hk'⟩;simp only[QW]at hk'⊢;have hj:j<vs.length:=(O6.mp hx).1;have hkj:kz[j]?=some (kz[j]'(by omega)):=Pk _
  have hz:kA.size<=vs.length:=by
   have:=hk'.length;rw[PU,P_]at this;omega
  refine O5 (TY (Q7 (turn j x _ hx hkj _ s' J') (λ v s2 he=>?_) λ _ _ z=>z.elim));obtain⟨⟨t,rfl⟩,J2⟩:=he;obtain⟨H,I,r⟩:=xk J2;have k1:=(dW I).1;have s1:=QI s2.heap kS (Obj.mapSeq (·.push (.int (kz[j]'(by omega)) t)));have I1:=kg (t':=s2.toks) I s1 (Sl k1 (·.push (.int (kz[j]'(by omega)) t))) (λ v z=>by cases z) hk.ge (vV hk hka.symm).ne;refine O5 (TZ k1 rfl ?_ (by omega) (Pe (Td (Array.size_push ..)) (by omega)));refine Pf ⟨rfl,_,_,BN I1 r,?_⟩;have ek:kz.take (j+1)=kz.take j++[kz[j]'(by omega)]:=by rw[List.take_add_one,hkj];simp
  rw[ek,Array.toList_push];exact ksk_snoc hk'
 case en=>
  rintro s' ⟨kA,e,J',hk'⟩;rw[show kz.take (0+vs.length)=kz from Ro (by omega)]at hk';obtain⟨H,I,r⟩:=xk J';refine O5 (listItems_at (dW I).1 rfl ?_);exact GD J' ha hk hka hk' hl h64 hup h
theorem zI{f:Addr}{l:Addr}{kz:List Int}{vs:List Value}{H:Hp}{Q:Value->Shared->Prop}(I:Inv X pins σ H s)(r:R H)(hli:s.heap.IsList l vs.toArray)(hl:kz.length=vs.length)(h64:vs.length<64)
 (hup:vs.Pairwise λ x y=>numOf x<numOf y)
 (turn:∀(i:Nat) (v:Value) (k:Int),vs[i]?=some v->kz[i]?=some k->∀(own:List (Addr×Obj)) (s:Shared),jC X pins σ R own s->wpAny (model X.prog X.w) A.in1.in1 (call (.ref f) [v]) (λ u s'=>(∃t,u= .int k t)/\jC X pins σ R own s') (λ _ _=>False) s)
 (h:∀D s' out c,Own X pins D->jC X pins σ R [(D,seqObj "list" out c)] s'->Aw kz vs out.toList->Q (.ref D) s'):
 wpAny (model X.prog X.w) A (call (.builtin "sorted") [.ref l] [(Str.ofString "key",.ref f)]) Q E s:=by
 have hbig:vs.length<=sizeLine:=Pe (QK h64) (by decide);refine call_function_entry_kw kind_sorted plain_sorted entry_sorted (ksk_s1 _ _) ?_;unfold Builtin.«sorted»;refine O5 (m:=checkCount "sorted" 1 1 _) (Pf ?_);refine O5 (collect_list hli ?_ hbig);have I1:=iI (o:=seqObj "list" #[] 0) (t':=s.toks) I (λ v z=>by cases z);have s1:=QI (s.heap.push (seqObj "list" #[] 0)) s.heap.objs.size (Obj.mapSeq (· ++vs.toArray));have I2:=kg (t':=s.toks) I1 s1 (Sl (dW I1).1 (· ++vs.toArray)) (λ v z=>by cases z) (oO I).ge (oO I).ne;have I3:Inv X pins σ H {s with heap:=(s.heap.push (seqObj "list" #[] 0)).update s.heap.objs.size (Obj.mapSeq (· ++vs.toArray)),toks:=s.toks}:=I2.fm;refine O5 (Va ?_ hbig);generalize hs3:({s with heap:=(s.heap.push (seqObj "list" #[] 0)).update s.heap.objs.size (Obj.mapSeq (· ++vs.toArray))}:Shared)=s3;have I3':Inv X pins σ H s3:=by rw[<-hs3];exact I3
 have oD:=oO I3';have I4:=iI (o:=seqObj "list" vs.toArray 0) (t':=s3.toks) I3' (λ v z=>by cases z);have hD:=(dW I4).1;refine O5 (QY (wpAny_call_entry_kw slot_list_sort ⟨_,hD,rfl⟩ entry_list_sort ?body (ksk_l1 _ _)))
 case body=>
  show wpAny (model X.prog X.w) A.in1.in1 (Builtin.«list.sort» ⟨[.ref s3.heap.objs.size],[(Str.ofString "key",.ref f)]⟩) _ _ _;rw[ksk_t1];unfold ksk_tree;refine O5 (listItems_at hD rfl ?_);have s5:=QI (s3.heap.push (seqObj "list" vs.toArray 0)) s3.heap.objs.size (Obj.mapSeq λ _=>(#[]:Array Value));have I5:=kg (t':=s3.toks) I4 s5 (Sl hD λ _=> #[]) (λ v z=>by cases z) oD.ge oD.ne;have hD5:=(dW I5).1;refine O5 (TZ hD rfl ?_ (by rw[Ph];exact hbig) (Po _));refine O5 (seqEpoch_at hD5 rfl ?_);refine O5 (wpAny_newTuple ?_ (by show vs.length<=_;exact hbig));have I6:=(iI (o:=seqObj "tuple" vs.toArray 0) (t':=s3.toks) I5 (λ v z=>by cases z)).fm;refine O5 (Va ?_ (Po _));have ok:=oO I6;have I7:=iI (o:=seqObj "list" #[] 0) (t':=s3.toks) I6 (λ v z=>by cases z);refine QY ?_
  have okp:Own X pins _:=⟨ok.ge,λ q hq=>ok.ne q (by
   rcases PQ.mp hq with z|z
   . exact QR _ z
   . exact PC _ (QR _ z))⟩
  refine E9 (BN I7 r) oD okp (λ z=>ok.ne (s3.heap.objs.size,_) (PC _ (PC _ (Ql.mpr rfl))) z.symm) hl h64 hup turn λ s' out c J' so=>⟨_,rfl,?_⟩
  exact Pf ⟨_,rfl,h _ s' out c oD J' so⟩
end
structure jN(X:Cx)(scope:Scope)(Nc:List Str)(fr:List (Option Nat))(p:Str):Prop where
 sc:bN X scope Nc fr
 Ca:∀x∈scope.names,x.2≠ .cell
 co:scope.isCoroutine=false
 gen:scope.isGenerator=false
 p0:Nc[0]?=some p
 f0:fr[0]?=some none
 loc:scope.names.lookup p=some .local
abbrev zW(X:Cx)(scope:Scope)(qual:Str)(f c:Addr)(s:Shared):Env:=PySem.W.envX qual scope s.heap.objs.size f (.ref c) (cx X.env.cells scope.names [])
def Dw(X:Cx)(scope:Scope)(Nc:List Str)(qual:Str)(f c:Addr)(s:Shared)(H:Hp):Cx:=
 {X with A:=X.A.in1.in1.deeper (zW X scope qual f c s),N:=Nc,s₀:=s,H₀:=H,env:=zW X scope qual f c s,outer:=X.stack,stack:=zW X scope qual f c s::X.stack,ex:=[],fn:=λ _=>false,calm:=true,pn:=[],xe:=λ _ _=>False}
section
variable {X:Cx}{scope:Scope}{Nc:List Str}{fr:List (Option Nat)}{p qual:Str}{f c:Addr}{pins:List (Addr×Obj)}{σ:L2.St}{H:Hp}{s:Shared}
theorem Kr(S:jN X scope Nc fr p)(I:Inv X pins σ H s)(hc:X.calm=true):(Dw X scope Nc qual f c s H).Ok where
 mod:=I.ok.mod
 kind:=S.sc.kind
 glob:=rfl
 blt:=rfl
 above:=O9 _
 inj:=λ x y a h1 h2=>I.ok.inj x y a (cj _ [] (λ _ _ e=>by cases e) x a h1) (cj _ [] (λ _ _ e=>by cases e) y a h2)
 has:=λ x hx=>by
  have hx':scope.names.lookup x=some .cell\/scope.names.lookup x=some .free:=hx;rcases hx' with hx|hx
  . exact absurd rfl (S.Ca _ (Qf hx))
  . exact fU scope.names [] (I.ok.has x (S.sc.free _ (Qf hx) rfl)) (.inl (Qf hx))
 xr:=λ x a hf _=>by cases hf
 hd:=λ _=>I.ok.hd hc
 frames:=Around.frames_deeper (by show X.A.frames=_;exact I.ok.frames)
 za:= .inr ⟨rfl,rfl⟩
 Ct:=λ b hb=>by cases hb
 bs:=I.bs
 nA:=Pe I.ok.nA I.sz
 qG:=λ b o e hb=>by cases hb
 qj:=λ b hb=>by cases hb
 ik:=I.stack
 qW:=I.tD
 gt:=I.ok.gt
theorem Iw{h':Heap}{t':Nat}{v:V}{u:Value}(S:jN X scope Nc fr p)(I:Inv X pins σ H s)(hc:X.calm=true)(r:RelV v u)(hn:h'.Ns s.heap.objs.size (λ x=>[(p,u)].reverse.lookup x))
 (k:∀b o,s.heap.get? b=some o->h'.get? b=some o):Inv (Dw X scope Nc qual f c s H) [] ((σC fr σ).set 0 (some v)) H {s with heap:=h',toks:=t'} where
 ok:=Kr S I hc
 os:=rfl
 bare:=I.bare
 base:=Un.kept k
 loc:=⟨_,hn,λ i x w h1 h2 h3=>by
  by_cases hi:i=0
  . subst hi;have hp:=S.p0;have e:p=x:=Qq (hp.symm.trans h1);subst e
    have hl:0<(σC fr σ).length:=by
     have:=(O6.mp h2).1;rw[Pl]at this;exact this
    rw[Pg hl]at h2;cases h2;exact⟨u,r,.inl ⟨S.loc,by simp⟩⟩
  . rw[Pb (Pj hi)]at h2;obtain⟨j,q1,q2⟩:=yK h2;obtain⟨n1,n2,n3⟩:=S.sc.map i j x h1 q1;obtain⟨m,hm,hl⟩:=I.loc;obtain⟨u',r',lk⟩:=hl j x w n1 q2 (n3.elim (λ z=> .inr (.inl z)) λ z=> .inr (.inr z));refine⟨u',r',?_⟩;rcases lk with⟨z,_⟩|⟨_,a,e,ic⟩
    . rcases n3 with y|y<;>(rw[y]at z;cases z)
    . obtain⟨a',e'⟩:=fU scope.names [] ⟨a,e⟩ (.inl (Qf n2));have e2:=cj _ [] (λ _ _ e=>by cases e) x a' e';rw[e]at e2;cases e2;exact .inr ⟨.inr n2,a,e',ic.keeps k⟩⟩
 cell:=λ x a h=>by
  obtain⟨v,q⟩:=I.cell x a (cj _ [] (λ _ _ e=>by cases e) x a h);exact⟨v,q.keeps k⟩
 free:=I.aC.fresh (O9 _)
 fN:=λ x a h=>I.fN x a (cj _ [] (λ _ _ e=>by cases e) x a h)
 pin:=λ q hq=>by cases hq
 aC:=I.aC.kept k
 len:=by rw[Pl];unfold σC;rw[O8];exact S.sc.len
theorem EH{R:Hp->Prop}{params:Arguments}{body:Expr}{tb:TE}{own:List (Addr×Obj)}{k:Int}{v:V}{u pm ctv:Value}(S:jN X scope Nc fr p)(hc:X.calm=true)(hr:X.A.depth<recursionLimit)
 (hb:∀(s:Shared) (H:Hp),PE (Dw X scope Nc qual f c s H) body tb)
 (hbind:∀(cl:List (Str×Addr)) (pm cd ct v:Value),bindArgs (PySem.W.kla_fn "<lambda>" qual params body scope cl pm cd ct) ⟨[v],[]⟩=pure [(p,v)])
 (r:RelV v u) (hf:(f,PySem.W.kla_obj "<lambda>" qual params body scope (cx X.env.cells scope.names []) pm c ctv)∈pins)
 (hcr:∀(H:Hp) (s:Shared),Inv X (pins++own) σ H s->R H->s.heap.CodeRec (.ref c) qual)
 (hq:∀H,R H->tb ((σC fr σ).set 0 (some v)) H λ x H'=>x= .int k/\R H') (J:jC X pins σ R own s):
 wpAny (model X.prog X.w) X.A.in1.in1 (call (.ref f) [u]) (λ u' s'=>(∃t,u'= .int k t)/\jC X pins σ R own s') (λ _ _=>False) s:=by
 obtain⟨H,I,rH⟩:=J;have ho:=(I.pin _ (PC _ (QR _ hf))).1;refine U0 (PySem.W.kla_callFunE (fd:=PySem.W.kla_fn "<lambda>" qual params body scope (cx X.env.cells scope.names []) pm (.ref c) ctv) (by show X.A.depth<_;exact hr) ho rfl S.co S.gen rfl (hcr H s I rH) ?_);rw[hbind]
 refine Pf (wpAny_newFunctionEnv S.Ca (λ y hy=>by
  have e:y=(p,u):=by simpa using hy
  rw[e];exact S.loc) (λ h₁ hns hsb=>?_) S.sc.kind)
 have hk:∀b o,s.heap.get? b=some o->h₁.get? b=some o:=λ b o e=>hsb.extBut b o (PB (Pm e)) (Pa _ e);refine⟨I.nolimit.keeps hk,?_⟩;show codeAny _ X.A.in1.in1 (.expr body (zW X scope qual f c s)) _ _;refine PySem.W.kla_codeExpr (Q7 (hb s H [] _ _ H _ (Iw S I hc r hns hk) (hq H rH)) (λ w s' he=>?_) λ e s' z=>False.elim z);obtain⟨x,H',I',rx,rfl,rH'⟩:=he;exact⟨rx,H',I.AA (s':=s') (ch:=[]) I'.os I'.base I'.aC I'.bare (λ b z=>absurd z (by simp)),rH'⟩
theorem set_same{α:Type}:∀ {l:List α} {n:Nat} {x:α},l[n]?=some x->l.set n x=l
 | [],n,x,h=>by simp at h
 |a::l,0,x,h=>by simp at h;subst h;rfl
 |a::l,n+1,x,h=>by
  rw[List.set_cons_succ,set_same (n:=n) (by simpa using h)]
theorem D8{params:Arguments}{body:Expr}{lpos:Pos}{c0 T:Addr}{α:List (Option Addr)}{G F:Hp}{st:ae}{n0:Nat}{b:Bool}{E:Value->Shared->Prop}{Q:Value->Shared->Prop}(S:jN X scope Nc fr p)(hcode:X.env.code= .ref c0)(hC:PySem.W.codeHdIn X.K c0 T=true)
 (hdef:defaultsOf params X.env=([],[])) (hql:X.env.qual++"<lambda>"=qual) (I:Inv X pins σ H s) (Sp:bw G F H) (SR:aD α st G) (hn0:st[n0]?=some (.tab T lpos qual b))
 (h:∀(f c:Addr) (ctv pm:Value) (G2 H2:Hp) (s2:Shared),Inv X (pins++[(f,PySem.W.kla_obj "<lambda>" qual params body scope (cx X.env.cells scope.names []) pm c ctv)]) σ H2 s2->Step α G α G2->bw G2 F H2->aD α (st.set n0 (.tab T lpos qual true)) G2->
   (some c∉α/\∃o vs t,G2 c=some (.dE o (.own c))/\o.data= .fields vs/\vs[1]?=some (.str qual t))->Q (.ref f) s2):
 wpAny (model X.prog X.w) X.A (eval (.Lambda params body scope lpos) X.env) Q E s:=by
 refine PySem.W.kla_eval hdef ?_;rw[hql];rcases SR.at' n0 _ hn0 with⟨z,_⟩|⟨a,ha,rfl,ps,gP,tr,cs⟩
 . cases z
 have hP:=I.aC a _ (Sp.get gP);have hP:s.heap.get? a=some (PySem.W.tabObj ps):=hP;have hg:s.heap.Ns mainGlobals X.mg:=I.mod.glob.keeps I.bk;obtain⟨bm,ob,b1,b2,b3,b4,b5,b6⟩:=I.mod.bmain;have b3':=I.bk _ _ b3
 have hgP:mainGlobals≠a:=λ q=>by
  obtain⟨o,es,ep,e,hd,_⟩:=hg;rw[q,hP]at e;cases e;cases hd
 have n1:bm≠mainGlobals:=λ q=>by
  obtain⟨o,es,ep,e,hd,_⟩:=hg;rw[q,e]at b3';cases b3';rw[hd]at b6;cases b6
 have n2:bm≠a:=λ q=>by rw[q,hP]at b3';cases b3';cases b4
 have hB:s.heap.BuiltinsAt X.mg a:=⟨bm,ob,b1,b2,n1,n2,b3',b4,b5,b6⟩
 have hcl:closureFor scope X.env=pure (cx X.env.cells scope.names []):=jo λ x hx hk=>I.ok.has x.1 (S.sc.free x hx hk);have C:PySem.W.CodeHd s.heap c0 a:=PySem.W.codeHd_of_K I.fh hC;rcases cs with⟨rfl,hnf⟩|⟨rfl,c,o,vs,t,q1,q2,q3,q4,q5⟩
 . refine PySem.W.kla_makeFunction hcl I.ok.glob hg hcode C hP tr hnf hgP hB λ c' ctv h' tk hx hge hlt hrec htb=>?_;obtain⟨c2,oc,vs,t,e2,hoc,hd,hv⟩:=hrec;cases e2;have hHc:H c'=none:=I.aC.fresh hge;have hGc:G c'=none:=(Sp.none hHc).1;have hHa:H a=some (.g9 ps):=Sp.get gP;have hac:a≠c':=cF hHa hHc
   let ps':=ps++ #[rawInt lpos.line,rawInt lpos.col,.ref c']
   have nb:∀ {b:Addr},H b=none->b≠a:=λ e z=>by rw[z,hHa]at e;cases e
   have I1:Inv X pins σ (upd (upd H c' (.dE oc (.own c'))) a (.g9 ps')) {s with heap:=h',gens:=s.gens,drawn:=s.drawn,toks:=tk}:=by
    have old:∀ {b:Addr} {u:HO},H b=some u->b≠a->upd (upd H c' (.dE oc (.own c'))) a (.g9 ps') b=some u:=λ e n=>by rw[au n,au (cF e hHc)];exact e
    refine I.step (ch:=[]) (λ _ z=>nomatch z) (λ b o _ _ _ e n=>hx b o (nb n) e) (λ b o _ _ _ e n=>⟨o.slots,hx b o (nb n) e⟩) (λ b o _ e n=>?_) (λ b o _ e=>?_) (λ b xs e=>?_) (λ b o u e=>?_) (λ b qs e=>?_) (λ m hm=>?_) (λ b u e=>?_) I.bare
    . rw[au (nb n),au (PB (Pu (Pm e) hge))];exact n
    . by_cases hb:b=a
      . exact⟨_,by rw[hb];exact htb⟩
      . exact⟨o,hx b o hb e⟩
    . exact old e λ z=>by rw[z,hHa]at e;cases e
    . exact old e λ z=>by rw[z,hHa]at e;cases e
    . by_cases hb:b=a
      . subst hb;rw[hHa]at e;cases e;exact⟨_,aG⟩
      . exact⟨#[],by rw[old e hb];simp⟩
    . obtain⟨o,es,ep,ho,r⟩:=hm;exact⟨o,es,ep,hx _ o (nb I.free) ho,r⟩
    . by_cases hb:b=a
      . subst hb;rw[aG]at e;cases e;exact htb
      . rw[au hb]at e;by_cases hbc:b=c'
        . subst hbc;rw[aG]at e;cases e;exact⟨hoc,_,hoc⟩
        . rw[au hbc]at e;refine(I.aC b u e).lO (λ d w hd q=>hx d w ?_ q) (λ d q=>old q λ z=>by rw[z,hHa]at q;cases q) λ d xs q=>old q λ z=>by rw[z,hHa]at q;cases q
          rcases hd with rfl|hd
          . exact hb
          . intro z;rw[z,hHa]at hd;cases hd
   have I2:=iI (o:=PySem.W.kla_obj "<lambda>" qual params body scope (cx X.env.cells scope.names []) ((X.mg "__name__").getD .none) c' ctv) (t':=tk) I1 (λ v z=>by cases z);have gP':upd G c' (.dE oc (.own c')) a=some (.g9 ps):=by rw[au hac];exact gP
   refine h _ c' ctv _ (upd (upd G c' (.dE oc (.own c'))) a (.g9 ps')) _ _ I2 ((Step.laid hGc).trans (Step.write (PM ha))) ((Sp.laid hHc).write gP') ((SR.laid hGc).write ha ⟨rfl,ps',aG,?_,.inr ⟨rfl,c',oc,vs,t,?_,SR.iq hGc,?_,hd,hv⟩⟩) ⟨SR.iq hGc,oc,vs,t,?_,hd,hv⟩
   . show TriplesOk (ps++ #[rawInt lpos.line,rawInt lpos.col,.ref c']).toList;rw[Tz];exact TriplesOk_snoc _ _ _ _ tr
   . show codeAmong lpos (ps++ #[rawInt lpos.line,rawInt lpos.col,.ref c']).toList=_;rw[Tz];exact codeAmong_snoc _ tr hnf
   . rw[au hac.symm,aG]
   . rw[au hac.symm,aG]
 . refine PySem.W.kla_makeFunctionHit hcl I.ok.glob hg hcode C hP tr q1 hB λ ctv h' tk hk hsz=>?_;have I1:=I.kept (t':=tk) hk;have I2:=iI (o:=PySem.W.kla_obj "<lambda>" qual params body scope (cx X.env.cells scope.names []) ((X.mg "__name__").getD .none) c ctv) (t':=tk) I1 (λ v z=>by cases z);refine h _ c ctv _ G H _ I2 Step.refl Sp (by rw[set_same hn0];exact SR) ⟨q2,o,vs,t,q3,q4,q5⟩
end
def slt(p q:Int×Int):Prop:=p.1<q.1\/(p.1=q.1/\p.2<q.2)
def vO(n0:Nat)(T:Addr)(lpos:Pos)(qual:Str)(fr:List (Option Nat))(tb te:DE):DE:=λ σ st K=>te σ st λ d st1=>∃(ns ks:List Int) (b:Bool),d= .lst (ns.map .int)/\ns.length<64/\ns.Pairwise (· < ·)/\ks.length=ns.length/\
 st1[n0]?=some (.tab T lpos qual b)/\(∀(i:Nat) (n k:Int),ns[i]?=some n->ks[i]?=some k->tb ((e_ fr σ).set 0 (some (.int n))) (st1.set n0 (.tab T lpos qual true)) λ v st2=>v= .int k/\st2=st1.set n0 (.tab T lpos qual true))/\
 ∀os:List (Int×Int),os.Perm (ks.zip ns)->os.Pairwise slt->K (.lst (os.map λ p=> .int p.2)) (st1.set n0 (.tab T lpos qual true))
theorem vw{α:List (Option Addr)}{H:Hp}:∀ {ns:List Int} {vs:List V},aB α H (ns.map D.int) vs->vs=ns.map V.int
 | [],vs,h=>by unfold aB at h;exact h
 |n::ns,vs,h=>by
  unfold aB at h;obtain⟨v,r,rfl,h1,h2⟩:=h;unfold Rep at h1;rw[h1,vw h2];rfl
theorem vB{α:List (Option Addr)}{H:Hp}:∀(ns:List Int),aB α H (ns.map D.int) (ns.map V.int)
 | []=>by unfold aB;rfl
 |n::ns=>by unfold aB;exact⟨_,_,rfl,by unfold Rep;rfl,vB ns⟩
theorem wK:∀ {ns:List Int} {us:List Value},Vals (ns.map V.int) us->IntsAre us ns
 | [],_,.nil=> .nil
 |n::ns,_,.cons ⟨t,rfl⟩ h=> .cons n t (wK h)
section
variable {X:Cx}{scope:Scope}{Nc:List Str}{fr:List (Option Nat)}{p x qual:Str}{params:Arguments}{e body:Expr}{te tb:DE}{lpos kpos pos ppos:Pos}{c0 T:Addr}{n0:Nat}
theorem G0(S:jN X scope Nc fr p)(hc:X.calm=true)(hr:bV 2 X.A)(hcode:X.env.code= .ref c0)(hC:PySem.W.codeHdIn X.K c0 T=true)(hdef:defaultsOf params X.env=([],[]))(hql:X.env.qual++"<lambda>"=qual)
 (hbind:∀(cl:List (Str×Addr)) (pm cd ct v:Value),bindArgs (PySem.W.kla_fn "<lambda>" qual params body scope cl pm cd ct) ⟨[v],[]⟩=pure [(p,v)])
 (hb:∀(f c:Addr) (s:Shared) (H:Hp),PE (Dw X scope Nc qual f c s H) body (LE tb)) (ha:PA X [e] (LA (ab te af)))
 (hg:Gl X "sorted") (hm:X.mg "sorted"=none) (hv:bootBuiltins "sorted"=some (.builtin "sorted"))
 (he:backTo pos (starEach [e] X.env)=(false,eval e X.env)::backTo pos (starEach [] X.env):=by rfl) (hpl:(backTo pos (starEach [e] X.env)).any (·.1)=false:=by rfl):
 PE X (.Call (.Name "sorted" ppos) [e] [⟨some "key",.Lambda params body scope lpos,kpos⟩] pos) (LE (vO n0 T lpos qual fr tb te)):=by
 intro pins s σ H Q I h;obtain⟨α,σd,st,K,G,F,Sp,RS,SR,t,k⟩:=h;refine RU (je I hg hm hv ?_);refine callWith_kw ?_ he hpl
 let K1:DK:=λ d st1=>∃(ns ks:List Int) (b:Bool),d= .lst (ns.map .int)/\ns.length<64/\ns.Pairwise (· < ·)/\ks.length=ns.length/\
  st1[n0]?=some (.tab T lpos qual b)/\(∀(i:Nat) (n k:Int),ns[i]?=some n->ks[i]?=some k->tb ((e_ fr σd).set 0 (some (.int n))) (st1.set n0 (.tab T lpos qual true)) λ v st2=>v= .int k/\st2=st1.set n0 (.tab T lpos qual true))/\
  ∀os:List (Int×Int),os.Perm (ks.zip ns)->os.Pairwise slt->K (.lst (os.map λ p=> .int p.2)) (st1.set n0 (.tab T lpos qual true))
 refine bz (ha pos pins s σ H (λ vs H1=>∃d v st1 α1 G1,vs=[v]/\K1 d st1/\Step α G α1 G1/\bw G1 F H1/\aD α1 st1 G1/\Rep α1 G1 d v) I
  ⟨α,σd,st,λ ds st1=>match ds with| [d]=>K1 d st1|_=>False,G,F,Sp,RS,SR,t,λ ds st1 q α1 G1 H1 vs s1 P1 S1 r1=>?_⟩) λ us s1 ⟨vs,H1,I1,rv,d,v,st1,α1,G1,hvs,kd,s1',P1,S1,r1⟩=>?_
 . match ds,q,r1 with
   | [d],q,r1=>
     unfold aB at r1;obtain⟨v,r,rfl,h1,h2⟩:=r1;unfold aB at h2;subst h2;exact⟨d,v,st1,α1,G1,rfl,q,s1,P1,S1,h1⟩
 subst hvs;obtain⟨ns,ks,b,rfl,h64,hup,hlen,hn0,hkey,hK⟩:=kd;show wpAny _ _ (evalAll ((do let v <-eval (.Lambda params body scope lpos) X.env;standAt pos;pure v)::[])) _ _ s1;refine wpAny_evalAll_cons (O5 (D8 S hcode hC hdef hql I1 P1 S1 hn0 λ f c ctv pm G2 H2 s2 I2 st2 P2 S2 ⟨hc1,o,vs,tq,hc2,hc3,hc4⟩=>O5 (TU (Pf (wpAny_evalAll_nil ?_)))));have r2:=r1.step st2;unfold Rep at r2;obtain⟨l,xs,rfl,hl1,hl2,hl3⟩:=r2;have exs:=vw hl3;subst exs;cases rv with
 |cons ru rn=>
  cases rn;cases ru
  have hrd:Rd H2 l (.lst (ns.map V.int)):=by
   rcases hl2 with z|⟨w,z⟩
   . exact .inl (P2.get z)
   . exact .inr ⟨w,P2.get z⟩
  obtain⟨_,its,nn,vv,hobj⟩:=hrd.ok I2.aC;have hints:=wK vv;have hlen2:=hints.length;have key:∀(H':Hp),(∃α' G',Step α1 G2 α' G'/\bw G' F H'/\aD α' (st1.set n0 (.tab T lpos qual true)) G')->H' c=some (.dE o (.own c)):=λ H' ⟨α',G',q1,q2,q3⟩=>q2.get (q1.ext c _ hc1 hc2);show wpAny _ _ (call (.builtin "sorted") [.ref l] [(Str.ofString "key",.ref f)]) _ _ _
  refine zI (X:=X) (pins:=pins++[(f,PySem.W.kla_obj "<lambda>" qual params body scope (cx X.env.cells scope.names []) pm c ctv)]) (R:=λ H'=>∃α' G',Step α1 G2 α' G'/\bw G' F H'/\aD α' (st1.set n0 (.tab T lpos qual true)) G') (kz:=ks) (vs:=its)
   I2 ⟨α1,G2,Step.refl,P2,S2⟩ ⟨_,hobj,rfl,nn,rfl⟩ (by omega) (by omega) ?_ (λ i u kk hu hk own s' J=>?_) λ D s' out cc oD J so=>?_
  . rw[<-RI,hints.nums];exact hup
  . have hi:i<ns.length:=by
     have:=(O6.mp hu).1;omega
    obtain⟨tt,ht⟩:=hints.get i ns[i] (Pk hi);have ht:some u=some (Value.int ns[i] tt):=by rw[<-hu];exact ht
    cases ht;refine EH (v:= .int ns[i]) (u:= .int ns[i] tt) S hc (by have:=hr.dp;omega) (hb f c) hbind ⟨tt,rfl⟩ (PC _ (Ql.mpr rfl)) (λ H' s'' J' r'=>?_) (λ H' r'=>?_) J
    . have q:=J'.aC c _ (key H' r');exact⟨c,o,vs,tq,rfl,q.1,hc3,hc4⟩
    . obtain⟨α',G',q1,q2,q3⟩:=r';refine⟨α',(e_ fr σd).set 0 (some (.int ns[i])),_,_,G',F,q2,?_,q3,hkey i ns[i] kk (Pk hi) hk,λ d' st' hd α'' G'' H'' v' s'' P'' S'' r''=>?_⟩
      . exact((RS.step ((s1'.trans st2).trans q1)).comp).set 0 (by unfold Rep;rfl)
      . obtain⟨rfl,rfl⟩:=hd;unfold Rep at r'';exact⟨r'',α'',G'',q1.trans s'',P'',S''⟩
  . obtain⟨H',I',α',G',q1,q2,q3⟩:=J;obtain⟨ps,hp,ho,hs⟩:=so
    have hps:∀q∈ps,∃t,q.2= .int (numOf q.2) t:=λ q hq=>by
     have h1:=hp.mem_iff.mp hq;have h2:q.2∈its:=(Te (show(q.1,q.2)∈ks.zip its from h1)).2;obtain⟨n,t,e⟩:=hints.all _ h2;exact⟨t,by rw[e];rfl⟩
    have hos:(ps.map λ q=>(q.1,numOf q.2)).Perm (ks.zip ns):=by
     have h1:=hp.map λ q:Int×Value=>(q.1,numOf q.2)
     have e:(ks.zip its).map (λ q:Int×Value=>(q.1,numOf q.2))=ks.zip ns:=by
      rw[<-hints.nums,List.zip_map_right];exact Qy λ⟨a,b⟩ _=>rfl
     rw[e]at h1;exact h1
    have hpw:(ps.map λ q=>(q.1,numOf q.2)).Pairwise slt:=by rw[RI];exact hs
    have kk:=hK _ hos hpw;rw[Qb]at kk;have hD0:=dW I'
    have vout:Vals ((ps.map λ q=>numOf q.2).map V.int) out.toList:=by
     rw[ho];clear hos hpw kk hs hp ho;induction ps with
     |nil=>exact .nil
     |cons q r ih=>
      obtain⟨t,e⟩:=hps q (Pw ..);exact .cons ⟨t,e⟩ (ih λ z hz=>hps z (Pn _ hz))
    have hlo:(ps.map λ q=>numOf q.2).length<=sizeLine:=by
     rw[O8,hp.length_eq,Uv];exact Pe (Nat.min_le_left _ _) (Pe (show ks.length<=64 by omega) (by decide))
    have I3:=Dc (u:= .lst ((ps.map λ q=>numOf q.2).map V.int)) I' oD.ge oD.ne ⟨by rw[O8];exact hlo,out.toList,cc,vout,hD0.1⟩;have hG:=(q2.none hD0.2.1).1;refine⟨.ref D,_,I3.fm,rfl,k _ _ kk α' _ _ _ ((s1'.trans st2).trans (q1.trans (Step.laid hG))) (q2.laid hD0.2.1) (q3.laid hG) ?_⟩;unfold Rep;refine⟨D,_,rfl,q3.iq hG,.inl aG,?_⟩;have e:List.map ((λ p:Int×Int=>L3.D.int p.snd)∘λ q:Int×Value=>(q.fst,numOf q.snd)) ps=(ps.map λ q=>numOf q.2).map L3.D.int:=by rw[Qb];rfl
    rw[e];exact vB _
end
end L3
namespace L3
open PySem L2
open PySem.Spec hiding items?
open PyProof.Rows hiding St
def AD(sc:Scope)(N gl:List Str):Bool:=
 N.all (λ x=>(sc.names.lookup x==some .local||sc.names.lookup x==some .cell)&&x != "__debug__"&&x != "__classdict__")&&gl.all (λ x=>sc.names.lookup x==some .globalImplicit&&x != "__debug__")
structure VS(sc:Scope)(N gl:List Str):Prop where
 ok:AD sc N gl=true
theorem VS.at_{sc:Scope}{N gl:List Str}(V:VS sc N gl){i:Nat}{x:Str}(h:N[i]?=some x):Loc sc x/\(x==("__debug__":Str))=false/\(x==("__classdict__":Str))=false:=by
 have o:=V.ok;unfold AD at o;have:=Qe.mp (Tr.mp o).1 x (PM h);simp only[Qk,Ti,QV,Ua,ne_eq]at this;exact⟨this.1.1,Uw this.1.2,Uw this.2⟩
theorem VS.Nw{sc:Scope}{N gl:List Str}(V:VS sc N gl){i:Nat}{x:Str}(h:gl[i]?=some x):sc.names.lookup x=some .globalImplicit/\(x==("__debug__":Str))=false:=by
 have o:=V.ok;unfold AD at o;have:=Qe.mp (Tr.mp o).2 x (PM h);simp only[Qk,QV,Ua,ne_eq]at this;exact⟨this.1,Uw this.2⟩
section
variable {X:Cx}{sc:Scope}{N gl:List Str}{x:Str}{pos:Pos}
theorem VS.nm(V:VS X.env.scope X.N gl)(i:Nat)(h:X.N[i]?=some x:=by rfl):JE X (.Name x pos) (aa i):=
 let q:=V.at_ h
 Di q.2.1 q.2.2 (q.1.elim .inl λ z=> .inr (.inl z)) h
theorem VS.l(V:VS sc N gl)(i:Nat)(h:N[i]?=some x:=by rfl):Loc sc x:=(V.at_ h).1
theorem VS.g(V:VS sc N gl)(i:Nat)(h:gl[i]?=some x:=by rfl):sc.names.lookup x=some .globalImplicit:=(V.Nw h).1
theorem VS.d(V:VS sc N gl)(i:Nat)(h:gl[i]?=some x:=by rfl):(x==("__debug__":Str))=false:=(V.Nw h).2
theorem iB{n:Nat}(hN:X.N[n]?=some x:=by rfl)(hd:((x==("__debug__":Str))||(x==("__classdict__":Str)))=false:=by decide+kernel)
 (hv:vA X.env.scope x:=by first|exact Or.inl rfl|exact Or.inr (Or.inl rfl)|exact Or.inr (Or.inr rfl)):JE X (.Name x pos) (aa n):=
 Di (Bool.or_eq_false_iff.mp hd).1 (Bool.or_eq_false_iff.mp hd).2 hv hN
@[irreducible] def l6:cG:=pQ (λ _ j=>j≠0) λ i j=> .int (i.fdiv j)
theorem zo{k:Nat}(hr:bV k X.A)(hs:X.stack=X.env::X.outer)(hgen:X.env.scope.isGenerator=false)(hco:X.env.scope.isCoroutine=false):bD X (binaryOp .FloorDiv) (LR l6):=by
 unfold l6;refine iA (g':=λ i j=> .int (i.fdiv j)) (λ _ _ _ _=>by unfold Rep;rfl) ?_;intro pins s σ H x y v u Q I rx ry h;obtain⟨i,j,rfl,rfl,hc,q⟩:=h;obtain⟨t,rfl⟩:=rx;obtain⟨t',rfl⟩:=ry;refine floordiv_int hc ⟨.int (i.fdiv j),H,I.tok _,⟨_,rfl⟩,q⟩ (.inr (PySem.PylongRoom.of I.nolimit ?_ ?_))
 . have:=hr.dp;show X.A.depth+100<_;omega
 . exact PySem.SeerAt.of (env:=X.env) (l:=X.outer) (I.mod.seer.keeps I.bk) I.ok.gt (by rw[I.ok.frames,hs]) hgen hco I.ok.blt I.ok.glob
theorem wV{st:ae}{K:DK}{i j:Int}(h0:j≠0)(k:K (.int (i.fdiv j)) st):l6 (.int i) (.int j) st K:=by unfold l6;exact⟨h0,k⟩
theorem jN.look{scope:Scope}{Nc:List Str}{fr:List (Option Nat)}{p:Str}(S:bN X scope Nc fr)(h:(scope.names.all (λ x=>x.2 != .cell)&&(!scope.isCoroutine&& !scope.isGenerator)&&(scope.names.lookup p==some .local))=true:=by decide+kernel)
 (p0:Nc[0]?=some p:=by rfl) (f0:fr[0]?=some none:=by rfl):jN X scope Nc fr p:=by
 simp only[Qk,Bool.not_eq_true',QV]at h;exact⟨S,λ x hx=>by simpa using Qe.mp h.1.1 x hx,h.1.2.1,h.1.2.2,p0,f0,h.2⟩
theorem Iz{scope:Scope}{Nc:List Str}{fr:List (Option Nat)}{p qual:Str}{params:Arguments}{e body:Expr}{te tb:DE}{lpos kpos pos ppos:Pos}{c0 T:Addr}{n0 k:Nat}(S:jN X scope Nc fr p)(hc:X.calm=true)(hr:bV k X.A)(hcode:X.env.code= .ref c0)(hC:PySem.W.codeHdIn X.K c0 T=true)
 (hb:∀(f c:Addr) (s:Shared) (H:Hp),JE (Dw X scope Nc qual f c s H) body tb) (he:JE X e te) (hg:X.env.kindOf "sorted"=some .globalImplicit) (hm:X.mg "sorted"=none)
 (hdef:defaultsOf params X.env=([],[]):=by rfl) (hql:X.env.qual++"<lambda>"=qual:=by rfl)
 (hbind:∀(cl:List (Str×Addr)) (pm cd ct v:Value),bindArgs (PySem.W.kla_fn "<lambda>" qual params body scope cl pm cd ct) ⟨[v],[]⟩=pure [(p,v)]:=by(intros;rfl)) (hk:2<=k:=by decide)
 (he1:starEach [e] X.env=(false,eval e X.env)::starEach [] X.env:=by rfl):
 JE X (.Call (.Name "sorted" ppos) [e] [⟨some "key",.Lambda params body scope lpos,kpos⟩] pos) (vO n0 T lpos qual fr tb te):=by
 unfold JE at he hb⊢;refine G0 S hc (hr.mono hk) hcode hC hdef hql hbind hb (jZ he om he1) hg hm rfl ?_ ?_
 . rw[he1];rfl
 . rw[he1];rfl
end
structure Kd(K:PySem.W.Frag)(x qual:Str)(st:Stmt)(f:Addr)(fd:FuncData)(c:Addr):Prop where
 ex:∃(oc:Value) (od:Option Addr) (kV doc pm:Value) (an:Option Addr) (ct:Value) (osl:Array (Option Value)),
  fd=PySem.W.fnOf x qual (gc st) (dQ st) (aX st) .none kV doc pm an (.ref c) ct/\K.lookup f=some ⟨oc,od,.func fd,osl⟩/\PySem.W.codeIn K (.ref c) qual=true
theorem Ll{P:Program}{w:World}{K:PySem.W.Frag}{mg:Str->Option Value}{base:Heap}{x qual:Str}{st:Stmt}{f c:Addr}{fd:FuncData}{N ps:List Str}{k:Nat}{sp:bR}{t:DS}(F:Kd K x qual st f fd c)(S:iU N ps (aX st))
 (hbody:∀(A:Around) (outer:List Env) (s:Shared) (H:Hp) (E:XK),bV k (A.deeper (envOfC qual (aX st) s.heap.objs.size f (.ref c)))->JB (ly fP P w K mg base N qual (aX st) f (.ref c) A outer s H E).pj (dQ st) t)
 (hsp:∀ds st K,sp ds st K->ds.length=ps.length/\t {nx:=λ _ st'=>K .aq st',rt:=K} (aS N ds) st):c_ P w K mg base fP (k+1) f fd ps (gD sp):=by
 obtain⟨oc,od,kV,doc,pm,an,ct,osl,rfl,lk,hcd⟩:=F.ex;unfold JB at hbody;refine F8 lk hcd S (λ vs H Q E h=>?_) λ A outer s H vs Q E hr h=>?_
 . obtain⟨α,ds,st,K,G,F,P,R,S,q,k⟩:=h;rw[<-R.length];exact(hsp ds st K q).1
 . obtain⟨α,ds,st,K,G,F',P,R,SR,q,k⟩:=h;refine⟨_,(hbody A outer s H E hr).pj,α,aS N ds,st,_,G,F',P,cQ.start R,SR,(hsp ds st K q).2,?_,k,?_,?_⟩
   . intro σd' st' kk α' G' H' σ' s' P' R' S';exact k .aq st' kk α' G' H' .aq s' P' S' (by unfold Rep;rfl)
   . intro σd' st' kk;exact kk.elim
   . intro σd' st' kk;exact kk.elim
def Bu(tl:List (Addr×Pos×Str)):bR:=λ ds st K=>∃ns:List Int,ds=[.lst (ns.map .int)]/\ns.length<=63/\st=tl.map (λ q=> .tab q.1 q.2.1 q.2.2 false)/\∀st',K (.bl true) st'
def Bd(K:PySem.W.Frag)(ts:List (Addr×Addr)):Sp:=λ vs H Q _=>∃(a:Addr) (ns:List Int),vs=[.ref a]/\Entry K ts a ns H/\ns.length<=63/\∀H',Q (.bl true) H'
theorem Cm{K:PySem.W.Frag}{ts:List (Addr×Addr)}{tl:List (Addr×Pos×Str)}(nl:Du K=true)(hts:ts.map (·.2)=tl.map (·.1))(nd:(tl.map (·.1)).Nodup){vs:List V}{H:Hp}{Q:VK}{E:XK}(h:Bd K ts vs H Q E):gD (Bu tl) vs H Q E:=by
 obtain⟨a,ns,rfl,hE,hl,q⟩:=h
 have tabs:∀q∈tl,H q.1=some (.g9 #[])/\q.1≠a:=λ q hq=>by
  have h1:q.1∈ts.map (·.2):=by rw[hts];exact Tx hq
  obtain⟨t,ht,e⟩:=Qa.mp h1;rw[<-e];exact hE.tab t ht
 have at_:∀(i:Nat) (x:Addr),(tl.map λ q=>some q.1)[i]?=some (some x)->∃q,tl[i]?=some q/\q.1=x:=λ i x e=>by
  rw[PD]at e;cases z:tl[i]? with
  |none=>rw[z]at e;cases e
  |some w=>rw[z]at e;simp at e;exact⟨w,rfl,e⟩
 have nota:some a∉tl.map λ q=>some q.1:=λ z=>by
  obtain⟨w,hw,e⟩:=Qa.mp z;exact(tabs w hw).2 (Qq e)
 rcases hE.lst with hS|⟨o,its,n,e,hc,_⟩
 . refine⟨tl.map λ q=>some q.1,[.lst (ns.map .int)],tl.map (λ q=> .tab q.1 q.2.1 q.2.2 false),λ d _=>d= .bl true,H,λ _=>none,⟨λ b=>by cases H b<;>rfl,λ _ _ _=>rfl⟩,?_,⟨by simp,λ i j x e1 e2=>?_,λ n c e=>?_⟩,⟨ns,rfl,hl,rfl,λ _=>rfl⟩,?_⟩
   . unfold aB;refine⟨.ref a,[],rfl,?_,by unfold aB;rfl⟩;unfold Rep;exact⟨a,ns.map V.int,rfl,nota,hS,uE ns⟩
   . obtain⟨p,hp,e3⟩:=at_ i x e1;obtain⟨r,hr,e4⟩:=at_ j x e2;have k1:(tl.map (·.1))[i]?=some x:=by rw[PD,hp,<-e3];rfl
     have k2:(tl.map (·.1))[j]?=some x:=by rw[PD,hr,<-e4];rfl
     have hi:=(O6.mp k1).1;exact(List.getElem?_inj hi nd).mp (k1.trans k2.symm)
   . rw[PD]at e;cases z:tl[n]? with
     |none=>rw[z]at e;cases e
     |some w=>
      rw[z]at e;have e':Cell.tab w.1 w.2.1 w.2.2 false=c:=Qq e;subst e';refine .inr ⟨w.1,by rw[PD,z];rfl,rfl,#[],(tabs w (PM z)).1,trivial,.inl ⟨rfl,rfl⟩⟩
   . rintro d st' rfl α' G' H' v _ _ _ r;unfold Rep at r;subst r;exact q H'
 . exact absurd hc (uY nl e)
section
variable {K:PySem.W.Frag}{x qual p1 p2 p3 p4 p5:Str}{st:Stmt}{f:Addr}{fd:FuncData}
abbrev pB(x qual:Str)(st:Stmt)(kV doc pm:Value)(an:Option Addr)(cdv ct:Value):FuncData:=PySem.W.fnOf x qual (gc st) (dQ st) (aX st) .none kV doc pm an cdv ct
theorem eM{α:Type}{n:Nat}{us:List α}(h:us.length=n+1):∃a r,us=a::r/\r.length=n:=by
 cases us with
 |nil=>cases h
 |cons a r=>exact⟨a,r,rfl,Nat.succ.inj h⟩
theorem oQ{α:Type}{us:List α}(h:us.length=0):us=[]:=Q2.mp h
theorem OH(F:kv K x qual st f fd)(h:∀kV doc pm an cdv ct a,bindArgs (pB x qual st kV doc pm an cdv ct) ⟨[a],[]⟩=pure [(p1,a)]):Binds K fd [p1] []:=
 F.binds λ kV doc pm an cdv ct us hl=>by
  obtain⟨a,r1,rfl,h1⟩:=eM hl;cases oQ h1;exact h kV doc pm an cdv ct a
theorem M_(F:kv K x qual st f fd)(h:∀kV doc pm an cdv ct a b,bindArgs (pB x qual st kV doc pm an cdv ct) ⟨[a,b],[]⟩=pure [(p1,a),(p2,b)]):Binds K fd [p1,p2] []:=
 F.binds λ kV doc pm an cdv ct us hl=>by
  obtain⟨a,r1,rfl,h1⟩:=eM hl;obtain⟨b,r2,rfl,h2⟩:=eM h1;cases oQ h2;exact h kV doc pm an cdv ct a b
theorem Np(F:kv K x qual st f fd)(h:∀kV doc pm an cdv ct a b c,bindArgs (pB x qual st kV doc pm an cdv ct) ⟨[a,b,c],[]⟩=pure [(p1,a),(p2,b),(p3,c)]):Binds K fd [p1,p2,p3] []:=
 F.binds λ kV doc pm an cdv ct us hl=>by
  obtain⟨a,r1,rfl,h1⟩:=eM hl;obtain⟨b,r2,rfl,h2⟩:=eM h1;obtain⟨c,r3,rfl,h3⟩:=eM h2;cases oQ h3;exact h kV doc pm an cdv ct a b c
theorem Ov(F:kv K x qual st f fd)(h:∀kV doc pm an cdv ct a b c d,bindArgs (pB x qual st kV doc pm an cdv ct) ⟨[a,b,c,d],[]⟩=pure [(p1,a),(p2,b),(p3,c),(p4,d)]):Binds K fd [p1,p2,p3,p4] []:=
 F.binds λ kV doc pm an cdv ct us hl=>by
  obtain⟨a,r1,rfl,h1⟩:=eM hl;obtain⟨b,r2,rfl,h2⟩:=eM h1;obtain⟨c,r3,rfl,h3⟩:=eM h2;obtain⟨d,r4,rfl,h4⟩:=eM h3;cases oQ h4;exact h kV doc pm an cdv ct a b c d
end
section
variable {X:Cx}
theorem Hu(n:Int):(n != 0)=decide (n≠0):=by
 by_cases h:n=0
 . subst h;rfl
 . rw[QL h];simpa using h
def vf:dw:=λ ds st K=>match ds with| [.tup xs]=>(match gO xs with|some ns=>K (.bl (ns.any λ n=>decide (n≠0))) st|none=>False)|_=>False
theorem Jg(hc:X.calm=true):aZ X (.builtin "any") (dY vf):=λ pins s σ H xs us Q I rs ⟨α,ds,st,K,G,F',P,r,S,q,k⟩=>by
 unfold vf at q;split at q
 . rename_i ys;split at q
   . rename_i ns e;obtain⟨v,rfl,r1⟩:=eH r rfl;unfold Rep at r1;obtain⟨a,vs,rfl,na,h1,h2⟩:=r1;obtain⟨u,rfl,ru⟩:=vals1 rs;cases ru;have hv:=nK h2 e;subst hv;obtain⟨its,rv,p,hl⟩:=I.tuple (.of (P.get h1));have isT:s.heap.IsTuple a its.toArray:=p;obtain⟨o,eo,_⟩:=id isT;refine call_any_walk (Rr isT ?_);have hne:a≠s.heap.objs.size:=PB (Pm eo);have hn:its.length=ns.length:=by rw[<-rv.length,O8]
     have hval:∀(i:Nat) (w:Value),its.toArray[i]?=some w->∃t,w=Value.int (ns.getD i 0) t:=λ i w hw=>jn rv i w (by simpa using hw);refine⟨s.heap.objs.size,_,_,_,_,_,λ i=>decide (ns.getD i 0≠0),rfl,Walks.tuple (A:=X.A.in1) (I.ok.hd hc) _ a hne its.toArray,⟨⟨_,Pt _ rfl,rfl,rfl⟩,iD.push (k:= .t) isT _⟩,?_,?_⟩
     . intro i w s' Q' E' hP hQ;obtain⟨t,rfl⟩:=hval i w hP;refine PyProof.Rows.truthy_int ?_;rw[Hu];exact hQ
     . intro h' tk hk
       have kp:∀b o,s.heap.get? b=some o->h'.get? b=some o:=λ b o q=>hk b o (by
        intro hb;have:b=s.heap.objs.size:=by simpa using hb
        exact absurd (Pm q) (by rw[this];exact QC _)) (Pa _ q)
       have ea:(List.range its.toArray.size).any (λ i=>decide (ns.getD i 0≠0))=ns.any λ n=>decide (n≠0):=by
        rw[Ph,hn];exact range_any ns _ _ λ i x e=>by rw[Pc,e];rfl
       rw[ea];exact⟨.bl (ns.any λ n=>decide (n≠0)),H,I.kept (t':=tk) kp,rfl,k.here P q S (by unfold Rep;rfl)⟩
   . exact q.elim
 . exact q.elim
@[irreducible] def rQ:dw:=vf
theorem C2(hc:X.calm=true):aZ X (.builtin "any") (dY rQ):=by unfold rQ;exact Jg hc
end
theorem HB{st:ae}{K:DK}{xs:List D}{ns:List Int}(h:gO xs=some ns)(k:K (.bl (ns.any λ n=>decide (n≠0))) st):rQ [.tup xs] st K:=by unfold rQ vf;simp only[h];exact k
theorem mS{A B:Type}{F:A->B->Prop}:∀ {xs zs:List A} {ys us:List B},Paired F xs ys->Paired F zs us->Paired F (xs++zs) (ys++us)
 |_,_,_,_,.nil,h=>h
 |_,_,_,_,.cons r t,h=> .cons r (mS t h)
section
variable {X:Cx}
def Lk:V->List V->Hp->VK->Prop:=λ x vs H Q=>∃(l b:Addr) (xs ys:List V),x= .ref l/\vs=[.ref b]/\H l=some (.lst xs)/\Rd H b (.lst ys)/\xs.length+ys.length<=sizeLine/\Q .aq (upd H l (.lst (xs++ys)))
theorem K8:IZ X "list.extend" Lk:=by
 intro pins s σ H x vs v us Q I rx rv h;obtain⟨l,b,xs,ys,rfl,rfl,hH,hb,hz,q⟩:=h;cases rx;obtain⟨u,rfl,ru⟩:=vals1 rv;cases ru;obtain⟨z,its,n,r,hl,e⟩:=I.ER hH;obtain⟨z2,its2,n2,r2,hl2,e2⟩:=Inv.qf I hb;have hsz:its.toArray.size+its2.toArray.size<=sizeLine:=by rw[Ph,Ph,<-hl,<-hl2];exact hz
 have M:=AutoSeq1.list_extend_list_list_0 l its.toArray n b its2.toArray n2 (extend_door hsz) (Pe (Sf _ _) hsz) (Nat.le_succ_of_le hsz);refine RV F.slot_list_extend ⟨_,e,rfl⟩ F.entry_list_extend (F.args_list_extend_2 _ _) M ⟨e,e2,?_⟩;refine⟨.aq,_,I.w9 (its':=its++its2) hH e (by rw[List.append_toArray]) (mS r r2) ?_,rfl,q⟩;rw[Py];exact hz
def kK:DM:=λ n ds st K=>match ds with
 | [.lst ys]=>(match st[n]? with|some (.lst xs)=>xs.length+ys.length<=sizeLine/\K .aq (st.set n (.lst (xs++ys)))|_=>False)
 |_=>False
theorem BK:LiftM kK Lk:=by
 intro α G F H st K Q n a ds ws P S ea rs q k;unfold kK at q;split at q
 . rename_i ys;split at q
   . rename_i xs e;obtain⟨h3,q⟩:=q;obtain⟨v,rfl,r1⟩:=eH rs rfl;unfold Rep at r1;obtain⟨b,us,rfl,nb,hb,r2⟩:=r1;obtain⟨a',ea',vs,g1,g2⟩:=S.d6 e;rw[ea]at ea';cases ea';have hl:=g2.length;have hl2:=r2.length;have hm:some a∈α:=PM ea;refine⟨a,b,vs,us,rfl,rfl,P.get g1,eK P hb,by omega,?_⟩;refine k .aq _ q α (upd G a (.lst (vs++us))) _ .aq (Step.write hm) (P.write g1) ?_ (by unfold Rep;rfl);exact S.write ea ⟨vs++us,aG,(aM.mpr (mS (aM.mp g2) (aM.mp r2))).step (Step.write hm)⟩
   . exact q.elim
 . exact q.elim
theorem MN{o e:Expr}{to te:DE}{apos cpos:Pos}(ho:JE X o to)(he:JE X e te)(hbase:attributeBase o "extend" X.env (eval o X.env)=eval o X.env:=by rfl)(hline:(apos.endLine==cpos.line)=true:=by rfl)(hs:notStar e=true:=by rfl):JE X (.Call (.Attribute o "extend" apos) [e] [] cpos) (gR kK to (ab te af)):=by
 unfold JE at*;refine CH BK PySem.F.slot_list_extend PySem.F.type_list_extend K8 ho (jZ he om (aY hs)) hbase ?_ hline (aY hs) rfl;rw[aY hs];rfl
end
theorem Jo{σ:bf}{st:ae}{K:DK}{n:Nat}{xs:List D}{to:DE}{ta:DA}(ho:∀K',K' (.ref n) st->to σ st K')(e:st[n]?=some (.lst xs))(ha:ta σ st λ ds st2=>(∃ys,st2[n]?=some (.lst ys))/\kK n ds st2 K):gR kK to ta σ st K:=by
 unfold gR;refine ho _ ?_;simp only[e];exact ha
theorem N8{st2:ae}{K:DK}{n:Nat}{xs ys:List D}(e2:st2[n]?=some (.lst xs))(h:xs.length+ys.length<=sizeLine)(k:K .aq (st2.set n (.lst (xs++ys)))):(∃ys,st2[n]?=some (.lst ys))/\kK n [.lst ys] st2 K:=by
 refine⟨⟨xs,e2⟩,?_⟩;unfold kK;simp only[e2];exact⟨h,k⟩
section
variable {X:Cx}
def pj(X:Cx):Cx:={X with xe:=λ _ _=>False}
end
variable {st:ae}{K:D->ae->Prop}{i j:Int}
section
variable {X:Cx}{pos:Pos}
end
end L3
namespace L3
open PySem L2
structure ClsAt(K:PySem.W.Frag)(mg:Str->Option Value)(x:Str)(C:Addr):Prop where
 cl:kq K C
 mg:mg x=some (.ref C)
 OY:PySem.W.makesIn K C=true
 kp:PySem.W.keepIn K (.ref C)=true
structure MethAt(K:PySem.W.Frag)(C:Addr)(m qual:Str)(st:Stmt)(ps:List Str)(f:Addr)(fd:FuncData):Prop where
 fn:kv K m qual st f fd
 me:Meth K C m f
 bd:Binds K fd ps []
end L3
namespace Hd
open PySem PySem.W L2 L3
open PySem.Spec hiding items?
open PyProof.Rows hiding St
section
variable {K:Frag}{mg:Str->Option Value}{h:Heap}{x q:Str}{st:Stmt}{f c C:Addr}{pm:Value}{p1 p2 p3 p4 p5 p6:Str}
abbrev Ed(K:Frag)(x:Str)(st:Stmt)(f:Addr)(pm:Value)(c:Addr):Prop:=(nsIn K mainGlobals x,K.lookup f,codeIn K (.ref c) x,keepIn K (.ref f))=(some (some (.ref f)),some (fq st x x pm c),true,true)
abbrev Em(K:Frag)(C:Addr)(x q:Str)(st:Stmt)(f:Addr)(pm:Value)(c:Addr):Prop:=(findIn K (.ref C) x,isFn K (.ref f),K.lookup f,codeIn K (.ref c) q,keepIn K (.ref f))=(some (some (.ref f)),true,some (fq st x q pm c),true,true)
theorem Ed.fn(e:Ed K x st f pm c):kv K x x st f (fd st x x pm c)/\nsIn K mainGlobals x=some (some (.ref f)):=by
 obtain⟨e1,e2,e3,e4⟩:_/\_/\_/\_:=by simpa only[Vb]using e
 exact⟨Cd (st:=st) e2 e3 e4,e1⟩
theorem Em.fn(e:Em K C x q st f pm c):kv K x q st f (fd st x q pm c)/\Meth K C x f:=by
 obtain⟨e1,e2,e3,e4,e5⟩:_/\_/\_/\_/\_:=by simpa only[Vb]using e
 exact⟨Cd (st:=st) e3 e4 e5,e1,e2,e5⟩
theorem OI(X:K.In h)(G:h.Ns mainGlobals mg)(e:Ed K x st f pm c)(b:∀kV doc pm an cdv ct a,bindArgs (pB x x st kV doc pm an cdv ct) ⟨[a],[]⟩=pure [(p1,a)]):kH K mg x x st [p1] f (fd st x x pm c):=⟨e.fn.1,mg_of X G e.fn.2,OH e.fn.1 b⟩
theorem OK(X:K.In h)(G:h.Ns mainGlobals mg)(e:Ed K x st f pm c)(b:∀kV doc pm an cdv ct a1 a2,bindArgs (pB x x st kV doc pm an cdv ct) ⟨[a1,a2],[]⟩=pure [(p1,a1),(p2,a2)]):kH K mg x x st [p1,p2] f (fd st x x pm c):=⟨e.fn.1,mg_of X G e.fn.2,M_ e.fn.1 b⟩
theorem O0(X:K.In h)(G:h.Ns mainGlobals mg)(e:Ed K x st f pm c)(b:∀kV doc pm an cdv ct a1 a2 a3,bindArgs (pB x x st kV doc pm an cdv ct) ⟨[a1,a2,a3],[]⟩=pure [(p1,a1),(p2,a2),(p3,a3)]):kH K mg x x st [p1,p2,p3] f (fd st x x pm c):=⟨e.fn.1,mg_of X G e.fn.2,Np e.fn.1 b⟩
theorem Nf(e:Em K C x q st f pm c)(b:∀kV doc pm an cdv ct a1 a2,bindArgs (pB x q st kV doc pm an cdv ct) ⟨[a1,a2],[]⟩=pure [(p1,a1),(p2,a2)]):MethAt K C x q st [p1,p2] f (fd st x q pm c):=⟨e.fn.1,e.fn.2,M_ e.fn.1 b⟩
theorem F_(e:Em K C x q st f pm c)(b:∀kV doc pm an cdv ct a1 a2 a3,bindArgs (pB x q st kV doc pm an cdv ct) ⟨[a1,a2,a3],[]⟩=pure [(p1,a1),(p2,a2),(p3,a3)]):MethAt K C x q st [p1,p2,p3] f (fd st x q pm c):=⟨e.fn.1,e.fn.2,Np e.fn.1 b⟩
theorem ON(e:Em K C x q st f pm c)(b:∀kV doc pm an cdv ct a1 a2 a3 a4,bindArgs (pB x q st kV doc pm an cdv ct) ⟨[a1,a2,a3,a4],[]⟩=pure [(p1,a1),(p2,a2),(p3,a3),(p4,a4)]):MethAt K C x q st [p1,p2,p3,p4] f (fd st x q pm c):=⟨e.fn.1,e.fn.2,Ov e.fn.1 b⟩
theorem fc(e:(K.lookup f,codeIn K (.ref c) q)=(some (fq st x q pm c),true)):Kd K x q st f (fd st x q pm c) c:=by
 obtain⟨e1,e2⟩:_/\_:=by simpa only[Vb]using e
 exact⟨_,_,_,_,_,_,_,_,rfl,e1,e2⟩
theorem na{a:Str}(e:findIn K (.ref C) a=some none):eJ K C a:=e
end
end Hd
namespace L3
open PySem L2
open PySem.Spec hiding items?
open PyProof.Rows hiding St
section
variable {X:Cx}{pos:Pos}
end
end L3
namespace L3
open PySem L2
open PySem.Spec hiding items?
end L3
namespace L3
open PySem PySem.Spec L2
open PyProof.Rows hiding St
section
variable {X:Cx}{pos:Pos}
end
end L3
namespace L3
open PySem L2
open PySem.Spec hiding items?
open PyProof.Rows hiding St
section
variable {X:Cx}
end
section
variable {X:Cx}{pos:Pos}
end
section
variable {X:Cx}
end
namespace RF
end RF
section
variable {prog:Program}{w:World}{A:Around}{E:Value->Shared->Prop}{s:Shared}
end
section
variable {X:Cx}{tg:Expr}
end
section
variable {X:Cx}
end
end L3
namespace L3
open PySem L2
open PySem.Spec hiding items?
open PyProof.Rows hiding St
section
variable {X:Cx}
end
section
variable {X:Cx}{pos:Pos}
end
section
variable {X:Cx}
end
section
variable {X:Cx}{sc:Scope}{N gl:List Str}{x:Str}{pos:Pos}
theorem VS.lM(V:VS sc N gl)(h:N.contains x=true:=by decide+kernel):Loc sc x:=by
 obtain⟨i,hi,e⟩:=PK.mp (UU.mp h);exact V.l i (by rw[Pk hi,e])
theorem VS.gM(V:VS sc N gl)(h:gl.contains x=true:=by decide+kernel):sc.names.lookup x=some .globalImplicit:=by
 obtain⟨i,hi,e⟩:=PK.mp (UU.mp h);exact V.g i (by rw[Pk hi,e])
def J0(N P:List Str)(sc:Scope):Bool:=(sc.kind== .function)&& !sc.isCoroutine&& !sc.isGenerator&&decide N.Nodup&&(N.take P.length==P)&&P.all (λ x=>sc.names.lookup x==some .local||sc.names.lookup x==some .cell)&&sc.names.all λ y=>y.2 != .free
structure VF(s:Stmt)(N P gl:List Str):Prop where
 v:VS (aX s) N gl
 sc:iU N P (aX s)
theorem VF.of{s:Stmt}{N P gl:List Str}(h:(AD (aX s) N gl&&J0 N P (aX s))=true):VF s N P gl:=by
 obtain⟨h1,h2⟩:=Tr.mp h;unfold J0 at h2;simp only[Qk,QV,Bool.not_eq_true',decide_eq_true_eq,Qe,Ti,Ua,ne_eq]at h2;obtain⟨⟨⟨⟨⟨⟨a,b⟩,c⟩,d⟩,e⟩,f⟩,g⟩:=h2;exact⟨⟨h1⟩,a,b,c,d,e,f,g⟩
def NJ:Expr->List Str
 | .Name x _=>[x]
 | .Tuple [.Name x _,.Name y _] _ _=>[x,y]
 | .Tuple [.Name x _,.Name y _,.Name z _] _ _=>[x,y,z]
 | .Tuple [.Tuple [.Name x _,.Name y _] _ _,.Name z _] _ _=>[x,y,z]
 |_=>[]
def dP(tg:Expr)(fr:List (Option Nat))(N:List Str):List Str:=NJ tg++(fr.filterMap id).map λ k=>N.getD k ""
variable {scope:Scope}{elt tg iter:Expr}{ifs:List Expr}{src:DI}{fr:List (Option Nat)}{dtg:dJ}{t:DT}{te:DE}{pos' p:Pos}
theorem HK(V:VS sc N gl)(h:gH sc N scope (dP tg fr N) fr=true)(hi:JI X tg iter src)(hg:∀C s H ex,JG (a7 X scope (dP tg fr N) C s H ex) tg dtg)(ht:∀C s H ex,JC (a7 X scope (dP tg fr N) C s H ex) ifs t)(he:∀C s H ex,JE (a7 X scope (dP tg fr N) C s H ex) elt te)(fit:iE fr dtg)(hsc:X.env.scope=sc:=by rfl)(hN:X.N=N:=by rfl)
 (hx:X.xe=λ _ _=>False:=by rfl) (hc:X.calm=true:=by rfl) (hs:∀x,foldedSetIterable iter X.env x=pure x:=by intro _;rfl):JE X (.ListComp elt [⟨tg,iter,ifs,0⟩] scope pos) (cy src fr dtg t te):=oA (bN.look sc N h hsc hN) hi hg ht he fit hx hc hs
theorem EX(V:VS sc N gl)(h:gH sc N scope (dP tg fr N) fr=true)(hi:JI X tg iter src)(hg:∀C s H ex,JG (a7 X scope (dP tg fr N) C s H ex) tg dtg)(ht:∀C s H ex,JC (a7 X scope (dP tg fr N) C s H ex) ifs t)(he:∀C s H ex,JE (a7 X scope (dP tg fr N) C s H ex) elt te)(fit:iE fr dtg)(hsc:X.env.scope=sc:=by rfl)(hN:X.N=N:=by rfl)
 (hx:X.xe=λ _ _=>False:=by rfl) (hc:X.calm=true:=by rfl) (hs:∀x,foldedSetIterable iter X.env x=pure x:=by intro _;rfl):JE X (.ListComp elt [⟨tg,iter,ifs,0⟩] scope pos) (dN src fr dtg t te):=mi (bN.look sc N h hsc hN) hi hg ht he fit hx hc hs
theorem E4{k:Nat}(V:VS sc N gl)(hn:X.N.Nodup)(hl:Loc X.env.scope x)(h:gH sc N scope (dP tg fr N) fr=true)(hi:JI X tg iter src)(hg:∀C s H ex,JG (a7 X scope (dP tg fr N) C s H ex) tg dtg)(ht:∀C s H ex,JC (a7 X scope (dP tg fr N) C s H ex) ifs t)(he:∀C s H ex,JE (a7 X scope (dP tg fr N) C s H ex) elt te)(fit:iE fr dtg)(hsc:X.env.scope=sc:=by rfl)(hN:X.N=N:=by rfl)
 (hf:X.fn x=true\/X.env.scope.names.lookup x=some .local:=by first|exact .inl rfl|exact .inr rfl) (hsw:swapsWith (.ListComp elt [⟨tg,iter,ifs,0⟩] scope p) (some (.Name x pos')) pos.line X.env=pure true:=by rfl) (hni:X.N[k]?=some x:=by rfl) (hx:X.xe=λ _ _=>False:=by rfl) (hc:X.calm=true:=by rfl) (hs:∀x,foldedSetIterable iter X.env x=pure x:=by intro _;rfl):
 JS X (.Assign [.Name x pos'] (.ListComp elt [⟨tg,iter,ifs,0⟩] scope p) pos) (aR k (cy src fr dtg t te)):=zB hn hl (bN.look sc N h hsc hN) hi hg ht he fit hf hsw hni hx hc hs
theorem BY{k:Nat}(V:VS sc N gl)(hn:X.N.Nodup)(hl:Loc X.env.scope x)(h:gH sc N scope (dP tg fr N) fr=true)(hi:JI X tg iter src)(hg:∀C s H ex,JG (a7 X scope (dP tg fr N) C s H ex) tg dtg)(ht:∀C s H ex,JC (a7 X scope (dP tg fr N) C s H ex) ifs t)(he:∀C s H ex,JE (a7 X scope (dP tg fr N) C s H ex) elt te)(fit:iE fr dtg)(hsc:X.env.scope=sc:=by rfl)(hN:X.N=N:=by rfl)
 (hf:X.fn x=true\/X.env.scope.names.lookup x=some .local:=by first|exact .inl rfl|exact .inr rfl) (hsw:swapsWith (.ListComp elt [⟨tg,iter,ifs,0⟩] scope p) (some (.Name x pos')) pos.line X.env=pure true:=by rfl) (hni:X.N[k]?=some x:=by rfl) (hx:X.xe=λ _ _=>False:=by rfl) (hc:X.calm=true:=by rfl) (hs:∀x,foldedSetIterable iter X.env x=pure x:=by intro _;rfl):
 JS X (.Assign [.Name x pos'] (.ListComp elt [⟨tg,iter,ifs,0⟩] scope p) pos) (aR k (dN src fr dtg t te)):=Ek hn hl (bN.look sc N h hsc hN) hi hg ht he fit hf hsw hni hx hc hs
variable {X0:Cx}{scope0:Scope}{Nc:List Str}{C:Addr}{s:Shared}{H:Hp}{ex:List Addr}
theorem GQ(h:gH scope0 Nc scope (dP tg fr Nc) fr=true)(hi:JI (a7 X0 scope0 Nc C s H ex) tg iter src)(hg:∀C' s' H' ex',JG (a7 (a7 X0 scope0 Nc C s H ex) scope (dP tg fr Nc) C' s' H' ex') tg dtg)(ht:∀C' s' H' ex',JC (a7 (a7 X0 scope0 Nc C s H ex) scope (dP tg fr Nc) C' s' H' ex') ifs t)(he:∀C' s' H' ex',JE (a7 (a7 X0 scope0 Nc C s H ex) scope (dP tg fr Nc) C' s' H' ex') elt te)(fit:iE fr dtg)
 (hx:(a7 X0 scope0 Nc C s H ex).xe=λ _ _=>False:=by rfl) (hc:(a7 X0 scope0 Nc C s H ex).calm=true:=by rfl) (hs:∀x,foldedSetIterable iter (a7 X0 scope0 Nc C s H ex).env x=pure x:=by intro _;rfl):JE (a7 X0 scope0 Nc C s H ex) (.ListComp elt [⟨tg,iter,ifs,0⟩] scope pos) (cy src fr dtg t te):=oA (bN.A9 h) hi hg ht he fit hx hc hs
theorem EY(h:gH scope0 Nc scope (dP tg fr Nc) fr=true)(hi:JI (a7 X0 scope0 Nc C s H ex) tg iter src)(hg:∀C' s' H' ex',JG (a7 (a7 X0 scope0 Nc C s H ex) scope (dP tg fr Nc) C' s' H' ex') tg dtg)(ht:∀C' s' H' ex',JC (a7 (a7 X0 scope0 Nc C s H ex) scope (dP tg fr Nc) C' s' H' ex') ifs t)(he:∀C' s' H' ex',JE (a7 (a7 X0 scope0 Nc C s H ex) scope (dP tg fr Nc) C' s' H' ex') elt te)(fit:iE fr dtg)
 (hx:(a7 X0 scope0 Nc C s H ex).xe=λ _ _=>False:=by rfl) (hc:(a7 X0 scope0 Nc C s H ex).calm=true:=by rfl) (hs:∀x,foldedSetIterable iter (a7 X0 scope0 Nc C s H ex).env x=pure x:=by intro _;rfl):JE (a7 X0 scope0 Nc C s H ex) (.ListComp elt [⟨tg,iter,ifs,0⟩] scope pos) (dN src fr dtg t te):=mi (bN.A9 h) hi hg ht he fit hx hc hs
theorem Ls{k:Nat}(hn:Nc.Nodup:=by decide+kernel)(hx:Loc (a7 X0 scope0 Nc C s H ex).env.scope x:=by first|exact Or.inl rfl|exact Or.inr rfl)(hf:(a7 X0 scope0 Nc C s H ex).fn x=true\/(a7 X0 scope0 Nc C s H ex).env.scope.names.lookup x=some .local:=by first|exact .inl rfl|exact .inr rfl)(hi:Nc[k]?=some x:=by rfl):JG (a7 X0 scope0 Nc C s H ex) (.Name x pos) (aV k):=kn hn hx hf hi
theorem Ko{k j n:Nat}{y:Str}{px py:Pos}(hn:Nc.Nodup:=by decide+kernel)(hx:Loc (a7 X0 scope0 Nc C s H ex).env.scope x:=by first|exact Or.inl rfl|exact Or.inr rfl)(hf:(a7 X0 scope0 Nc C s H ex).fn x=true\/(a7 X0 scope0 Nc C s H ex).env.scope.names.lookup x=some .local:=by first|exact .inl rfl|exact .inr rfl)(hy:Loc (a7 X0 scope0 Nc C s H ex).env.scope y:=by first|exact Or.inl rfl|exact Or.inr rfl)(hg:(a7 X0 scope0 Nc C s H ex).fn y=true\/(a7 X0 scope0 Nc C s H ex).env.scope.names.lookup y=some .local:=by first|exact .inl rfl|exact .inr rfl)(hi:Nc[k]?=some x:=by rfl)(hj:Nc[j]?=some y:=by rfl)(hc:(a7 X0 scope0 Nc C s H ex).calm=true:=by rfl):JG (a7 X0 scope0 Nc C s H ex) (.Tuple [.Name x px,.Name y py] n pos) (fO k j):=u3 hc hn hx hf hy hg hi hj
theorem VS.loc(V:VS sc N gl)(h:sc.names.lookup x=some .local:=by decide+kernel):sc.names.lookup x=some .local:=h
end
end L3
namespace L3
open PySem PySem.SetTable
def jv(e:Nat->Prop)(mask:Nat):Nat->Nat->Nat->Prop
 |0,i,_=>e i
 |L+1,i,q=>e i\/jv e mask L (leap mask i q).1 (leap mask i q).2
def l8(m:Nat):Nat->Nat
 |0=>0
 |n+1=>(l8 m n*5+1)%m
def Fu(m:Nat):Bool:=l8 m m==0&&(List.range m).all λ j=>(List.range m).any λ n=>l8 m n==j
def pZ(mask:Nat):Prop:=mask=7\/mask=31\/mask=127
theorem pZ.l8{mask:Nat}(h:pZ mask):Fu (mask+1)=true:=by
 rcases h with rfl|rfl|rfl<;>decide+kernel
theorem GA{m:Nat}(h:l8 m m=0)(n:Nat):l8 m (n+m)=l8 m n:=by
 induction n with
 |zero=>rw[QW];exact h
 |succ n ih=>rw[Nat.succ_add];show(l8 m (n+m)*5+1)%m=_;rw[ih];rfl
theorem sD{e:Nat->Prop}{mask:Nat}{b:Nat}(he:e (l8 (mask+1) b)):∀(n a:Nat),a+n=b->jv e mask n (l8 (mask+1) a) 0
 |0,a,h=>by rw[Nat.add_zero]at h;subst h;exact he
 |n+1,a,h=>by
  refine Or.inr ?_;have:=sD (mask:=mask) he n (a+1) (by omega);have e0:leap mask (l8 (mask+1) a) 0=(l8 (mask+1) (a+1),0):=by unfold leap;rfl
  rw[e0];exact this
theorem jv.mono{e:Nat->Prop}{mask:Nat}:∀ {L i q:Nat},jv e mask L i q->jv e mask (L+1) i q
 |0,_,_,h=>Or.inl h
 |L+1,_,_,h=>h.elim Or.inl λ z=>Or.inr z.mono
theorem jv.up{e:Nat->Prop}{mask:Nat}{L i q:Nat}(h:jv e mask L i q):∀n,jv e mask (L+n) i q
 |0=>h
 |n+1=>(h.up n).mono
theorem E_{e:Nat->Prop}{mask:Nat}(hm:pZ mask){i j:Nat}(hi:i<=mask)(hj:j<=mask)(he:e j):jv e mask mask i 0:=by
 have h:=hm.l8;unfold Fu at h;simp only[Qk,QV,Qe,List.any_eq_true,QD]at h;obtain⟨h0,h1⟩:=h;obtain⟨a,ha,ea⟩:=h1 i (by omega);obtain⟨b,hb,eb⟩:=h1 j (by omega);rw[<-eb]at he;rw[<-ea];by_cases hab:a<=b
 . have:=(sD (mask:=mask) he (b-a) a (by omega)).up (mask-(b-a));rwa [show b-a+(mask-(b-a))=mask by omega]at this
 . rw[<-GA h0]at he;have:=(sD (mask:=mask) he (b+(mask+1)-a) a (by omega)).up (mask-(b+(mask+1)-a));rwa [show b+(mask+1)-a+(mask-(b+(mask+1)-a))=mask by omega]at this
theorem sJ{e:Nat->Prop}{mask:Nat}(hm:pZ mask){j:Nat}(hj:j<=mask)(he:e j):∀(n i q:Nat),i<=mask->q<32^n->jv e mask (n+mask) i q
 |0,i,q,hi,hq=>by
  have:q=0:=by simpa using hq
  subst this;rw[QW];exact E_ hm hi hj he
 |n+1,i,q,hi,hq=>by
  rw[Nat.succ_add];refine Or.inr (sJ hm hj he n _ _ ?_ ?_)
  . show(i*5+1+q/32)%(mask+1)<=mask;exact RJ (U9 _ (Ts _))
  . show q/32<32^n;rw[Sb]at hq;exact Nat.div_lt_of_lt_mul (by rw[Q_];exact hq)
theorem yY(h:Int):bits h<32^13:=by
 unfold bits;have h1:h%(2^64:Int)<2^64:=Int.emod_lt_of_pos _ (by decide);have h2:0<=h%(2^64:Int):=Int.emod_nonneg _ (by decide);have:(h%(2^64:Int)).toNat<2^64:=by omega
 exact Pu this (by decide)
def jB(t:SetTable):Nat->Probe->Prop
 |0,p=>t.slot p.j= .empty
 |m+1,p=>t.slot p.j= .empty\/jB t m (t.advance p)
theorem jB.mono{t:SetTable}:∀ {m:Nat} {p:Probe},jB t m p->jB t (m+1) p
 |0,_,h=>Or.inl h
 |m+1,_,h=>h.elim Or.inl λ z=>Or.inr z.mono
theorem jB.up{t:SetTable}{m:Nat}{p:Probe}(h:jB t m p):∀n,jB t (m+n) p
 |0=>h
 |n+1=>(h.up n).mono
theorem nG(mask i:Nat):runEnd mask i-i<=9/\i<=runEnd mask i:=by unfold runEnd;split<;>omega
theorem xD{t:SetTable}:∀(L m:Nat) (p:Probe),p.more=m->jv (λ j=>t.slot j= .empty) t.mask L (leap t.mask p.i p.perturb).1 (leap t.mask p.i p.perturb).2->jB t (m+1+10*L) p
 |L,m+1,p,hm,h=>by
  rw[show m+1+1+10*L=(m+1+10*L)+1 by omega];refine Or.inr ?_;have e:t.advance p= {p with j:=p.j+1,more:=p.more-1}:=by unfold advance;rw[O_ (by omega)]
  rw[e];exact xD L m _ (by show p.more-1=m;omega) h
 |0,0,p,hm,h=>by
  refine Or.inr ?_;have e:t.advance p= {p with j:=(leap t.mask p.i p.perturb).1,more:=runEnd t.mask (leap t.mask p.i p.perturb).1-(leap t.mask p.i p.perturb).1,i:=(leap t.mask p.i p.perturb).1,perturb:=(leap t.mask p.i p.perturb).2}:=by unfold advance;rw[O7 (by omega)]
  rw[e];exact h
 |L+1,0,p,hm,h=>by
  rw[show 0+1+10*(L+1)=(10*L+10)+1 by omega];refine Or.inr ?_;have e:t.advance p= {p with j:=(leap t.mask p.i p.perturb).1,more:=runEnd t.mask (leap t.mask p.i p.perturb).1-(leap t.mask p.i p.perturb).1,i:=(leap t.mask p.i p.perturb).1,perturb:=(leap t.mask p.i p.perturb).2}:=by unfold advance;rw[O7 (by omega)]
  rw[e];rcases h with h|h
  . exact Or.inl h
  . have:=xD (t:=t) L _ {p with j:=(leap t.mask p.i p.perturb).1,more:=runEnd t.mask (leap t.mask p.i p.perturb).1-(leap t.mask p.i p.perturb).1,i:=(leap t.mask p.i p.perturb).1,perturb:=(leap t.mask p.i p.perturb).2} rfl h;have hr:=(nG t.mask (leap t.mask p.i p.perturb).1).1;have:=this.up (9-(runEnd t.mask (leap t.mask p.i p.perturb).1-(leap t.mask p.i p.perturb).1));rwa [show runEnd t.mask (leap t.mask p.i p.perturb).1-(leap t.mask p.i p.perturb).1+1+10*L+(9-(runEnd t.mask (leap t.mask p.i p.perturb).1-(leap t.mask p.i p.perturb).1))=10*L+10 by omega]at this
 termination_by L m=>(L,m)
theorem Dk{t:SetTable}{j:Nat}(hd:t.dummies= #[])(h:j∉t.place):t.slot j= .empty:=by
 unfold slot;simp only;rw[O7]
 . rw[O7];rw[hd];unfold has;simp
 . intro q;rw[QV]at q;exact h (S0 q)
theorem tF{t:SetTable}{j:Nat}(hd:t.dummies= #[]):t.slot j≠ .dummy:=by
 unfold slot;simp only;split
 . exact λ z=>nomatch z
 . rw[O7]
   . exact λ z=>nomatch z
   . rw[hd];unfold has;simp
theorem DB{t:SetTable}{j i:Nat}(h:t.slot j= .live i):i<t.place.size:=by
 unfold slot at h;simp only at h;split at h
 . rename_i q;rw[QV]at q;cases h;exact(T3.mp q).1
 . split at h<;>cases h
theorem Gn:∀(n:Nat) (l:List Nat),(∀j,j<n->j∈l)->n<=l.length
 |0,_,_=>Po _
 |n+1,l,h=>by
  have:=Gn n (l.erase n) λ j hj=>(List.mem_erase_of_ne (by omega)).mpr (h j (by omega));rw[List.length_erase_of_mem (h n (by omega))]at this;have:=List.length_pos_of_mem (h n (by omega));omega
theorem hole{l:List Nat}{n:Nat}(h:l.length<n):∃j,j<n/\j∉l:=by
 refine QH λ z=>?_;have:=Gn n l λ j hj=>QH λ q=>z ⟨j,hj,q⟩;omega
structure Tb(t:SetTable)(n:Nat):Prop where
 By:pZ t.mask
 y8:t.dummies= #[]
 len:t.place.size=n
 fit:n<=t.mask
theorem Tb.fits{t:SetTable}{n:Nat}(T:Tb t n):t.fits n=true:=by
 unfold SetTable.fits fill;rw[T.len,T.y8];simp[T.fit]
theorem Tb.start{t:SetTable}{n:Nat}(T:Tb t n)(h:Int):jB t (10*turns t.mask-1) (t.probeStart h):=by
 obtain⟨j,hj,hn⟩:=hole (l:=t.place.toList) (n:=t.mask+1) (by rw[PU,T.len];have:=T.fit;omega);have he:t.slot j= .empty:=Dk T.y8 λ z=>hn (Q9.mpr z);have hq:=sJ (e:=λ j=>t.slot j= .empty) T.By (RJ hj) he 13 (leap t.mask (bits h%(t.mask+1)) (bits h)).1 (leap t.mask (bits h%(t.mask+1)) (bits h)).2 (RJ (U9 _ (Ts _))) (Ru (Nat.div_le_self _ _) (yY h));have:=xD (13+t.mask) _ (t.probeStart h) rfl hq;have hr:=(nG t.mask (bits h%(t.mask+1))).1;have hm:(t.probeStart h).more=runEnd t.mask (bits h%(t.mask+1))-bits h%(t.mask+1):=rfl;rw[<-hm]at hr;have:=this.up (10*turns t.mask-1-((t.probeStart h).more+1+10*(13+t.mask)));unfold turns at this⊢;rwa [show(t.probeStart h).more+1+10*(13+t.mask)+(10*(t.mask+15)-1-((t.probeStart h).more+1+10*(13+t.mask)))=10*(t.mask+15)-1 by omega]at this
theorem wU{t:SetTable}(hd:t.dummies= #[]){f:Nat->Int}{h:Int}:∀(m fuel:Nat) (p:Probe),jB t m p->m<fuel->p.dummy=none->
 (∃j,probe.go t f h fuel p=some (.empty j none))\/∃j i nx m',probe.go t f h fuel p=some (.candidate j i nx)/\t.slot j= .live i/\f i=h/\m'<m/\jB t m' nx/\nx.dummy=none
 |m,0,_,_,hl,_=>absurd hl (Pq _)
 |m,fuel+1,p,hr,hl,hn=>by
  unfold probe.go;cases hs:t.slot p.j with
  |empty=>exact Or.inl ⟨p.j,by rw[<-hn]⟩
  |dummy=>exact absurd hs (tF hd)
  |live i=>
   simp only;cases m with
   |zero=>unfold jB at hr;rw[hs]at hr;cases hr
   |succ m=>
    have hr':jB t m (t.advance p):=by
     rcases hr with z|z
     . rw[hs]at z;cases z
     . exact z
    have hn':(t.advance p).dummy=none:=by
     unfold advance;split
     . exact hn
     . exact hn
    by_cases q:(f i==h)=true
    . rw[O_ q];exact Or.inr ⟨_,_,_,m,rfl,hs,QV.mp q,PL _,hr',hn'⟩
    . rw[O7 q];rcases wU hd m fuel (t.advance p) hr' (by omega) hn' with z|⟨j,i',nx,m',z1,z2,z3,z4,z5⟩
      . exact Or.inl z
      . exact Or.inr ⟨j,i',nx,m',z1,z2,z3,by omega,z5⟩
theorem qm{xs:Array Nat}{j:Nat}:∀(fuel lo hi:Nat),lo<=hi->below.go xs j fuel lo hi<=hi
 |0,lo,hi,h=>h
 |fuel+1,lo,hi,h=>by
  unfold below.go;split
  . simp only;split
    . exact qm fuel _ _ (by omega)
    . exact Pe (qm fuel lo ((lo+hi)/2) (by omega)) (by omega)
  . exact h
theorem wM(xs:Array Nat)(j:Nat):below xs j<=xs.size:=qm _ _ _ (Po _)
theorem nh{α:Type}{xs:Array α}{p:Nat}{x:α}(h:p<=xs.size):(insertAt xs p x).size=xs.size+1:=by
 unfold insertAt;simp only[Array.size_append,Array.size_push,Array.size_extract];omega
theorem xy{α:Type}{xs:Array α}{p:Nat}{x y:α}(h:y∈(insertAt xs p x).toList):y=x\/y∈xs.toList:=by
 unfold insertAt at h;simp only[Tz,Array.toList_push,Array.toList_extract,PQ,Ql,List.extract_eq_drop_take']at h;rcases h with(h|h)|h
 . exact Or.inr (RK (Tt h))
 . exact Or.inl h
 . exact Or.inr (RK (Tt h))
theorem Tb.put{t:SetTable}{n:Nat}(T:Tb t n){j:Nat}(h:n+1<=t.mask):Tb (t.put j).1 (n+1)/\(t.put j).2<=n/\(t.put j).1.mask=t.mask:=by
 refine⟨⟨T.By,?_,?_,h⟩,?_,rfl⟩
 . show(if has t.dummies j then eraseAt t.dummies (below t.dummies j)else t.dummies)= #[];rw[O7]
   . exact T.y8
   . rw[T.y8];unfold has;simp
 . show(insertAt t.place (below t.place j) j).size=n+1;rw[nh (wM _ _),T.len]
 . show below t.place j<=n;rw[<-T.len];exact wM _ _
structure Ow(mask:Nat)(owner:Array (Option Nat))(k:Nat):Prop where
 len:owner.size=mask+1
 cnt:owner.toList.countP Option.isSome=k
 lt:∀x,some x∈owner.toList->x<k
theorem uj{mask:Nat}{owner:Array (Option Nat)}:∀(L fuel i q:Nat),jv (λ j=>owner.getD j (some 0)=none) mask L i q->L<fuel->∃j,layClean.free mask owner fuel i q=some j/\owner[j]?=some none
 |L,0,_,_,_,hl=>absurd hl (Pq _)
 |L,fuel+1,i,q,h,hl=>by
  unfold layClean.free;cases hf:(List.range (runEnd mask i+1-i)).find? λ k=>(owner.getD (i+k) (some 0)).isNone with
  |some k=>
   refine⟨i+k,rfl,?_⟩;have:=List.find?_some hf;simp only[Option.isNone_iff_eq_none]at this;rw[Rv]at this;cases e:owner[i+k]? with
   |none=>rw[e]at this;cases this
   |some o=>rw[e]at this;simp only[Option.getD_some]at this;rw[this]
  |none=>
   simp only
   have hn:¬owner.getD i (some 0)=none:=by
    intro z;have:=List.find?_eq_none.mp hf 0 (by rw[QD];have:=(nG mask i).2;omega);simp[z]at this
   cases L with
   |zero=>exact absurd h hn
   |succ L=>
    rcases h with h|h
    . exact absurd h hn
    . exact uj L fuel _ _ h (by omega)
theorem Ow.step{mask:Nat}{owner:Array (Option Nat)}{k:Nat}(hm:pZ mask)(W:Ow mask owner k)(hk:k<=mask)(h:Int):
 ∃j,layClean.free mask owner (turns mask) (bits h%(mask+1)) (bits h)=some j/\Ow mask (owner.setIfInBounds j (some k)) (k+1):=by
 have hx:∃j,j<=mask/\owner.getD j (some 0)=none:=by
  refine QH λ z=>?_
  have hall:owner.toList.countP Option.isSome=owner.toList.length:=by
   rw[UW];intro o ho;obtain⟨j,hj,e⟩:=PK.mp ho;cases o with
   |some x=>rfl
   |none=>
    refine absurd ⟨j,?_,?_⟩ z
    . rw[PU,W.len]at hj;omega
    . rw[Rv,<-SY,Pk hj,e];rfl
  rw[W.cnt,PU,W.len]at hall;omega
 obtain⟨j,hj,he⟩:=hx;obtain⟨f,e1,e2⟩:=uj (13+mask) (turns mask) (bits h%(mask+1)) (bits h) (sJ (e:=λ j=>owner.getD j (some 0)=none) hm hj he 13 _ _ (RJ (U9 _ (Ts _))) (yY h)) (by unfold turns;omega);obtain⟨hf,ef⟩:=T3.mp e2;refine⟨f,e1,by rw[Array.size_setIfInBounds];exact W.len,?_,?_⟩
 . rw[T4,List.countP_set (by rw[PU];exact hf),W.cnt];rw[Array.getElem_toList,ef];rfl
 . intro x hx;rw[T4]at hx;rcases Qi hx with z|z
   . exact P0 (W.lt x z)
   . cases z;exact PL _
theorem wO{mask:Nat}(hm:pZ mask):∀(hs:List Int) (owner:Array (Option Nat)) (k:Nat),Ow mask owner k->k+hs.length<=mask+1->
 ∃ow,hs.foldl (λ acc h=>do let(owner,k) <-acc;let j <-layClean.free mask owner (turns mask) (bits h%(mask+1)) (bits h);pure (owner.setIfInBounds j (some k),k+1)) (some (owner,k))=some (ow,k+hs.length)/\Ow mask ow (k+hs.length)
 | [],owner,k,W,_=>⟨owner,rfl,W⟩
 |h::hs,owner,k,W,hl=>by
  rw[P7]at hl;obtain⟨j,e,W'⟩:=W.step hm (by omega) h;obtain⟨ow,e2,W2⟩:=wO hm hs _ _ W' (by omega);refine⟨ow,?_,?_⟩
  . rw[List.foldl_cons,P7,show k+(hs.length+1)=k+1+hs.length by omega,<-e2];congr 1;show Option.bind (some (owner,k)) _=_;simp only[Uh,e];rfl
  . rw[P7,show k+(hs.length+1)=k+1+hs.length by omega];exact W2
theorem CV{mask:Nat}(hm:pZ mask){hs:Array Int}(hl:hs.size<=mask):∃ow,layClean mask hs=some ow/\Ow mask ow hs.size:=by
 obtain⟨ow,e,W⟩:=wO hm hs.toList (Array.replicate (mask+1) none) 0 ⟨by simp,by simp[List.countP_replicate],by simp⟩ (by rw[PU];omega);rw[QW,PU]at W;refine⟨ow,?_,W⟩;unfold layClean;rw[<-Array.foldl_toList,e];rfl
theorem EI{l:List (Option Nat)}:((List.range l.length).filterMap λ j=>(l.getD j none).map λ x=>(j,x)).length=l.countP Option.isSome:=by
 rw[S_]
 have e:l=(List.range l.length).map λ j=>l.getD j none:=by
  apply Ul
  . simp
  . intro i h1 h2;simp[Pc,h1]
 conv=>rhs;rw[e,List.countP_map]
 congr 1;funext j;simp
theorem Tb.laid{t:SetTable}{hs:Array Int}{wanted:Nat}(hm:pZ (sizeAbove wanted-1))(hl:hs.size<=sizeAbove wanted-1):
 ∃t' order,t.relaid hs wanted=some (t',order)/\Tb t' hs.size/\t'.mask=sizeAbove wanted-1/\order.size=hs.size/\∀k∈order.toList,k<hs.size:=by
 obtain⟨ow,e,W⟩:=CV hm hl
 have hlen:((List.range (sizeAbove wanted-1+1)).filterMap λ j=>(ow.getD j none).map λ x=>(j,x)).length=hs.size:=by
  have:=EI (l:=ow.toList);rw[W.cnt,show ow.toList.length=sizeAbove wanted-1+1 by rw[PU,W.len]]at this;rw[<-this]
  have e:(λ j=>(ow.getD j none).map λ x=>(j,x))=λ j=>(ow.toList.getD j none).map λ x=>(j,x):=by
   funext j;simp[Rv,Pc]
  rw[e]
 unfold relaid SetTable.laid;rw[e];refine⟨_,_,rfl,⟨hm,rfl,?_,hl⟩,rfl,?_,?_⟩
 . simp only[Ph,O8];exact hlen
 . simp only[Ph,O8];exact hlen
 . intro k hk;simp only[Qa,Rq,QD,UB]at hk;obtain⟨⟨j',k'⟩,⟨j,hj,x,hx,q⟩,rfl⟩:=hk;cases q;refine W.lt _ ?_;rw[Rv]at hx;cases z:ow[j']? with
   |none=>rw[z]at hx;cases hx
   |some o=>
    rw[z]at hx;simp only[Option.getD_some]at hx;subst hx;exact Q9.mpr (S0 z)
section
variable {prog:Program}{w:World}{A:Around}{E:Value->Shared->Prop}{s:Shared}
theorem vD{ks:List Int}{b:Addr}(h:IsTupleKey (intKind prog w) s.heap ks b):∃o items n,s.heap.get? b=some o/\o.data= .seq items n/\∀v∈items.toList,∃k t,v= .int k t:=by
 obtain⟨o,items,n,h1,h2,h3,h4⟩:=h;refine⟨o,items,n,h1,h3,?_⟩;clear h3;generalize items.toList=l at h4;intro v hv;induction h4 with
 |nil=>cases hv
 |cons q _ ih=>
  rcases Px.mp hv with rfl|z
  . cases v<;>first|exact absurd q PV|exact⟨_,_,rfl⟩
  . exact ih z
theorem IC{ks:List Int}{b:Addr}{Q:Bool->Shared->Prop}(hk:IsTupleKey (intKind prog w) s.heap ks b)(h:Q true s):wpAny (model prog w) A (hashByValue 8 (.ref b)) Q E s:=by
 have hT:=hk.typeIs;obtain⟨o,items,n,ho,hd,hi⟩:=vD hk;unfold hashByValue;refine O5 (wpAny_specialOf hT F.slot_tuple_hash.lookup ?_);dsimp only;refine O5 (Q1 ho hd ?_);refine O5 ?_;show wpAny _ _ (forIn items _ _) _ _ s;rw[<-Sv];refine Um _ (λ rest r s'=>r.1=none/\s'=s/\∀v∈rest,∃k t,v=Value.int k t) _ ?_ ?_ _ _ ⟨rfl,rfl,hi⟩
 . rintro v rest r s' ⟨hr,rfl,hall⟩;obtain⟨k,t,rfl⟩:=hall v Pw;have e:hashByValue 7 (.int k t)=pure true:=rfl;rw[e];refine O5 (Pf ?_);simp only[Sh,PJ,Qp];exact Pf ⟨rfl,rfl,λ u hu'=>hall u (Pn _ hu')⟩
 . rintro⟨r1,r2⟩ s' ⟨hr,rfl,_⟩;simp only at hr;subst hr;exact Pf h
theorem BP{ks:List Int}{b:Addr}{Q:Bool->Shared->Prop}(hk:IsTupleKey (intKind prog w) s.heap ks b)(h:Q false s):wpAny (model prog w) A (ofAClassStatement 8 (.ref b)) Q E s:=by
 have hT:=hk.typeIs;obtain⟨o,items,n,ho,hd,hi⟩:=vD hk;unfold ofAClassStatement;refine O5 (Ue hT ?_);dsimp only;rw[O_ (by decide)];refine O5 (Pf ?_);simp only[Sh,PJ,Qp];refine O5 (Q1 ho hd ?_);dsimp only;refine O5 ?_;show wpAny _ _ (forIn items _ _) _ _ s;rw[<-Sv];refine Um _ (λ rest r s'=>r.1=none/\s'=s/\∀v∈rest,∃k t,v=Value.int k t) _ ?_ ?_ _ _ ⟨rfl,rfl,hi⟩
 . rintro v rest r s' ⟨hr,rfl,hall⟩;obtain⟨k,t,rfl⟩:=hall v Pw;have e:ofAClassStatement 7 (.int k t)=pure false:=rfl;rw[e];refine O5 (Pf ?_);simp only[PJ,Qp];exact Pf ⟨rfl,rfl,λ u hu'=>hall u (Pn _ hu')⟩
 . rintro⟨r1,r2⟩ s' ⟨hr,rfl,_⟩;simp only at hr;subst hr;exact Pf h
theorem HU{k:List Int}{b:Addr}{l:List Value}{Q:Bool->Shared->Prop}(hk:IsTupleKey (intKind prog w) s.heap k b)(hl:∀v∈l,∃ks c,v= .ref c/\IsTupleKey (intKind prog w) s.heap ks c)(h:Q false s):wpAny (model prog w) A (searchCouldBeSeen (.ref b) l) Q E s:=by
 unfold searchCouldBeSeen;refine O5 ?_;refine Um _ (λ rest r s'=>r.1=none/\s'=s/\∀v∈rest,∃ks c,v=Value.ref c/\IsTupleKey (intKind prog w) s.heap ks c) _ ?_ ?_ _ _ ⟨rfl,rfl,hl⟩
 . rintro v rest r s' ⟨hr,rfl,hall⟩;obtain⟨ks,c,rfl,hc⟩:=hall v Pw;have hrest:=λ u hu'=>hall u (Pn _ hu');by_cases hbc:(b==c)=true
   . simp only[hbc,Bool.true_or,Rg];exact Pf ⟨rfl,rfl,hrest⟩
   . have hcv:(carriedByValue (.ref b)&&carriedByValue (.ref c))=false:=rfl;simp only[hbc,hcv,Bool.false_or,PJ,Qp];refine O5 (wpAny_eqIsQuiet_tuple hk ?_);simp only[Sh,PJ,Qp];refine O5 (wpAny_eqIsQuiet_tuple hc ?_);simp only[Sh,PJ,Qp];refine O5 (BP hk ?_);simp only[PJ,Qp];refine O5 (BP hc ?_);simp only[PJ,Qp];exact Pf ⟨rfl,rfl,hrest⟩
 . rintro⟨r1,r2⟩ s' ⟨hr,rfl,_⟩;simp only at hr;subst hr;exact Pf h
theorem yz{t:SetTable}{f:Nat->Int}{h:Int}{p:Probe}{r:Option Met}{m:Nat}(hp:t.probe f h p=r)(hd:t.dummies= #[])(hr:jB t m p)(hm:m<10*turns t.mask)(hn:p.dummy=none):
 (∃j,r=some (.empty j none))\/∃j i nx m',r=some (.candidate j i nx)/\t.slot j= .live i/\f i=h/\m'<m/\jB t m' nx/\nx.dummy=none:=by
 subst hp;exact wU hd m _ p hr hm hn
theorem tW{a b:Addr}{o:Obj}{es:Array (Int×Value)}{ep:Nat}{t:SetTable}{k:List Int}{h:Int}{Q:SetFound->Shared->Prop}(hu:A.units<cLine)
 (ho:s.heap.get? a=some o) (hd:o.data= .set es ep t) (T:Tb t es.size) (hk:IsTupleKey (intKind prog w) s.heap k b)
 (hl:∀e∈es.toList,∃ks c,ks≠k/\e.2= .ref c/\IsTupleKey (intKind prog w) s.heap ks c) (hQ:∀j,Q (.free j false) s):
 ∀(fuel m:Nat) (stand:Option Probe),jB t m (stand.getD (t.probeStart h))->(stand.getD (t.probeStart h)).dummy=none->m<fuel->m<10*turns t.mask->wpAny (model prog w) A (setSearchFrom a (.ref b) h true fuel stand) Q E s
 |0,_,_,_,_,hf,_=>absurd hf (Pq _)
 |fuel+1,m,stand,hr,hn,hf,hm=>by
  unfold setSearchFrom;refine O5 (R_ ho hd T.fits ?_);dsimp only;have hg:t.gaveWay=false:=by unfold SetTable.gaveWay;rcases T.By with e|e|e<;>rw[e]<;>rfl
  rw[hg];simp only[PJ,Qp];generalize hp:t.probe _ h (stand.getD (t.probeStart h))=r;rcases yz hp T.y8 hr hm hn with⟨j,e⟩|⟨j,i,nx,m',e,h1,h2,h3,h4,h5⟩
  . subst e;exact Pf (hQ j)
  . subst e;dsimp only;have hi:i<es.size:=by rw[<-T.len];exact DB h1
    have hes:es[i]?=some es[i]:=Array.getElem?_eq_getElem hi;obtain⟨ks,c,hne,hc,hck⟩:=hl es[i] (Array.getElem_mem_toList hi)
    have rest:wpAny (model prog w) A (do
     let some (_,y):=es[i]?|unsupported "internal:set-entry"
     let equal <-holding [y] (eqBool y (.ref b))
     let(es',_,t') <-setState a
     if true&&equal then return .there none
     let some same:=t'.sameMemory t.moves t.mask|unsupported "set.changed-during-lookup:is-the-new-block-at-the-old-address"
     let still <-match(if same then t'.slot j else .empty)with
      | .live i'=>match es'[i']? with
        |some (_,y')=>do pure (if<-isSame y' y then some i' else none)
        |none=>pure none
      |_=>pure none
     match still with
     |none=>rule "set.search.anew";setSearchFrom a (.ref b) h true fuel none
     |some i'=>if equal then return .there (some i')else setSearchFrom a (.ref b) h true fuel (some nx)) Q E s:=by
     rw[hes];generalize es[i]=ei at hc hes;obtain⟨hh,y⟩:=ei;subst hc;dsimp only;refine O5 (QY (wpAny_eqBool_tuple hu hck hk ?_));rw[PZ hne];refine O5 (R_ ho hd T.fits ?_);dsimp only;simp only[UR,PJ,Qp];have hsm:t.sameMemory t.moves t.mask=some true:=by unfold SetTable.sameMemory;rw[O_ (by simp)]
     rw[hsm];dsimp only;rw[O_ rfl,h1];dsimp only;rw[hes];dsimp only;refine O5 (wpAny_isSame_ref_self ?_);rw[O_ rfl];refine O5 (Pf ?_);dsimp only;exact tW hu ho hd T hk hl hQ fuel m' (some nx) h4 h5 (by omega) (by omega)
    cases hled:t.led with
    |true=>
     simp only[Sh,PJ,Qp];exact rest
    |false=>
     simp only[Bool.not_false,Rg];refine O5 (HU hk (λ v hv=>?_) ?_)
     . obtain⟨e',he',rfl⟩:=Qa.mp hv
       obtain⟨ks',c',_,q1,q2⟩:=hl e' (by
        have:=Q9.mp he';exact Q9.mpr (Array.mem_filter.mp this).1)
       exact⟨ks',c',q1,q2⟩
     . simp only[PJ,Qp];exact rest
end
def jw(prog:Program)(w:World)(h:Heap)(a:Addr)(S:List (List Int)):Prop:=
 ∃o es ep t,h.get? a=some o/\o.ExactSet/\o.data= .set es ep t/\Tb t es.size/\es.size*5<t.mask*3/\es.size=S.length/\
  ∀e∈es.toList,∃ks c,ks∈S/\e.2= .ref c/\IsTupleKey (intKind prog w) h ks c
section
variable {prog:Program}{w:World}{A:Around}{E:Value->Shared->Prop}{s:Shared}
theorem tJ{h h':Heap}{a c:Addr}{o:Obj}{es ep t}{ks:List Int}(x:IsTupleKey (intKind prog w) h ks c)(ho:h.get? a=some o)(hd:o.data= .set es ep t)(hs:Heap.SameBut a h h'):IsTupleKey (intKind prog w) h' ks c:=by
 obtain⟨o',items,n,h1,h2,h3,h4⟩:=x
 have hne:c≠a:=λ z=>by
  subst z;rw[ho]at h1;cases h1;rw[hd]at h3;cases h3
 exact⟨o',items,n,(hs.2 c hne).trans h1,h2,h3,h4⟩
theorem zz{h:Heap}{a:Addr}{o:Obj}{es:Array (Int×Value)}{ep:Nat}{t:SetTable}(ho:h.get? a=some o)(hd:o.data= .set es ep t)(es':Array (Int×Value))(t':SetTable):
 (h.update a (Obj.putSet es' t')).get? a=some {o with data:= .set es' (ep+1) t'}:=by
 have:=SW (Obj.putSet es' t') ho (by rw[putSet_of es' t' hd];rfl);rw[putSet_of es' t' hd]at this;exact this
theorem tN{n:Nat}(h:n<=4096):n<=sizeLine:=by rw[QZ];omega
theorem xR{a:Addr}{o:Obj}{es:Array (Int×Value)}{ep:Nat}{t:SetTable}{wanted:Nat}{S:List (List Int)}{Q:Unit->Shared->Prop}(ho:s.heap.get? a=some o)(hx:o.ExactSet)(hd:o.data= .set es ep t)(T:Tb t es.size)
 (hm:pZ (sizeAbove wanted-1)) (hf:es.size<=sizeAbove wanted-1) (hlt:es.size*5<(sizeAbove wanted-1)*3) (hz:es.size=S.length)
 (hl:∀e∈es.toList,∃ks c,ks∈S/\e.2= .ref c/\IsTupleKey (intKind prog w) s.heap ks c)
 (h:∀h',Heap.SameBut a s.heap h'->jw prog w h' a S->Q () {s with heap:=h'}):wpAny (model prog w) A (setRelay a wanted) Q E s:=by
 have hsl:sizeAbove wanted<=128:=by rcases hm with e|e|e<;>omega
 obtain⟨t',order,e,T',em,eo,ho'⟩:=Tb.laid (t:=t) (hs:=es.map (·.1)) hm (by rw[UT];exact hf);rw[UT]at T' eo ho'
 have hlen:(order.filterMap (es[·]?)).size=es.size:=by
  rw[<-PU,UI,S_,<-eo,<-PU,UW];intro k hk;have:=ho' k hk;simp[this]
 have hmem:∀x∈(order.filterMap (es[·]?)).toList,x∈es.toList:=λ x hx=>by
  rw[UI,Rq]at hx;obtain⟨k,_,q⟩:=hx;exact Q9.mpr (S0 q)
 unfold setRelay;refine O5 (R_ ho hd T.fits ?_);dsimp only;rw[O7 (Nat.not_lt.mpr (Pe hsl (tN (by decide)))),e]
 show wpAny _ _ ((do
  let some (t,order):=some (t',order)|unsupported "internal:set-table-without-room"
  let es':=order.filterMap (es[·]?)
  if es'.size != es.size then unsupported "internal:set-table-lost-an-element"
  pure (es',t)) >>= _) _ _ _
 dsimp only;rw[O7 (by rw[hlen];simp)];refine O5 (Pf ?_);dsimp only;have hsb:=QI s.heap a (Obj.putSet (order.filterMap (es[·]?)) t');refine wpAny_storeSet_of ho hd (h _ hsb ⟨_,_,_,_,zz ho hd _ _,hx,rfl,by rw[hlen];exact T',by rw[hlen,em];exact hlt,hlen.trans hz,λ x hx=>?_⟩) (by rw[hlen];exact tN (by omega));obtain⟨ks,c,q1,q2,q3⟩:=hl x (hmem x hx);exact⟨ks,c,q1,q2,tJ q3 ho hd hsb⟩
theorem HN{a b:Addr}{S:List (List Int)}{k:List Int}{hsh:Int}{Q:Bool->Shared->Prop}(hu:A.units<cLine)(hS:jw prog w s.heap a S)(hk:IsTupleKey (intKind prog w) s.heap k b)(hn:k∉S)(hz:S.length<64)
 (h:∀h',Heap.SameBut a s.heap h'->jw prog w h' a (k::S)->Q true {s with heap:=h'}):wpAny (model prog w) A (setAddHashed a (.ref b) hsh) Q E s:=by
 obtain⟨o,es,ep,t,ho,hx,hd,T,hful,hlen,hl⟩:=hS;have hmk:t.mask<=127:=by rcases T.By with e|e|e<;>omega
 unfold setAddHashed setAddHashedIn;refine QY ?_;refine O5 (R_ ho hd T.fits ?_);dsimp only;rw[show byScan (.ref b) es=false from rfl];simp only[PJ,Qp];unfold setSearch;refine O5 (tW hu ho hd T hk (λ e he=>?_) (λ j=>?_) 100000 (10*turns t.mask-1) none (T.start hsh) rfl (by unfold turns;omega) (by unfold turns;omega))
 . obtain⟨ks,c,q1,q2,q3⟩:=hl e he;exact⟨ks,c,λ z=>hn (z▸q1),q2,q3⟩
 dsimp only;refine O5 (R_ ho hd T.fits ?_);dsimp only;obtain⟨T1,hp,em⟩:=T.put (j:=j) (by omega);generalize hput:t.put j=pt at T1 hp em⊢;obtain⟨t1,p⟩:=pt;dsimp only at T1 hp em⊢;have hsz:(insertAt es p (hsh,Value.ref b)).size=es.size+1:=nh hp
 have tail:∀t2:SetTable,Tb t2 (es.size+1)->t2.mask=t.mask->wpAny (model prog w) A (do
  storeSet a (insertAt es p (hsh,Value.ref b)) t2
  if(!false&&t2.tooFull)=true then do
   setRelay a (grown (es.size+1))
   pure true
  else pure true) Q E s:=λ t2 T2 em2=>by
  have hsb:=QI s.heap a (Obj.putSet (insertAt es p (hsh,Value.ref b)) t2);have ho2:=zz ho hd (insertAt es p (hsh,Value.ref b)) t2
  have hl2:∀e∈(insertAt es p (hsh,Value.ref b)).toList,∃ks c,ks∈k::S/\e.2=Value.ref c/\IsTupleKey (intKind prog w) (s.heap.update a (Obj.putSet (insertAt es p (hsh,Value.ref b)) t2)) ks c:=λ e he=>by
   rcases xy he with rfl|he
   . exact⟨k,b,Pw,rfl,tJ hk ho hd hsb⟩
   . obtain⟨ks,c,q1,q2,q3⟩:=hl e he;exact⟨ks,c,Pn _ q1,q2,tJ q3 ho hd hsb⟩
  have hln:(insertAt es p (hsh,Value.ref b)).size=(k::S).length:=by rw[hsz,hlen];rfl
  refine O5 (wpAny_storeSet_of ho hd ?_ (by rw[hsz];exact tN (by omega)))
  have hfill:t2.tooFull=decide ((es.size+1)*5>=t.mask*3):=by
   unfold SetTable.tooFull fill;rw[T2.len,T2.y8,em2];rfl
  rw[hfill];by_cases hq:(es.size+1)*5>=t.mask*3
  . rw[O_ (by simp[hq])];have hg:grown (es.size+1)=(es.size+1)*4:=by unfold grown;rw[O7 (by omega)]
    rw[hg];have T2':Tb t2 (insertAt es p (hsh,Value.ref b)).size:=by rw[hsz];exact T2
    rcases T.By with e|e|e
    . rw[e]at hful hq;have e5:es.size+1=5:=by omega
      rw[e5];have e32:sizeAbove (5*4)=32:=by decide
      refine O5 (xR (s:={s with heap:=s.heap.update a (Obj.putSet (insertAt es p (hsh,Value.ref b)) t2)}) (S:=k::S) ho2 hx rfl T2' (by rw[e32];exact .inr (.inl rfl)) (by rw[e32,hsz,e5];decide) (by rw[e32,hsz,e5];decide) hln hl2 λ h' hsb' hS'=>Pf (h h' (hsb.trans hsb') hS'))
    . rw[e]at hful hq;have e5:es.size+1=19:=by omega
      rw[e5];have e32:sizeAbove (19*4)=128:=by decide
      refine O5 (xR (s:={s with heap:=s.heap.update a (Obj.putSet (insertAt es p (hsh,Value.ref b)) t2)}) (S:=k::S) ho2 hx rfl T2' (by rw[e32];exact .inr (.inr rfl)) (by rw[e32,hsz,e5];decide) (by rw[e32,hsz,e5];decide) hln hl2 λ h' hsb' hS'=>Pf (h h' (hsb.trans hsb') hS'))
    . rw[e]at hful hq;exact absurd hq (by omega)
  . rw[O7 (by simp[hq])];exact Pf (h _ hsb ⟨_,_,_,_,ho2,hx,rfl,by rw[hsz];exact T2,by rw[hsz,em2];omega,hln,hl2⟩)
 by_cases hpl:t1.plain=true
 . rw[O_ hpl];refine O5 (IC hk ?_);rw[O_ rfl];exact tail t1 T1 em
 . rw[O7 hpl];refine O5 (Pf ?_);rw[O_ rfl];exact tail t1 T1 em
theorem jw.keep{h h':Heap}{a I l:Addr}{S:List (List Int)}{i:Nat}(hS:jw prog w h a S)(hI:h.IsListIter I l i)(ha:a≠I)(k:∀b o,b≠I->h.get? b=some o->h'.get? b=some o):jw prog w h' a S:=by
 obtain⟨o,es,ep,t,h1,h2,h3,h4,h5,h6,h7⟩:=hS;refine⟨o,es,ep,t,k _ _ ha h1,h2,h3,h4,h5,h6,λ e he=>?_⟩;obtain⟨ks,c,q1,q2,o',items,n,q3,q4,q5⟩:=h7 e he;refine⟨ks,c,q1,q2,o',items,n,k _ _ (λ z=>?_) q3,q4,q5⟩;subst z;obtain⟨o2,z1,z2,z3⟩:=hI;rw[q3]at z1;cases z1;rw[q4]at z2;exact absurd z2 (by decide)
theorem GS{rows:List (List Int)}(hd:rows.Nodup){i:Nat}{k:List Int}(h:rows[i]?=some k):k∉(rows.take i).reverse:=by
 intro z;rw[List.mem_reverse]at z;obtain⟨hi,e⟩:=O6.mp h;have:rows=rows.take i++rows.drop i:=(UX i rows).symm;rw[this]at hd;rw[PF hi,e]at hd;exact(List.nodup_append.mp hd).2.2 k z k Pw rfl
def td(prog:Program)(w:World)(h:Heap)(items:Array Value)(rows:List (List Int))(no:List Addr):Prop:=
 ∀(i:Nat) (v:Value),items[i]?=some v->∃(b:Addr) (ks:List Int),v=Value.ref b/\rows[i]?=some ks/\IsTupleKey (intKind prog w) h ks b/\b∉no
theorem td.keep{h h':Heap}{items:Array Value}{rows:List (List Int)}{no:List Addr}(K:td prog w h items rows no)(k:∀b o,b∉no->h.get? b=some o->h'.get? b=some o):td prog w h' items rows no:=λ i v e=>by
 obtain⟨b,ks,e1,e2,⟨o,its,n,q1,q2⟩,e4⟩:=K i v e;exact⟨b,ks,e1,e2,⟨o,its,n,k b o e4 q1,q2⟩,e4⟩
theorem Dl{R:Result->Shared->Prop}{S I l:Addr}{items:Array Value}{rows:List (List Int)}(hh:A.in1.handled=none)(hu:A.in1.units<cLine)(hS:S≠I)(hl:l≠I)(hlS:l≠S)(hd:rows.Nodup)(hz:rows.length<=64):
 ∀(k i:Nat) (s:Shared),items.size-i=k->i<=items.size->s.heap.IsListIter I l i->s.heap.IsList l items->jw prog w s.heap S (rows.take i).reverse->td prog w s.heap items rows [S,I]->
  (∀s',Moved [S,I] (λ a b=>b=a) s s'->jw prog w s'.heap S (rows.take items.size).reverse->R (.ok (.ret .none)) s')->
  codeAny (model prog w) A (.builtin "set.update.loop" ⟨[.ref S,.ref I],[]⟩) R s:=by
 have W:=Walks.list (prog:=prog) (w:=w) hh I l hl items;intro k;induction k with
 |zero=>
  intro i s hk hi hI hL hT hK hR;have hin:i=items.size:=by omega
  subst hin;refine Ux Sw ?_;rw[Around.under_plainId Rw _];show wpAny _ A.in1 (pyNext (.ref I) >>= _) _ _ s;refine O5 (W.toS.done s _ _ ⟨hI,hL⟩ λ s' hm=>?_);show wpAny _ A.in1 (ret Value.none) _ _ s';exact Pf (hR s' (hm.mono λ b hb=>Pn _ hb) (hT.keep hI hS λ b o hb e=>hm.heap b o (by simpa using hb) e))
 |succ k ih=>
  intro i s hk hi hI hL hT hK hR;have hlt:i<items.size:=by omega
  refine Ux Sw ?_;rw[Around.under_plainId Rw _];show wpAny _ A.in1 (pyNext (.ref I) >>= _) _ _ s;refine O5 (W.toS.item i s _ _ hlt ⟨hI,hL⟩ λ v s' hP hst' hm=>?_);have hT':jw prog w s'.heap S (rows.take i).reverse:=hT.keep hI hS λ b o hb e=>hm.heap b o (by simpa using hb) e;have hK':=hK.keep λ b o hb e=>hm.heap b o (λ z=>hb (Pn _ z)) e;obtain⟨b,ks,rfl,er,hkb,hb⟩:=hK' i v hP;show wpAny _ A.in1 (holding [Value.ref b] (setAdd S (.ref b)) >>= _) _ _ s';refine O5 (QY ?_);unfold setAdd;refine QY ?_;refine O5 (wpAny_pyHash_tuple hu hkb ?_);have hir:i<rows.length:=(O6.mp er).1;refine HN (s:={s' with toks:=s'.toks+(ks.length+1)}) hu hT' hkb (GS hd er) (by rw[List.length_reverse,P_];omega) λ h' hsb hS2=>?_
  have e2:ks::(rows.take i).reverse=(rows.take (i+1)).reverse:=by
   rw[List.take_succ,er];simp
  rw[e2]at hS2;obtain⟨hI',hL'⟩:=hst';have kp:∀b o,b≠S->s'.heap.get? b=some o->h'.get? b=some o:=λ b o hb e=>by rw[hsb.2 b hb];exact e
  refine Pf ⟨plainId_quiet Rw _,ih (i+1) _ (by omega) hlt (hI'.at λ o e=>kp _ _ (Pj hS) e) (hL'.at λ o e=>kp _ _ hlS e) hS2 (hK'.keep λ b o hb e=>kp b o (λ z=>hb (by rw[z];exact Pw)) e) λ s'' hm'' hS''=>?_⟩;exact hR s'' (Moved.trans (λ _ _ _ h1 h2=>h2.trans h1) ((hm.mono λ b hb=>Pn _ hb).then_heap (Sf _ _) λ b o hb e=>kp b o (λ z=>hb (by rw[z];exact Pw)) e) hm'') hS''
theorem z8{h:Heap}{a:Addr}{led:Bool}(e:h.get? a=some {cls:= .type "set",dict:=none,data:= .set #[] 0 (.fresh 0 0 led)}):jw prog w h a []:=
 ⟨_,_,_,_,e,⟨rfl,rfl,rfl⟩,rfl,⟨.inl rfl,rfl,rfl,Po _⟩,(show 0*5<7*3 by decide),rfl,λ e he=>by simp at he⟩
theorem Cb{l:Addr}{items:Array Value}{rows:List (List Int)}{Q:Value->Shared->Prop}(hh:A.handled=none)(hu:A.units+8<cLine)(hl:s.heap.IsList l items)(hk:td prog w s.heap items rows [])(hd:rows.Nodup)(hz:rows.length<=64)(hn:rows.length=items.size)
 (h:∀(h':Heap) (tk:Nat),jw prog w h' s.heap.objs.size rows.reverse->(∀b o,s.heap.get? b=some o->h'.get? b=some o)->Q (.ref s.heap.objs.size) {s with heap:=h',toks:=tk}):
 wpAny (model prog w) A (call (.type "set") [.ref l]) Q E s:=by
 obtain⟨c,tl,hmro⟩:=RO.mro;have hmade:=RO.made;have hsub:=RO.sub;refine U0 (codeAny_of_tree ?_);show wpAny _ _ (callAny (.type "set") _) _ _ _;refine Pf ⟨Code.quiet_builtin _ (by decide+kernel),Ux F.entry_type_call ?_⟩;rw[Around.under_plain (weight_type_call_type "set" [.ref l] []) rfl];have h1:=RO.notType;have h2:=RO.canCreate;have hct:=F.typeCall_set_1 (.ref l);repeat(any_goals (first|assumption|wp_step))
 refine Sn (code_set_new_1 (.ref l) (E:=E) (Q₁:=λ obj s₁=>∃led:Bool,obj= .ref s.heap.objs.size/\s₁= {s with heap:=s.heap.push {cls:= .type "set",dict:=none,data:= .set #[] 0 (.fresh 0 0 led)}}) λ led=>⟨led,rfl,rfl⟩) λ r s₁ hr=>?_;cases r with
 |error e=>exact hr
 |ok fl=>
  cases fl with
  |ret obj=>
   obtain⟨led,rfl,rfl⟩:=hr;have hS:(s.heap.push {cls:= .type "set",dict:=none,data:= .set #[] 0 (.fresh 0 0 led)}).get? s.heap.objs.size=some {cls:= .type "set",dict:=none,data:= .set #[] 0 (.fresh 0 0 led)}:=Pt _ rfl;have hT:Shared.TypeIs {s with heap:=s.heap.push {cls:= .type "set",dict:=none,data:= .set #[] 0 (.fresh 0 0 led)}} (.ref s.heap.objs.size) "set":=⟨_,hS,rfl⟩
   have hli:=RO.init.lookup;have hbi:=RO.init.bind (.ref s.heap.objs.size);repeat(any_goals (first|assumption|wp_step))
   refine Sn (codeAny_call_builtin (R:=wants (λ r s₂=>r= .none/\∃h' tk,s₂= {s with heap:=h',toks:=tk}/\jw prog w h' s.heap.objs.size rows.reverse/\(∀b o,s.heap.get? b=some o->h'.get? b=some o)) E) RO.init.plain F.entry_set_init (check_set_init_1 hT ?_)) λ r₂ s₂ hr₂=>?_
   . obtain⟨ol,hol,hcl,nl,hdl⟩:=hl;obtain⟨ocls,odict,odata,oslots⟩:=ol;simp only at hcl hdl;subst hcl;subst hdl;have hol':(s.heap.push {cls:= .type "set",dict:=none,data:= .set #[] 0 (.fresh 0 0 led)}).get? l=some {cls:= .type "list",dict:=odict,data:= .seq items nl,slots:=oslots}:=Pa _ hol;have hsls:=F.sub_list_set;have hslf:=F.sub_list_frozenset;have hne:(Value.type "list"==Value.type "dict")=false:=by decide
     have hl1:(s.heap.push {cls:= .type "set",dict:=none,data:= .set #[] 0 (.fresh 0 0 led)}).IsList l items:=⟨_,hol',rfl,nl,rfl⟩
     unfold Builtin.«set.__init__» noKeywords Builtin.Frozenset.updateFrom;generalize hPI:pyIter=PI
     wp_walk
     subst hPI;refine R9 hl1 ?_;refine O5 (wpAny_runValue ?_);have hlS:l<s.heap.objs.size:=Pm hol;have hszI:(s.heap.push {cls:= .type "set",dict:=none,data:= .set #[] 0 (.fresh 0 0 led)}).objs.size=s.heap.objs.size+1:=QE _ _;have hitr:((s.heap.push {cls:= .type "set",dict:=none,data:= .set #[] 0 (.fresh 0 0 led)}).push {cls:= .type "list_iterator",data:= .fields #[.ref l,.int 0 0]}).get? (s.heap.objs.size+1)=some {cls:= .type "list_iterator",data:= .fields #[.ref l,.int 0 0]}:=by rw[<-hszI];exact Pt _ rfl
     rw[hszI];refine Dl (items:=items) (rows:=rows) (l:=l) (by simp[hh]) ?hu (PB (PL _)) (PB (P0 hlS)) (PB hlS) hd hz (items.size-0) 0 _ rfl (Po _) ⟨_,hitr,rfl,rfl⟩ (hl1.push _) (z8 (led:=led) (Pa _ hS)) ?hK ?hR
     case hK=>
      intro i v e;obtain⟨b,ks,e1,e2,⟨o,its,n,q1,q2⟩,_⟩:=hk i v e;have hb:b<s.heap.objs.size:=Pm q1;refine⟨b,ks,e1,e2,⟨o,its,n,Pa _ (Pa _ q1),q2⟩,?_⟩;simp only[Px,PR,R0,Sg];exact⟨PB hb,PB (P0 hb)⟩
     case hR=>
      intro s' hm hS';obtain⟨h',g',d',tk',os'⟩:=s';have eg:g'=s.gens:=hm.gens;have ed:d'=s.drawn:=hm.drawn;have eo:os'=s.os:=hm.os;subst eg;subst ed;subst eo;rw[<-hn,Uo]at hS';show wpAny _ _ _ _ _ _;refine Pf ?_;show wpAny _ _ (ret Value.none) _ _ _;refine Pf ⟨rfl,h',tk',rfl,hS',λ b o e=>hm.heap b o (λ z=>?_) (Pa _ (Pa _ e))⟩;have hb:b<s.heap.objs.size:=Pm e;simp only[Px,PR,R0]at z;rcases z with z|z
      . exact absurd z (PB hb)
      . exact absurd z (PB (P0 hb))
     case hu=>show A.units+1+1+1<cLine;omega
   . cases r₂ with
     |error e=>exact hr₂
     |ok fl₂=>
      cases fl₂ with
      |ret r=>
       obtain⟨rfl,h',tk,rfl,hS',hk'⟩:=hr₂;refine Pf ?_;dsimp only;rw[O7 (by decide)];exact Pf (h h' tk hS' hk')
      |next=>exact hr₂.elim
      |brk=>exact hr₂.elim
      |cont=>exact hr₂.elim
  |next=>exact hr.elim
  |brk=>exact hr.elim
  |cont=>exact hr.elim
end
end L3
namespace L3
open PySem L2
open PySem.Spec hiding items?
open PyProof.Rows hiding St
def Kh(H:Hp)(v:V)(ks:List Int):Prop:=∃b,v= .ref b/\H b=some (.tup (ks.map V.int))
def E8(a:Addr)(n:Nat)(h:Heap):Prop:=∃o es ep t,h.get? a=some o/\o.ExactSet/\o.data= .set es ep t/\t.fits es.size=true/\es.size=n
def Lp:List V->Hp->VK->Prop:=λ xs H Q=>∃a vs rows,xs=[.ref a]/\Rd H a (.lst vs)/\Paired (Kh H) vs rows/\rows.Nodup/\rows.length<=64/\∀l,H l=none->Q (.ref l) (upd H l (.ext (E8 l rows.length)))
def MJ:List V->Hp->VK->Prop:=λ xs H Q=>∃a n,xs=[.ref a]/\H a=some (.ext (E8 a n))/\n<=64/\Q (.int n) H
section
variable {X:Cx}
theorem ui:∀ {ks:List Int} {its:List Value},Vals (ks.map V.int) its->ItemsAre (intKind X.prog X.w) ks its
 | [],_,h=>by cases h;exact .nil
 |k::ks,_,h=>by
  cases h with
  |cons r t=>
   obtain⟨tk,rfl⟩:=r;exact .cons (intKind_is _ _ _ _) (ui t)
theorem KR{k:Nat}(hr:bV k X.A)(hc:X.calm=true):aZ X (.type "set") Lp:=λ pins s σ H xs us Q I rs ⟨a,vs,rows,e,ha,hp,hd,hz,q⟩=>by
 subst e;cases rs with
 |cons r rr=>
  cases rr;cases r;obtain⟨hlen,its,n,hv,hg⟩:=ha.ok I.aC
  have hk:td X.prog X.w s.heap its.toArray rows []:=λ i v hi=>by
   have hi':its[i]?=some v:=by simpa using hi
   obtain⟨hlt,_⟩:=O6.mp hi';have hvl:i<vs.length:=by rw[SQ hv];exact hlt
   obtain⟨v',hv',rv⟩:=jK hv (Pk hvl);rw[hi']at hv';cases hv';obtain⟨ks,hks,b,eb,hb⟩:=jK hp (Pk hvl);rw[eb]at rv;cases rv;obtain⟨_,its2,hv2,o,ho,hcls,m,hdat⟩:=I.aC b _ hb;exact⟨b,ks,rfl,hks,⟨o,_,m,ho,hcls,hdat,by simpa using ui hv2⟩,by simp⟩
  refine Cb (I.ok.hd hc) (by have:=hr.units;omega) ⟨_,hg,rfl,n,rfl⟩ hk hd hz (by rw[<-SQ hp,SQ hv];simp) λ h' tk hS kp=>?_;obtain⟨o,es,ep,t,h1,h2,h3,h4,h5,h6,h7⟩:=hS;rw[List.length_reverse]at h6;refine⟨.ref _,_,I.laid (t':=tk) kp (O9 _) (show cw X.prog X.w _ h' _ (.ext (E8 s.heap.objs.size rows.length))from⟨⟨o,es,ep,t,h1,h2,h3,h4.fits,h6⟩,⟨o,h1⟩,λ p1 p2 ⟨o',es',ep',t',z1,z2⟩ zk=>⟨o',es',ep',t',zk _ z1,z2⟩⟩),rfl,q _ (I.aC.fresh (O9 _))⟩
theorem Ks:aZ X (.builtin "len") MJ:=λ pins s σ H xs us Q I rs ⟨a,n,e,ha,hn,q⟩=>by
 subst e;cases rs with
 |cons r rr=>
  cases rr;cases r;obtain⟨⟨o,es,ep,t,h1,h2,h3,h4,h5⟩,_⟩:=I.aC a _ ha;subst h5;refine call_len_set h1 h2 h3 h4 (by omega) ⟨.int _,H,I.kept λ b o e=>e,⟨_,rfl⟩,q⟩
def A6(r:List Int):D:= .tup (r.map D.int)
def Lq(ds:List D)(st:ae)(K:DK):Prop:=∃rows:List (List Int),ds=[.lst (rows.map A6)]/\rows.Nodup/\rows.length<=64/\K (.int rows.length) st
@[irreducible] def rJ:dw:=Lq
theorem ug{α:List (Option Addr)}{G:Hp}:∀ {r:List Int} {vs:List V},aB α G (r.map D.int) vs->vs=r.map V.int
 | [],_,h=>by unfold aB at h;exact h
 |k::r,_,h=>by
  rw[Qj]at h;unfold aB at h;obtain⟨v,r',rfl,h1,h2⟩:=h;unfold Rep at h1;rw[h1,ug h2];rfl
theorem tY{α:List (Option Addr)}{G F H:Hp}(P:bw G F H):∀ {rows:List (List Int)} {vs:List V},aB α G (rows.map A6) vs->Paired (Kh H) vs rows
 | [],_,h=>by unfold aB at h;subst h;exact .nil
 |k::r,_,h=>by
  rw[Qj]at h;unfold aB at h;obtain⟨v,r',rfl,h1,h2⟩:=h;refine .cons ?_ (tY P h2);unfold A6 at h1;unfold Rep at h1;obtain⟨a,vs,rfl,_,h3,h4⟩:=h1;rw[ug h4]at h3;exact⟨a,rfl,P.get h3⟩
theorem boot_set:bootBuiltins "set"=some (.type "set"):=by decide+kernel
theorem JX{a:Expr}{p pos p2 pos2:Pos}{ar:DA}{k:Nat}(hr:bV k X.A)(hg:Gl X "len")(hm:X.mg "len"=none)(hg2:Gl X "set")(hm2:X.mg "set"=none)(ha:JA X [a] ar)(hc:X.calm=true:=by rfl)(hs:notStar a=true:=by rfl):JE X (.Call (.Name "len" p) [.Call (.Name "set" p2) [a] [] pos2] [] pos) (ba rJ ar):=by
 unfold JE;unfold JA at ha;refine PE.imp (xg Ks hg hm (by decide+kernel) (yP (uh (KR hr hc) hg2 hm2 boot_set ha (by decide) (by decide) (aY hs) rfl) CG (aY rfl)) (by decide) (by decide) (aY rfl) rfl) λ σ H Q ⟨α,σd,st,K,G,F,P,RS,S,t,k⟩=>?_;refine⟨α,σd,st,_,G,F,P,RS,S,t,λ ds st1 q α1 G1 H1 vs s1 P1 S1 r1=>?_⟩;unfold rJ at q;obtain⟨rows,rfl,hd,hz,q⟩:=q;obtain⟨v,rfl,r2⟩:=eH r1 rfl;unfold Rep at r2;obtain⟨a,vs,rfl,na,hra,hvs⟩:=r2;refine⟨a,vs,rows,rfl,eK P1 hra,tY P1 hvs,hd,hz,λ l hl=>?_⟩;have hG:=(P1.none hl).1;exact⟨l,rows.length,rfl,aG,hz,(k.at s1) _ st1 q α1 _ _ _ (Step.laid hG) (P1.laid hl) (S1.laid hG) (by unfold Rep;rfl)⟩
theorem GI{st:ae}{K:DK}{rows:List (List Int)}{xs:List D}(e:xs=rows.map A6)(hd:rows.Nodup)(hz:rows.length<=64)(k:K (.int rows.length) st):rJ [.lst xs] st K:=by unfold rJ;exact⟨rows,by rw[e],hd,hz,k⟩
end
end L3
namespace Mx
def S:Nat->(Nat->Int)->Int
 |0,_=>0
 |n+1,f=>S n f+f n
theorem ay{n:Nat}{f g:Nat->Int}(h:∀i,i<n->f i=g i):S n f=S n g:=by
 induction n with
 |zero=>rfl
 |succ n ih=>unfold S;rw[ih λ i hi=>h i (by omega),h n (by omega)]
theorem gF{n:Nat}{f:Nat->Int}(h:∀i,i<n->f i=0):S n f=0:=by
 induction n with
 |zero=>rfl
 |succ n ih=>unfold S;rw[ih λ i hi=>h i (by omega),h n (by omega)];rfl
theorem fj(n:Nat)(f g:Nat->Int):S n (λ i=>f i+g i)=S n f+S n g:=by
 induction n with
 |zero=>rfl
 |succ n ih=>unfold S;rw[ih];dsimp only;omega
theorem dq(n:Nat)(c:Int)(f:Nat->Int):S n (λ i=>c*f i)=c*S n f:=by
 induction n with
 |zero=>unfold S;rw[Qc]
 |succ n ih=>unfold S;rw[ih,Int.mul_add]
theorem kh(n:Nat)(c:Int)(f:Nat->Int):S n (λ i=>f i*c)=S n f*c:=by
 induction n with
 |zero=>unfold S;rw[Qv]
 |succ n ih=>unfold S;rw[ih,Int.add_mul]
theorem rK(n:Nat)(f:Nat->Int):S n (λ i=> -f i)= -S n f:=by
 induction n with
 |zero=>rfl
 |succ n ih=>unfold S;rw[ih];dsimp only;omega
theorem jd(m n:Nat)(f:Nat->Nat->Int):S m (λ i=>S n λ j=>f i j)=S n λ j=>S m λ i=>f i j:=by
 induction m with
 |zero=>exact(gF (n:=n) (λ i _=>rfl)).symm
 |succ m ih=>
  have:S n (λ j=>S (m+1) λ i=>f i j)=S n λ j=>(S m λ i=>f i j)+f m j:=ay λ j _=>rfl;rw[this,fj,<-ih];rfl
theorem fM{n:Nat}{k:Nat}(hk:k<n){f:Nat->Int}(h:∀i,i<n->i≠k->f i=0):S n f=f k:=by
 induction n with
 |zero=>omega
 |succ n ih=>
  unfold S;by_cases e:k=n
  . subst e;rw[gF λ i hi=>h i (by omega) (by omega),Su]
  . rw[ih (by omega) λ i hi hn=>h i (by omega) hn,h n (by omega) (by omega),Sy]
theorem Ck(n:Nat)(f:Nat->Int):S (n+1) f=f 0+S n λ i=>f (i+1):=by
 induction n with
 |zero=>unfold S S;omega
 |succ n ih=>
  have:S (n+1+1) f=S (n+1) f+f (n+1):=rfl;rw[this,ih];have:S (n+1) (λ i=>f (i+1))=S n (λ i=>f (i+1))+f (n+1):=rfl;rw[this];omega
def dl(i j:Nat):Int:=if i=j then 1 else 0
theorem cD(i:Nat):dl i i=1:=O_ rfl
theorem cV{i j:Nat}(h:i≠j):dl i j=0:=O7 h
theorem kD{n k:Nat}(hk:k<n)(f:Nat->Int):S n (λ i=>dl k i*f i)=f k:=by
 rw[fM hk (λ i _ h=>by rw[cV (Pj h),Qv]),cD,Rp]
theorem nO{n k:Nat}(hk:k<n)(f:Nat->Int):S n (λ i=>f i*dl i k)=f k:=by
 rw[fM hk (λ i _ h=>by rw[cV h,Qc]),cD,RL]
abbrev Row:=List Int
abbrev Rows:=List (List Int)
def g(A:Rows)(i j:Nat):Int:=(A.getD i []).getD j 0
structure bH(m n:Nat)(A:Rows):Prop where
 len:A.length=m
 ff:∀r∈A,r.length=n
theorem aO{α:Type}{l:List α}{i:Nat}{d:α}(h:i<l.length):l.getD i d=l[i]:=by
 rw[Pc,Pk h];rfl
theorem iV{α:Type}{l:List α}{i:Nat}{d:α}(h:l.length<=i):l.getD i d=d:=by
 rw[Pc,US h];rfl
theorem GH{a b:Row}{n:Nat}(ha:a.length=n)(hb:b.length=n)(h:∀j,j<n->a.getD j 0=b.getD j 0):a=b:=by
 refine Ul (by omega) λ i h1 h2=>?_;have:=h i (by omega);rwa [aO h1,aO h2]at this
theorem bH.row{m n:Nat}{A:Rows}(h:bH m n A){i:Nat}(hi:i<m):(A.getD i []).length=n:=by
 have hl:=h.len;rw[aO (by omega)];exact h.ff _ (Q8 _)
def cK(r:Row)(t:Int)(s:Row):Row:=List.zipWith (λ a b=>a+t*b) r s
theorem gW{r s:Row}{t:Int}(h:r.length=s.length):(cK r t s).length=r.length:=by unfold cK;simp[h]
theorem jW{r s:Row}{t:Int}(h:r.length=s.length)(j:Nat):(cK r t s).getD j 0=r.getD j 0+t*s.getD j 0:=by
 unfold cK;by_cases hj:j<r.length
 . rw[aO (by simp;omega),aO hj,aO (by omega)];simp
 . rw[iV (by simp;omega),iV (by omega),iV (by omega)];simp
def bo:Row->Rows->Row->Row
 |w::ws,r::rs,acc=>bo ws rs (cK acc w r)
 |_,_,acc=>acc
theorem kI{n:Nat}:∀ {ws:Row} {rs:Rows} {acc:Row},acc.length=n->(∀r∈rs,r.length=n)->(bo ws rs acc).length=n
 | [],_,acc,h,_=>by unfold bo;exact h
 |_::_,[],acc,h,_=>by unfold bo;exact h
 |w::ws,r::rs,acc,h,hr=>by
  unfold bo;refine kI ?_ λ r hr'=>hr r (Pn _ hr');rw[gW (by rw[h,hr r Pw]),h]
theorem qH{n:Nat}:∀ {ws:Row} {rs:Rows} {acc:Row} (j:Nat),acc.length=n->(∀r∈rs,r.length=n)->ws.length=rs.length->(bo ws rs acc).getD j 0=acc.getD j 0+S rs.length λ k=>ws.getD k 0*g rs k j
 | [],[],acc,j,h,_,_=>by unfold bo;show _=_+(0:Int);rw[Sy]
 | [],_::_,acc,j,h,_,hl=>by cases hl
 |_::_,[],acc,j,h,_,hl=>by cases hl
 |w::ws,r::rs,acc,j,h,hr,hl=>by
  have e1:acc.length=r.length:=by rw[h,hr r Pw]
  unfold bo;rw[qH j (by rw[gW e1,h]) (λ r hr'=>hr r (Pn _ hr')) (by simpa using hl),jW e1,P7,Ck]
  have:(λ k=>(w::ws).getD (k+1) 0*g (r::rs) (k+1) j)=λ k=>ws.getD k 0*g rs k j:=by
   funext k;unfold g;simp
  rw[this];unfold g;simp;omega
def mulM(A B:Rows)(n:Nat):Rows:=A.map λ w=>bo w B (List.replicate n 0)
theorem bY(n j:Nat):(List.replicate n (0:Int)).getD j 0=0:=by
 by_cases h:j<n
 . rw[aO (by simpa using h)];simp
 . rw[iV (by simp;omega)]
theorem yO{m p n:Nat}{A B:Rows}(ha:bH m p A)(hb:bH p n B):bH m n (mulM A B n):=by
 refine⟨by unfold mulM;rw[O8];exact ha.len,λ r hr=>?_⟩;unfold mulM at hr;obtain⟨w,_,rfl⟩:=Qa.mp hr;exact kI (by simp) hb.ff
theorem map_getD{α:Type}{f:Row->List α}{A:Rows}{i:Nat}(h:i<A.length):(A.map f).getD i []=f (A.getD i []):=by
 rw[aO (by simpa using h),aO h];simp
theorem sR{m p n:Nat}{A B:Rows}(ha:bH m p A)(hb:bH p n B){i:Nat}(hi:i<m)(j:Nat):g (mulM A B n) i j=S p λ k=>g A i k*g B k j:=by
 have hl:=ha.len;show((mulM A B n).getD i []).getD j 0=_;unfold mulM;rw[map_getD (by omega),qH (n:=n) j (by simp) hb.ff (by rw[ha.row hi,hb.len]),bY,Su,hb.len];rfl
def cM(n i:Nat):Row:=(List.range n).map λ k=>dl k i
def units(n:Nat):Rows:=(List.range n).map λ i=>cM n i
theorem range_getD{α:Type}{f:Nat->α}{n i:Nat}{d:α}(h:i<n):((List.range n).map f).getD i d=f i:=by
 rw[aO (by simpa using h)];simp
theorem ky(n:Nat):bH n n (units n):=⟨by simp[units],λ r hr=>by unfold units at hr;obtain⟨i,_,rfl⟩:=Qa.mp hr;simp[cM]⟩
theorem fT{n i j:Nat}(hi:i<n)(hj:j<n):g (units n) i j=dl i j:=by
 unfold g units cM;rw[range_getD hi,range_getD hj];unfold dl;by_cases h:i=j
 . subst h;rfl
 . rw[O7 (Pj h),O7 h]
def tw(A:Rows)(j:Nat):Row:=A.map λ r=>r.getD j 0
def Gv(A:Rows)(n:Nat):Rows:=(List.range n).map λ j=>tw A j
def IJ:Row->Row->Int
 |a::as,b::bs=>a*b+IJ as bs
 |_,_=>0
theorem sZ(i j:Nat):dl i j=dl j i:=by
 unfold dl;by_cases h:i=j
 . rw[O_ h,O_ h.symm]
 . rw[O7 h,O7 (Pj h)]
def sw(i j k:Nat):Nat:=if k=i then j else if k=j then i else k
theorem N5{n i j:Nat}(hi:i<n)(hj:j<n)(hij:i≠j)(f:Nat->Int):S n (λ k=>f (sw i j k))=S n f:=by
 have:S n (λ k=>f (sw i j k))=S n λ k=>f k+(f j-f i)*dl k i+(f i-f j)*dl k j:=ay λ k _=>by
  unfold sw;by_cases h1:k=i
  . subst h1;rw[O_ rfl,cD,cV hij];omega
  . rw[O7 h1,cV h1];by_cases h2:k=j
    . subst h2;rw[O_ rfl,cD];omega
    . rw[O7 h2,cV h2];omega
 rw[this,fj,fj,nO (f:=λ _=>f j-f i) hi,nO (f:=λ _=>f i-f j) hj];omega
theorem l0{A:Rows}{i:Nat}{r:Row}(hi:i<A.length)(a k:Nat):g (A.set i r) a k=if a=i then r.getD k 0 else g A a k:=by
 have e:(A.set i r).getD a []=if a=i then r else A.getD a []:=by
  rw[Pc,Pc];by_cases h:a=i
  . subst h;rw[O_ rfl,Pg hi];rfl
  . rw[O7 h,Pb (Pj h)]
 unfold g;rw[e];by_cases h:a=i
 . rw[O_ h,O_ h]
 . rw[O7 h,O7 h]
theorem mj{m n i:Nat}{A:Rows}{r:Row}(h:bH m n A)(hr:r.length=n):bH m n (A.set i r):=⟨by rw[Pl];exact h.len,λ q hq=>by
 rcases Qi hq with z|rfl
 . exact h.ff q z
 . exact hr⟩
abbrev Fn:=Nat->Nat->Int
def sk(j c:Nat):Nat:=if c<j then c else c+1
def sg(j:Nat):Int:=if j%2=0 then 1 else-1
theorem tL(j:Nat):sg (j+1)= -sg j:=by unfold sg;split<;>split<;>omega
theorem y_:sg 0=1:=rfl
theorem iX{j c n:Nat}(h:c<n):sk j c<n+1:=by unfold sk;split<;>omega
theorem Lz{j k c:Nat}(h:k<j):sk j (sk k c)=sk k (sk (j-1) c):=by unfold sk;grind
def D:Nat->Fn->Int
 |0,_=>1
 |n+1,M=>S (n+1) λ j=>sg j*M 0 j*D n λ r c=>M (r+1) (sk j c)
theorem KQ(M:Fn):D 0 M=1:=rfl
theorem dh(n:Nat)(M:Fn):D (n+1) M=S (n+1) λ j=>sg j*M 0 j*D n λ r c=>M (r+1) (sk j c):=rfl
theorem bZ:∀ {n:Nat} {M M':Fn},(∀r c,r<n->c<n->M r c=M' r c)->D n M=D n M'
 |0,_,_,_=>rfl
 |n+1,M,M',h=>by
  rw[dh,dh];refine ay λ j hj=>?_;have e:D n (λ r c=>M (r+1) (sk j c))=D n (λ r c=>M' (r+1) (sk j c)):=bZ λ r c hr hc=>h (r+1) (sk j c) (by omega) (iX hc);rw[h 0 j (by omega) hj,e]
theorem Am:∀ {n:Nat} {M P Q:Fn} {a b:Int} {i:Nat},i<n->(∀c,c<n->M i c=a*P i c+b*Q i c)->(∀r c,r<n->c<n->r≠i->M r c=P r c/\M r c=Q r c)->D n M=a*D n P+b*D n Q
 |0,_,_,_,_,_,_,h,_,_=>by omega
 |n+1,M,P,Q,a,b,0,_,h0,h=>by
  rw[dh,dh,dh,<-dq,<-dq,<-fj];refine ay λ j hj=>?_;have e1:D n (λ r c=>M (r+1) (sk j c))=D n (λ r c=>P (r+1) (sk j c)):=bZ λ r c hr hc=>(h (r+1) (sk j c) (by omega) (iX hc) (by omega)).1;have e2:D n (λ r c=>M (r+1) (sk j c))=D n (λ r c=>Q (r+1) (sk j c)):=bZ λ r c hr hc=>(h (r+1) (sk j c) (by omega) (iX hc) (by omega)).2;rw[h0 j hj,<-e1,<-e2];grind
 |n+1,M,P,Q,a,b,i+1,hi,h0,h=>by
  rw[dh,dh,dh,<-dq,<-dq,<-fj];refine ay λ j hj=>?_;have e:=Am (n:=n) (M:=λ r c=>M (r+1) (sk j c)) (P:=λ r c=>P (r+1) (sk j c)) (Q:=λ r c=>Q (r+1) (sk j c)) (a:=a) (b:=b) (i:=i) (by omega) (λ c hc=>h0 (sk j c) (iX hc)) λ r c hr hc hne=>h (r+1) (sk j c) (by omega) (iX hc) (by omega);have p:=h 0 j (by omega) hj (by omega);rw[e,<-p.1,<-p.2];grind
theorem Ot{n:Nat}{M:Fn}(h:∀c,c<n+2->M 0 c=M 1 c):D (n+2) M=0:=by
 let T:Nat->Nat->Int:=λ j k=>sg j*M 0 j*(sg k*M 1 (sk j k)*D n λ r c=>M (r+2) (sk j (sk k c)))
 have e1:∀j,j<n+2->sg j*M 0 j*D (n+1) (λ r c=>M (r+1) (sk j c))=S (n+1) λ k=>T j k:=λ j hj=>by
  rw[dh,<-dq]
 rw[dh,ay e1]
 have e2:∀j,j<n+2->S (n+1) (λ k=>T j k)=S (n+1) (λ k=>if k<j then T j k else 0)+S (n+1) (λ k=>if k<j then 0 else T j k):=λ j _=>by
  rw[<-fj];refine ay λ k _=>?_;split<;>omega
 rw[ay e2,fj]
 have e3:∀j k,j<n+2->k<n+1->¬k<j->T j k= -T (k+1) j:=λ j k hj hk hjk=>by
  have s1:sk (k+1) j=j:=by unfold sk;rw[O_ (by omega)]
  have s2:sk j k=k+1:=by unfold sk;rw[O7 hjk]
  have s3:(λ r c=>M (r+2) (sk (k+1) (sk j c)))=λ r c=>M (r+2) (sk j (sk k c)):=by
   funext r c;rw[Lz (show j<k+1 by omega)];rfl
  show sg j*M 0 j*(sg k*M 1 (sk j k)*D n λ r c=>M (r+2) (sk j (sk k c)))= -(sg (k+1)*M 0 (k+1)*(sg j*M 1 (sk (k+1) j)*D n λ r c=>M (r+2) (sk (k+1) (sk j c))));rw[s1,s2,s3,tL,<-h j hj,<-h (k+1) (by omega)];grind
 have e4:S (n+2) (λ j=>S (n+1) λ k=>if k<j then 0 else T j k)= -S (n+2) (λ j=>S (n+1) λ k=>if k<j then T j k else 0):=by
  rw[jd,Ck (n+1) (λ j=>S (n+1) λ k=>if k<j then T j k else 0)];have z:S (n+1) (λ k=>if k<0 then T 0 k else 0)=0:=gF λ k _=>O7 (by omega);rw[z,Su,<-rK];refine ay λ k hk=>?_;have:S (n+2) (λ j=>if k<j then 0 else T j k)=S (n+1) (λ j=>if k<j then 0 else T j k)+(if k<n+1 then 0 else T (n+1) k):=rfl;rw[this,O_ hk,Sy,<-rK];refine ay λ j hj=>?_;by_cases hkj:k<j
  . rw[O_ hkj,O7 (by omega)];rfl
  . rw[O7 hkj,O_ (by omega)];exact e3 j k (by omega) hk hkj
 rw[e4];omega
theorem Gs:∀ {n:Nat} {M:Fn} {i:Nat},i+1<n->(∀c,c<n->M i c=M (i+1) c)->D n M=0
 |0,_,_,h,_=>by omega
 |1,_,_,h,_=>by omega
 |n+2,M,0,_,h=>Ot h
 |n+2,M,i+1,hi,h=>by
  rw[dh];refine gF λ j hj=>?_;rw[Gs (n:=n+1) (M:=λ r c=>M (r+1) (sk j c)) (i:=i) (by omega) λ c hc=>h (sk j c) (iX hc),Qc]
structure Alt(n:Nat)(φ:Fn->Int):Prop where
 cg:∀M M':Fn,(∀r c,r<n->c<n->M r c=M' r c)->φ M=φ M'
 jA:∀(i:Nat) (M P Q:Fn) (a b:Int),i<n->(∀c,c<n->M i c=a*P i c+b*Q i c)->(∀r c,r<n->c<n->r≠i->M r c=P r c/\M r c=Q r c)->φ M=a*φ P+b*φ Q
 alt:∀(i j:Nat) (M:Fn),i<n->j<n->i≠j->(∀c,c<n->M i c=M j c)->φ M=0
def upd(M:Fn)(i:Nat)(x:Nat->Int):Fn:=λ r c=>if r=i then x c else M r c
theorem bQ(M:Fn)(i:Nat)(x:Nat->Int)(c:Nat):upd M i x i c=x c:=O_ rfl
theorem au{M:Fn}{i r:Nat}{x:Nat->Int}(h:r≠i)(c:Nat):upd M i x r c=M r c:=O7 h
theorem Nk{n i j:Nat}{φ:Fn->Int}(cg:∀M M':Fn,(∀r c,r<n->c<n->M r c=M' r c)->φ M=φ M')
 (jA:∀(i:Nat) (M P Q:Fn) (a b:Int),i<n->(∀c,c<n->M i c=a*P i c+b*Q i c)->(∀r c,r<n->c<n->r≠i->M r c=P r c/\M r c=Q r c)->φ M=a*φ P+b*φ Q)
 (hi:i<n) (hj:j<n) (hij:i≠j) (alt:∀N:Fn,(∀c,c<n->N i c=N j c)->φ N=0) (M:Fn):φ (λ r=>M (sw i j r))= -φ M:=by
 have l1:φ (upd (upd M i λ c=>M i c+M j c) j λ c=>M i c+M j c)=1*φ (upd (upd M i (M i)) j λ c=>M i c+M j c)+1*φ (upd (upd M i (M j)) j λ c=>M i c+M j c):=
  jA i _ _ _ 1 1 hi (λ c _=>by rw[au hij,au hij,au hij,bQ,bQ,bQ];omega) λ r c _ _ hr=>by
   unfold upd;grind
 have l2:∀x:Nat->Int,φ (upd (upd M i x) j λ c=>M i c+M j c)=1*φ (upd (upd M i x) j (M i))+1*φ (upd (upd M i x) j (M j)):=λ x=>
  jA j _ _ _ 1 1 hj (λ c _=>by rw[bQ,bQ,bQ];omega) λ r c _ _ hr=>by
   rw[au hr,au hr,au hr];exact⟨rfl,rfl⟩
 have z0:φ (upd (upd M i λ c=>M i c+M j c) j λ c=>M i c+M j c)=0:=alt _ λ c _=>by rw[au hij,bQ,bQ]
 have z1:φ (upd (upd M i (M i)) j (M i))=0:=alt _ λ c _=>by rw[au hij,bQ,bQ]
 have z2:φ (upd (upd M i (M j)) j (M j))=0:=alt _ λ c _=>by rw[au hij,bQ,bQ]
 have s1:φ (upd (upd M i (M i)) j (M j))=φ M:=cg _ _ λ r c _ _=>by
  unfold upd;split
  . rename_i e;rw[e]
  . split
    . rename_i e;rw[e]
    . rfl
 have s2:φ (upd (upd M i (M j)) j (M i))=φ (λ r=>M (sw i j r)):=cg _ _ λ r c _ _=>by
  unfold upd sw;by_cases h1:r=j
  . rw[O_ h1];by_cases h2:r=i
    . omega
    . rw[O7 h2,O_ h1]
  . rw[O7 h1];by_cases h2:r=i
    . rw[O_ h2,O_ h2]
    . rw[O7 h2,O7 h2,O7 h1]
 have a1:=l2 (M i);have a2:=l2 (M j);rw[z1,s1]at a1;rw[z2,s2]at a2;rw[z0,a1,a2]at l1;omega
theorem Alt.swap{n i j:Nat}{φ:Fn->Int}(A:Alt n φ)(hi:i<n)(hj:j<n)(hij:i≠j)(M:Fn):φ (λ r=>M (sw i j r))= -φ M:=
 Nk A.cg A.jA hi hj hij (λ N h=>A.alt i j N hi hj hij h) M
theorem sy{n:Nat}{φ:Fn->Int}(cg:∀M M':Fn,(∀r c,r<n->c<n->M r c=M' r c)->φ M=φ M')
 (jA:∀(i:Nat) (M P Q:Fn) (a b:Int),i<n->(∀c,c<n->M i c=a*P i c+b*Q i c)->(∀r c,r<n->c<n->r≠i->M r c=P r c/\M r c=Q r c)->φ M=a*φ P+b*φ Q)
 (adj:∀(i:Nat) (M:Fn),i+1<n->(∀c,c<n->M i c=M (i+1) c)->φ M=0):Alt n φ:=by
 have far:∀(d i:Nat) (M:Fn),i+d+1<n->(∀c,c<n->M i c=M (i+d+1) c)->φ M=0:=by
  intro d;induction d with
  |zero=>exact λ i M h1 h2=>adj i M h1 h2
  |succ d ih=>
   intro i M h1 h2;have hs:=Nk cg jA (i:=i+d+1) (j:=i+d+1+1) (by omega) (by omega) (by omega) (λ N h=>adj (i+d+1) N (by omega) h) M
   have:φ (λ r=>M (sw (i+d+1) (i+d+1+1) r))=0:=ih i _ (by omega) λ c hc=>by
    have e1:sw (i+d+1) (i+d+1+1) i=i:=by unfold sw;rw[O7 (by omega),O7 (by omega)]
    have e2:sw (i+d+1) (i+d+1+1) (i+d+1)=i+d+1+1:=by unfold sw;rw[O_ rfl]
    rw[e1,e2];exact h2 c hc
   omega
 refine⟨cg,jA,λ i j M hi hj hij h=>?_⟩;by_cases hlt:i<j
 . obtain⟨d,rfl⟩:∃d,j=i+d+1:=⟨j-i-1,by omega⟩
   exact far d i M hj h
 . obtain⟨d,rfl⟩:∃d,i=j+d+1:=⟨i-j-1,by omega⟩
   exact far d j M hi λ c hc=>(h c hc).symm
theorem rq(n:Nat):Alt n (D n):=sy (λ _ _ h=>bZ h) (λ _ _ _ _ _ _ hi h0 h=>Am hi h0 h) λ _ _ h1 h2=>Gs h1 h2
theorem Alt.Oa{n i:Nat}{φ:Fn->Int}(A:Alt n φ)(hi:i<n){M:Fn}(h:∀c,c<n->M i c=0):φ M=0:=by
 have:=A.jA i M M M 0 0 hi (λ c hc=>by rw[h c hc];rfl) λ _ _ _ _ _=>⟨rfl,rfl⟩
 omega
theorem Alt.BR{n i:Nat}{φ:Fn->Int}(A:Alt n φ)(hi:i<n)(M:Fn)(t:Int)(x:Nat->Int):φ (upd M i λ c=>t*x c)=t*φ (upd M i x):=by
 have:=A.jA i (upd M i λ c=>t*x c) (upd M i x) (upd M i x) t 0 hi (λ c hc=>by rw[bQ,bQ];omega) λ r c _ _ hr=>by rw[au hr,au hr];exact⟨rfl,rfl⟩
 omega
theorem Alt.CC{n i:Nat}{φ:Fn->Int}(A:Alt n φ)(hi:i<n)(M:Fn)(x y:Nat->Int):φ (upd M i λ c=>x c+y c)=φ (upd M i x)+φ (upd M i y):=by
 have:=A.jA i (upd M i λ c=>x c+y c) (upd M i x) (upd M i y) 1 1 hi (λ c hc=>by rw[bQ,bQ,bQ];omega) λ r c _ _ hr=>by rw[au hr,au hr,au hr];exact⟨rfl,rfl⟩
 omega
theorem Alt.rG{n i:Nat}{φ:Fn->Int}(A:Alt n φ)(hi:i<n)(M:Fn)(a:Nat->Int)(x:Nat->Nat->Int):∀m,φ (upd M i λ c=>S m λ j=>a j*x j c)=S m λ j=>a j*φ (upd M i (x j))
 |0=>A.Oa hi λ c _=>by rw[bQ];rfl
 |m+1=>by
  have:(λ c=>S (m+1) λ j=>a j*x j c)=λ c=>(S m λ j=>a j*x j c)+a m*x m c:=rfl;rw[this,A.CC hi,A.rG hi M a x m,A.BR hi];rfl
def un(j c:Nat):Nat:=if c<j then c else c-1
def grow(j:Nat)(B:Fn):Fn:=λ r c=>if r=0 then dl j c else if c=j then 0 else B (r-1) (un j c)
theorem rf{n j c:Nat}(hj:j<n+1)(hc:c<n+1)(h:c≠j):un j c<n:=by unfold un;split<;>omega
theorem AW{j c:Nat}(h:c≠j):sk j (un j c)=c:=by unfold sk un;grind
theorem Alt.grow{n j:Nat}{φ:Fn->Int}(A:Alt (n+1) φ)(hj:j<n+1):Alt n λ B=>φ (Mx.grow j B) where
 cg:=λ M M' h=>A.cg _ _ λ r c hr hc=>by
  have:=h (r-1) (un j c);have:=rf (c:=c) hj hc;unfold Mx.grow;grind
 jA:=λ i M P Q a b hi h0 h=>A.jA (i+1) _ _ _ a b (by omega) (λ c hc=>by
  have:=h0 (un j c);have:=rf (c:=c) hj hc;have e:i+1-1=i:=by omega
  unfold Mx.grow;rw[e];grind) λ r c hr hc hne=>by
  have:=h (r-1) (un j c);have:=rf (c:=c) hj hc;unfold Mx.grow;grind
 alt:=λ i k M hi hk hik h=>A.alt (i+1) (k+1) _ (by omega) (by omega) (by omega) λ c hc=>by
  have:=h (un j c);have:=rf (c:=c) hj hc;have e:i+1-1=i:=by omega
  have e2:k+1-1=k:=by omega
  unfold Mx.grow;rw[e,e2];grind
theorem Alt.units{n:Nat}{φ:Fn->Int}(A:Alt (n+1) φ):∀j,j<n+1->φ (Mx.grow j dl)=sg j*φ dl
 |0,_=>by
  rw[y_,Rp];refine A.cg _ _ λ r c hr hc=>?_;unfold Mx.grow un dl;grind
 |j+1,hj=>by
  have ih:=A.units j (by omega);have s:=A.swap (i:=0) (j:=j+1) (by omega) hj (by omega) (Mx.grow j dl);rw[tL,R7,<-ih,<-s];refine A.cg _ _ λ r c hr hc=>?_;unfold Mx.grow un dl sw;grind
theorem Alt.NQ{n i k:Nat}{φ:Fn->Int}(A:Alt n φ)(hi:i<n)(hk:k<n)(hik:i≠k)(M:Fn)(x:Nat->Int)(t:Int):φ (upd M i λ c=>x c+t*M k c)=φ (upd M i x):=by
 rw[A.CC hi,A.BR hi M t (M k),A.alt i k (upd M i (M k)) hi hk hik λ c _=>by rw[bQ,au (Pj hik)],Qc,Sy]
def zr(j m:Nat)(M:Fn):Fn:=λ r c=>if r=0 then dl j c else if r<=m/\c=j then 0 else M r c
theorem Alt.zr{n j:Nat}{φ:Fn->Int}(A:Alt (n+1) φ)(M:Fn):∀m,m<=n->φ (Mx.zr j m M)=φ (upd M 0 (dl j))
 |0,_=>A.cg _ _ λ r c hr hc=>by unfold Mx.zr upd;grind
 |m+1,hm=>by
  rw[<-A.zr M m (by omega)];have e:=A.NQ (i:=m+1) (k:=0) (by omega) (by omega) (by omega) (Mx.zr j m M) (M (m+1)) (-M (m+1) j)
  have e1:φ (Mx.zr j (m+1) M)=φ (upd (Mx.zr j m M) (m+1) λ c=>M (m+1) c+ -M (m+1) j*Mx.zr j m M 0 c):=A.cg _ _ λ r c hr hc=>by
   unfold upd Mx.zr dl;by_cases h0:r=m+1
   . subst h0;by_cases h1:c=j
     . subst h1;simp;omega
     . have:¬j=c:=λ z=>h1 z.symm;simp[h1,this]
   . rw[O7 h0];grind
  have e2:φ (upd (Mx.zr j m M) (m+1) (M (m+1)))=φ (Mx.zr j m M):=A.cg _ _ λ r c hr hc=>by
   unfold upd Mx.zr;grind
  rw[e1,e,e2]
theorem z9:∀ {n:Nat} {φ:Fn->Int},Alt n φ->∀M,φ M=φ dl*D n M
 |0,φ,A,M=>by rw[KQ,RL];exact A.cg _ _ λ r c hr=>by omega
 |n+1,φ,A,M=>by
  have h1:φ M=S (n+1) λ j=>M 0 j*φ (upd M 0 (dl j)):=by
   rw[<-A.rG (by omega) M (M 0) dl (n+1)];refine A.cg _ _ λ r c hr hc=>?_;by_cases h0:r=0
   . subst h0;rw[bQ,nO hc]
   . rw[au h0]
  have h2:∀j,j<n+1->φ (upd M 0 (dl j))=φ (Mx.grow j λ r c=>M (r+1) (sk j c)):=λ j hj=>by
   rw[<-A.zr M n (O9 _)];refine A.cg _ _ λ r c hr hc=>?_;unfold Mx.grow Mx.zr;by_cases h0:r=0
   . rw[O_ h0,O_ h0]
   . rw[O7 h0,O7 h0];by_cases h3:c=j
     . rw[O_ ⟨by omega,h3⟩,O_ h3]
     . rw[O7 (by omega),O7 h3];dsimp only;rw[AW h3,show r-1+1=r by omega]
  rw[h1,dh,<-dq];refine ay λ j hj=>?_;have h3:=z9 (A.grow hj) λ r c=>M (r+1) (sk j c);have h4:=A.units j hj;have h5:φ (Mx.grow j λ r c=>M (r+1) (sk j c))=φ (Mx.grow j dl)*D n λ r c=>M (r+1) (sk j c):=h3;rw[h2 j hj,h5,h4];grind
theorem s_:∀n,D n dl=1
 |0=>rfl
 |n+1=>by
  rw[dh,fM (k:=0) (by omega) λ j hj h0=>by rw[cV (Pj h0),Qc,Qv]]
  have:D n (λ r c=>dl (r+1) (sk 0 c))=D n dl:=bZ λ r c _ _=>by
   unfold dl sk;grind
  rw[this,s_ n,cD];rfl
theorem A_(n:Nat)(A B:Fn):D n (λ r c=>S n λ k=>A r k*B k c)=D n A*D n B:=by
 have al:Alt n λ A=>D n (λ r c=>S n λ k=>A r k*B k c):=by
  refine⟨λ M M' h=>bZ λ r c hr hc=>ay λ k hk=>by rw[h r k hr hk],λ i M P Q a b hi h0 h=>(rq n).jA i _ _ _ a b hi (λ c hc=>?_) λ r c hr hc hne=>⟨ay λ k hk=>by rw[(h r k hr hk hne).1],ay λ k hk=>by rw[(h r k hr hk hne).2]⟩,λ i j M hi hj hij h=>(rq n).alt i j _ hi hj hij λ c hc=>ay λ k hk=>by rw[h k hk]⟩;show(S n λ k=>M i k*B k c)=a*(S n λ k=>P i k*B k c)+b*S n λ k=>Q i k*B k c;rw[<-dq,<-dq,<-fj];refine ay λ k hk=>?_;rw[h0 k hk];grind
 have h:=z9 al A;have e:D n (λ r c=>S n λ k=>dl r k*B k c)=D n B:=bZ λ r c hr hc=>kD hr λ k=>B k c;rw[h,e,QS]
theorem Bc:∀ {n:Nat} {M P Q:Fn} {a b:Int} {i:Nat},i<n->(∀r,r<n->M r i=a*P r i+b*Q r i)->(∀r c,r<n->c<n->c≠i->M r c=P r c/\M r c=Q r c)->D n M=a*D n P+b*D n Q
 |0,_,_,_,_,_,_,h,_,_=>by omega
 |n+1,M,P,Q,a,b,i,hi,h0,h=>by
  rw[dh,dh,dh,<-dq,<-dq,<-fj];refine ay λ j hj=>?_;by_cases hij:j=i
  . subst hij;have hs:∀c,sk j c≠j:=λ c=>by unfold sk;split<;>omega
    have e1:D n (λ r c=>M (r+1) (sk j c))=D n (λ r c=>P (r+1) (sk j c)):=bZ λ r c hr hc=>(h (r+1) (sk j c) (by omega) (iX hc) (hs c)).1;have e2:D n (λ r c=>M (r+1) (sk j c))=D n (λ r c=>Q (r+1) (sk j c)):=bZ λ r c hr hc=>(h (r+1) (sk j c) (by omega) (iX hc) (hs c)).2;rw[h0 0 (by omega),<-e1,<-e2];grind
  . have p:=h 0 j (by omega) hj hij;have hu:sk j (un j i)=i:=AW (Pj hij);have hs:∀c,c≠un j i->sk j c≠i:=λ c hc=>by unfold sk;unfold un at hc;grind
    have hlt:un j i<n:=rf hj hi (Pj hij)
    have e:=Bc (n:=n) (M:=λ r c=>M (r+1) (sk j c)) (P:=λ r c=>P (r+1) (sk j c)) (Q:=λ r c=>Q (r+1) (sk j c)) (a:=a) (b:=b) (i:=un j i) hlt (λ r hr=>by
     rw[hu];exact h0 (r+1) (by omega)) λ r c hr hc hne=>h (r+1) (sk j c) (by omega) (iX hc) (hs c hne)
    rw[e,<-p.1,<-p.2];grind
theorem Bv:∀ {n:Nat} {M:Fn} {i:Nat},i+1<n->(∀r,r<n->M r i=M r (i+1))->D n M=0
 |0,_,_,h,_=>by omega
 |n+1,M,i,hi,h=>by
  rw[dh]
  have key:∀j,j<n+1->j≠i->j≠i+1->D n (λ r c=>M (r+1) (sk j c))=0:=λ j hj h1 h2=>by
   refine Bv (i:=un j i) (by unfold un;split<;>omega) λ r hr=>?_;have e1:sk j (un j i)=i:=AW (Pj h1);have e2:sk j (un j i+1)=i+1:=by unfold sk un;grind
   rw[e1,e2];exact h (r+1) (by omega)
  have e:D n (λ r c=>M (r+1) (sk i c))=D n (λ r c=>M (r+1) (sk (i+1) c)):=bZ λ r c hr hc=>by
   by_cases hc2:c=i
   . subst hc2;have a1:sk c c=c+1:=by unfold sk;rw[O7 (by omega)]
     have a2:sk (c+1) c=c:=by unfold sk;rw[O_ (by omega)]
     rw[a1,a2];exact(h (r+1) (by omega)).symm
   . have a1:sk i c=sk (i+1) c:=by unfold sk;grind
     rw[a1]
  have two:∀(m:Nat) (f:Nat->Int),i+1<m->(∀j,j<m->j≠i->j≠i+1->f j=0)->S m f=f i+f (i+1):=λ m=>by
   induction m with
   |zero=>intro f h;omega
   |succ m ih=>
    intro f hm hf;show S m f+f m=_;by_cases hmi:m=i+1
    . subst hmi;rw[fM (k:=i) (by omega) λ j hj hne=>hf j (by omega) hne (by omega)]
    . rw[ih f (by omega) λ j hj h1 h2=>hf j (by omega) h1 h2,hf m (by omega) (by omega) hmi,Sy]
  rw[two (n+1) _ hi λ j hj h1 h2=>by rw[key j hj h1 h2,Qc],e,tL,h 0 (by omega)];grind
def tr(M:Fn):Fn:=λ r c=>M c r
theorem I_(n:Nat)(M:Fn):D n (tr M)=D n M:=by
 have al:Alt n λ A=>D n (tr A):=sy (λ M M' h=>bZ λ r c hr hc=>h c r hc hr)
  (λ i M P Q a b hi h0 h=>Bc hi (λ r hr=>h0 r hr) λ r c hr hc hne=>h c r hc hr hne)
  λ i M hi h=>Bv hi λ r hr=>h r hr
 have h:=z9 al M;have e:D n (tr dl)=D n dl:=bZ λ r c _ _=>sZ c r;have h2:D n (tr M)=D n (tr dl)*D n M:=h;rw[h2,e,s_,Rp]
def Pr:Nat->(Nat->Int)->Int
 |0,_=>1
 |n+1,f=>Pr n f*f n
theorem zm:∀(n:Nat) (f:Nat->Int),Pr (n+1) f=f 0*Pr n λ i=>f (i+1)
 |0,f=>by show 1*f 0=f 0*1;omega
 |n+1,f=>by
  have:Pr (n+1+1) f=Pr (n+1) f*f (n+1):=rfl;rw[this,zm n f];have:Pr (n+1) (λ i=>f (i+1))=Pr n (λ i=>f (i+1))*f (n+1):=rfl;rw[this,Qw]
theorem AE:∀ {n:Nat} {M:Fn},(∀r c,r<n->c<n->r<c->M r c=0)->D n M=Pr n λ i=>M i i
 |0,_,_=>rfl
 |n+1,M,h=>by
  rw[dh,fM (k:=0) (by omega) λ j hj h0=>by rw[h 0 j (by omega) hj (by omega),Qc,Qv],zm,y_,Rp];have s:∀c,sk 0 c=c+1:=λ c=>by unfold sk;rw[O7 (by omega)]
  have e:D n (λ r c=>M (r+1) (sk 0 c))=Pr n λ i=>M (i+1) (i+1):=by
   rw[AE λ r c hr hc hrc=>by rw[s];exact h (r+1) (c+1) (by omega) (by omega) (by omega)];simp only[s]
  rw[e]
theorem EE{n:Nat}{M:Fn}(h:∀r c,r<n->c<n->c<r->M r c=0):D n M=Pr n λ i=>M i i:=by
 rw[<-I_ n M,AE (M:=tr M) λ r c hr hc hrc=>h c r hc hr hrc];rfl
def gx(R:Fn)(p:Nat)(x:Nat->Int)(j:Nat):Int:=D (p+1) λ r c=>if r<p then R r (if c<p then c else j)else x (if c<p then c else j)
def bt(R:Fn)(p:Nat)(x:Nat->Int)(k:Nat):Int:=D (p+1) (upd (λ c r=>if r<p then R r c else x c) p (dl k))
def cl(p j1 j2 c:Nat):Nat:=if c<p then c else if c=p then j1 else j2
theorem FI{n:Nat}{f:Nat->Int}{m:Nat}(h:∀i,i<n->(f i).natAbs<=m):(S n f).natAbs<=n*m:=by
 induction n with
 |zero=>simp[S]
 |succ n ih=>
  have h1:=ih λ i hi=>h i (by omega);have h2:=h n (by omega);show(S n f+f n).natAbs<=_;rw[Tf];omega
def lam(G:Fn)(i j:Nat):Int:=gx G j (G i) j
def Ol(A:Rows):Fn:=λ i j=>IJ (A.getD i []) (A.getD j [])
def M8(G:Fn)(i:Nat):Row:=(List.range (i+1)).map λ j=>lam G i j
def KZ(G:Fn)(n:Nat):Rows:=(List.range n).map (M8 G)
def RA(A:Rows)(N:Nat):Fn:=λ i j=>if j<N then Ol A i j else(A.getD i []).getD (j-N) 0
def ev(A:Rows)(N i k c:Nat):Int:=gx (RA A N) k (RA A N i) (N+c)
theorem zL(n:Nat)(a b:Int)(f g:Nat->Int):S n (λ c=>a*f c-b*g c)=a*S n f-b*S n g:=by
 induction n with
 |zero=>show(0:Int)=a*0-b*0;omega
 |succ n ih=>
  show S n (λ c=>a*f c-b*g c)+(a*f n-b*g n)=a*(S n f+f n)-b*(S n g+g n);rw[ih,Int.mul_add,Int.mul_add];omega
section
variable {A:Rows}{N w:Nat}
end
def Oz(M:Fn)(k j:Nat)(q:Int):Fn:=λ a b=>if a=k then M a b-q*M j b else M a b
def OU(M:Fn)(k j:Nat)(q:Int):Fn:=λ a b=>if b=k then M a b-q*M a j else M a b
def tk(G:Fn)(k j:Nat)(q:Int):Fn:=OU (Oz G k j q) k j q
section
variable {G:Fn}{t:Nat}(sym:∀i j,G i j=G j i)
include sym
end
section
variable {A:Rows}{N w:Nat}
theorem cf(hA:bH N w A){i:Nat}(hi:i<N):(A.getD i []).length=w:=hA.ff _ (by have:=hA.len;rw[aO (by omega)];exact Q8 _)
end
def aK(A:Rows)(k:Nat)(q:Int)(j:Nat):Rows:=A.set k (cK (A.getD k []) (-q) (A.getD j []))
def a_(A:Rows)(k o:Nat):Rows:=(A.set k (A.getD o [])).set o (A.getD k [])
theorem iM{A:Rows}{k i:Nat}{r:Row}(hk:k<A.length):(A.set k r).getD i []=if i=k then r else A.getD i []:=by
 rw[Pc,List.getElem?_set];by_cases h:k=i
 . rw[O_ h,O_ (by omega),O_ h.symm];rfl
 . rw[O7 h,O7 (Pj h),Pc]
theorem Dp{A:Rows}{k j:Nat}{q:Int}:(aK A k q j).length=A.length:=by unfold aK;rw[Pl]
theorem qU{A:Rows}{N w k j:Nat}{q:Int}(hA:bH N w A)(hk:k<N)(hj:j<N):bH N w (aK A k q j):=by
 refine⟨Dp.trans hA.len,λ r hr=>?_⟩;unfold aK at hr;rcases Qi hr with h|rfl
 . exact hA.ff r h
 . rw[gW (by rw[cf hA hk,cf hA hj]),cf hA hk]
structure Tn(A0 A U C:Rows)(N w:Nat):Prop where
 isA:bH N w A
 dX:bH N N U
 eN:bH N N C
 ua:∀i c,i<N->c<w->g A i c=S N λ k=>g U i k*g A0 k c
 ub:∀i j,i<N->j<N->S N (λ k=>g U i k*g C j k)=dl i j
 bu:∀i j,i<N->j<N->S N (λ k=>g C k i*g U k j)=dl i j
theorem cP{A:Rows}{N w k j:Nat}{q:Int}(hA:bH N w A)(hk:k<N)(hj:j<N)(i c:Nat):g (aK A k q j) i c=if i=k then g A k c-q*g A j c else g A i c:=by
 unfold g aK;have hl:=hA.len;rw[iM (by omega)];by_cases h:i=k
 . rw[O_ h,O_ h,jW (by rw[cf hA hk,cf hA hj]),R7];omega
 . rw[O7 h,O7 h]
theorem lP(n:Nat)(a b:Int)(f h:Nat->Int):S n (λ c=>a*f c+b*h c)=a*S n f+b*S n h:=by
 rw[fj,dq,dq]
theorem Tn.take{A0 A U C:Rows}{N w k j:Nat}{q:Int}(T:Tn A0 A U C N w)(hk:k<N)(hj:j<N)(hkj:j≠k):Tn A0 (aK A k q j) (aK U k q j) (aK C j (-q) k) N w where
 isA:=qU T.isA hk hj
 dX:=qU T.dX hk hj
 eN:=qU T.eN hj hk
 ua:=λ i c hi hc=>by
  rw[cP T.isA hk hj];have e:S N (λ m=>g (aK U k q j) i m*g A0 m c)=S N λ m=>(if i=k then g U k m-q*g U j m else g U i m)*g A0 m c:=ay λ m _=>by rw[cP T.dX hk hj]
  rw[e];by_cases h:i=k
  . simp only[O_ h];rw[T.ua k c hk hc,T.ua j c hj hc];have e2:S N (λ m=>(g U k m-q*g U j m)*g A0 m c)=S N λ m=>1*(g U k m*g A0 m c)-q*(g U j m*g A0 m c):=ay λ m _=>by grind
    rw[e2,zL];omega
  . simp only[O7 h];exact T.ua i c hi hc
 ub:=λ i l hi hl=>by
  have e:S N (λ m=>g (aK U k q j) i m*g (aK C j (-q) k) l m)=S N λ m=>(if i=k then g U k m-q*g U j m else g U i m)*(if l=j then g C j m- -q*g C k m else g C l m):=ay λ m _=>by rw[cP T.dX hk hj,cP T.eN hj hk]
  rw[e];have djk:dl j k=0:=cV hkj;by_cases h:i=k
  . by_cases h2:l=j
    . simp only[O_ h,O_ h2];have e2:S N (λ m=>(g U k m-q*g U j m)*(g C j m- -q*g C k m))=S N λ m=>1*(1*(g U k m*g C j m)+q*(g U k m*g C k m))-q*(1*(g U j m*g C j m)+q*(g U j m*g C k m)):=ay λ m _=>by grind
      rw[e2,zL,lP,lP,T.ub k j hk hj,T.ub k k hk hk,T.ub j j hj hj,T.ub j k hj hk,h,h2,cD,cD,djk,sZ k j,djk];omega
    . simp only[O_ h,O7 h2];have e2:S N (λ m=>(g U k m-q*g U j m)*g C l m)=S N λ m=>1*(g U k m*g C l m)-q*(g U j m*g C l m):=ay λ m _=>by grind
      rw[e2,zL,T.ub k l hk hl,T.ub j l hj hl,h,cV (Pj h2)];omega
  . by_cases h2:l=j
    . simp only[O7 h,O_ h2];have e2:S N (λ m=>g U i m*(g C j m- -q*g C k m))=S N λ m=>1*(g U i m*g C j m)+q*(g U i m*g C k m):=ay λ m _=>by grind
      rw[e2,lP,T.ub i j hi hj,T.ub i k hi hk,h2,cV h];omega
    . simp only[O7 h,O7 h2];exact T.ub i l hi hl
 bu:=λ i l hi hl=>by
  have e:S N (λ m=>g (aK C j (-q) k) m i*g (aK U k q j) m l)=S N λ m=>g C m i*g U m l+((q*(g C k i*g U j l))*dl m j+(-(q*(g C k i*g U j l)))*dl m k):=ay λ m _=>by
   rw[cP T.dX hk hj,cP T.eN hj hk];by_cases h1:m=j
   . have h2:m≠k:=by omega
     rw[O_ h1,O7 h2,h1,cD,cV hkj];grind
   . rw[O7 h1,cV h1];by_cases h2:m=k
     . rw[O_ h2,h2,cD];grind
     . rw[O7 h2,cV h2];grind
  rw[e,fj,lP,T.bu i l hi hl]
  have e1:S N (λ c=>dl c j)=1:=by
   rw[fM hj λ i _ h=>cV h,cD]
  have e2:S N (λ c=>dl c k)=1:=by
   rw[fM hk λ i _ h=>cV h,cD]
  rw[e1,e2];omega
theorem vz{A:Rows}{k o i:Nat}(hk:k<A.length)(ho:o<A.length):(a_ A k o).getD i []=A.getD (sw k o i) []:=by
 unfold a_;rw[iM (by rw[Pl];exact ho),iM hk];unfold sw;by_cases h1:i=k
 . rw[O_ h1,O_ h1];by_cases h2:i=o
   . rw[O_ h2,<-h1,<-h2]
   . rw[O7 h2]
 . rw[O7 h1,O7 h1];by_cases h2:i=o
   . rw[O_ h2,O_ h2]
   . rw[O7 h2,O7 h2]
theorem qd{A:Rows}{N w k o:Nat}(hA:bH N w A)(hk:k<N)(ho:o<N):bH N w (a_ A k o):=by
 refine⟨by unfold a_;rw[Pl,Pl];exact hA.len,λ r hr=>?_⟩;unfold a_ at hr;rcases Qi hr with h|rfl
 . rcases Qi h with h|rfl
   . exact hA.ff r h
   . exact cf hA ho
 . exact cf hA hk
theorem hJ{A:Rows}{N w k o:Nat}(hA:bH N w A)(hk:k<N)(ho:o<N)(i c:Nat):g (a_ A k o) i c=g A (sw k o i) c:=by
 unfold g;rw[vz (by have:=hA.len;omega) (by have:=hA.len;omega)]
theorem oM{k o N i:Nat}(hk:k<N)(ho:o<N)(hi:i<N):sw k o i<N:=by unfold sw;split<;>(try split)<;>assumption
theorem Dh(k o x:Nat):sw k o (sw k o x)=x:=by
 unfold sw;by_cases h1:x=k
 . subst h1;rw[O_ rfl];by_cases h2:o=x
   . rw[O_ h2];exact h2
   . rw[O7 h2,O_ rfl]
 . rw[O7 h1];by_cases h2:x=o
   . subst h2;rw[O_ rfl,O_ rfl]
   . rw[O7 h2,O7 h1,O7 h2]
theorem Mp{k o a b:Nat}:dl (sw k o a) (sw k o b)=dl a b:=by
 by_cases h:a=b
 . rw[h,cD,cD]
 . rw[cV h,cV λ z=>h (by rw[<-Dh k o a,<-Dh k o b,z])]
theorem HG(k x:Nat):sw k k x=x:=by
 unfold sw;by_cases h:x=k
 . rw[O_ h,h]
 . rw[O7 h,O7 h]
theorem Lu{n i j:Nat}(hi:i<n)(hj:j<n)(f:Nat->Int):S n (λ k=>f (sw i j k))=S n f:=by
 by_cases h:i=j
 . subst h;exact ay λ k _=>by rw[HG]
 . exact N5 hi hj h f
theorem Tn.FE{A0 A U C:Rows}{N w k o:Nat}(T:Tn A0 A U C N w)(hk:k<N)(ho:o<N):Tn A0 (a_ A k o) (a_ U k o) (a_ C k o) N w where
 isA:=qd T.isA hk ho
 dX:=qd T.dX hk ho
 eN:=qd T.eN hk ho
 ua:=λ i c hi hc=>by
  rw[hJ T.isA hk ho,T.ua _ c (oM hk ho hi) hc];exact ay λ m _=>by rw[hJ T.dX hk ho]
 ub:=λ i j hi hj=>by
  rw[<-Mp (k:=k) (o:=o),<-T.ub _ _ (oM hk ho hi) (oM hk ho hj)];exact ay λ m _=>by rw[hJ T.dX hk ho,hJ T.eN hk ho]
 bu:=λ i j hi hj=>by
  rw[<-T.bu i j hi hj,<-Lu hk ho λ m=>g C m i*g U m j];exact ay λ m _=>by rw[hJ T.dX hk ho,hJ T.eN hk ho]
def e7(A:Rows)(k:Nat):Rows:=A.set k ((A.getD k []).map λ x=> -x)
theorem wC{A:Rows}{N w k:Nat}(hA:bH N w A)(hk:k<N):bH N w (e7 A k):=by
 refine⟨by unfold e7;rw[Pl];exact hA.len,λ r hr=>?_⟩;unfold e7 at hr;rcases Qi hr with h|rfl
 . exact hA.ff r h
 . rw[O8];exact cf hA hk
theorem E6(r:Row)(c:Nat):(r.map λ x=> -x).getD c 0= -r.getD c 0:=by
 rw[Pc,Pc,PD];cases r[c]?<;>rfl
theorem iz{A:Rows}{N w k:Nat}(hA:bH N w A)(hk:k<N)(i c:Nat):g (e7 A k) i c=if i=k then-g A k c else g A i c:=by
 unfold g e7;rw[iM (by have:=hA.len;omega)];by_cases h:i=k
 . rw[O_ h,O_ h,E6]
 . rw[O7 h,O7 h]
theorem Tn.neg{A0 A U C:Rows}{N w k:Nat}(T:Tn A0 A U C N w)(hk:k<N):Tn A0 (e7 A k) (e7 U k) (e7 C k) N w where
 isA:=wC T.isA hk
 dX:=wC T.dX hk
 eN:=wC T.eN hk
 ua:=λ i c hi hc=>by
  rw[iz T.isA hk];by_cases h:i=k
  . rw[O_ h,T.ua k c hk hc,<-rK];exact ay λ m _=>by rw[iz T.dX hk,O_ h,R7]
  . rw[O7 h,T.ua i c hi hc];exact ay λ m _=>by rw[iz T.dX hk,O7 h]
 ub:=λ i j hi hj=>by
  have e:S N (λ m=>g (e7 U k) i m*g (e7 C k) j m)=S N λ m=>(if i=k then-1 else 1)*(if j=k then-1 else 1)*(g U i m*g C j m):=ay λ m _=>by
   rw[iz T.dX hk,iz T.eN hk];by_cases h1:i=k<;>by_cases h2:j=k<;>simp only[h1,h2,Rg,Qp]<;>grind
  rw[e,dq,T.ub i j hi hj];by_cases h1:i=k
  . by_cases h2:j=k
    . simp[h1,h2]
    . rw[cV (by omega)];simp
  . by_cases h2:j=k
    . rw[cV (by omega)];simp
    . simp[h1,h2]
 bu:=λ i j hi hj=>by
  rw[<-T.bu i j hi hj]
  exact ay λ m _=>by
   rw[iz T.dX hk,iz T.eN hk];by_cases h:m=k
   . subst h;rw[O_ rfl,O_ rfl];grind
   . rw[O7 h,O7 h]
structure jr(A:Rows)(N top p:Nat)(L:List Nat):Prop where
 mem:∀k,k∈L↔top<=k/\k<N/\g A k p≠0
 ord:L.Pairwise λ i j=>(g A i p).natAbs<(g A j p).natAbs\/((g A i p).natAbs=(g A j p).natAbs/\i<j)
structure B3 where
 A:Rows
 U:Rows
 C:Rows
def qn(x y:Int):Int:=(2*x+y).fdiv (2*y)
def mW(b:B3)(p k j:Nat):B3:=⟨aK b.A k (qn (g b.A k p) (g b.A j p)) j,aK b.U k (qn (g b.A k p) (g b.A j p)) j,aK b.C j (-(qn (g b.A k p) (g b.A j p))) k⟩
def Fy(N top p:Nat)(b c:B3):Prop:=∃(L:List Nat) (k j:Nat),jr b.A N top p (L++[j,k])/\c=mW b p k j
inductive gJ(N top p:Nat):B3->B3->Prop
 |refl (b:B3):gJ N top p b b
 |head {b c d:B3} (h:Fy N top p b c) (t:gJ N top p c d):gJ N top p b d
theorem gJ.tail{N top p:Nat}{b c d:B3}(h:gJ N top p b c)(t:Fy N top p c d):gJ N top p b d:=by
 induction h with
 |refl b=>exact .head t (.refl _)
 |head x _ ih=>exact .head x (ih t)
def eR(X:Rows)(N top m:Nat):Prop:=∀i c,top<=i->i<N->(g X i c).natAbs<=m
theorem o5{x y:Int}(hy:y≠0):2*(x-qn x y*y).natAbs<=y.natAbs:=by
 unfold qn;have h1:=S7 (2*x+y) (2*y);have h2:(2*x+y).fmod (2*y)=2*x+y-2*y*(2*x+y).fdiv (2*y):=by omega
 generalize(2*x+y).fdiv (2*y)=q at*;have e:2*(x-q*y)=(2*x+y).fmod (2*y)-y:=by rw[h2];grind
 rcases Int.lt_or_gt_of_ne hy with h|h
 . have a0:=Int.neg_fmod_neg (2*x+y) (2*y);have a1:=Qo (-(2*x+y)) (show 0< -(2*y) by omega);have a2:=QP (-(2*x+y)) (show 0< -(2*y) by omega);omega
 . have a1:=Qo (2*x+y) (show 0<2*y by omega);have a2:=QP (2*x+y) (show 0<2*y by omega);omega
theorem g_{X:Rows}{k j i:Nat}{q:Int}(hk:k<X.length)(h:i≠k):(aK X k q j).getD i []=X.getD i []:=by
 unfold aK;rw[iM hk,O7 h]
structure uC(A0:Rows)(N w:Nat)(b:B3)(top p:Nat)(ld:Nat->Nat)(e u:Nat):Prop where
 tn:Tn A0 b.A b.U b.C N w
 le:top<=N
 lo:eR b.A N top (2^e)/\eR b.U N top (2^e)/\eR b.C N top (2^e)
 hi:∀i c,i<top->(g b.A i c).natAbs<=2^u/\(g b.U i c).natAbs<=2^u/\(g b.C i c).natAbs<=2^u
 zs:∀i c,top<=i->i<N->c<p->g b.A i c=0
 lead:∀i,i<top->ld i<p/\0<g b.A i (ld i)/\∀c,c<ld i->g b.A i c=0
 mono:∀i j,i<j->j<top->ld i<ld j
 red:∀i j,i<j->j<top->0<=g b.A i (ld j)/\g b.A i (ld j)<g b.A j (ld j)
def setB(b:B3)(p top r:Nat):B3:=
 if g (a_ b.A top r) top p<0 then⟨e7 (a_ b.A top r) top,e7 (a_ b.U top r) top,e7 (a_ b.C top r) top⟩else⟨a_ b.A top r,a_ b.U top r,a_ b.C top r⟩
theorem qv{X:Rows}{N w top r m:Nat}(hX:bH N w X)(ht:top<N)(hr:r<N)(hrt:top<=r)(h:eR X N top m):eR (a_ X top r) N top m:=λ i c hi hN=>by
 rw[hJ hX ht hr];refine h _ c ?_ (oM ht hr hN);unfold sw;split
 . exact hrt
 . split
   . exact O9 _
   . exact hi
theorem wu{X:Rows}{N w top m:Nat}(hX:bH N w X)(ht:top<N)(h:eR X N top m):eR (e7 X top) N top m:=λ i c hi hN=>by
 rw[iz hX ht];split
 . rw[Rm];exact h top c (O9 _) ht
 . exact h i c hi hN
theorem p_{X:Rows}{N w top r i:Nat}(hX:bH N w X)(ht:top<N)(hr:r<N)(hrt:top<=r)(hi:i<top):(a_ X top r).getD i []=X.getD i []:=by
 rw[vz (by have:=hX.len;omega) (by have:=hX.len;omega)];unfold sw;rw[O7 (by omega),O7 (by omega)]
theorem wY{X:Rows}{N w top i:Nat}(hX:bH N w X)(ht:top<N)(hi:i<top):(e7 X top).getD i []=X.getD i []:=by
 unfold e7;rw[iM (by have:=hX.len;omega),O7 (by omega)]
structure xl(A0:Rows)(N w top p m:Nat)(b0 b:B3):Prop where
 tn:Tn A0 b.A b.U b.C N w
 up:∀i,i<top->b.A.getD i []=b0.A.getD i []/\b.U.getD i []=b0.U.getD i []/\b.C.getD i []=b0.C.getD i []
 lo:eR b.A N top m/\eR b.U N top m/\eR b.C N top m
 zs:∀i c,top<=i->i<N->c<p->g b.A i c=0
 tp:0<g b.A top p
 z1:∀i,top<i->i<N->g b.A i p=0
def jx(p top:Nat):Nat->B3->B3
 |0,b=>b
 |k+1,b=>
  let c:=jx p top k b
  ⟨aK c.A k ((g c.A k p).fdiv (g c.A top p)) top,aK c.U k ((g c.A k p).fdiv (g c.A top p)) top,aK c.C top (-((g c.A k p).fdiv (g c.A top p))) k⟩
theorem g8(a:Int){b:Int}(hb:0<b):(a.fdiv b).natAbs<=a.natAbs:=by
 have h1:=S7 a b;have h2:=Qo a hb;have h3:=QP a hb;generalize a.fdiv b=q at*;rcases Int.lt_trichotomy q 0 with h|h|h
 . have h4:0<=(b-1)*(-q-1):=Int.mul_nonneg (by omega) (by omega);have e:(b-1)*(-q-1)= -(b*q)-b+q+1:=by grind
   omega
 . subst h;simp
 . have:q<=b*q:=by
    have:0<=(b-1)*q:=Int.mul_nonneg (by omega) (by omega);grind
   omega
theorem Tn.start{A:Rows}{N w:Nat}(hA:bH N w A):Tn A A (units N) (units N) N w where
 isA:=hA
 dX:=ky N
 eN:=ky N
 ua:=λ i c hi hc=>by
  rw[<-kD hi λ k=>g A k c];exact ay λ m hm=>by rw[fT hi hm]
 ub:=λ i j hi hj=>by
  rw[sZ i j,<-kD hi λ k=>dl j k]
  . exact ay λ m hm=>by rw[fT hi hm,fT hj hm]
 bu:=λ i j hi hj=>by
  rw[<-nO hi λ k=>dl k j];exact ay λ m hm=>by rw[fT hm hi,fT hm hj,QS]
theorem uC.start{A:Rows}{N w e:Nat}(hA:bH N w A)(h:eR A N 0 (2^e)):uC A N w ⟨A,units N,units N⟩ 0 0 (λ _=>0) e 0:=by
 have hu:eR (units N) N 0 (2^e):=λ i c _ hi=>by
  by_cases hc:c<N
  . rw[fT hi hc];unfold dl;split
    . exact Nat.one_le_two_pow
    . exact Po _
  . unfold g;rw[iV (l:=(units N).getD i []) (by rw[cf (ky N) hi];omega)];exact Po _
 exact⟨Tn.start hA,Po _,⟨h,hu,hu⟩,λ _ _ h=>absurd h (Pq _),λ _ _ _ _ h=>absurd h (Pq _),λ _ h=>absurd h (Pq _),λ _ _ _ h=>absurd h (Pq _),λ _ _ _ h=>absurd h (Pq _)⟩
def SU(f:Nat->Nat):Nat->Nat
 |0=>0
 |n+1=>SU f n+f n
theorem u4{f f':Nat->Nat}:∀ {n:Nat},(∀i,i<n->f' i<=f i)->SU f' n<=SU f n
 |0,_=>O9 _
 |n+1,h=>SE (u4 λ i hi=>h i (P0 hi)) (h n (PL n))
theorem Gj{f f':Nat->Nat}{k:Nat}(hlt:f' k<f k):∀ {n:Nat},k<n->(∀i,i<n->f' i<=f i)->SU f' n<SU f n
 |0,hk,_=>absurd hk (Pq _)
 |n+1,hk,h=>by
  by_cases e:k=n
  . subst e;exact Nat.add_lt_add_of_le_of_lt (u4 λ i hi=>h i (P0 hi)) hlt
  . exact Nat.add_lt_add_of_lt_of_le (Gj hlt (by omega) λ i hi=>h i (P0 hi)) (h n (PL n))
def mu(A:Rows)(N p:Nat):Nat:=SU (λ i=>(g A i p).natAbs) N
inductive KL(N p:Nat):Nat->B3->Nat->B3->Prop
 |none {top:Nat} {b:B3} (h:jr b.A N top p []):KL N p top b top b
 |one {top r:Nat} {b c:B3} (h:gJ N top p b c) (l:jr c.A N top p [r]):KL N p top b (top+1) (jx p top top (setB c p top r))
inductive tP(A:Rows)(N:Nat):Nat->Nat->B3->Prop
 |start:tP A N 0 0 ⟨A,units N,units N⟩
 |next {p t t':Nat} {b b':B3} (h:tP A N p t b) (c:KL N p t b t' b'):tP A N (p+1) t' b'
def aP(X:Rows)(n w:Nat)(v:Nat->Int):Prop:=∃z:Nat->Int,∀c,c<w->v c=S n λ k=>z k*g X k c
theorem aP.row{X:Rows}{n w k:Nat}(hk:k<n):aP X n w (g X k):=⟨λ i=>dl k i,λ c _=>(kD hk λ i=>g X i c).symm⟩
theorem aP.sub{X:Rows}{n w:Nat}{u v:Nat->Int}(hu:aP X n w u)(hv:aP X n w v):aP X n w λ c=>u c-v c:=by
 obtain⟨y,hy⟩:=hu;obtain⟨z,hz⟩:=hv;refine⟨λ k=>y k-z k,λ c hc=>?_⟩;show u c-v c=S n λ k=>(y k-z k)*g X k c;rw[hy c hc,hz c hc,Rx,<-rK,<-fj];exact ay λ k _=>by rw[UJ,Rx]
theorem aP.trans{X Y:Rows}{m n w:Nat}{v:Nat->Int}(h:∀k,k<m->aP Y n w (g X k))(hv:aP X m w v):aP Y n w v:=by
 obtain⟨z,hz⟩:=hv
 have h':∀k,∃y:Nat->Int,k<m->∀c,c<w->g X k c=S n λ i=>y i*g Y i c:=λ k=>by
  by_cases hk:k<m
  . obtain⟨y,hy⟩:=h k hk;exact⟨y,λ _=>hy⟩
  . exact⟨λ _=>0,λ h=>absurd h hk⟩
 refine⟨λ i=>S m λ k=>z k*Classical.choose (h' k) i,λ c hc=>?_⟩;rw[hz c hc]
 have e1:S m (λ k=>z k*g X k c)=S m λ k=>S n λ i=>z k*Classical.choose (h' k) i*g Y i c:=ay λ k hk=>by
  rw[S8 (h' k) hk c hc,<-dq];exact ay λ i _=>(Qw _ _ _).symm
 rw[e1,jd];exact ay λ i _=>kh _ _ _
structure aJ(X:Rows)(n w:Nat)(ld:Nat->Nat):Prop where
 lead:∀i,i<n->ld i<w/\0<g X i (ld i)/\∀c,c<ld i->g X i c=0
 mono:∀i j,i<j->j<n->ld i<ld j
theorem aJ.inj{X:Rows}{n w:Nat}{ld:Nat->Nat}(s:aJ X n w ld){i j:Nat}(hi:i<n)(hj:j<n)(h:ld i=ld j):i=j:=by
 rcases Sa i j with q|q|q
 . exact absurd h (PB (s.mono i j q hj))
 . exact q
 . exact absurd h.symm (PB (s.mono j i q hi))
theorem aJ.lt{X:Rows}{n w:Nat}{ld:Nat->Nat}(s:aJ X n w ld){i j:Nat}(hi:i<n)(hj:j<n)(h:ld i<ld j):i<j:=by
 rcases Sa i j with q|q|q
 . exact q
 . rw[q]at h;exact absurd h (QC _)
 . exact absurd (Rz h (s.mono j i q hi)) (QC _)
theorem aJ.gone{X:Rows}{n w q:Nat}{ld:Nat->Nat}{v z:Nat->Int}(s:aJ X n w ld)(hz:∀c,c<w->v c=S n λ k=>z k*g X k c)(h0:∀c,c<q->v c=0)(k:Nat):k<n->ld k<q->z k=0:=by
 induction k using Nat.strongRecOn with
 |ind k ih=>
  intro hk hq;obtain⟨h1,h2,h3⟩:=s.lead k hk;have e:=hz (ld k) h1;rw[h0 _ hq,fM hk λ i hi ne=>?_]at e
  . exact(Int.mul_eq_zero.mp e.symm).resolve_right (Q6 h2)
  . rcases RY ne with l|l
    . rw[ih i l hi (Rz (s.mono i k l hk) hq),Qv]
    . rw[(s.lead i hi).2.2 _ (s.mono k i l hi),Qc]
theorem aJ.at{X:Rows}{n w q:Nat}{ld:Nat->Nat}{v:Nat->Int}(s:aJ X n w ld)(hv:aP X n w v)(hq:q<w)(h0:∀c,c<q->v c=0):(∃i,i<n/\ld i=q/\g X i q∣v q)\/v q=0:=by
 obtain⟨z,hz⟩:=hv
 have go:∀k,k<n->ld k≠q->z k*g X k q=0:=λ k hk ne=>by
  rcases RY ne with l|l
  . rw[s.gone hz h0 k hk l,Qv]
  . rw[(s.lead k hk).2.2 _ l,Qc]
 by_cases h:∃i,i<n/\ld i=q
 . obtain⟨i,hi,e⟩:=h;refine .inl ⟨i,hi,e,z i,?_⟩;rw[hz q hq,fM hi λ k hk ne=>go k hk λ z=>ne (s.inj hk hi (z.trans e.symm)),QS]
 . refine .inr ?_;rw[hz q hq];exact gF λ k hk=>go k hk λ e=>h ⟨k,hk,e⟩
theorem aJ.sees{X Y:Rows}{n m w:Nat}{ld ld':Nat->Nat}(sX:aJ X n w ld)(sY:aJ Y m w ld')(h:∀k,k<n->aP Y m w (g X k))(i:Nat)(hi:i<n):∃j,j<m/\ld' j=ld i/\g Y j (ld i)∣g X i (ld i):=by
 obtain⟨h1,h2,h3⟩:=sX.lead i hi;rcases sY.at (h i hi) h1 h3 with q|q
 . exact q
 . rw[q]at h2;exact absurd h2 (by decide)
theorem aJ.same{X Y:Rows}{n m w:Nat}{ld ld':Nat->Nat}(sX:aJ X n w ld)(sY:aJ Y m w ld')(h1:∀k,k<n->aP Y m w (g X k))(h2:∀k,k<m->aP X n w (g Y k))(i:Nat):i<n->i<m/\ld' i=ld i/\g Y i (ld i)=g X i (ld i):=by
 induction i using Nat.strongRecOn with
 |ind i ih=>
  intro hi;obtain⟨j,hj,ej,dj⟩:=sX.sees sY h1 i hi
  have e:j=i:=by
   rcases Sa j i with l|l|l
   . have:=(ih j l (Rz l hi)).2.1;exact absurd (this.symm.trans ej) (PB (sX.mono j i l hi))
   . exact l
   . obtain⟨k,hk,ek,_⟩:=sY.sees sX h2 i (Rz l hj);have lk:k<i:=sX.lt hk hi (by rw[ek,<-ej];exact sY.mono i j l hj);have:=(ih k lk hk).2.1;exact absurd (this.trans ek) (PB (sY.mono k i lk (Rz l hj)))
  subst e;refine⟨hj,ej,?_⟩;obtain⟨k,hk,ek,dk⟩:=sY.sees sX h2 j hj;have:=sX.inj hk hi (ek.trans ej);subst this;rw[ej]at dk;exact Int.dvd_antisymm (by rw[<-ej];exact Ra (sY.lead k hj).2.1) (Ra (sX.lead k hi).2.1) dj dk
def p8(X:Rows)(n:Nat)(ld:Nat->Nat):Prop:=∀i j,i<j->j<n->0<=g X i (ld j)/\g X i (ld j)<g X j (ld j)
def nl(A:Rows)(N t p:Nat):Nat:=SU (λ i=>if t<=i/\g A i p≠0 then 1 else 0) N
theorem u5{n:Nat}{f:Nat->Int}:∀ {N:Nat},n<=N->(∀i,n<=i->i<N->f i=0)->S N f=S n f
 |0,h,_=>by rw[Nat.le_zero.mp h]
 |N+1,h,z=>by
  by_cases e:n=N+1
  . rw[e]
  . have hn:n<=N:=by omega
    show S N f+f N=_;rw[z N hn (PL N),Sy];exact u5 hn λ i h1 h2=>z i h1 (P0 h2)
theorem uC.in{A:Rows}{N w top e u:Nat}{c:B3}{ld:Nat->Nat}(s:uC A N w c top w ld e u)(k:Nat)(hk:k<top):aP A N w (g c.A k):=
 ⟨g c.U k,λ q hq=>s.tn.ua k q (Pu hk s.le) hq⟩
theorem uC.out{A:Rows}{N w top e u:Nat}{c:B3}{ld:Nat->Nat}(s:uC A N w c top w ld e u)(k:Nat)(hk:k<N):aP c.A top w (g A k):=by
 refine⟨λ i=>g c.C i k,λ q hq=>?_⟩
 have e1:S N (λ i=>g c.C i k*g c.A i q)=g A k q:=by
  have:S N (λ i=>g c.C i k*g c.A i q)=S N λ i=>S N λ j=>g c.C i k*g c.U i j*g A j q:=ay λ i hi=>by
   rw[s.tn.ua i q hi hq,<-dq];exact ay λ j _=>(Qw _ _ _).symm
  rw[this,jd]
  have e2:S N (λ j=>S N λ i=>g c.C i k*g c.U i j*g A j q)=S N λ j=>dl k j*g A j q:=ay λ j hj=>by
   rw[kh,s.tn.bu k j hk hj]
  rw[e2,kD hk λ j=>g A j q]
 rw[<-e1];exact u5 s.le λ i h1 h2=>by rw[s.zs i q h1 h2 hq,Qc]
theorem eS{X:Rows}{n i q:Nat}(h:i<n):g (X.take n) i q=g X i q:=by
 unfold g;rw[Pc (l:=X.take n),Pc (l:=X),So h]
theorem aP.A4{X:Rows}{n w:Nat}{u v:Nat->Int}(x:Int)(hu:aP X n w u)(hv:aP X n w v):aP X n w λ c=>u c+x*v c:=by
 obtain⟨y,hy⟩:=hu;obtain⟨z,hz⟩:=hv;refine⟨λ k=>y k+x*z k,λ c hc=>?_⟩;show u c+x*v c=S n λ k=>(y k+x*z k)*g X k c;rw[hy c hc,hz c hc,<-dq,<-fj];exact ay λ k _=>by rw[Int.add_mul,Qw]
theorem aP.eq{X:Rows}{n w:Nat}{u v:Nat->Int}(hu:aP X n w u)(h:∀c,c<w->v c=u c):aP X n w v:=by
 obtain⟨y,hy⟩:=hu;exact⟨y,λ c hc=>(h c hc).trans (hy c hc)⟩
structure bG(X:Rows)(n:Nat)(Y:Rows)(m w:Nat):Prop where
 to:∀k,k<n->aP Y m w (g X k)
 of:∀k,k<m->aP X n w (g Y k)
theorem bG.refl(X:Rows)(n w:Nat):bG X n X n w:=⟨λ _ h=>aP.row h,λ _ h=>aP.row h⟩
theorem bG.trans{X Y Z:Rows}{n m l w:Nat}(h:bG X n Y m w)(h':bG Y m Z l w):bG X n Z l w:=
 ⟨λ k hk=>aP.trans h'.to (h.to k hk),λ k hk=>aP.trans h.of (h'.of k hk)⟩
theorem bG.add{X Y:Rows}{n w k o:Nat}{x:Int}(hk:k<n)(ho:o<n)(hko:k≠o)(e:∀q,q<w->g Y k q=g X k q+x*g X o q)(h:∀i q,i<n->i≠k->q<w->g Y i q=g X i q):bG X n Y n w:=by
 refine⟨λ i hi=>?_,λ i hi=>?_⟩
 . by_cases hik:i=k
   . subst hik;refine((aP.row hk).A4 (-x) (aP.row ho)).eq λ q hq=>?_;rw[e q hq,h o q ho (Pj hko) hq,R7];omega
   . exact(aP.row hi).eq λ q hq=>(h i q hi hik hq).symm
 . by_cases hik:i=k
   . subst hik;exact((aP.row hk).A4 x (aP.row ho)).eq e
   . exact(aP.row hi).eq λ q hq=>h i q hi hik hq
theorem bG.perm{X Y:Rows}{n w:Nat}{f:Nat->Nat}(hf:∀i,i<n->f i<n)(hff:∀i,f (f i)=i)(e:∀i q,i<n->q<w->g Y i q=g X (f i) q):bG X n Y n w:=
 ⟨λ i hi=>(aP.row (hf i hi)).eq λ q hq=>by rw[e (f i) q (hf i hi) hq,hff],λ i hi=>(aP.row (hf i hi)).eq λ q hq=>e i q hi hq⟩
theorem bG.neg{X Y:Rows}{n w k:Nat}(hk:k<n)(e:∀q,q<w->g Y k q= -g X k q)(h:∀i q,i<n->i≠k->q<w->g Y i q=g X i q):bG X n Y n w:=by
 have ng:∀ {Z:Rows} {u:Nat->Int},aP Z n w u->aP Z n w λ q=> -u q:=λ{Z u} hu=>(hu.A4 (-2) hu).eq λ q _=>by omega
 refine⟨λ i hi=>?_,λ i hi=>?_⟩
 . by_cases hik:i=k
   . subst hik;exact(ng (aP.row hk)).eq λ q hq=>by rw[e q hq,Int.neg_neg]
   . exact(aP.row hi).eq λ q hq=>(h i q hi hik hq).symm
 . by_cases hik:i=k
   . subst hik;exact(ng (aP.row hk)).eq e
   . exact(aP.row hi).eq λ q hq=>h i q hi hik hq
theorem bG.ins{X Y:Rows}{n w k:Nat}(hk:k<=n)(hr:aP X n w (g Y k))(lo:∀i q,i<k->q<w->g Y i q=g X i q)(hi:∀i q,k<=i->i<n->q<w->g Y (i+1) q=g X i q):bG X n Y (n+1) w:=by
 refine⟨λ i h=>?_,λ i h=>?_⟩
 . by_cases l:i<k
   . exact(aP.row (P0 h)).eq λ q hq=>(lo i q l hq).symm
   . exact(aP.row (RP h)).eq λ q hq=>(hi i q (Rl l) h hq).symm
 . rcases Sa i k with l|l|l
   . exact(aP.row (Pu l hk)).eq λ q hq=>lo i q l hq
   . subst l;exact hr
   . cases i with
     |zero=>exact absurd l (Pq _)
     |succ i=>exact(aP.row (R8 h)).eq λ q hq=>hi i q (RJ l) (R8 h) hq
theorem aP.zero{X:Rows}{n w:Nat}{v:Nat->Int}(h:∀c,c<w->v c=0):aP X n w v:=
 ⟨λ _=>0,λ c hc=>by rw[h c hc,gF λ k _=>Qv _]⟩
structure m_(A:Rows)(N w M:Nat)(X:Rows)(m:Nat):Prop where
 is:bH m w X
 lo:1<=m
 hi:m<=8
 bd:∀r∈X,∀x∈r,x.natAbs<=M
 same:bG A N X m w
theorem m_.mem{A X:Rows}{N w M m k:Nat}(h:m_ A N w M X m)(hk:k<m):X.getD k []∈X:=by
 rw[aO (by rw[h.is.len];exact hk)];exact Q8 _
theorem m_.put{A X:Rows}{N w M M' m k:Nat}{r:Row}(h:m_ A N w M X m)(l:M<=M')(hr:r.length=w)(hb:∀x∈r,x.natAbs<=M')(s:bG X m (X.set k r) m w):m_ A N w M' (X.set k r) m:=
 ⟨mj h.is hr,h.lo,h.hi,λ q hq x hx=>(Qi hq).elim (λ z=>Pe (h.bd q z x hx) l) (λ z=>hb x (z▸hx)),h.same.trans s⟩
theorem m_.neg{A X:Rows}{N w M m k:Nat}(h:m_ A N w M X m)(hk:k<m):m_ A N w M (X.set k ((X.getD k []).map λ x=> -x)) m:=by
 have lX:k<X.length:=by rw[h.is.len];exact hk
 refine h.put (O9 _) (by rw[O8];exact h.is.row hk) (λ x hx=>?_) (bG.neg hk (λ q _=>?_) λ i q _ hi _=>?_)
 . obtain⟨y,hy,rfl⟩:=Qa.mp hx;rw[Rm];exact h.bd _ (h.mem hk) y hy
 . rw[l0 lX,O_ rfl];unfold g;generalize X.getD k []=r;rw[Pc,PD,Pc];cases r[q]?<;>rfl
 . rw[l0 lX,O7 hi]
theorem m_.swap{A X:Rows}{N w M m k o:Nat}(h:m_ A N w M X m)(hk:k<m)(ho:o<m):m_ A N w M ((X.set k (X.getD o [])).set o (X.getD k [])) m:=by
 have lX:k<X.length:=by rw[h.is.len];exact hk
 have lo:o<(X.set k (X.getD o [])).length:=by rw[Pl,h.is.len];exact ho
 refine⟨mj (mj h.is (h.is.row ho)) (h.is.row hk),h.lo,h.hi,λ q hq x hx=>?_,h.same.trans (bG.perm (f:=λ i=>if i=o then k else if i=k then o else i) (λ i hi=>?_) (λ i=>?_) λ i q _ _=>?_)⟩
 . rcases Qi hq with z|z
   . rcases Qi z with z|z
     . exact h.bd q z x hx
     . exact h.bd _ (h.mem ho) x (z▸hx)
   . exact h.bd _ (h.mem hk) x (z▸hx)
 . show(if i=o then k else if i=k then o else i)<m;split
   . exact hk
   . split
     . exact ho
     . exact hi
 . show(if(if i=o then k else if i=k then o else i)=o then k else if(if i=o then k else if i=k then o else i)=k then o else(if i=o then k else if i=k then o else i))=i;by_cases h1:i=o
   . rw[O_ h1,O_ rfl];split
     . rename_i z;rw[z,h1]
     . exact h1.symm
   . rw[O7 h1];by_cases h2:i=k
     . rw[O_ h2,O_ rfl];exact h2.symm
     . rw[O7 h2,O7 h1,O7 h2]
 . show _=g X (if i=o then k else if i=k then o else i) q;rw[l0 lo,l0 lX];split
   . rfl
   . split<;>rfl
theorem gf{X:Rows}{r:Row}{k:Nat}(hk:k<=X.length)(i:Nat):(X.take k++r::X.drop k).getD i []=if i<k then X.getD i []else if i=k then r else X.getD (i-1) []:=by
 have lt:(X.take k).length=k:=by rw[P_];omega
 rw[Pc,Pc,Pc];by_cases h:i<k
 . rw[O_ h,Pd (by rw[lt];exact h),So h]
 . rw[O7 h,PH (by rw[lt];omega),lt];by_cases h2:i=k
   . rw[O_ h2,h2,QM];rfl
   . rw[O7 h2];have:i-k=(i-1-k)+1:=by omega
     rw[this,Ri,TJ];congr 2;omega
structure iE(F:Rows)(w:Nat)(ld:Nat->Nat)(row:Nat->Int)(i:Nat)(o:Int)(L:Nat->Int):Prop where
 pos:0<o
 sum:aP F i w λ c=>o*row c-L c
 off:∀k,k<i->L (ld k)=0
 least:∀(m:Int) (v:Nat->Int),aP F i w v->(∀k,k<i->m*row (ld k)=v (ld k))->o∣m
theorem aJ.L_{F:Rows}{n w:Nat}{ld:Nat->Nat}{v:Nat->Int}(s:aJ F n w ld)(hv:aP F n w v)(h:∀k,k<n->0<=v (ld k)/\v (ld k)<g F k (ld k))(c:Nat):c<w->v c=0:=by
 induction c using Nat.strongRecOn with
 |ind c ih=>
  intro hc;rcases s.at hv hc λ d hd=>ih d hd (Rz hd hc)with⟨k,hk,rfl,d⟩|q
  . have:=h k hk;exact Int.eq_zero_of_dvd_of_natAbs_lt_natAbs d (by omega)
  . exact q
structure lY(F:Rows)(n w:Nat)(ld:Nat->Nat)(row:Nat->Int)(i:Nat)(L:Nat->Int):Prop where
 sum:aP F n w λ c=>row c-L c
 red:∀k,k<i->0<=L (ld k)/\L (ld k)<g F k (ld k)
theorem lY.start{F:Rows}{n w:Nat}{ld:Nat->Nat}{row:Nat->Int}:lY F n w ld row 0 row:=⟨aP.zero λ c _=>Int.sub_self _,λ _ h=>absurd h (Pq _)⟩
theorem lY.step{F:Rows}{n w i:Nat}{ld:Nat->Nat}{row L:Nat->Int}(s:aJ F n w ld)(hi:i<n)(f:lY F n w ld row i L):lY F n w ld row (i+1) λ c=>L c-(L (ld i)).fdiv (g F i (ld i))*g F i c:=by
 obtain⟨l1,l2,l3⟩:=s.lead i hi;refine⟨(f.sum.A4 ((L (ld i)).fdiv (g F i (ld i))) (aP.row hi)).eq λ c _=>by omega,λ k hk=>?_⟩;show 0<=L (ld k)-_*g F i (ld k)/\L (ld k)-_*g F i (ld k)<_;rcases QX k i with h|h
 . rw[l3 _ (s.mono k i h hi),Qc,Int.sub_zero];exact f.red k h
 . have:k=i:=Rb (RJ hk) h;subst this;have e:=Int.fmod_add_mul_fdiv (L (ld k)) (g F k (ld k));have a:=Qo (L (ld k)) l2;have b:=QP (L (ld k)) l2;rw[QS]at e;omega
theorem lY.zero{F:Rows}{n w:Nat}{ld:Nat->Nat}{row L:Nat->Int}(s:aJ F n w ld)(f:lY F n w ld row n L):(∀c,c<w->L c=0)↔aP F n w row:=by
 constructor
 . exact λ h=>f.sum.eq λ c hc=>by rw[h c hc,Int.sub_zero]
 . exact λ h=>s.L_ ((h.sub f.sum).eq λ c _=>by omega) f.red
theorem CA{K m:Nat}:∀ {n:Nat} {M:Fn},n<=K->(∀r c,r<n->c<n->(M r c).natAbs<=m)->(D n M).natAbs<=(K*m)^n
 |0,_,_,_=>by simp[D]
 |n+1,M,hn,h=>by
  rw[dh]
  have key:∀j,j<n+1->(sg j*M 0 j*D n λ r c=>M (r+1) (sk j c)).natAbs<=m*(K*m)^n:=λ j hj=>by
   have a:=CA (K:=K) (m:=m) (n:=n) (M:=λ r c=>M (r+1) (sk j c)) (by omega) λ r c hr hc=>h (r+1) (sk j c) (by omega) (iX hc);have b:=h 0 j (by omega) hj;have s:(sg j).natAbs=1:=by unfold sg;split<;>rfl
   rw[Qm,Qm,s,Nat.one_mul];exact PY b a
  refine Pe (FI key) ?_;rw[Sb,Q_ ((K*m)^n),Qh];exact PN _ hn
theorem pick{t N:Nat}{U B:Fn}(h:∀k l,k<t->l<t->S N (λ i=>U k i*B i l)=dl k l):∃I:Nat->Nat,(∀k,k<t->I k<N)/\D t (λ k l=>B (I k) l)≠0:=by
 apply QH;intro no
 have go:∀s,s<=t->∀I:Nat->Nat,(∀k,k<t->s<=k->I k<N)->D t (λ k l=>if k<s then dl k l else B (I k) l)=0:=by
  intro s;induction s with
  |zero=>
   intro _ I hI;exact QH λ z=>no ⟨I,λ k hk=>hI k hk (Po _),z⟩
  |succ s ih=>
   intro hs I hI
   have e:D t (λ k l=>if k<s+1 then dl k l else B (I k) l)=D t (upd (λ k l=>if k<s then dl k l else B (I k) l) s λ l=>S N λ j=>U s j*B j l):=bZ λ k l hk hl=>by
    unfold upd;by_cases h1:k=s
    . subst h1;rw[O_ rfl,O_ (PL _)];exact(h k l hk hl).symm
    . rw[O7 h1];show _=if k<s then dl k l else B (I k) l
      by_cases h2:k<s
      . rw[O_ (by omega),O_ h2]
      . rw[O7 (by omega),O7 h2]
   rw[e,(rq t).rG (by omega)];refine gF λ j hj=>?_
   have e2:=ih (by omega) (λ k=>if k=s then j else I k) λ k hk hsk=>by
    by_cases h1:k=s
    . rw[O_ h1];exact hj
    . rw[O7 h1];exact hI k hk (by omega)
   have e3:D t (upd (λ k l=>if k<s then dl k l else B (I k) l) s (B j))=D t (λ k l=>if k<s then dl k l else B (if k=s then j else I k) l):=bZ λ k l hk hl=>by
    unfold upd;by_cases h1:k=s
    . subst h1;rw[O_ rfl,O7 (QC _),O_ rfl]
    . rw[O7 h1,O7 h1]
   rw[e3,e2,Qc]
 have z:=go t (O9 _) (λ _=>0) λ k h1 h2=>absurd h1 (Nat.not_lt.mpr h2);rw[bZ (M':=dl) λ r c hr hc=>O_ hr,s_]at z;exact absurd z (by decide)
theorem ig:∀ {n:Nat} {f:Nat->Int},(∀i,i<n->0<f i)->0<Pr n f
 |0,_,_=>show(0:Int)<1 by decide
 |n+1,f,h=>Int.mul_pos (ig λ i hi=>h i (P0 hi)) (h n (PL n))
theorem zP:∀ {n:Nat} {f:Nat->Int},(∀i,i<n->0<f i)->∀k,k<n->f k<=Pr n f
 |n+1,f,h,k,hk=>by
  have p:=ig λ i hi=>h i (P0 hi);have q:=h n (PL n);show f k<=Pr n f*f n;by_cases e:k=n
  . subst e;have:=RZ (show(1:Int)<=Pr k f from p) (Ra q);omega
  . have a:=zP (λ i hi=>h i (P0 hi)) k (by omega);have:=Tv (show(1:Int)<=f n from q) (Ra p);omega
def a9(F:Rows)(i:Nat):Nat:=(F.getD i []).findIdx (λ x=>x != 0)
theorem qZ:∀ {r:Row} {l:Nat},(∀c,c<l->r.getD c 0=0)->r.getD l 0≠0->r.findIdx (λ x=>x != 0)=l
 | [],l,_,h=>(h rfl).elim
 |x::r,0,_,h=>by
  have h':(x != 0)=true:=Ua.mpr h;rw[List.findIdx_cons,h'];rfl
 |x::r,l+1,hz,h=>by
  have x0:(x != 0)=false:=bne_eq_false_iff_eq.mpr (hz 0 (Up _));rw[List.findIdx_cons,x0,qZ (r:=r) (l:=l) (λ c hc=>hz (c+1) (RP hc)) h];rfl
theorem aJ.a9{F:Rows}{n w:Nat}{ld:Nat->Nat}(s:aJ F n w ld){i:Nat}(hi:i<n):Mx.a9 F i=ld i:=by
 obtain⟨_,h2,h3⟩:=s.lead i hi;exact qZ h3 (Q6 h2)
theorem aJ.OS{F:Rows}{n w:Nat}{ld:Nat->Nat}(s:aJ F n w ld):aJ F n w (Mx.a9 F):=
 ⟨λ i hi=>by rw[s.a9 hi];exact s.lead i hi,λ i j h hj=>by rw[s.a9 hj,s.a9 (Rz h hj)];exact s.mono i j h hj⟩
def sr(F:Rows)(L:Row)(i:Nat):Int:=(L.getD (a9 F i) 0).fdiv (g F i (a9 F i))
def cm(F:Rows)(r:Row):Nat->Row
 |0=>r
 |i+1=>cK (cm F r i) (-(sr F (cm F r i) i)) (F.getD i [])
def B9(F:Rows)(r:Row)(n:Nat):Row:=(List.range n).map λ i=>sr F (cm F r i) i
section
variable {F:Rows}{r:Row}{m w:Nat}(isF:bH m w F)(lr:r.length=w)
include isF lr
theorem h8:∀ {i:Nat},i<=m->(cm F r i).length=w
 |0,_=>lr
 |i+1,h=>by
  unfold cm;rw[gW (by rw[h8 (by omega),isF.row (by omega)])];exact h8 (by omega)
theorem vE{i:Nat}(hi:i<m)(c:Nat):(cm F r (i+1)).getD c 0=(cm F r i).getD c 0-sr F (cm F r i) i*g F i c:=by
 conv=>lhs;unfold cm
 rw[jW (by rw[h8 isF lr (by omega),isF.row hi]),R7];rfl
theorem o9(s:aJ F m w (a9 F)):∀ {i:Nat},i<=m->lY F m w (a9 F) (λ c=>r.getD c 0) i (λ c=>(cm F r i).getD c 0)
 |0,_=>lY.start
 |i+1,h=>by
  have:=(o9 s (i:=i) (by omega)).step s h
  have e:(λ c=>(cm F r (i+1)).getD c 0)=λ c=>(cm F r i).getD c 0-((cm F r i).getD (a9 F i) 0).fdiv (g F i (a9 F i))*g F i c:=by
   funext c;rw[vE isF lr h];rfl
  rw[e];exact this
theorem tm{f e:Nat}(s:aJ F m w (a9 F))(hF:∀k c,k<m->c<w->(g F k c).natAbs<=2^f)(hr:∀c,c<w->(r.getD c 0).natAbs<=2^e):∀ {i:Nat},i<=m->∀c,c<w->((cm F r i).getD c 0).natAbs<=2^(e+i*(f+1))
 |0,_,c,hc=>by rw[Nat.zero_mul];exact hr c hc
 |i+1,h,c,hc=>by
  have ih:=tm s hF hr (i:=i) (by omega);obtain⟨l1,l2,_⟩:=s.lead i h;have q:=Pe (g8 ((cm F r i).getD (a9 F i) 0) l2) (ih _ l1);rw[vE isF lr h]
  have p:(sr F (cm F r i) i*g F i c).natAbs<=2^(e+i*(f+1))*2^f:=by
   rw[Qm];exact PY q (hF i c h hc)
  have b:=ih c hc
  have e1:2^(e+(i+1)*(f+1))=2^(e+i*(f+1))*2^f*2:=by
   rw[show e+(i+1)*(f+1)=e+i*(f+1)+f+1 by rw[Tf];omega,Sb,Q0]
  have e2:2^(e+i*(f+1))<=2^(e+i*(f+1))*2^f:=Rj _ (Nat.pow_pos (by decide));rw[e1];omega
end
def l1:Row->Nat
 | []=>0
 |x::r=>x.natAbs+l1 r
theorem yZ(c:Int):∀r s:Row,l1 (cK r c s)<=l1 r+c.natAbs*l1 s
 | [],_=>Po _
 |_::_,[]=>Po _
 |x::r,y::s=>by
  have ih:=yZ c r s;have h1:=Int.natAbs_add_le x (c*y);rw[Qm]at h1;show(x+c*y).natAbs+l1 (cK r c s)<=x.natAbs+l1 r+c.natAbs*(y.natAbs+l1 s);rw[Sj];omega
theorem CF:∀r:Row,l1 (r.map λ x=> -x)=l1 r
 | []=>rfl
 |x::r=>by
  show(-x).natAbs+l1 (r.map λ x=> -x)=x.natAbs+l1 r;rw[CF r,Rm]
theorem rk:∀ {r:Row} {M:Nat},(∀x∈r,x.natAbs<=M)->l1 r<=r.length*M
 | [],_,_=>Po _
 |x::r,M,h=>by
  have ih:=rk (r:=r) λ y hy=>h y (Pn _ hy);have:=h x Pw;show x.natAbs+l1 r<=(r.length+1)*M;rw[Tf];omega
theorem Cu(i:Nat):∀l:List Nat,l.Nodup->l1 (l.map λ k=>dl k i)<=if i∈l then 1 else 0
 | [],_=>Po _
 |a::l,h=>by
  obtain⟨h1,h2⟩:=RC.mp h;have ih:=Cu i l h2;show(dl a i).natAbs+l1 (l.map λ k=>dl k i)<=_;by_cases e:a=i
  . subst e;rw[O7 h1]at ih;rw[cD,O_ Pw];show 1+_<=1;omega
  . rw[cV e];show 0+_<=_;by_cases hm:i∈l
    . rw[O_ hm]at ih;rw[O_ (Pn _ hm)];omega
    . rw[O7 hm]at ih;omega
theorem Ih(n i:Nat):l1 (cM n i)<=1:=by
 unfold cM;refine Pe (Cu i _ List.nodup_range) ?_;split<;>omega
theorem mL{M n:Nat}:∀(ws:Row) (A:Rows) (acc:Row) (c:Nat),acc.length=n->(∀r∈A,r.length=n)->(∀r∈A,∀x∈r,x.natAbs<=M)->((bo ws A acc).getD c 0).natAbs<=(acc.getD c 0).natAbs+l1 ws*M
 | [],_,acc,c,_,_,_=>by unfold bo;exact Sf _ _
 |_::_,[],acc,c,_,_,_=>by unfold bo;exact Sf _ _
 |w::ws,r::A,acc,c,h,hr,hb=>by
  have hl:=hr r Pw;have e:acc.length=r.length:=by omega
  unfold bo;have ih:=mL (M:=M) ws A (cK acc w r) c (by rw[gW e];exact h) (λ q hq=>hr q (Pn _ hq)) λ q hq=>hb q (Pn _ hq);rw[jW e]at ih;have h1:=Int.natAbs_add_le (acc.getD c 0) (w*r.getD c 0);rw[Qm]at h1
  have h2:(r.getD c 0).natAbs<=M:=by
   by_cases hc:c<r.length
   . rw[aO hc];exact hb r Pw _ (Q8 _)
   . rw[iV (by omega)];exact Po _
  have h3:=P9 w.natAbs h2;show _<=_+(w.natAbs+l1 ws)*M;rw[UK];omega
theorem bG.mul{X A:Rows}{m N w:Nat}(hX:bH m N X)(hA:bH N w A)(h:bG (units N) N X m N):bG A N (mulM X A w) m w:=by
 refine⟨λ k hk=>?_,λ i hi=>⟨g X i,λ c _=>sR hX hA hi c⟩⟩;obtain⟨z,hz⟩:=h.to k hk;refine⟨z,λ c hc=>?_⟩
 have e1:(S m λ i=>z i*g (mulM X A w) i c)=S m λ i=>S N λ j=>z i*g X i j*g A j c:=ay λ i hi=>by
  rw[sR hX hA hi,<-dq];exact ay λ j _=>(Qw _ _ _).symm
 rw[e1,jd]
 have e2:(S N λ j=>S m λ i=>z i*g X i j*g A j c)=S N λ j=>dl k j*g A j c:=ay λ j hj=>by
  rw[kh,<-hz j hj,fT hk hj]
 rw[e2,kD hk]
theorem bG.any{X:Rows}{m N:Nat}(h:bG (units N) N X m N)(v:Nat->Int):aP X m N v:=
 aP.trans h.to ⟨v,λ c hc=>by
  have:(S N λ k=>v k*g (units N) k c)=S N λ k=>v k*dl k c:=ay λ k hk=>by rw[fT hk hc]
  rw[this,nO hc]⟩
theorem bG.Mf{Z X:Rows}{n m w k:Nat}{t:Row}(h:bG Z n X m w)(hl:X.length=m)(hk:k<=m)(ht:aP X m w λ c=>t.getD c 0):bG Z n (X.take k++t::X.drop k) (m+1) w:=by
 have lX:k<=X.length:=by omega
 refine h.trans (bG.ins hk ?_ (λ i q hi _=>?_) λ i q hi _ _=>?_)
 . refine ht.eq λ q _=>?_;unfold g;rw[gf lX,O7 (QC k),O_ rfl]
 . unfold g;rw[gf lX,O_ hi]
 . unfold g;rw[gf lX,O7 (by omega),O7 (by omega)];rfl
structure fE(A0:Rows)(N w:Nat)(b:B3)(top p:Nat)(ld:Nat->Nat)(e u v:Nat):Prop where
 tn:Tn A0 b.A b.U b.C N w
 le:top<=N
 lo:eR b.A N top (2^e)/\eR b.U N top (2^e)/\eR b.C N top (2^e)
 hi:∀i c,i<top->(g b.A i c).natAbs<=2^u/\(g b.U i c).natAbs<=2^u/\(g b.C i c).natAbs<=2^v
 zs:∀i c,top<=i->i<N->c<p->g b.A i c=0
 lead:∀i,i<top->ld i<p/\0<g b.A i (ld i)/\∀c,c<ld i->g b.A i c=0
 mono:∀i j,i<j->j<top->ld i<ld j
 red:∀i j,i<j->j<top->0<=g b.A i (ld j)/\g b.A i (ld j)<g b.A j (ld j)
theorem fE.skip{A0:Rows}{N w top p e u v:Nat}{b:B3}{ld:Nat->Nat}(S:fE A0 N w b top p ld e u v)(h:jr b.A N top p []):fE A0 N w b top (p+1) ld e u v:=
 ⟨S.tn,S.le,S.lo,S.hi,λ i c h1 h2 h3=>by
  by_cases hc:c=p
  . subst hc;exact QH λ z=>absurd ((h.mem i).mpr ⟨h1,h2,z⟩) (by simp)
  . exact S.zs i c h1 h2 (by omega),λ i hi=>⟨P0 (S.lead i hi).1,(S.lead i hi).2⟩,S.mono,S.red⟩
structure jG(A0:Rows)(N w top p e u v:Nat)(b:B3)(k:Nat)(c:B3):Prop where
 tn:Tn A0 c.A c.U c.C N w
 rA:∀i,k<=i->c.A.getD i []=b.A.getD i []/\c.U.getD i []=b.U.getD i []
 rC:∀i,i≠top->c.C.getD i []=b.C.getD i []
 ah:∀i q,i<k->q<p->g c.A i q=g b.A i q
 rd:∀i,i<k->0<=g c.A i p/\g c.A i p<g c.A top p
 sz:∀i q,i<k->(g c.A i q).natAbs<=2^(u+e+1)/\(g c.U i q).natAbs<=2^(u+e+1)
 sC:∀q,(g c.C top q).natAbs<=2^e+k*2^(u+v)
theorem jG.step{A0:Rows}{N w top p e u v k:Nat}{b c:B3}(I:jG A0 N w top p e u v b k c)(hk:k<top)(ht:top<N)(hp:p<w)(htp:0<g b.A top p)(hz:∀q,q<p->g b.A top q=0)
 (hlo:∀q,(g b.A top q).natAbs<=2^e/\(g b.U top q).natAbs<=2^e) (hhi:∀i q,i<top->(g b.A i q).natAbs<=2^u/\(g b.U i q).natAbs<=2^u/\(g b.C i q).natAbs<=2^v):
 jG A0 N w top p e u v b (k+1) ⟨aK c.A k ((g c.A k p).fdiv (g c.A top p)) top,aK c.U k ((g c.A k p).fdiv (g c.A top p)) top,aK c.C top (-((g c.A k p).fdiv (g c.A top p))) k⟩:=by
 have hkN:k<N:=by omega
 have gA:∀i q,k<=i->g c.A i q=g b.A i q:=λ i q hi=>by unfold g;rw[(I.rA i hi).1]
 have gU:∀i q,k<=i->g c.U i q=g b.U i q:=λ i q hi=>by unfold g;rw[(I.rA i hi).2]
 have gC:∀i q,i≠top->g c.C i q=g b.C i q:=λ i q hi=>by unfold g;rw[I.rC i hi]
 have qe:((g c.A k p).fdiv (g c.A top p)).natAbs<=2^u:=by
  rw[gA k p (O9 _),gA top p (by omega)];exact Pe (g8 _ htp) (hhi k p hk).1
 have hq:∀x:Int,x.natAbs<=2^e->((g c.A k p).fdiv (g c.A top p)*x).natAbs<=2^(u+e):=λ x hx=>by
  rw[Qm,Q0];exact PY qe hx
 have le1:2^u<=2^(u+e):=PX (by decide) (by omega);refine⟨I.tn.take hkN ht (by omega),λ i hi=>?_,λ i hi=>?_,λ i q hi hqp=>?_,λ i hi=>?_,λ i q hi=>?_,λ q=>?_⟩
 . exact⟨(g_ (by rw[I.tn.isA.len];exact hkN) (by omega)).trans (I.rA i (by omega)).1,(g_ (by rw[I.tn.dX.len];exact hkN) (by omega)).trans (I.rA i (by omega)).2⟩
 . exact(g_ (by rw[I.tn.eN.len];exact ht) hi).trans (I.rC i hi)
 . show g (aK c.A k _ top) i q=_;rw[cP I.tn.isA hkN ht];split
   . rename_i h;rw[gA top q (by omega),hz q hqp,Qc,gA k q (O9 _),h];omega
   . exact I.ah i q (by omega) hqp
 . show 0<=g (aK c.A k _ top) i p/\g (aK c.A k _ top) i p<g (aK c.A k _ top) top p;rw[cP I.tn.isA hkN ht,cP I.tn.isA hkN ht,O7 (show¬top=k by omega)];split
   . have h1:=S7 (g c.A k p) (g c.A top p);have htp':0<g c.A top p:=by rw[gA top p (by omega)];exact htp
     have h2:=Qo (g c.A k p) htp';have h3:=QP (g c.A k p) htp';rw[QS]at h1;omega
   . exact I.rd i (by omega)
 . show(g (aK c.A k _ top) i q).natAbs<=_/\(g (aK c.U k _ top) i q).natAbs<=_;rw[cP I.tn.isA hkN ht,cP I.tn.dX hkN ht];split
   . have a1:=hq (g c.A top q) (by rw[gA top q (by omega)];exact(hlo q).1);have a2:=hq (g c.U top q) (by rw[gU top q (by omega)];exact(hlo q).2);rw[gA k q (O9 _),gU k q (O9 _)];have b1:=(hhi k q hk).1;have b2:=(hhi k q hk).2.1;rw[Sb];omega
   . exact I.sz i q (by omega)
 . show(g (aK c.C top _ k) top q).natAbs<=_;rw[cP I.tn.eN ht hkN,O_ rfl,gC k q (by omega),R7];have a1:=I.sC q
   have a2:((g c.A k p).fdiv (g c.A top p)*g b.C k q).natAbs<=2^(u+v):=by
    rw[Qm,Q0];exact PY qe (hhi k q hk).2.2
   rw[UK,Nat.one_mul];omega
theorem jG.start{A0:Rows}{N w top p e u v:Nat}{b:B3}(T:Tn A0 b.A b.U b.C N w)(h:∀q,(g b.C top q).natAbs<=2^e):jG A0 N w top p e u v b 0 b:=
 ⟨T,λ _ _=>⟨rfl,rfl⟩,λ _ _=>rfl,λ _ _ h=>absurd h (Pq _),λ _ h=>absurd h (Pq _),λ _ _ h=>absurd h (Pq _),λ q=>by rw[Nat.zero_mul];exact h q⟩
theorem fE.start{A:Rows}{N w e:Nat}(hA:bH N w A)(h:eR A N 0 (2^e)):fE A N w ⟨A,units N,units N⟩ 0 0 (λ _=>0) e 0 0:=by
 have S:=uC.start hA h;exact⟨S.tn,S.le,S.lo,S.hi,S.zs,S.lead,S.mono,S.red⟩
theorem fE.OR{A0:Rows}{N w top p e u v:Nat}{b:B3}{ld:Nat->Nat}(S:fE A0 N w b top p ld e u v):uC A0 N w b top p ld e (u+v):=
 ⟨S.tn,S.le,S.lo,λ i c hi=>⟨Pe (S.hi i c hi).1 (PX (by decide) (by omega)),Pe (S.hi i c hi).2.1 (PX (by decide) (by omega)),Pe (S.hi i c hi).2.2 (PX (by decide) (by omega))⟩,S.zs,S.lead,S.mono,S.red⟩
theorem fE.zd{A0:Rows}{N w top p e u v:Nat}{b:B3}{ld:Nat->Nat}(S:fE A0 N w b top p ld e u v):top<=p:=by
 have go:∀i,i<top->i<=ld i:=λ i=>by
  induction i with
  |zero=>intro _;exact Po _
  |succ i ih=>
   intro h;have:=ih (by omega);have:=S.mono i (i+1) (by omega) h;omega
 rcases TK top with z|z
 . omega
 . have h1:=go (top-1) (by omega);have h2:=(S.lead (top-1) (by omega)).1;omega
theorem lY.two{F:Rows}{n w:Nat}{ld:Nat->Nat}{row row' L L':Nat->Int}(f:lY F n w ld row n L)(f':lY F n w ld row' n L')(h:∀c,c<w->L c=L' c):aP F n w λ c=>row c-row' c:=
 (f.sum.sub f'.sum).eq λ c hc=>by
   have:=h c hc;omega
theorem aJ.DF{X:Rows}{n w:Nat}{ld:Nat->Nat}{v z:Nat->Int}(s:aJ X n w ld)(hz:∀c,c<w->v c=S n λ k=>z k*g X k c){j:Nat}(hj:j<=n)(h0:∀l,l<j->v (ld l)=0)(l:Nat):l<j->z l=0:=by
 induction l using Nat.strongRecOn with
 |_ l ih=>
  intro hl;obtain⟨h1,h2,_⟩:=s.lead l (by omega);have e:=hz _ h1
  rw[h0 l hl,fM (k:=l) (by omega) λ k hk hne=>by
   rcases RY hne with q|q
   . rw[ih k q (by omega),Qv]
   . rw[(s.lead k hk).2.2 _ (s.mono l k q hk),Qc]]at e
  rcases Int.mul_eq_zero.mp e.symm with q|q
  . exact q
  . omega
theorem aJ.M9{X:Rows}{n w:Nat}{ld:Nat->Nat}{v z:Nat->Int}(s:aJ X n w ld)(hz:∀c,c<w->v c=S n λ k=>z k*g X k c){j:Nat}(hj:j<n)(h0:∀l,l<j->v (ld l)=0):v (ld j)=z j*g X j (ld j):=by
 obtain⟨h1,h2,_⟩:=s.lead j hj;rw[hz _ h1]
 exact fM hj λ k hk hne=>by
  rcases RY hne with q|q
  . rw[s.DF hz (QK hj) h0 k q,Qv]
  . rw[(s.lead k hk).2.2 _ (s.mono j k q hk),Qc]
theorem aJ.nil{X:Rows}{n w:Nat}{ld:Nat->Nat}{v:Nat->Int}(s:aJ X n w ld)(hv:aP X n w v)(h0:∀l,l<n->v (ld l)=0)(c:Nat)(hc:c<w):v c=0:=by
 obtain⟨z,hz⟩:=hv;rw[hz c hc];exact gF λ k hk=>by rw[s.DF hz (O9 n) h0 k hk,Qv]
theorem aP.jA{X:Rows}{n w:Nat}{u v:Nat->Int}(a:Int)(hu:aP X n w u)(hv:aP X n w v):aP X n w λ c=>u c+a*v c:=by
 obtain⟨y,hy⟩:=hu;obtain⟨z,hz⟩:=hv;refine⟨λ k=>y k+a*z k,λ c hc=>?_⟩;show u c+a*v c=S n λ k=>(y k+a*z k)*g X k c;rw[hy c hc,hz c hc,<-dq,<-fj];exact ay λ k _=>by rw[Int.add_mul,Qw]
theorem aP.comb{X:Rows}{n w:Nat}{a:Nat->Int}{v:Nat->Nat->Int}:∀ {m:Nat},(∀l,l<m->aP X n w (v l))->aP X n w λ c=>S m λ l=>a l*v l c
 |0,_=>⟨λ _=>0,λ c _=>(gF λ k _=>Qv _).symm⟩
 |m+1,h=>aP.jA (a m) (aP.comb (m:=m) λ l hl=>h l (by omega)) (h m (PL m))
theorem OF{X:Rows}{n w M:Nat}{ld:Nat->Nat}{d:Int}{v:Nat->Nat->Int}(s:aJ X n w ld)(r:p8 X n ld)(hd:d≠0)(hv:∀l,l<n->aP X n w (v l))(hl:∀l j,l<n->j<n->v l (ld j)=d*dl l j)(hb:∀l c,l<n->c<w->(v l c).natAbs<=M):∀i c,i<n->c<w->(g X i c).natAbs<=n*M:=λ i c hi hc=>by
 have le:∀j,j<n->(g X j (ld j)).natAbs<=d.natAbs:=λ j hj=>by
  obtain⟨z,hz⟩:=hv j hj;have e:=s.M9 hz hj λ l h=>by rw[hl j l hj (by omega),cV (by omega),Qc]
  rw[hl j j hj hj,cD,RL]at e;rw[e,Qm];refine SO _ (Int.natAbs_pos.mpr λ q=>hd ?_);rw[e,q,Qv]
 have bd:∀l,l<n->(g X i (ld l)).natAbs<=d.natAbs:=λ l h=>by
  have h1:=le l h;rcases Sa i l with q|q|q
  . have:=r i l q h;omega
  . rw[q];exact h1
  . rw[(s.lead i hi).2.2 _ (s.mono l i q hi)];exact Po _
 have e:d*g X i c=S n λ l=>g X i (ld l)*v l c:=by
  have y:aP X n w λ c=>(0*g X i c+d*g X i c)-S n λ l=>g X i (ld l)*v l c:=aP.sub (aP.jA d (aP.eq (u:=λ c=>S 0 λ _=>0) (aP.comb (m:=0) (a:=λ _=>0) (v:=λ _ _=>0) λ l h=>absurd h (Pq _)) λ c _=>Qv _) (aP.row hi)) (aP.comb hv)
  have:=s.nil y (λ l h=>by
   obtain⟨h1,_⟩:=s.lead l h
   have e:(S n λ k=>g X i (ld k)*v k (ld l))=d*g X i (ld l):=by
    rw[fM h λ k hk hne=>by rw[hl k l hk h,cV hne,Qc,Qc],hl l l h h,cD,RL,QS]
   show(0*g X i (ld l)+d*g X i (ld l))-(S n λ k=>g X i (ld k)*v k (ld l))=0;rw[e];omega) c hc
  simp only[Qv,Su]at this;omega
 have b2:(d*g X i c).natAbs<=n*(d.natAbs*M):=by
  rw[e];exact FI λ l h=>by rw[Qm];exact PY (bd l h) (hb l c h hc)
 rw[Qm,Q4]at b2;exact Nat.le_of_mul_le_mul_left b2 (Int.natAbs_pos.mpr hd)
theorem LZ{t l j:Nat}{M:Fn}(hl:l<t)(hj:j<t):D t (upd M l (M j))=D t M*dl l j:=by
 by_cases h:l=j
 . subst h;rw[cD,RL]
   exact bZ λ r c _ _=>by
    by_cases q:r=l
    . subst q;exact bQ ..
    . exact au q c
 . rw[cV h,Qc];exact(rq t).alt l j _ hl hj h λ c _=>by rw[bQ,au (Pj h)]
theorem NU{t l:Nat}{M:Fn}{x y:Nat->Int}(h:∀c,c<t->x c=y c):D t (upd M l x)=D t (upd M l y):=bZ λ r c _ hc=>by
 unfold upd;split
 . exact h c hc
 . rfl
theorem NC{A B:Fn}{G:Rows}{t w b:Nat}{ld:Nat->Nat}(s:aJ G t w ld)(r:p8 G t ld)(t8:t<=9)(hA:∀i c,i<t->c<w->(A i c).natAbs<=b)(hAB:∀i c,i<t->c<w->A i c=S t λ k=>B i k*g G k c)(hB:D t B≠0):∀k c,k<t->c<w->(g G k c).natAbs<=t*(9*b)^t:=by
 have hd:D t (λ r i=>A i (ld r))≠0:=by
  have e1:D t (λ r i=>A i (ld r))=D t (λ i r=>A i (ld r)):=I_ t λ i r=>A i (ld r)
  have e2:D t (λ i r=>A i (ld r))=D t B*D t λ k r=>g G k (ld r):=by
   rw[<-A_];exact bZ λ i r hi hr=>hAB i _ hi (s.lead r hr).1
  rw[e1,e2,EE λ r c hr hc h=>(s.lead r hr).2.2 _ (s.mono c r h hr)];exact Int.mul_ne_zero hB (Q6 (ig λ i hi=>(s.lead i hi).2.1))
 refine OF (v:=λ l c=>D t (upd (λ r i=>A i (ld r)) l λ i=>A i c)) s r hd (λ l hl=>?_) (λ l j hl hj=>LZ (M:=λ r i=>A i (ld r)) hl hj) λ l c hl hc=>CA (K:=9) t8 λ r i hr hi=>?_
 . refine⟨λ k=>D t (upd (λ r i=>A i (ld r)) l λ i=>B i k),λ c hc=>?_⟩;have e:=(rq t).rG hl (λ r i=>A i (ld r)) (λ k=>g G k c) (λ k i=>B i k) t;show D t (upd (λ r i=>A i (ld r)) l λ i=>A i c)=_;rw[NU λ i hi=>(hAB i c hi hc).trans (ay λ k _=>QS _ _),e];exact ay λ k _=>QS _ _
 . unfold upd;split
   . exact hA i c hi hc
   . exact hA i _ hi (s.lead r hr).1
theorem bG.picked{A F:Rows}{N m w:Nat}{ld:Nat->Nat}(st:aJ F m w ld)(same:bG A N F m w):∃(I:Nat->Nat) (B:Fn),(∀k,k<m->I k<N)/\(∀i c,i<m->c<w->g A (I i) c=S m λ k=>B i k*g F k c)/\D m B≠0:=by
 have hB:∀i,∃z:Nat->Int,i<N->∀c,c<w->g A i c=S m λ k=>z k*g F k c:=λ i=>by
  by_cases h:i<N
  . obtain⟨z,hz⟩:=same.to i h;exact⟨z,λ _=>hz⟩
  . exact⟨λ _=>0,λ z=>absurd z h⟩
 have hU:∀k,∃z:Nat->Int,k<m->∀c,c<w->g F k c=S N λ i=>z i*g A i c:=λ k=>by
  by_cases h:k<m
  . obtain⟨z,hz⟩:=same.of k h;exact⟨z,λ _=>hz⟩
  . exact⟨λ _=>0,λ z=>absurd z h⟩
 let B:Fn:=λ i=>Classical.choose (hB i)
 let U:Fn:=λ k=>Classical.choose (hU k)
 have eB:∀i,i<N->∀c,c<w->g A i c=S m λ k=>B i k*g F k c:=λ i=>S8 (hB i);have eU:∀k,k<m->∀c,c<w->g F k c=S N λ i=>U k i*g A i c:=λ k=>S8 (hU k)
 obtain⟨I,h1,h2⟩:=pick (t:=m) (N:=N) (U:=U) (B:=B) λ k l hk hl=>by
  have e1:∀c,c<w->S m (λ l=>(S N λ i=>U k i*B i l)*g F l c)=g F k c:=λ c hc=>by
   rw[eU k hk c hc]
   have:(S N λ i=>U k i*g A i c)=S N λ i=>S m λ l=>U k i*B i l*g F l c:=ay λ i hi=>by
    rw[eB i hi c hc,<-dq];exact ay λ l _=>(Qw _ _ _).symm
   rw[this,jd];exact ay λ l _=>(kh _ _ _).symm
  have e2:∀c,c<w->(0:Int)=S m λ l=>((S N λ i=>U k i*B i l)-dl k l)*g F l c:=λ c hc=>by
   have h1:(S m λ l=>((S N λ i=>U k i*B i l)-dl k l)*g F l c)=S m (λ l=>(S N λ i=>U k i*B i l)*g F l c)-S m λ l=>dl k l*g F l c:=by
    rw[Rx,<-rK,<-fj];exact ay λ l _=>by rw[UJ,Rx]
   rw[h1,e1 c hc,kD hk,Int.sub_self]
  have e3:(S N λ i=>U k i*B i l)-dl k l=0:=st.gone (v:=λ _=>0) (z:=λ l=>(S N λ i=>U k i*B i l)-dl k l) (q:=w) e2 (λ _ _=>rfl) l hl (st.lead l hl).1;omega
 exact⟨I,λ i=>B (I i),h1,λ i c hi hc=>eB _ (h1 i hi) c hc,h2⟩
theorem bG.abs{A F:Rows}{N m w b:Nat}(m8:m<=8)(sF:aJ F m w (a9 F))(rF:p8 F m (a9 F))(same:bG A N F m w)(hA:∀i c,i<N->c<w->(g A i c).natAbs<=b):∀i c,i<m->c<w->(g F i c).natAbs<=m*(9*b)^m:=by
 obtain⟨I,B,h1,h2,h3⟩:=same.picked sF;exact NC (A:=λ i=>g A (I i)) sF rF (by omega) (λ i c hi hc=>hA _ c (h1 i hi) hc) h2 h3
def Ln(A:Rows)(N:Nat):Rows:=(List.range N).map λ n=>A.getD n []++cM N n
structure OE(A F:Rows)(N w m h:Nat):Prop where
 hA:bH N w A
 is:bH m (w+N) F
 st:aJ F m (w+N) (a9 F)
 red:p8 F m (a9 F)
 same:bG (Ln A N) N F m (w+N)
 le:h<=m
 lo:∀i,i<h->a9 F i<w
 hi:∀i,h<=i->i<m->w<=a9 F i
section
variable {A F:Rows}{N w m h:Nat}(L:OE A F N w m h)
include L
end
theorem D_{a b a' q s t s' C:Nat}(hb:0<b)(hba:b<=a)(hq:2*(q*b)<=2*a+b)(ha':2*a'<=b)(hs:s*(a*(a*a))<=C)(ht:t*(a*(b*b))<=C)(h:s'<=s+q*t):s'*(b*(a'*a'))<=C/\2*s'<=5*C:=by
 have ha:0<a:=Pu hb hba;have e1:2*(q*b)*t<=3*a*t:=PN t (by omega)
 have e2:2*(q*b)*t*(b*b)<=3*C:=by
  refine Pe (PN (b*b) e1) ?_
  have:3*a*t*(b*b)=3*(t*(a*(b*b))):=by
   rw[Qh 3 a t,Q_ a t,Qh 3,Qh t a]
  rw[this];exact P9 3 ht
 have e3:s*(b*(b*b))<=C:=Pe (P9 s (PY hba (PY hba hba))) hs;constructor
 . have f1:4*(a'*a')<=b*b:=by
    have:=PY ha' ha'
    have e:2*a'*(2*a')=4*(a'*a'):=by
     rw[Qh,<-Qh a' 2 a',Q_ a' 2,Qh 2 a' a',<-Qh]
    rwa [e]at this
   have f2:s'*(b*(b*b))<=s*(b*(b*b))+q*t*(b*(b*b)):=by
    rw[<-UK];exact PN _ h
   have f3:2*(q*t*(b*(b*b)))=2*(q*b)*t*(b*b):=by
    rw[<-Qh (q*t) b (b*b),<-Qh 2,TL q t b,<-Qh 2]
   have f4:4*(s'*(b*(a'*a')))<=s'*(b*(b*b)):=by
    have e:4*(s'*(b*(a'*a')))=s'*(b*(4*(a'*a'))):=by
     rw[Q4 4 s',Q4 4 b]
    rw[e];exact P9 _ (P9 _ f1)
   omega
 . have g1:s<=C:=Pe (Rj s (UL ha (UL ha ha))) hs
   have g2:q*t<=q*b*t*(b*b):=by
    have h1:q*t<=q*b*t:=by
     rw[TL];exact Rj _ hb
    exact Pe h1 (Rj _ (UL hb hb))
   have g3:2*(q*b*t*(b*b))=2*(q*b)*t*(b*b):=by
    rw[<-Qh 2,<-Qh 2]
   omega
theorem El{a b a' q cg cs:Nat}(hb:0<b)(hba:b<=a)(ha':2*a'<=b)(hq:a=q*b+a'\/q*b=a+a'):b*b*(cg*a'+(cs+q*cg)*b)<=a*a*(cg*a+cs*b):=by
 have bb:b*b<=a*a:=PY hba hba
 have e0:cg*a'+(cs+q*cg)*b=cg*(a'+q*b)+cs*b:=by
  rw[UK,Sj,TL q cg b,Q_ (q*b) cg];omega
 rw[e0];by_cases z:a'=0
 . subst z;have:a=q*b:=by omega
   rw[QW,<-this];exact PN _ bb
 rcases hq with h|h
 . rw[show a'+q*b=a by omega];exact PN _ bb
 have q2:2<=q:=by
  rcases QX q 2 with y|y
  . have:q=0\/q=1:=by omega
    rcases this with rfl|rfl
    . omega
    . omega
  . exact y
 have qb:2*b<=q*b:=PN b q2;have a3:3*b<=2*a:=by omega
 have sq:9*(b*b)<=4*(a*a):=by
  have:=PY a3 a3;have e1:3*b*(3*b)=9*(b*b):=by rw[Qh,Q4 b 3 b,<-Qh]
  have e2:2*a*(2*a)=4*(a*a):=by rw[Qh,Q4 a 2 a,<-Qh]
  rwa [e1,e2]at this
 have key:b*b*(a'+q*b)<=a*a*a:=by
  have h1:a'+q*b<=a+b:=by omega
  have h2:b*b*(a'+q*b)<=b*b*(a+b):=P9 _ h1;have h3:9*(b*b)*a<=4*(a*a)*a:=PN a sq;have h4:b*b*b<=b*b*a:=P9 _ hba;rw[Sj (b*b) a b]at h2;rw[Qh 9,Qh 4]at h3;omega
 rw[Sj (b*b),Sj (a*a)];refine SE ?_ (PN _ bb);rw[Q4 (b*b) cg,Q4 (a*a) cg];exact P9 cg key
theorem sN{x y:Int}(hy:y≠0)(hxy:y.natAbs<=x.natAbs):x.natAbs=(qn x y).natAbs*y.natAbs+(x-qn x y*y).natAbs\/(qn x y).natAbs*y.natAbs=x.natAbs+(x-qn x y*y).natAbs:=by
 have h:=o5 (x:=x) hy;rw[<-Qm];generalize qn x y*y=z at h;omega
def Gz(X A:Rows)(N top p gm K:Nat):Prop:=∀i c,top<=i->i<N->(g X i c).natAbs*(gm*((g A i p).natAbs*(g A i p).natAbs))<=K/\2*(g X i c).natAbs<=5*K
theorem Gz.step{X A:Rows}{N w wA top p gm K k j:Nat}(hX:bH N w X)(hA:bH N wA A)(hk:k<N)(hj:j<N)(hkt:top<=k)(hjt:top<=j)(hj0:g A j p≠0)(hle:(g A j p).natAbs<=(g A k p).natAbs)(hgm:(g A k p).natAbs<=gm)(h:Gz X A N top p gm K):Gz (aK X k (qn (g A k p) (g A j p)) j) (aK A k (qn (g A k p) (g A j p)) j) N top p (g A j p).natAbs K:=λ i c hi hN=>by
 by_cases hik:i=k
 . rw[hik,cP hX hk hj,O_ rfl,cP hA hk hj,O_ rfl];have r:=o5 (x:=g A k p) hj0
   have q2:2*((qn (g A k p) (g A j p)).natAbs*(g A j p).natAbs)<=2*(g A k p).natAbs+(g A j p).natAbs:=by
    rcases sN hj0 hle with z|z<;>omega
   refine D_ (by omega) hle q2 r (Pe (P9 _ (PN _ hgm)) (h k c hkt hk).1) (Pe (P9 _ (PN _ hgm)) (h j c hjt hj).1) ?_;have h1:=Int.natAbs_sub_le (g X k c) (qn (g A k p) (g A j p)*g X j c);rw[Qm]at h1;exact h1
 . rw[cP hX hk hj,O7 hik,cP hA hk hj,O7 hik];exact⟨Pe (P9 _ (PN _ (Pe hle hgm))) (h i c hi hN).1,(h i c hi hN).2⟩
theorem vI{f f':Nat->Nat}{k:Nat}(h:∀i,i≠k->f' i=f i):∀ {n:Nat},k<n->SU f' n+f k=SU f n+f' k
 |0,hk=>absurd hk (Pq _)
 |n+1,hk=>by
  show SU f' n+f' n+f k=SU f n+f n+f' k;by_cases e:k=n
  . subst e;have:SU f' k=SU f k:=Rb (u4 λ i hi=>by rw[h i (by omega)];exact O9 _) (u4 λ i hi=>by rw[h i (by omega)];exact O9 _);omega
  . have:=vI h (n:=n) (by omega);have:=h n (by omega);omega
theorem Dt{f f':Nat->Nat}{j k n:Nat}(hj:j<n)(hk:k<n)(hjk:j≠k)(h:∀i,i≠j->i≠k->f' i=f i):SU f' n+(f j+f k)=SU f n+(f' j+f' k):=by
 have h1:=vI (f:=f) (f':=λ i=>if i=j then f' j else f i) (k:=j) (λ i hi=>O7 hi) hj
 have h2:=vI (f:=λ i=>if i=j then f' j else f i) (f':=f') (k:=k) (λ i hi=>by
  by_cases z:i=j
  . rw[O_ z,z]
  . rw[O7 z];exact h i z hi) hk
 rw[O_ rfl]at h1;rw[O7 (Pj hjk)]at h2;omega
theorem FC{f:Nat->Nat}{k:Nat}:∀ {n:Nat},k<n->f k<=SU f n
 |0,hk=>absurd hk (Pq _)
 |n+1,hk=>by
  show f k<=SU f n+f n;by_cases e:k=n
  . subst e;omega
  . have:=FC (f:=f) (k:=k) (n:=n) (by omega);omega
def Fc(C A:Rows)(top p c i:Nat):Nat:=if top<=i then(g C i c).natAbs*(g A i p).natAbs else 0
structure Sc(C A:Rows)(N top p gm K:Nat):Prop where
 sum:∀c,gm*gm*SU (Fc C A top p c) N<=K
 all:∀i c,top<=i->i<N->(g C i c).natAbs<=K
theorem Sc.step{C A:Rows}{N w wA top p gm K k j:Nat}(hC:bH N w C)(hA:bH N wA A)(hk:k<N)(hj:j<N)(hkt:top<=k)(hjt:top<=j)(hjk:j≠k)(hj0:g A j p≠0)(hle:(g A j p).natAbs<=(g A k p).natAbs)(hgm:(g A k p).natAbs<=gm)(h:Sc C A N top p gm K):Sc (aK C j (-(qn (g A k p) (g A j p))) k) (aK A k (qn (g A k p) (g A j p)) j) N top p (g A j p).natAbs K:=by
 have r:=o5 (x:=g A k p) hj0;have side:=sN hj0 hle;have b0:0<(g A j p).natAbs:=by omega
 have gC:∀i c,g (aK C j (-(qn (g A k p) (g A j p))) k) i c=if i=j then g C j c- -(qn (g A k p) (g A j p))*g C k c else g C i c:=λ i c=>cP hC hj hk i c
 have gA:∀i c,g (aK A k (qn (g A k p) (g A j p)) j) i c=if i=k then g A k c-qn (g A k p) (g A j p)*g A j c else g A i c:=λ i c=>cP hA hk hj i c
 have sum:∀c,(g A j p).natAbs*(g A j p).natAbs*SU (Fc (aK C j (-(qn (g A k p) (g A j p))) k) (aK A k (qn (g A k p) (g A j p)) j) top p c) N<=K:=λ c=>by
  have k1:Fc (aK C j (-(qn (g A k p) (g A j p))) k) (aK A k (qn (g A k p) (g A j p)) j) top p c k=(g C k c).natAbs*(g A k p-qn (g A k p) (g A j p)*g A j p).natAbs:=by
   unfold Fc;rw[O_ hkt,gC,O7 (Pj hjk),gA,O_ rfl]
  have j1:Fc (aK C j (-(qn (g A k p) (g A j p))) k) (aK A k (qn (g A k p) (g A j p)) j) top p c j<=((g C j c).natAbs+(qn (g A k p) (g A j p)).natAbs*(g C k c).natAbs)*(g A j p).natAbs:=by
   unfold Fc;rw[O_ hjt,gC,O_ rfl,gA,O7 hjk];refine PN _ ?_;have h1:=Int.natAbs_sub_le (g C j c) (-(qn (g A k p) (g A j p))*g C k c);rw[Qm,Rm]at h1;exact h1
  have k0:Fc C A top p c k=(g C k c).natAbs*(g A k p).natAbs:=by unfold Fc;rw[O_ hkt]
  have j0:Fc C A top p c j=(g C j c).natAbs*(g A j p).natAbs:=by unfold Fc;rw[O_ hjt]
  have same:∀i,i≠j->i≠k->Fc (aK C j (-(qn (g A k p) (g A j p))) k) (aK A k (qn (g A k p) (g A j p)) j) top p c i=Fc C A top p c i:=λ i h1 h2=>by
   unfold Fc;rw[gC,O7 h1,gA,O7 h2]
  have main:=El (cg:=(g C k c).natAbs) (cs:=(g C j c).natAbs) b0 hle r side;have H:=h.sum c;generalize Fc (aK C j (-(qn (g A k p) (g A j p))) k) (aK A k (qn (g A k p) (g A j p)) j) top p c=f' at k1 j1 same;generalize Fc C A top p c=f at k0 j0 same H;have t1:=Dt (f:=λ i=>if i=j\/i=k then 0 else f i) (f':=f) hj hk hjk λ i h1 h2=>(O7 (by omega)).symm;have t2:=Dt (f:=λ i=>if i=j\/i=k then 0 else f i) (f':=f') hj hk hjk λ i h1 h2=>(same i h1 h2).trans (O7 (by omega)).symm;rw[O_ (.inl rfl),O_ (.inr rfl)]at t1 t2;generalize SU (λ i=>if i=j\/i=k then 0 else f i) N=R at t1 t2;have e1:SU f' N=R+(f' k+f' j):=by omega
  have e2:SU f N=R+(f k+f j):=by omega
  rw[e2,k0,j0]at H;rw[e1];refine Pe ?_ H;have bg:(g A j p).natAbs*(g A j p).natAbs<=gm*gm:=PY (Pe hle hgm) (Pe hle hgm);have ag:(g A k p).natAbs*(g A k p).natAbs<=gm*gm:=PY hgm hgm;rw[Sj _ R,Sj (gm*gm) R];refine SE (PN _ bg) ?_;refine Pe (P9 _ (SE (Td k1) j1)) (Pe main (PN _ ag))
 refine⟨sum,λ i c hi hN=>?_⟩;by_cases hij:i=j
 . rw[hij];refine Pe ?_ (sum c)
   have h1:Fc (aK C j (-(qn (g A k p) (g A j p))) k) (aK A k (qn (g A k p) (g A j p)) j) top p c j=(g (aK C j (-(qn (g A k p) (g A j p))) k) j c).natAbs*(g A j p).natAbs:=by
    unfold Fc;rw[O_ hjt,gA,O7 hjk]
   have h2:=FC (f:=Fc (aK C j (-(qn (g A k p) (g A j p))) k) (aK A k (qn (g A k p) (g A j p)) j) top p c) hj;rw[h1]at h2;refine Pe (Pe (Rj _ b0) h2) (SO _ (UL b0 b0))
 . rw[gC,O7 hij];exact h.all i c hi hN
structure Gb(A0:Rows)(N w top p K KC gm:Nat)(b0 b:B3):Prop where
 tn:Tn A0 b.A b.U b.C N w
 up:∀i,i<top->b.A.getD i []=b0.A.getD i []/\b.U.getD i []=b0.U.getD i []/\b.C.getD i []=b0.C.getD i []
 mx:∀i,top<=i->i<N->(g b.A i p).natAbs<=gm
 sA:Gz b.A b.A N top p gm K
 sU:Gz b.U b.A N top p gm K
 sC:Sc b.C b.A N top p gm KC
 zs:∀i c,top<=i->i<N->c<p->g b.A i c=0
 L0:b=b0\/∃j,top<=j/\j<N/\g b.A j p≠0
theorem Gb.step{A0:Rows}{N w top p K KC gm:Nat}{b0 b:B3}{L:List Nat}{k j:Nat}(G:Gb A0 N w top p K KC gm b0 b)(hL:jr b.A N top p (L++[j,k])):
 Gb A0 N w top p K KC (g b.A j p).natAbs b0 (mW b p k j)/\(g (mW b p k j).A k p).natAbs<(g b.A k p).natAbs/\(∀i,i≠k->g (mW b p k j).A i p=g b.A i p)/\top<=k/\k<N/\top<=j/\j<N/\j≠k/\g b.A j p≠0/\(qn (g b.A k p) (g b.A j p)).natAbs<=2*(g b.A k p).natAbs:=by
 obtain⟨hk1,hk2,hk3⟩:=(hL.mem k).mp (by simp);obtain⟨hj1,hj2,hj3⟩:=(hL.mem j).mp (by simp);have hord:=hL.ord;rw[List.pairwise_append]at hord;have o2:=(TM.mp hord.2.1).1 k (by simp);have hjk:j≠k:=by intro z;subst z;omega
 have hle:(g b.A j p).natAbs<=(g b.A k p).natAbs:=by omega
 have hgm:=G.mx k hk1 hk2
 have gk:g (mW b p k j).A k p=g b.A k p-qn (g b.A k p) (g b.A j p)*g b.A j p:=by
  show g (aK b.A k _ j) k p=_;rw[cP G.tn.isA hk2 hj2,O_ rfl]
 have gi:∀i,i≠k->g (mW b p k j).A i p=g b.A i p:=λ i hi=>by
  show g (aK b.A k _ j) i p=_;rw[cP G.tn.isA hk2 hj2,O7 hi]
 have hrest:=o5 (x:=g b.A k p) hj3;refine⟨⟨G.tn.take hk2 hj2 hjk,λ i hi=>?_,λ i h1 h2=>?_,G.sA.step G.tn.isA G.tn.isA hk2 hj2 hk1 hj1 hj3 hle hgm,G.sU.step G.tn.dX G.tn.isA hk2 hj2 hk1 hj1 hj3 hle hgm,G.sC.step G.tn.eN G.tn.isA hk2 hj2 hk1 hj1 hjk hj3 hle hgm,λ i c hi hN hc=>?_,.inr ⟨j,hj1,hj2,by rw[gi j hjk];exact hj3⟩⟩,?_,gi,hk1,hk2,hj1,hj2,hjk,hj3,?_⟩
 . obtain⟨a1,a2,a3⟩:=G.up i hi;refine⟨(g_ (by rw[G.tn.isA.len];exact hk2) (by omega)).trans a1,(g_ (by rw[G.tn.dX.len];exact hk2) (by omega)).trans a2,(g_ (by rw[G.tn.eN.len];exact hj2) (by omega)).trans a3⟩
 . by_cases h:i=k
   . rw[h,gk];omega
   . rw[gi i h];by_cases z:g b.A i p=0
     . rw[z];exact Po _
     . have m:=(hL.mem i).mpr ⟨h1,h2,z⟩;rcases PQ.mp m with y|y
       . have:=hord.2.2 i y j (by simp);omega
       . rcases Px.mp y with y|y
         . rw[y];exact O9 _
         . exact absurd (Ql.mp y) h
 . show g (aK b.A k _ j) i c=0;rw[cP G.tn.isA hk2 hj2];by_cases h:i=k
   . rw[O_ h,G.zs k c hk1 hk2 hc,G.zs j c hj1 hj2 hc,Qc];rfl
   . rw[O7 h];exact G.zs i c hi hN hc
 . rw[gk];omega
 . have b1:1<=(g b.A j p).natAbs:=by omega
   have:=P9 (qn (g b.A k p) (g b.A j p)).natAbs b1;rcases sN hj3 hle with z|z<;>omega
theorem FU{f:Nat->Nat}{M:Nat}:∀ {n:Nat},(∀i,i<n->f i<=M)->SU f n<=n*M
 |0,_=>Po _
 |n+1,h=>by
  have h1:=FU (n:=n) λ i hi=>h i (P0 hi);have h2:=h n (PL n);rw[Tf];exact SE h1 h2
theorem Gb.start{A0:Rows}{N w top p e u v:Nat}{b:B3}{ld:Nat->Nat}(S:fE A0 N w b top p ld e u v):Gb A0 N w top p (2^(4*e)) (N*2^(4*e)) (2^e) b b:=by
 obtain⟨lA,lU,lC⟩:=S.lo
 have e4:2^e*(2^e*(2^e*2^e))=2^(4*e):=by
  rw[<-Q0,<-Q0,<-Q0];congr 1;omega
 have e1:2^e<=2^(4*e):=PX (by decide) (by omega)
 have gz:∀X:Rows,eR X N top (2^e)->Gz X b.A N top p (2^e) (2^(4*e)):=λ X h i c hi hN=>by
  have h1:=h i c hi hN;have h2:=lA i p hi hN;refine⟨?_,by omega⟩;rw[<-e4];exact PY h1 (P9 _ (PY h2 h2))
 refine⟨S.tn,λ _ _=>⟨rfl,rfl,rfl⟩,λ i hi hN=>lA i p hi hN,gz _ lA,gz _ lU,⟨λ c=>?_,λ i c hi hN=>?_⟩,S.zs,.inl rfl⟩
 . have h1:SU (Fc b.C b.A top p c) N<=N*(2^e*2^e):=FU λ i hi=>by
    unfold Fc;by_cases h:top<=i
    . rw[O_ h];exact PY (lC i c h hi) (lA i p h hi)
    . rw[O7 h];exact Po _
   refine Pe (P9 _ h1) ?_;rw[Q4,Qh,e4];exact O9 _
 . refine Pe (lC i c hi hN) (Pe e1 ?_);exact SO _ (by omega)
theorem Gb.low{A0:Rows}{N w top p e gm:Nat}{b0 b:B3}(G:Gb A0 N w top p (2^(4*e)) (N*2^(4*e)) gm b0 b)(hN:N<=16):eR b.A N top (2^(4*e+4))/\eR b.U N top (2^(4*e+4))/\eR b.C N top (2^(4*e+4)):=by
 have e4:2^(4*e+4)=16*2^(4*e):=by rw[Q0,Q_]
 rw[e4];refine⟨λ i c hi h=>?_,λ i c hi h=>?_,λ i c hi h=>?_⟩
 . have:=(G.sA i c hi h).2;omega
 . have:=(G.sU i c hi h).2;omega
 . exact Pe (G.sC.all i c hi h) (PN _ hN)
theorem Gb.set{A0:Rows}{N w top p K KC gm m r:Nat}{b0 b:B3}(G:Gb A0 N w top p K KC gm b0 b)(lw:eR b.A N top m/\eR b.U N top m/\eR b.C N top m)(hL:jr b.A N top p [r]):xl A0 N w top p m b0 (setB b p top r)/\top<=r/\r<N:=by
 obtain⟨hr1,hr2,hr3⟩:=(hL.mem r).mp (by simp);have ht:top<N:=by omega
 have z:∀i,top<=i->i<N->i≠r->g b.A i p=0:=λ i h1 h2 h3=>QH λ y=>h3 (by simpa using(hL.mem i).mpr ⟨h1,h2,y⟩);have swg:∀i c,g (a_ b.A top r) i c=g b.A (sw top r i) c:=λ i c=>hJ G.tn.isA ht hr2 i c;have gt:g (a_ b.A top r) top p=g b.A r p:=by rw[swg];unfold sw;rw[O_ rfl]
 have T1:=G.tn.FE ht hr2
 have z1:∀i,top<i->i<N->g (a_ b.A top r) i p=0:=λ i h1 h2=>by
  rw[swg];unfold sw;rw[O7 (by omega)];by_cases h:i=r
  . rw[O_ h];exact z top (O9 _) ht (by omega)
  . rw[O7 h];exact z i (by omega) h2 h
 have zs:∀i c,top<=i->i<N->c<p->g (a_ b.A top r) i c=0:=λ i c h1 h2 h3=>by
  rw[swg];refine G.zs _ c ?_ (oM ht hr2 h2) h3;unfold sw;split
  . exact hr1
  . split
    . exact O9 _
    . exact h1
 have up:∀i,i<top->(a_ b.A top r).getD i []=b0.A.getD i []/\(a_ b.U top r).getD i []=b0.U.getD i []/\(a_ b.C top r).getD i []=b0.C.getD i []:=λ i hi=>by
  obtain⟨a1,a2,a3⟩:=G.up i hi;exact⟨(p_ G.tn.isA ht hr2 hr1 hi).trans a1,(p_ G.tn.dX ht hr2 hr1 hi).trans a2,(p_ G.tn.eN ht hr2 hr1 hi).trans a3⟩
 have lo:=And.intro (qv G.tn.isA ht hr2 hr1 lw.1) (And.intro (qv G.tn.dX ht hr2 hr1 lw.2.1) (qv G.tn.eN ht hr2 hr1 lw.2.2));refine⟨?_,hr1,hr2⟩;unfold setB;by_cases hs:g (a_ b.A top r) top p<0
 . rw[O_ hs];refine⟨T1.neg ht,λ i hi=>?_,⟨wu T1.isA ht lo.1,wu T1.dX ht lo.2.1,wu T1.eN ht lo.2.2⟩,λ i c h1 h2 h3=>?_,?_,λ i h1 h2=>?_⟩
   . obtain⟨a1,a2,a3⟩:=up i hi;exact⟨(wY T1.isA ht hi).trans a1,(wY T1.dX ht hi).trans a2,(wY T1.eN ht hi).trans a3⟩
   . show g (e7 (a_ b.A top r) top) i c=0;rw[iz T1.isA ht];split
     . rw[zs top c (O9 _) ht h3];rfl
     . exact zs i c h1 h2 h3
   . show 0<g (e7 (a_ b.A top r) top) top p;rw[iz T1.isA ht,O_ rfl];omega
   . show g (e7 (a_ b.A top r) top) i p=0;rw[iz T1.isA ht,O7 (by omega)];exact z1 i h1 h2
 . rw[O7 hs];exact⟨T1,up,lo,zs,by show 0<g (a_ b.A top r) top p;rw[gt]at hs⊢;omega,z1⟩
theorem xl.MA{A0:Rows}{N w top p e u v e' u' v':Nat}{b0 b c:B3}{ld:Nat->Nat}(S:fE A0 N w b0 top p ld e u v)(s:xl A0 N w top p (2^e') b0 b)(ht:top<N)(I:jG A0 N w top p e' u v b top c)(hN:top<=8)
 (h1:u+e'+1<=u') (h2:u+v+4<=v') (h9:e'+1<=v'):fE A0 N w c (top+1) (p+1) (λ i=>if i=top then p else ld i) e' u' v':=by
 have hup:∀i q,i<top->g b.A i q=g b0.A i q:=λ i q hi=>by unfold g;rw[(s.up i hi).1]
 have hA:∀i q,top<=i->g c.A i q=g b.A i q:=λ i q hi=>by unfold g;rw[(I.rA i hi).1]
 have hU:∀i q,top<=i->g c.U i q=g b.U i q:=λ i q hi=>by unfold g;rw[(I.rA i hi).2]
 have hC:∀i q,i≠top->g c.C i q=g b.C i q:=λ i q hi=>by unfold g;rw[I.rC i hi]
 have le:∀ {a x:Nat},a<=2^x->x<=u'->a<=2^u':=λ h hx=>Pe h (PX (by decide) hx);refine⟨I.tn,ht,⟨λ i q hi hN=>?_,λ i q hi hN=>?_,λ i q hi hN=>?_⟩,λ i q hi=>?_,λ i q hi hN hq=>?_,λ i hi=>?_,λ i j hij hj=>?_,λ i j hij hj=>?_⟩
 . rw[hA i q (by omega)];exact s.lo.1 i q (by omega) hN
 . rw[hU i q (by omega)];exact s.lo.2.1 i q (by omega) hN
 . rw[hC i q (by omega)];exact s.lo.2.2 i q (by omega) hN
 . by_cases h:i=top
   . subst h;refine⟨?_,?_,?_⟩
     . rw[hA i q (O9 _)];exact le (s.lo.1 i q (O9 _) ht) (by omega)
     . rw[hU i q (O9 _)];exact le (s.lo.2.1 i q (O9 _) ht) (by omega)
     . have h3:=I.sC q;have h4:i*2^(u+v)<=2^(u+v+3):=by rw[Q0 _ _ 3,Q_];exact P9 _ (by omega)
       have h5:2^(u+v+3)*2<=2^v':=by rw[<-Sb];exact PX (by decide) h2
       have h6:2^e'*2<=2^v':=by rw[<-Sb];exact PX (by decide) h9
       omega
   . have hi':i<top:=by omega
     refine⟨le (I.sz i q hi').1 h1,le (I.sz i q hi').2 h1,?_⟩;rw[hC i q h];have:g b.C i q=g b0.C i q:=by unfold g;rw[(s.up i hi').2.2]
     rw[this];exact Pe (S.hi i q hi').2.2 (PX (by decide) (by omega))
 . rw[hA i q (by omega)];by_cases h:q=p
   . rw[h];exact s.z1 i (by omega) hN
   . exact s.zs i q (by omega) hN (by omega)
 . by_cases h:i=top
   . subst h;rw[O_ rfl];refine⟨PL p,?_,λ q hq=>?_⟩
     . rw[hA i p (O9 _)];exact s.tp
     . rw[hA i q (O9 _)];exact s.zs i q (O9 _) ht hq
   . have hi':i<top:=by omega
     rw[O7 h];obtain⟨a1,a2,a3⟩:=S.lead i hi';refine⟨P0 a1,?_,λ q hq=>?_⟩
     . rw[I.ah i _ hi' a1,hup i _ hi'];exact a2
     . rw[I.ah i _ hi' (Rz hq a1),hup i _ hi'];exact a3 q hq
 . by_cases h:j=top
   . rw[O_ h,O7 (by omega)];exact(S.lead i (by omega)).1
   . rw[O7 h,O7 (by omega)];exact S.mono i j hij (by omega)
 . by_cases h:j=top
   . subst h;rw[O_ rfl];exact I.rd i hij
   . have hj':j<top:=by omega
     rw[O7 h];have:=S.red i j hij hj';have hl:=(S.lead j hj').1;rw[I.ah i _ (by omega) hl,I.ah j _ hj' hl,hup i _ (by omega),hup j _ hj'];exact this
def Ey(e0:Nat):Nat->Nat
 |0=>e0
 |t+1=>4*Ey e0 t+4
def Uy(e0:Nat):Nat->Nat
 |0=>0
 |t+1=>Uy e0 t+Ey e0 (t+1)+1
def Cy(e0:Nat):Nat->Nat
 |0=>0
 |t+1=>Uy e0 t+Cy e0 t+Ey e0 (t+1)+4
def Ry(N w e0:Nat):Prop:=∀t,t<N->t<w->Ey e0 (t+1)<60000000/\Uy e0 t+Ey e0 (t+1)<=120000000/\Uy e0 t+Cy e0 t<=120000000
instance (N w e0:Nat):Decidable (Ry N w e0):=by
 unfold Ry;exact decidable_of_iff (∀t,t<N->t<w->(Ey e0 (t+1)<60000000/\Uy e0 t+Ey e0 (t+1)<=120000000/\Uy e0 t+Cy e0 t<=120000000)) Iff.rfl
theorem aJ.le{X Y:Rows}{n m w:Nat}{ld ld':Nat->Nat}(sX:aJ X n w ld)(sY:aJ Y m w ld')(h:∀k,k<n->aP Y m w (g X k)):∀i j,i<n->j<m->ld' j=ld i->i<=j
 |0,_,_,_,_=>Po _
 |i+1,j,hi,hj,e=>by
  obtain⟨j0,h0,e0,_⟩:=sX.sees sY h i (by omega);have:=aJ.le sX sY h i j0 (by omega) h0 e0;have:=sY.lt h0 hj (by rw[e0,e];exact sX.mono i (i+1) (PL _) hi);omega
theorem aJ.ge{X Y:Rows}{n m w:Nat}{ld ld':Nat->Nat}(sX:aJ X n w ld)(sY:aJ Y m w ld')(h:∀k,k<n->aP Y m w (g X k)):∀t i j,i+t+1=n->j<m->ld' j=ld i->j+t+1<=m
 |0,_,j,_,hj,_=>hj
 |t+1,i,j,hi,hj,e=>by
  obtain⟨j1,h1,e1,_⟩:=sX.sees sY h (i+1) (by omega);have:=aJ.ge sX sY h t (i+1) j1 (by omega) h1 e1;have:=sY.lt hj h1 (by rw[e1,e];exact sX.mono i (i+1) (PL _) (by omega));omega
theorem aJ.under{X Y:Rows}{n m w:Nat}{ld ld':Nat->Nat}(sX:aJ X n w ld)(sY:aJ Y m w ld')(h:∀k,k<n->aP Y m w (g X k)):n<=m:=by
 cases n with
 |zero=>exact Po _
 |succ n=>
  obtain⟨j,hj,e,_⟩:=sX.sees sY h n (PL _);have:=sX.le sY h n j (PL _) hj e;omega
theorem aJ.alike{X Y:Rows}{m w:Nat}{ld ld':Nat->Nat}(sX:aJ X m w ld)(sY:aJ Y m w ld')(h:∀k,k<m->aP Y m w (g X k))(i:Nat)(hi:i<m):ld' i=ld i/\g Y i (ld i)∣g X i (ld i):=by
 obtain⟨j,hj,e,d⟩:=sX.sees sY h i hi;have h1:=sX.le sY h i j hi hj e;have h2:=sX.ge sY h (m-1-i) i j (by omega) hj e;have:j=i:=by omega
 subst this;exact⟨e,d⟩
theorem aJ.zero{F:Rows}{m w:Nat}{ld:Nat->Nat}(s:aJ F m w ld){z:Nat->Int}(h:∀c,c<w->(S m λ k=>z k*g F k c)=0)(k:Nat)(hk:k<m):z k=0:=
 s.gone (v:=λ _=>0) (q:=w) (λ c hc=>(h c hc).symm) (λ _ _=>rfl) k hk (s.lead k hk).1
theorem aJ.AY{F:Rows}{m w:Nat}{ld:Nat->Nat}(s:aJ F m w ld){x y:Nat->Int}(h:∀c,c<w->(S m λ k=>x k*g F k c)=S m λ k=>y k*g F k c)(k:Nat)(hk:k<m):x k=y k:=by
 have:=s.zero (z:=λ k=>x k-y k) (λ c hc=>by
  have e:(S m λ k=>(x k-y k)*g F k c)=(S m λ k=>x k*g F k c)-S m λ k=>y k*g F k c:=by
   have q:=lP m 1 (-1) (λ k=>x k*g F k c) λ k=>y k*g F k c;rw[Rp,R7,Rp]at q;rw[Rx,<-q];exact ay λ i _=>by rw[UJ];omega
  rw[e,h c hc];omega) k hk
 omega
structure sd(T:Fn)(m:Nat):Prop where
 lo:∀i j,i<m->j<m->i<j->T i j=0
 pos:∀i,i<m->0<T i i
theorem DX{m:Nat}{M:Fn}{r:Nat}(hr:r<m)(h:∀c,c<m->M r c=0):D m M=0:=by
 have:=Am (M:=M) (P:=M) (Q:=M) (a:=0) (b:=0) hr (λ c hc=>by rw[h c hc];omega) λ _ _ _ _ _=>⟨rfl,rfl⟩
 omega
theorem qY{f h:Nat->Int}:∀ {n:Nat},(∀i,i<n->f i=h i)->Pr n f=Pr n h
 |0,_=>rfl
 |n+1,e=>by
  show Pr n f*f n=Pr n h*h n;rw[qY λ i hi=>e i (by omega),e n (PL n)]
theorem sd.index{F P G:Rows}{T:Fn}{m k w:Nat}{ld ld':Nat->Nat}(t:sd T m)(sF:aJ F m w ld)(sG:aJ G k w ld')(hP:∀i c,i<m->c<w->g P i c=S m λ j=>T i j*g F j c)(same:bG P m G k w):
 k=m/\(∀i,i<m->aP F m w (g G i))/\(∀i,i<m->ld' i=ld i/\g F i (ld i)∣g G i (ld i))/\(Pr m λ i=>g G i (ld i)/g F i (ld i))=Pr m λ i=>T i i:=by
 have hPF:∀i,i<m->aP F m w (g P i):=λ i hi=>⟨T i,λ c hc=>hP i c hi hc⟩
 have hGF:∀j,j<k->aP F m w (g G j):=λ j hj=>aP.trans hPF (same.of j hj);have hkm:=sG.under sF hGF
 have hV:∀j,∃v:Nat->Int,j<k->∀c,c<w->g G j c=S m λ i=>v i*g F i c:=λ j=>by
  by_cases h:j<k
  . obtain⟨v,hv⟩:=hGF j h;exact⟨v,λ _=>hv⟩
  . exact⟨λ _=>0,λ z=>absurd z h⟩
 have hB:∀i,∃b:Nat->Int,i<m->∀c,c<w->g P i c=S k λ j=>b j*g G j c:=λ i=>by
  by_cases h:i<m
  . obtain⟨v,hv⟩:=same.to i h;exact⟨v,λ _=>hv⟩
  . exact⟨λ _=>0,λ z=>absurd z h⟩
 have hA:∀j,∃a:Nat->Int,j<k->∀c,c<w->g G j c=S m λ i=>a i*g P i c:=λ j=>by
  by_cases h:j<k
  . obtain⟨v,hv⟩:=same.of j h;exact⟨v,λ _=>hv⟩
  . exact⟨λ _=>0,λ z=>absurd z h⟩
 obtain⟨V,hV⟩:=SG hV;obtain⟨B,hB⟩:=SG hB;obtain⟨A,hA⟩:=SG hA;have T0:D m T=Pr m λ i=>T i i:=AE t.lo;have Tp:0<D m T:=by rw[T0];exact ig t.pos
 have eT:∀i j,i<m->j<m->T i j=S m λ l=>(if l<k then B i l else 0)*(if l<k then V l j else 0):=λ i j hi hj=>by
  rw[u5 hkm λ l h1 _=>by rw[O7 (by omega)];omega]
  have:=sF.AY (x:=T i) (y:=λ q=>S k λ l=>B i l*V l q) (λ c hc=>by
   rw[<-hP i c hi hc,hB i hi c hc]
   rw[ay (f:=λ l=>B i l*g G l c) (g:=λ l=>S m λ q=>B i l*V l q*g F q c) λ l hl=>by
    rw[hV l hl c hc,<-dq];exact ay λ q _=>by rw[Qw]]
   rw[jd];exact ay λ q _=>by rw[kh]) j hj
  rw[this];exact ay λ l hl=>by rw[O_ hl,O_ hl]
 have eD:D m T=D m (λ i l=>if l<k then B i l else 0)*D m λ l j=>if l<k then V l j else 0:=by
  rw[<-A_];exact bZ λ r c hr hc=>eT r c hr hc
 have hk:k=m:=by
  rcases QX k m with h|h
  . rw[DX (M:=λ l j=>if l<k then V l j else 0) h λ c _=>O7 (QC _)]at eD;omega
  . omega
 subst hk;have al:=λ i hi=>sG.alike sF hGF i hi;have eV:D k (λ l j=>if l<k then V l j else 0)=D k V:=bZ λ r c hr _=>O_ hr;have eBB:D k (λ i l=>if l<k then B i l else 0)=D k B:=bZ λ r c _ hc=>O_ hc;rw[eV,eBB]at eD
 have eVA:D k V=D k A*D k T:=by
  rw[<-A_];refine bZ λ r c hr hc=>?_;refine sF.AY (x:=V r) (y:=λ q=>S k λ l=>A r l*T l q) (λ q hq=>?_) c hc;rw[<-hV r hr q hq,hA r hr q hq]
  rw[ay (f:=λ l=>A r l*g P l q) (g:=λ l=>S k λ j=>A r l*T l j*g F j q) λ l hl=>by
   rw[hP l q hl hq,<-dq];exact ay λ j _=>by rw[Qw]]
  rw[jd];exact ay λ j _=>by rw[kh]
 have up:∀r c,r<k->c<k->c<r->V r c=0:=λ r c hr hc hcr=>by
  obtain⟨l1,l2,l3⟩:=sG.lead r hr;refine sF.gone (v:=g G r) (q:=ld' r) (hV r hr) l3 c hc ?_;rw[<-(al r hr).1];exact sF.mono c r hcr hr
 have dg:∀i,i<k->g G i (ld i)=V i i*g F i (ld i):=λ i hi=>by
  refine sF.M9 (v:=g G i) (hV i hi) hi λ l hl=>?_;obtain⟨_,_,l3⟩:=sG.lead i hi;refine l3 _ ?_;rw[<-(al i hi).1];exact sF.mono l i hl hi
 have vp:∀i,i<k->0<V i i:=λ i hi=>by
  have h1:=(sG.lead i hi).2.1;rw[<-(al i hi).1,dg i hi]at h1;have h2:=(sF.lead i hi).2.1;exact SH h1 h2
 have Vp:0<D k V:=by rw[EE up];exact ig vp
 have hAp:0<D k A:=by rw[eVA]at Vp;exact SH Vp Tp
 have hBp:0<D k B:=by rw[eD]at Tp;exact SH Tp Vp
 have hAB:D k B*D k A=1:=by
  have:D k T*1=D k T*(D k B*D k A):=by
   rw[RL];conv=>lhs;rw[eD,eVA]
   rw[<-Qw,QS]
  exact(Int.eq_of_mul_eq_mul_left (Q6 Tp) this).symm
 have hA1:D k A=1:=by
  have:D k A∣1:=⟨D k B,by rw[QS];exact hAB.symm⟩
  exact Int.eq_one_of_dvd_one (Ra hAp) this
 refine⟨rfl,hGF,λ i hi=>⟨(al i hi).1.symm,by rw[dg i hi];exact⟨V i i,QS _ _⟩⟩,?_⟩;rw[hA1,Rp]at eVA;rw[<-T0,<-eVA,EE up];refine qY λ i hi=>?_;rw[dg i hi,Int.mul_ediv_cancel _ (Q6 (sF.lead i hi).2.1)]
theorem sd.unlike{F P:Rows}{T:Fn}{m w:Nat}{ld:Nat->Nat}(t:sd T m)(sF:aJ F m w ld)(hP:∀i c,i<m->c<w->g P i c=S m λ j=>T i j*g F j c){u v:Nat->Int}(hu:∀i,i<m->0<=u i/\u i<T i i)(hv:∀i,i<m->0<=v i/\v i<T i i)
 (h:aP P m w λ c=>(S m λ i=>u i*g F i c)-S m λ i=>v i*g F i c) (i:Nat) (hi:i<m):u i=v i:=by
 obtain⟨y,hy⟩:=h
 have co:∀q,q<m->u q-v q=S m λ j=>y j*T j q:=λ q hq=>by
  refine sF.AY (x:=λ q=>u q-v q) (y:=λ q=>S m λ j=>y j*T j q) (λ c hc=>?_) q hq
  have e1:(S m λ k=>(u k-v k)*g F k c)=(S m λ k=>u k*g F k c)-S m λ k=>v k*g F k c:=by
   have q:=lP m 1 (-1) (λ k=>u k*g F k c) λ k=>v k*g F k c;rw[Rp,R7,Rp]at q;rw[Rx,<-q];exact ay λ i _=>by rw[UJ];omega
  rw[e1];have:=hy c hc;simp only at this;rw[this]
  rw[ay (f:=λ l=>y l*g P l c) (g:=λ l=>S m λ j=>y l*T l j*g F j c) λ l hl=>by
   rw[hP l c hl hc,<-dq];exact ay λ j _=>by rw[Qw]]
  rw[jd];exact ay λ j _=>by rw[kh]
 have y0:∀n i,i<m->m<=i+n+1->y i=0:=λ n=>by
  induction n with
  |zero=>
   intro i hi hn;have:=co i hi;rw[fM hi λ j hj hne=>by rw[t.lo j i hj hi (by omega),Qc]]at this;exact small_mul (t.pos i hi) (hu i hi) (hv i hi) this
  |succ n ih=>
   intro i hi hn;have:=co i hi
   rw[fM hi λ j hj hne=>by
    rcases RY hne with h|h
    . rw[t.lo j i hj hi h,Qc]
    . rw[ih j hj (by omega),Qv]]at this
   exact small_mul (t.pos i hi) (hu i hi) (hv i hi) this
 have:=co i hi;rw[gF λ j hj=>by rw[y0 m j hj (by omega),Qv]]at this;omega
where
 small_mul {a b y d:Int} (hd:0<d) (ha:0<=a/\a<d) (hb:0<=b/\b<d) (h:a-b=y*d):y=0:=by
  rcases Int.lt_trichotomy y 0 with q|q|q
  . have:y*d<= -1*d:=RZ (by omega) (by omega);omega
  . exact q
  . have:1*d<=y*d:=RZ (by omega) (by omega);omega
def bW(d:Nat->Nat):Nat->List (List Int)
 |0=>[[]]
 |i+1=>(List.range (d i)).flatMap λ(x:Nat)=>(bW d i).map λ u=>u++[((x:Nat):Int)]
theorem rE{d:Nat->Nat}:∀ {i:Nat} {u:List Int},u∈bW d i->u.length=i/\∀j,j<i->0<=u.getD j 0/\u.getD j 0<d j
 |0,u,h=>by
  have:u=[]:=by simpa[bW]using h
  subst this;exact⟨rfl,λ j hj=>absurd hj (Pq _)⟩
 |i+1,u,h=>by
  unfold bW at h;rw[List.mem_flatMap]at h;obtain⟨x,hx,h⟩:=h;obtain⟨v,hv,rfl⟩:=Qa.mp h;obtain⟨l1,l2⟩:=rE hv;refine⟨by rw[Py,l1];rfl,λ j hj=>?_⟩;rw[Pc];by_cases q:j<i
  . rw[Pd (by omega),<-Pc];exact l2 j q
  . have:j=i:=by omega
    subst this;rw[PH (by omega),l1,QM];have:=QD.mp hx;simp;omega
theorem Fq{d:Nat->Nat}:∀i:Nat,(bW d i).Nodup
 |0=>by unfold bW;simp
 |i+1=>by
  unfold bW;refine List.pairwise_flatMap.mpr ⟨λ x _=>?_,?_⟩
  . refine RI.mpr (List.Pairwise.imp (λ h z=>h ?_) (Fq i));exact(List.append_inj' z rfl).1
  . refine List.Pairwise.imp (λ h a ha b hb z=>h ?_) (List.nodup_range (n:=d i));obtain⟨u,_,rfl⟩:=Qa.mp ha;obtain⟨v,_,rfl⟩:=Qa.mp hb;have:=(List.append_inj' z rfl).2;rw[RX]at this;exact Int.ofNat.inj this.1
theorem Dn{d:Nat->Nat}:∀i:Nat,((bW d i).length:Int)=Pr i λ j=>(d j:Int)
 |0=>rfl
 |i+1=>by
  unfold bW;rw[List.length_flatMap];show _=Pr i (λ j=>(d j:Int))*(d i:Int);rw[<-Dn i]
  have e:(List.map (λ(a:Nat)=>((bW d i).map λ u=>u++[((a:Nat):Int)]).length) (List.range (d i)))=List.replicate (d i) (bW d i).length:=by
   rw[Sd]
   exact⟨by simp,λ b hb=>by
    obtain⟨x,_,rfl⟩:=Qa.mp hb;rw[O8]⟩
  rw[e,UM,Int.natCast_mul,QS]
theorem rB{x:Int}:∀(u:Row) (A:Rows) (acc:Row),u.length<A.length->bo (u++[x]) A acc=cK (bo u A acc) x (A.getD u.length [])
 | [],r::A,acc,_=>by unfold bo;unfold bo;rfl
 |_,[],_,h=>absurd h (Pq _)
 |a::u,r::A,acc,h=>by
  show bo (u++[x]) A (cK acc a r)=cK (bo u A (cK acc a r)) x (A.getD u.length []);exact rB u A _ (R8 h)
theorem sd.rests{F P G:Rows}{T:Fn}{m w:Nat}{ld:Nat->Nat}{d:Nat->Nat}(t:sd T m)(hF:bH m w F)(sF:aJ F m w ld)(hG:bH m w G)(sG:aJ G m w (a9 G))(hP:∀i c,i<m->c<w->g P i c=S m λ j=>T i j*g F j c)(same:bG P m G m w)(hd:∀i,i<m->(d i:Int)=T i i):
 ((bW d m).map λ u=>cm G (bo u F (List.replicate w 0)) m).Nodup:=by
 refine RI.mpr (List.Pairwise.imp_of_mem (λ{u v} hu hv hne z=>hne ?_) (Fq m));obtain⟨lu,bu⟩:=rE hu;obtain⟨lv,bv⟩:=rE hv;have len:∀x:Row,(bo x F (List.replicate w 0)).length=w:=λ x=>kI (by simp) hF.ff
 have at_:∀(x:Row) (c:Nat),x.length=m->(bo x F (List.replicate w 0)).getD c 0=S m λ i=>x.getD i 0*g F i c:=λ x c hx=>by
  rw[qH (n:=w) c (by simp) hF.ff (by rw[hF.len];exact hx),bY,Su,hF.len]
 have fu:=o9 hG (len u) sG (O9 m);have fv:=o9 hG (len v) sG (O9 m);have hL:=lY.two fu fv λ c _=>by rw[z]
 have hL2:=aP.trans same.of hL;have:=t.unlike sF hP (u:=λ i=>u.getD i 0) (v:=λ i=>v.getD i 0) (λ i hi=>by rw[<-hd i hi];exact bu i hi) (λ i hi=>by rw[<-hd i hi];exact bv i hi) (hL2.eq λ c hc=>by rw[at_ u c lu,at_ v c lv]);refine Ul (by omega) λ i h1 h2=>?_;have q:=this i (by omega);simp only[aO h1,aO h2]at q;exact q
end Mx
namespace Prog
open PySem L2 L3
open PySem.Spec hiding items?
open PyProof.Rows hiding St
theorem eh{i j:Int}(h1: -(2^64)<i)(h2:i<2^64):IntMulOk i j:= .of_left (intBits_le_64 h1 h2)
theorem sP{i j:Int}(h1: -(2^64)<j)(h2:j<2^64):IntMulOk i j:= .of_right (intBits_le_64 h1 h2)
def isInt:D->Bool
 | .int _=>true
 |_=>false
abbrev aj(r:List Int):List D:=r.map D.int
abbrev bI(r:List Int):D:= .tup (aj r)
abbrev aW(r:List Int):D:= .lst (aj r)
abbrev a6(A:List (List Int)):D:= .tup (A.map bI)
abbrev jP(A:List (List Int)):D:= .lst (A.map aW)
def bK(st:ae):List D->List (List Int)->Prop
 | [],[]=>True
 |d::ds,r::rs=>items? st d=some (aj r)/\bK st ds rs
 |_,_=>False
structure eQ(st:ae)(d:D)(A:List (List Int)):Prop where
 ex:∃ds,items? st d=some ds/\bK st ds A
theorem bK.len{st:ae}:∀ {ds:List D} {A:List (List Int)},bK st ds A->ds.length=A.length
 | [],[],_=>rfl
 |_::_,_::_,h=>by simp[bK.len h.2]
theorem bK.tup{st:ae}:∀ {A:List (List Int)},bK st (A.map bI) A
 | []=>trivial
 |_::_=>⟨rfl,bK.tup⟩
theorem bK.lst{st:ae}:∀ {A:List (List Int)},bK st (A.map aW) A
 | []=>trivial
 |_::_=>⟨rfl,bK.lst⟩
theorem bK.get{st:ae}:∀ {ds:List D} {A:List (List Int)} {i:Nat} {d:D},bK st ds A->ds[i]?=some d->∃r,A[i]?=some r/\items? st d=some (aj r)
 |_::_,r::_,0,_,h,e=>by simp at e;subst e;exact⟨r,rfl,h.1⟩
 |_::_,_::_,i+1,d,h,e=>by
  obtain⟨r,e1,e2⟩:=bK.get (i:=i) (d:=d) h.2 (by simpa using e);exact⟨r,by simpa using e1,e2⟩
theorem lS{st:ae}{A:List (List Int)}:eQ st (a6 A) A:=⟨_,rfl,bK.tup⟩
theorem HE{st:ae}{A:List (List Int)}:eQ st (jP A) A:=⟨_,rfl,bK.lst⟩
structure Ext(st st':ae):Prop where
 len:st.length<=st'.length
 same:∀m,m<st.length->st'[m]?=st[m]?
theorem Ext.refl{st:ae}:Ext st st:=⟨O9 _,λ _ _=>rfl⟩
theorem Ext.trans{st st1 st2:ae}(a:Ext st st1)(b:Ext st1 st2):Ext st st2:=⟨Pe a.len b.len,λ m h=>(b.same m (Pu h a.len)).trans (a.same m h)⟩
theorem Ext.push{st:ae}{c:List Cell}:Ext st (st++c):=⟨by simp,λ m h=>Pd h⟩
theorem Ext.set{st:ae}{n:Nat}{c:Cell}{st0:ae}(a:Ext st0 st)(h:st0.length<=n):Ext st0 (st.set n c):=⟨by rw[Pl];exact a.len,λ m hm=>by rw[Pb (by omega)];exact a.same m hm⟩
theorem Ext.items{st st':ae}{d:D}{xs:List D}(x:Ext st st')(e:items? st d=some xs):items? st' d=some xs:=by
 cases d with
 |ref n=>
  unfold items? at e⊢;simp only at e⊢;cases q:st[n]? with
  |none=>rw[q]at e;cases e
  |some c=>
   have hn:=(O6.mp q).1;rw[x.same n hn];exact e
 |_=>exact e
theorem dH{r:List Int}{k:Nat}(h:k<r.length):cT (aj r) (k:Int)=some (.int (r.getD k 0)):=by
 refine fC ?_;rw[PD,Pk h,Mx.aO h];rfl
theorem getD_mem{r:List Int}{k:Nat}(h:k<r.length):r.getD k 0∈r:=by rw[Mx.aO h];exact Q8 _
theorem ints_app{r:List Int}{x:Int}:aj r++[D.int x]=aj (r++[x]):=by simp[aj]
theorem Ei{A:List (List Int)}{r:List Int}:A.map bI++[bI r]=(A++[r]).map bI:=by simp
theorem w_{r s:List Int}{d:D}(h:d∈eL (aj r) (aj s)):∃a b,a∈r/\b∈s/\d= .tup [.int a,.int b]:=by
 obtain⟨n,hn,e⟩:=PK.mp h;have e':(eL (aj r) (aj s))[n]?=some d:=by rw[Pk hn,e]
 obtain⟨x,y,ex,ey,rfl⟩:=qx e';rw[PD]at ex ey;cases q1:r[n]? with
 |none=>rw[q1]at ex;cases ex
 |some a=>
  cases q2:s[n]? with
  |none=>rw[q2]at ey;cases ey
  |some b=>
   rw[q1]at ex;rw[q2]at ey;cases ex;cases ey;exact⟨a,b,PM q1,PM q2,rfl⟩
theorem qr(n:Nat):(List.replicate n [D.int 0]).flatten=aj (List.replicate n 0):=by
 induction n with
 |zero=>rfl
 |succ n ih=>rw[QU,Rh,ih];rfl
theorem ud:∀r:List Int,(aj r).map (λ x=>match x with| .int i=>i|_=>0)=r
 | []=>rfl
 |a::r=>by rw[aj,Qj,Qj,ud r]
theorem D1{d:D}{ds:List D}:cT (d::ds) 0=some d:=fC (j:=0) rfl
def intsOf(st:ae)(d:D):List Int:=match items? st d with
 |some xs=>xs.map λ x=>match x with| .int i=>i|_=>0
 |none=>[]
theorem uK{st:ae}{d:D}{r:List Int}(h:items? st d=some (aj r)):intsOf st d=r:=by
 unfold intsOf;rw[h];exact ud r
theorem Dd{x y:D}{xs ys:List D}:eL (x::xs) (y::ys)= .tup [x,y]::eL xs ys:=rfl
def aw:Addr:=137
abbrev dz(b:Bool):Cell:=Cell.tab 117 ⟨61,32,61,66⟩ "Bench.live_rows.<locals>.<lambda>" b
abbrev KZ:List (Addr×Pos×Str):=[(117,⟨61,32,61,66⟩,"Bench.live_rows.<locals>.<lambda>")]
def kR:bR:=λ ds st K=>∃(d:D) (A:List (List Int)),ds=[d]/\eQ st d A/\A.length<=1000/\K (a6 A) st
def uy:List Str:=["rows"]
def CL:DS:=(bh (ba du (ab (cy (cY (aa 0)) [none] (aV 0) bM (ba du (ab (aa 0) af))) af)))
theorem jL{tg:dJ}{te:DE}{ok:ae->Prop}{σc:bf}{st:ae}{K:List D->ae->Prop}{ds:List D}{A:List (List Int)}(f:List Int->D)(aC:ok st)(hr:bK st ds A)(hx:∀d r,r∈A->items? st d=some (aj r)->∀K',K' (f r) st->∃σ2,tg d σc=some σ2/\te σ2 st K')(k:K (A.map f) st):cp tg bM te ok σc ds [] st K:=by
 refine cX (λ rest acc st'=>∃(A1 A2:List (List Int)),st=st'/\A1++A2=A/\bK st rest A2/\acc=A1.map f) ?_ ?_ _ _ _ ⟨[],A,rfl,rfl,hr,rfl⟩
 . rintro acc st' ⟨A1,A2,rfl,he,h,rfl⟩;match A2,h with
   | [],_=>
     rw[QO]at he;subst he;exact⟨aC,k⟩
 . rintro d rest acc st' ⟨A1,A2,rfl,he,h,rfl⟩ next
   match A2,h with
   |r::A2,h=>
    obtain⟨σ2,e2,q⟩:=hx d r (by rw[<-he];simp) h.1 (λ y st2=>cp tg bM te ok σc rest (A1.map f++[y]) st2 K) (next _ _ ⟨A1++[r],A2,rfl,by rw[<-he];simp,h.2,by simp⟩);exact⟨aC,σ2,e2,q⟩
abbrev O4(S:bR)(n:Nat)(P:DS)(N:List Str):Prop:=∀ds st K,S ds st K->ds.length=n/\P {nx:=λ _ st'=>K .aq st',rt:=K} (aS N ds) st
theorem AF:O4 kR 1 CL uy:=by
 rintro ds st K ⟨d,A,rfl,⟨da,hd,ra⟩,hl,k⟩;refine⟨rfl,?_⟩;refine oh hd λ ok aC=>⟨bU (by rw[ra.len];exact hl),?_⟩
 refine jL bI aC ra (λ e r hr he K' q=>⟨_,rfl,dc he q⟩) ?_;exact dc rfl k
def iJ:bR:=λ ds st K=>∃x y t r s,ds=[x,.int t,y]/\items? st x=some (aj r)/\items? st y=some (aj s)/\r.length<=1000/\(∀b∈s,IntMulOk t b)/\K (aW (Mx.cK r t s)) st
def zq:List Str:=["row","times","other"]
def GP:DS:=(bh (cy (qk (ab (aa 0) (ab (aa 2) af))) [none,none,some 1] (fO 0 1) bM (ai ck (aa 0) (ai cJ (aa 2) (aa 1)))))
theorem nV{t:Int}:∀(r s:List Int),(eL (aj r) (aj s)).map (λ d=>match d with| .tup [.int a,.int b]=> .int (a+t*b)|_=> .aq)=aj (Mx.cK r t s)
 | [],_=>rfl
 |_::_,[]=>rfl
 |a::r,b::s=>by
  have:=nV (t:=t) r s;unfold eL Mx.cK at this⊢;simp only[aj,Qj,List.zip_cons_cons,List.zipWith_cons_cons]at this⊢;rw[this]
theorem DY:O4 iJ 3 GP zq:=by
 rintro ds st K ⟨x,y,t,r,s,rfl,hx,hy,hl,hm,k⟩;refine⟨rfl,?_⟩;refine oo hx hy λ ok aC=>⟨bU (by rw[qE];simp;omega),?_⟩
 refine comp_map (g:=λ d=>match d with| .tup [.int a,.int b]=> .int (a+t*b)|_=> .aq) (aC st hx hy) _ (λ d hd K' q=>?_) ?_
 . obtain⟨a,b,ha,hb,rfl⟩:=w_ hd;exact⟨_,rfl,dG (hm b hb) (cN q)⟩
 . rw[nV];exact k
def qp:bR:=λ ds st K=>∃(x y:D) (n:Nat) (ws:List Int) (A:List (List Int)),ds=[x,y,.int n]/\items? st x=some (aj ws)/\eQ st y A/\(∀r∈A,r.length=n)/\n<=1000/\(∀w∈ws,∀r∈A,∀b∈r,IntMulOk w b)/\K (bI (Mx.bo ws A (List.replicate n 0))) st
def vW:List Str:=["weights","rows","wide","total","weight","row"]
def D9:DS:=(az (aR 3 (ai cJ (lB (ab (dC (.int 0)) af)) (aa 2)))
 (az (fy (qk (ab (aa 0) (ab (aa 1) af))) (fO 4 5) (aR 3 (av iJ (ab (aa 3) (ab (aa 4) (ab (aa 5) af))))))
 (bh (ba du (ab (aa 3) af)))))
theorem Dx:O4 qp 3 D9 vW:=by
 rintro ds st K ⟨x,y,n,ws,A,rfl,hx,⟨dr,hy,hr⟩,hw,hn,hm,k⟩;refine⟨rfl,?_⟩;refine OG (Pz rfl) (y9 ⟨by omega,by omega,bU (by simp;omega)⟩ ?_);rw[Pp,qr];refine oo hx hy λ ok aC=>?_
 refine gq (λ rest σ st'=>∃(v4 v5:Option D) (ws':List Int) (ds':List D) (A':List (List Int)) (acc:List Int),st=st'/\rest=eL (aj ws') ds'/\bK st ds' A'/\σ=[some x,some y,some (.int n),some (aW acc),v4,v5]/\acc.length=n/\(∀r∈A',r∈A)/\(∀w∈ws',w∈ws)/\Mx.bo ws' A' acc=Mx.bo ws A (List.replicate n 0)) ?_ ?_ _ _ _
  ⟨none,none,ws,dr,A,List.replicate n 0,rfl,rfl,hr,rfl,by simp,λ _ h=>h,λ _ h=>h,rfl⟩
 . rintro σ st1 ⟨v4,v5,ws',ds',A',acc,rfl,he,hr',rfl,hl,_,_,hs⟩;refine⟨aC _ hx hy,dc rfl ?_⟩
   have:Mx.bo ws' A' acc=acc:=by
    match ws',ds',A',hr',he with
    | [],_,_,_,_=>unfold Mx.bo;rfl
    |_::_,[],[],_,_=>unfold Mx.bo;rfl
    |_::_,_::_,_::_,_,he=>cases he
   rw[this]at hs;rw[hs];exact k
 . rintro d rest σ st1 ⟨v4,v5,ws',ds',A',acc,rfl,he,hr',rfl,hl,ha,hw',hs⟩ next
   match ws',ds',A',hr',he with
   |w::ws',e::ds',r::A',hr',he=>
    simp only[aj,Qj,Dd,RX]at he;obtain⟨rfl,rfl⟩:=he;refine⟨aC _ hx hy,_,rfl,?_⟩;have hrl:=hw r (ha r Pw);refine⟨_,_,_,acc,r,rfl,rfl,hr'.1,by omega,λ b hb=>hm w (hw' w Pw) r (ha r Pw) b hb,?_⟩;refine next _ _ ⟨_,_,ws',ds',A',Mx.cK acc w r,rfl,rfl,hr'.2,rfl,by rw[Mx.gW (by omega)];exact hl,λ q hq=>ha q (Pn _ hq),λ q hq=>hw' q (Pn _ hq),?_⟩
    rw[<-hs];rfl
   | [],_,_,_,he=>cases he
   |_::_,[],[],_,he=>cases he
def hO:bR:=λ ds st K=>∃(x y:D) (n:Nat) (A B:List (List Int)),ds=[x,y]/\eQ st x A/\eQ st y B/\B≠ []/\(∀r∈B,r.length=n)/\n<=1000/\A.length<=1000/\(∀w∈A,∀c∈w,∀r∈B,∀b∈r,IntMulOk c b)/\K (a6 (Mx.mulM A B n)) st
def tV:List Str:=["one","other","wide"]
def CD:DS:=(az (aR 2 (ba cR (ab (ai aH (aa 1) (dC (.int 0))) af)))
 (bh (ba du (ab (cy (cY (aa 0)) [none,some 1,some 2] (aV 0) bM (av qp (ab (aa 0) (ab (aa 1) (ab (aa 2) af))))) af))))
theorem wc{st:ae}{n:Nat}{B:List (List Int)}{f:D->D}:∀ {ds:List D} {A:List (List Int)},bK st ds A->(∀d r,items? st d=some (aj r)->f d=bI (Mx.bo r B (List.replicate n 0)))->ds.map f=(Mx.mulM A B n).map bI
 | [],[],_,_=>rfl
 |d::ds,r::A,h,hf=>by
  rw[Qj,hf d r h.1,wc h.2 hf];rfl
theorem A3:O4 hO 2 CD tV:=by
 rintro ds st K ⟨x,y,n,A,B,rfl,⟨da,hx,ra⟩,hy,hB,hw,hn,hl,hm,k⟩;refine⟨rfl,?_⟩;obtain⟨db,ey,rb⟩:=hy.ex;match B,db,rb,hB,hw,hm,hy,k,ey with
 |r0::B,d0::db,rb,_,hw,hm,hy,k,ey=>
  have h0:r0.length=n:=hw r0 Pw;refine ax ey D1 (cu rb.1 ?_);rw[O8,h0];refine oh hx λ ok aC=>⟨bU (by rw[ra.len];exact hl),?_⟩
  refine comp_map (g:=λ d=>bI (Mx.bo (intsOf st d) (r0::B) (List.replicate n 0))) aC da (λ d hd K' q=>?_) ?_
  . obtain⟨i,hi,ed⟩:=PK.mp hd;obtain⟨r,er,hr⟩:=ra.get (i:=i) (d:=d) (by rw[Pk hi,ed]);refine⟨_,rfl,d,y,n,r,r0::B,rfl,hr,hy,hw,hn,λ c hc=>hm r (PM er) c hc,?_⟩;rw[uK hr]at q;exact q
  . refine dc rfl ?_;rw[wc ra (n:=n) (B:=r0::B) λ d r h=>by rw[uK h]];exact k
 |_::_,[],rb,_,_,_,_,_,_=>exact rb.elim
def qt:bR:=λ ds st K=>∃(d:D) (A:List (List Int)) (j:Nat),ds=[d,.int j]/\eQ st d A/\(∀r∈A,j<r.length)/\A.length<=1000/\K (bI (Mx.tw A j)) st
def vL:List Str:=["rows","place"]
def DG:DS:=(bh (ba du (ab (cy (cY (aa 0)) [none,some 1] (aV 0) bM (ai aH (aa 0) (aa 1))) af)))
theorem t7{tg:dJ}{te:DE}{ok:ae->Prop}{σc:bf}{st:ae}{K:List D->ae->Prop}{ds:List D}{A:List (List Int)}(f:List Int->D)(aC:ok st)(hr:bK st ds A)(hx:∀d r,r∈A->items? st d=some (aj r)->∀K',K' (f r) st->∃σ2,tg d σc=some σ2/\te σ2 st K')(k:K (A.map f) st):cp tg bM te ok σc ds [] st K:=by
 refine cX (λ rest acc st'=>∃(A1 A2:List (List Int)),st=st'/\A1++A2=A/\bK st rest A2/\acc=A1.map f) ?_ ?_ _ _ _ ⟨[],A,rfl,rfl,hr,rfl⟩
 . rintro acc st' ⟨A1,A2,rfl,he,h,rfl⟩;match A2,h with
   | [],_=>
     rw[QO]at he;subst he;exact⟨aC,k⟩
 . rintro d rest acc st' ⟨A1,A2,rfl,he,h,rfl⟩ next
   match A2,h with
   |r::A2,h=>
    obtain⟨σ2,e2,q⟩:=hx d r (by rw[<-he];simp) h.1 (λ y st2=>cp tg bM te ok σc rest (A1.map f++[y]) st2 K) (next _ _ ⟨A1++[r],A2,rfl,by rw[<-he];simp,h.2,by simp⟩);exact⟨aC,σ2,e2,q⟩
theorem BS(A:List (List Int))(j:Nat):A.map (λ r=>D.int (r.getD j 0))=aj (Mx.tw A j):=by unfold Mx.tw aj;rw[Qb];rfl
theorem C_:O4 qt 2 DG vL:=by
 rintro ds st K ⟨d,A,j,rfl,⟨da,hd,ra⟩,hj,hl,k⟩;refine⟨rfl,?_⟩;refine oh hd λ ok aC=>⟨bU (by rw[ra.len];exact hl),?_⟩
 refine t7 (λ r=> .int (r.getD j 0)) aC ra (λ e r hr he K' q=>⟨_,rfl,ax he (dH (hj r hr)) q⟩) ?_;rw[BS];exact dc rfl k
def jt:bR:=λ ds st K=>∃(d:D) (A:List (List Int)) (n:Nat),ds=[d,.int n]/\eQ st d A/\(∀r∈A,r.length=n)/\A.length<=1000/\n<=1000/\K (a6 (Mx.Gv A n)) st
def nc:List Str:=["rows","wide"]
def uW:DS:=(bh (ba du (ab (cy (b_ (ab (aa 1) af)) [none,some 0] (aV 0) bM (av qt (ab (aa 1) (ab (aa 0) af)))) af)))
theorem ED(A:List (List Int))(n:Nat):(List.range n).map (λ j=>bI (Mx.tw A j))=(Mx.Gv A n).map bI:=by unfold Mx.Gv;rw[Qb];rfl
theorem sE:O4 jt 2 uW nc:=by
 rintro ds st K ⟨d,A,n,rfl,hd,hw,hl,hn,k⟩;refine⟨rfl,?_⟩;refine cC ⟨by omega,by omega⟩ ⟨bU (by rw[cB];omega),?_⟩;rw[Pp];refine ij (λ j=>bI (Mx.tw A j)) n (λ i hi K' q=>⟨_,rfl,d,A,i,rfl,hd,λ r hr=>by rw[hw r hr];exact hi,hl,q⟩) ?_;rw[ED];exact dc rfl k
def mK:bR:=λ ds st K=>∃(n i:Nat),ds=[.int n,.int i]/\n<=1000/\K (bI (Mx.cM n i)) st
def rW:List Str:=["n","place"]
def Aa:DS:=(bh (ba du (ab (cy (b_ (ab (aa 0) af)) [none,some 1] (aV 0) bM (vG (aU (ai dR (aa 0) (aa 1))) (dC (.int 1)) (dC (.int 0)))) af)))
theorem x4:O4 mK 2 Aa rW:=by
 rintro ds st K ⟨n,i,rfl,hn,k⟩;refine⟨rfl,?_⟩;refine cC ⟨by omega,by omega⟩ ⟨bU (by rw[cB];omega),?_⟩;rw[Pp];refine ij (λ j=> .int (Mx.dl j i)) n (λ j hj K' q=>⟨_,rfl,?_⟩) ?_
 . refine eq2 (λ h=>cv ?_) λ h=>?_
   . have:j=i:=by omega
     subst this;rw[Mx.cD]at q;exact q
   . rw[Mx.cV (by omega)]at q;exact q
 . have:(List.range n).map (λ j=>D.int (Mx.dl j i))=aj (Mx.cM n i):=by unfold Mx.cM aj;rw[Qb];rfl
   rw[this];exact dc rfl k
def i0:bR:=λ ds st K=>∃(n:Nat),ds=[.int n]/\n<=1000/\K (a6 (Mx.units n)) st
def pH:List Str:=["n"]
def yo:DS:=(bh (ba du (ab (cy (b_ (ab (aa 0) af)) [none,some 0] (aV 0) bM (av mK (ab (aa 1) (ab (aa 0) af)))) af)))
theorem xq:O4 i0 1 yo pH:=by
 rintro ds st K ⟨n,rfl,hn,k⟩;refine⟨rfl,?_⟩;refine cC ⟨by omega,by omega⟩ ⟨bU (by rw[cB];omega),?_⟩;rw[Pp];refine ij (λ i=>bI (Mx.cM n i)) n (λ i hi K' q=>⟨_,rfl,n,i,rfl,hn,q⟩) ?_;have:(List.range n).map (λ i=>bI (Mx.cM n i))=(Mx.units n).map bI:=by unfold Mx.units;rw[Qb];rfl
 rw[this];exact dc rfl k
theorem Ew{a:Int}{m:Nat}(h:a.natAbs<2^m):Builtin.Int.intBits a<=m:=by
 unfold Builtin.Int.intBits;by_cases h0:a.natAbs=0
 . have:a=0:=by omega
   subst this;simp
 . have:=(UN h0).mpr h;split<;>omega
theorem gp{a b:Int}{m n:Nat}(ha:a.natAbs<=2^m)(hb:b.natAbs<=2^n)(h:m+n<=130000000):IntMulOk a b:=by
 have q:∀ {x:Int} {k:Nat},x.natAbs<=2^k->Builtin.Int.intBits x<=k+1:=λ{x k} h=>Ew (Ru h (Tu (by decide) (PL k)));have h1:=q ha;have h2:=q hb;have e:(2:Nat)^27=134217728:=by decide
 have z:Builtin.Int.intTooBig (Builtin.Int.intBits a+Builtin.Int.intBits b)=false:=by
  unfold Builtin.Int.intTooBig bitsLine;exact PZ (by omega)
 unfold IntMulOk;rw[z];simp
theorem DZ(a b:Nat):(a:Int).fmod (b:Int)=((a%b:Nat):Int):=by
 rw[Int.fmod_eq_emod_of_nonneg _ (TN b)];exact(Int.natCast_emod a b).symm
def dZ:List Int->Nat->Option Nat
 | [],_=>none
 |x::xs,i=>if x=0 then dZ xs (i+1)else some i
def dU(r:List Int):Option Nat:=dZ r 0
def iW(r:List Int):D:=match dU r with
 |some k=> .int (k:Int)
 |none=> .aq
def jh:bR:=λ ds st K=>∃(d:D) (r:List Int),ds=[d]/\items? st d=some (aj r)/\K (iW r) st
def uF:List Str:=["row","place","number"]
def CP:DS:=(az (fy (Av (ab (aa 0) af)) (fO 1 2) (cW (aU (ai h_ (aa 2) (dC (.int 0)))) (bh (aa 1)) cE))
 (bh (dC .aq)))
theorem zD:O4 jh 1 CP uF:=by
 rintro ds st K ⟨d,r,rfl,hd,k⟩;refine⟨rfl,?_⟩;refine Ig hd λ ok aC=>?_;refine gq (λ rest σ st'=>st'=st/\∃(v1 v2:Option D) (s:List Int) (i:Nat),σ=[some d,v1,v2]/\rest=gN i (aj s)/\dZ r 0=dZ s i) ?_ ?_ _ _ _ ⟨rfl,none,none,r,0,rfl,rfl,rfl⟩
 . rintro σ st' ⟨rfl,v1,v2,s,i,rfl,hr,hl⟩;match s,hr with
   | [],_=>
     refine⟨aC _ hd,?_⟩;have:iW r= .aq:=by unfold iW dU;rw[hl];rfl
     rw[this]at k;exact k
 . rintro x rest σ st' ⟨rfl,v1,v2,s,i,rfl,hr,hl⟩ next
   match s,hr,hl with
   |y::s,hr,hl=>
    simp only[aj,Qj,gN,RX]at hr;obtain⟨rfl,rfl⟩:=hr;refine⟨aC _ hd,_,rfl,?_⟩;refine ne2 (λ h=>cv ?_) λ h=>?_
    . have:iW r= .int (i:Int):=by unfold iW dU;rw[hl];unfold dZ;rw[O7 h]
      rw[this]at k;exact k
    . refine next _ _ ⟨rfl,_,_,s,i+1,rfl,rfl,?_⟩
      rw[hl];unfold dZ;rw[O_ h];cases s<;>rfl
   | [],hr,_=>cases hr
theorem vT:∀(r:List Int) (i l:Nat),(∀c,c<l->r.getD c 0=0)->r.getD l 0≠0->dZ r i=some (i+l)
 | [],_,_,_,h=>(h rfl).elim
 |x::r,i,0,_,h=>by
  unfold dZ;rw[O7 (show¬x=0 from h)];rfl
 |x::r,i,l+1,hz,h=>by
  unfold dZ;rw[O_ (show x=0 from hz 0 (Up _)),vT r (i+1) l (λ c hc=>hz (c+1) (RP hc)) h,Nat.add_right_comm];rfl
theorem rY:∀(r:List Int) (i:Nat),dZ r i=none->∀c,r.getD c 0=0
 | [],_,_,_=>rfl
 |x::r,i,h,c=>by
  unfold dZ at h;split at h
  . cases c with
    |zero=>assumption
    |succ c=>exact rY r (i+1) h c
  . cases h
theorem uz{r:List Int}{l:Nat}(h:∀c,c<l->r.getD c 0=0)(h':r.getD l 0≠0):dU r=some l:=by
 have:=vT r 0 l h h';rw[QW]at this;exact this
def fQ:bR:=λ ds st K=>∃(t d:Int),ds=[.int t,.int d]/\d≠0/\K (.int (Mx.qn t d)) st
def jl:List Str:=["top","bottom"]
def nS:DS:=(bh (ai l6 (ai ck (ai cJ (dC (.int 2)) (aa 0)) (aa 1)) (ai cJ (dC (.int 2)) (aa 1))))
theorem nq:O4 fQ 2 nS jl:=by
 rintro ds st K ⟨t,d,rfl,hd,k⟩;exact⟨rfl,dG (eh (by decide) (by decide)) (cN (dG (eh (by decide) (by decide)) (wV (by omega) k)))⟩
def gE:bR:=λ ds st K=>∃(n k o:Nat) (A:List (List Int)),ds=[.ref n,.int k,.int o]/\st[n]?=some (.lst (A.map aW))/\k<A.length/\o<A.length/\K (.ref st.length) (st++[.lst ((Mx.a_ A k o).map aW)])
def pJ:List Str:=["rows","k","other","order"]
def yb:DS:=(az (aR 3 (ba mh (ab (aa 0) af)))
 (az (de (aa 3) (aa 1) (ai aH (aa 0) (aa 2)))
 (az (de (aa 3) (aa 2) (ai aH (aa 0) (aa 1)))
 (bh (aa 3)))))
theorem cL{A:List (List Int)}{j:Nat}(h:j<A.length):cT (A.map aW) (j:Int)=some (aW (A.getD j [])):=by
 refine fC ?_;rw[PD,Pk h,Mx.aO h];rfl
theorem ja{m k:Nat}(h:k<m):jy m (k:Int)=some k:=by
 have:=og (i:=(k:Int)) (m:=m) (by omega) (by omega);rw[Pp]at this;exact this
theorem fB{A:List (List Int)}{k:Nat}{r:List Int}:(A.map aW).set k (aW r)=(A.set k r).map aW:=by rw[Uq]
theorem vC:O4 gE 3 yb pJ:=by
 rintro ds st K ⟨n,k,o,A,rfl,e,hk,ho,kk⟩;refine⟨rfl,?_⟩;have hn:n<st.length:=(O6.mp e).1;refine wy (ao e) ?_;have e1:(st++[Cell.lst (A.map aW)])[n]?=some (.lst (A.map aW)):=by rw[Pd hn];exact e
 have e2:(st++[Cell.lst (A.map aW)])[st.length]?=some (.lst (A.map aW)):=by simp
 refine ax (ao e1) (cL ho) (eX e2 (by rw[O8];exact ja hk) ?_);rw[fB]
 have es:(st++[Cell.lst (A.map aW)]).set st.length (.lst ((A.set k (A.getD o [])).map aW))=st++[Cell.lst ((A.set k (A.getD o [])).map aW)]:=by
  rw[S9 _ _ (O9 _),QM];rfl
 rw[es];have e3:(st++[Cell.lst ((A.set k (A.getD o [])).map aW)])[n]?=some (.lst (A.map aW)):=by rw[Pd hn];exact e
 have e4:(st++[Cell.lst ((A.set k (A.getD o [])).map aW)])[st.length]?=some (.lst ((A.set k (A.getD o [])).map aW)):=by simp
 refine ax (ao e3) (cL hk) (eX e4 (by rw[O8,Pl];exact ja ho) ?_);rw[fB]
 have es2:(st++[Cell.lst ((A.set k (A.getD o [])).map aW)]).set st.length (.lst (((A.set k (A.getD o [])).set o (A.getD k [])).map aW))=st++[Cell.lst ((Mx.a_ A k o).map aW)]:=by
  rw[S9 _ _ (O9 _),QM];rfl
 rw[es2];exact kk
def jf:bR:=λ ds st K=>∃(d:D) (r:List Int),ds=[d]/\items? st d=some (aj r)/\r.length<=1000/\K (aW (r.map λ x=> -x)) st
def uw:List Str:=["row"]
def CJ:DS:=(bh (cy (cY (aa 0)) [none] (aV 0) bM (i9 ft (aa 0))))
theorem Al:O4 jf 1 CJ uw:=by
 rintro ds st K ⟨d,r,rfl,hd,hl,k⟩;refine⟨rfl,?_⟩;refine oh hd λ ok aC=>⟨bU (by unfold aj;rw[O8];exact hl),?_⟩
 refine comp_map (g:=λ x=>match x with| .int a=> .int (-a)|_=> .aq) aC _ (λ x hx K' q=>?_) ?_
 . unfold aj at hx;obtain⟨a,_,rfl⟩:=Qa.mp hx;exact⟨_,rfl,gI q⟩
 . have e:(aj r).map (λ x=>match x with| .int a=> .int (-a)|_=> .aq)=aj (r.map λ x=> -x):=by unfold aj;rw[Qb,Qb];rfl
   rw[e];exact k
structure Bn(st:ae)(b xb xu xc:Nat)(A U C:List (List Int)):Prop where
 eb:st[b]?=some (Cell.ins aw [("body",.ref xb),("turn",.ref xu),("back_columns",.ref xc)])
 e1:st[xb]?=some (Cell.lst (A.map aW))
 e2:st[xu]?=some (Cell.lst (U.map aW))
 e3:st[xc]?=some (Cell.lst (C.map aW))
 n1:xb≠xu
 n2:xb≠xc
 n3:xu≠xc
theorem ia{st:ae}{b x:Nat}{C:Addr}{fs:List (Str×D)}{xs:List D}(h1:st[b]?=some (Cell.ins C fs))(h2:st[x]?=some (Cell.lst xs)):b≠x:=λ z=>by rw[z,h2]at h1;cases h1
def g0:bR:=λ ds st K=>∃(b N:Nat) (d:D) (A:List (List Int)),ds=[.ref b,d]/\st[b]?=some (.ins aw [])/\eQ st d A/\A.length=N/\N<=16/\∀st',Bn st' b st.length (st.length+1) (st.length+2) A (Mx.units N) (Mx.units N)->st'.length=st.length+3->(∀m,m<st.length->m≠b->st'[m]?=st[m]?)->K .aq st'
def gS:List Str:=["self","rows"]
def qP:DS:=(az (kM aw "body" (aa 0) (dN (cY (aa 1)) [none] (aV 0) bM (ba i8 (ab (aa 0) af))))
 (az (kM aw "turn" (aa 0) (dN (cY (av i0 (ab (ba cR (ab (aa 1) af)) af))) [none] (aV 0) bM (ba i8 (ab (aa 0) af))))
 (kM aw "back_columns" (aa 0) (dN (cY (av i0 (ab (ba cR (ab (aa 1) af)) af))) [none] (aV 0) bM (ba i8 (ab (aa 0) af))))))
theorem mP(f:Str)(v:D):∀fs:List (Str×D),(putD f v fs).length<=fs.length+1
 | []=>by simp[putD]
 |(g,x)::r=>by
  unfold putD;split
  . simp
  . have:=mP f v r;simp only[P7];omega
theorem xN{st:ae}{A:List (List Int)}:bK st (A.map bI) A:=bK.tup
theorem uk(n:Nat):(Mx.units n).length=n:=by unfold Mx.units;simp
theorem pe:O4 g0 2 qP gS:=by
 rintro ds st K ⟨b,N,d,A,rfl,eb,hA,hl,hN,k⟩;refine⟨rfl,?_⟩;have hb:b<st.length:=(O6.mp eb).1;obtain⟨da,hd,ra⟩:=hA.ex;have hdl:=ra.len;have lst:∀(e:D) (r:List Int),True:=λ _ _=>trivial;refine oh hd λ ok aC=>⟨bU (by omega),?_⟩
 refine jL aW aC ra (λ e r hr he K' q=>⟨_,rfl,jU he q⟩) ?_;have eb1:(st++[Cell.lst (A.map aW)])[b]?=some (.ins aw []):=by rw[Pd hb];exact eb
 refine jX eb1 (by decide) ?_;generalize hs1:(st++[Cell.lst (A.map aW)]).set b (.ins aw (putD "body" (.ref st.length) []))=st1;have l1:st1.length=st.length+1:=by rw[<-hs1];simp
 have f1:∀m,m<st.length->m≠b->st1[m]?=st[m]?:=λ m hm hmb=>by rw[<-hs1,Pb (Pj hmb),Pd hm]
 have b1:st1[b]?=some (.ins aw (putD "body" (.ref st.length) [])):=by rw[<-hs1,Pg (by simp;omega)]
 have x1:st1[st.length]?=some (.lst (A.map aW)):=by rw[<-hs1,Pb (by omega)];simp
 clear hs1
 have itd:∃da',items? st1 d=some da'/\da'.length=N:=by
  cases d with
  |ref n=>
   by_cases hnb:n=b
   . subst hnb;unfold items? at hd;simp only[eb]at hd;cases hd
   . have hn:n<st.length:=by
      unfold items? at hd;simp only at hd;cases q:st[n]? with
      |none=>rw[q]at hd;cases hd
      |some c=>exact(O6.mp q).1
     refine⟨da,?_,by omega⟩;unfold items? at hd⊢;simp only at hd⊢;rw[f1 n hn hnb];exact hd
  |_=>exact⟨da,hd,by omega⟩
 obtain⟨da1,hd1,hdl1⟩:=itd;refine cu hd1 ?_;rw[hdl1];refine⟨N,rfl,by omega,?_⟩;refine gh ⟨bU (by rw[O8,uk];omega),?_⟩;refine jL aW trivial xN (λ e r hr he K' q=>⟨_,rfl,jU he q⟩) ?_;have b2:(st1++[Cell.lst ((Mx.units N).map aW)])[b]?=some (.ins aw (putD "body" (.ref st.length) [])):=by rw[Pd (by omega)];exact b1
 refine jX b2 (by have:=mP "body" (.ref st.length) [];simp only[Sm]at this;omega) ?_;generalize hs2:(st1++[Cell.lst ((Mx.units N).map aW)]).set b (.ins aw (putD "turn" (.ref st1.length) (putD "body" (.ref st.length) [])))=st2;have l2:st2.length=st.length+2:=by rw[<-hs2];simp;omega
 have f2:∀m,m<st1.length->m≠b->st2[m]?=st1[m]?:=λ m hm hmb=>by rw[<-hs2,Pb (Pj hmb),Pd hm]
 have b2':st2[b]?=some (.ins aw (putD "turn" (.ref st1.length) (putD "body" (.ref st.length) []))):=by rw[<-hs2,Pg (by simp;omega)]
 have x2:st2[st1.length]?=some (.lst ((Mx.units N).map aW)):=by rw[<-hs2,Pb (by omega)];simp
 clear hs2
 have itd2:items? st2 d=some da1:=by
  cases d with
  |ref n=>
   by_cases hnb:n=b
   . subst hnb;unfold items? at hd1;simp only[b1]at hd1;cases hd1
   . have hn:n<st1.length:=by
      unfold items? at hd1;simp only at hd1;cases q:st1[n]? with
      |none=>rw[q]at hd1;cases hd1
      |some c=>exact(O6.mp q).1
     unfold items? at hd1⊢;simp only at hd1⊢;rw[f2 n hn hnb];exact hd1
  |_=>exact hd1
 refine cu itd2 ?_;rw[hdl1];refine⟨N,rfl,by omega,?_⟩;refine gh ⟨bU (by rw[O8,uk];omega),?_⟩;refine jL aW trivial xN (λ e r hr he K' q=>⟨_,rfl,jU he q⟩) ?_;have b3:(st2++[Cell.lst ((Mx.units N).map aW)])[b]?=some (.ins aw (putD "turn" (.ref st1.length) (putD "body" (.ref st.length) []))):=by rw[Pd (by omega)];exact b2'
 refine jX b3 (by have h1:=mP "body" (.ref st.length) [];have h2:=mP "turn" (.ref st1.length) (putD "body" (.ref st.length) []);simp only[Sm]at h1;omega) ?_;refine k _ ⟨?_,?_,?_,?_,by omega,by omega,by omega⟩ (by simp;omega) λ m hm hmb=>?_
 . rw[Pg (by simp;omega),l1,l2];rfl
 . rw[Pb (by omega),Pd (by omega),f2 _ (by omega) (by omega)];exact x1
 . rw[Pb (by omega),Pd (by omega)];rw[l1]at x2;exact x2
 . rw[Pb (by omega)];rw[show st.length+2=st2.length by omega];simp
 . rw[Pb (Pj hmb),Pd (by omega),f2 m (by omega) hmb,f1 m hm hmb]
def iy:bR:=λ ds st K=>∃(b xb xu xc N w k j:Nat) (A U C:List (List Int)) (q:Int),ds=[.ref b,.int k,.int q,.int j]/\Bn st b xb xu xc A U C/\Mx.bH N w A/\Mx.bH N N U/\Mx.bH N N C/\k<N/\j<N/\N<=16/\w<=9/\(∀x∈A.getD j [],IntMulOk (-q) x)/\(∀x∈U.getD j [],IntMulOk (-q) x)/\(∀x∈C.getD k [],IntMulOk q x)/\
 ∀st',Bn st' b xb xu xc (Mx.aK A k q j) (Mx.aK U k q j) (Mx.aK C j (-q) k)->st'.length=st.length->(∀m,m≠xb->m≠xu->m≠xc->st'[m]?=st[m]?)->K .aq st'
def ki:List Str:=["self","k","times","other"]
def xV:DS:=(az (de (cS aw "body" (aa 0)) (aa 1) (av iJ (ab (ai aH (cS aw "body" (aa 0)) (aa 1)) (ab (i9 ft (aa 2)) (ab (ai aH (cS aw "body" (aa 0)) (aa 3)) af)))))
 (az (de (cS aw "turn" (aa 0)) (aa 1) (av iJ (ab (ai aH (cS aw "turn" (aa 0)) (aa 1)) (ab (i9 ft (aa 2)) (ab (ai aH (cS aw "turn" (aa 0)) (aa 3)) af)))))
 (de (cS aw "back_columns" (aa 0)) (aa 3) (av iJ (ab (ai aH (cS aw "back_columns" (aa 0)) (aa 3)) (ab (aa 2) (ab (ai aH (cS aw "back_columns" (aa 0)) (aa 1)) af)))))))
theorem uX:O4 iy 4 xV ki:=by
 rintro ds st K ⟨b,xb,xu,xc,N,w,k,j,A,U,C,q,rfl,B,hA,hU,hC,hk,hj,hN,hw,mA,mU,mC,kk⟩;refine⟨rfl,?_⟩;have lA:=hA.len;have lU:=hU.len;have lC:=hC.len;have rA:=Mx.cf hA hk;have rU:=Mx.cf hU hk;have rC:=Mx.cf hC hj;have bx1:=ia B.eb B.e1;have bx2:=ia B.eb B.e2;have bx3:=ia B.eb B.e3;have n1:=B.n1;have n2:=B.n2;have n3:=B.n3;refine bS B.eb rfl (ax (ao B.e1) (cL (by omega)) (gI (bS B.eb rfl (ax (ao B.e1) (cL (by omega)) ?_))));refine⟨_,_,-q,A.getD k [],A.getD j [],rfl,rfl,rfl,by omega,mA,?_⟩;refine bS B.eb rfl (eX B.e1 (by rw[O8,lA];exact ja hk) ?_);rw[fB];have g1:∀m,m≠xb->(st.set xb (.lst ((A.set k (Mx.cK (A.getD k []) (-q) (A.getD j []))).map aW)))[m]?=st[m]?:=λ m hm=>Pb (Pj hm);have h1:(st.set xb (.lst ((A.set k (Mx.cK (A.getD k []) (-q) (A.getD j []))).map aW)))[xb]?=some (.lst ((Mx.aK A k q j).map aW)):=Pg (O6.mp B.e1).1;have z1:(st.set xb (.lst ((A.set k (Mx.cK (A.getD k []) (-q) (A.getD j []))).map aW))).length=st.length:=Pl;generalize st.set xb (.lst ((A.set k (Mx.cK (A.getD k []) (-q) (A.getD j []))).map aW))=st1 at g1 h1 z1⊢;have eb1:=(g1 b bx1).trans B.eb;have e21:=(g1 xu (Pj n1)).trans B.e2;have e31:=(g1 xc (Pj n2)).trans B.e3;refine bS eb1 rfl (ax (ao e21) (cL (by omega)) (gI (bS eb1 rfl (ax (ao e21) (cL (by omega)) ?_))));refine⟨_,_,-q,U.getD k [],U.getD j [],rfl,rfl,rfl,by omega,mU,?_⟩;refine bS eb1 rfl (eX e21 (by rw[O8,lU];exact ja hk) ?_);rw[fB];have g2:∀m,m≠xu->(st1.set xu (.lst ((U.set k (Mx.cK (U.getD k []) (-q) (U.getD j []))).map aW)))[m]?=st1[m]?:=λ m hm=>Pb (Pj hm);have h2:(st1.set xu (.lst ((U.set k (Mx.cK (U.getD k []) (-q) (U.getD j []))).map aW)))[xu]?=some (.lst ((Mx.aK U k q j).map aW)):=Pg (O6.mp e21).1;have z2:(st1.set xu (.lst ((U.set k (Mx.cK (U.getD k []) (-q) (U.getD j []))).map aW))).length=st1.length:=Pl;generalize st1.set xu (.lst ((U.set k (Mx.cK (U.getD k []) (-q) (U.getD j []))).map aW))=st2 at g2 h2 z2⊢;have eb2:=(g2 b bx2).trans eb1;have e32:=(g2 xc (Pj n3)).trans e31;refine bS eb2 rfl (ax (ao e32) (cL (by omega)) (bS eb2 rfl (ax (ao e32) (cL (by omega)) ?_)));refine⟨_,_,q,C.getD j [],C.getD k [],rfl,rfl,rfl,by omega,mC,?_⟩;refine bS eb2 rfl (eX e32 (by rw[O8,lC];exact ja hj) ?_);rw[fB];have hc:C.set j (Mx.cK (C.getD j []) q (C.getD k []))=Mx.aK C j (-q) k:=by unfold Mx.aK;rw[Int.neg_neg]
 rw[hc];refine kk _ ⟨?_,?_,?_,?_,n1,n2,n3⟩ (by rw[Pl];omega) λ m m1 m2 m3=>?_
 . rw[Pb (Pj bx3)];exact eb2
 . rw[Pb (Pj n2),g2 _ n1];exact h1
 . rw[Pb (Pj n3)];exact h2
 . exact Pg (O6.mp e32).1
 . rw[Pb (Pj m3),g2 m m2,g1 m m1]
def gY:bR:=λ ds st K=>∃(b xb xu xc N w k o:Nat) (A U C:List (List Int)),ds=[.ref b,.int k,.int o]/\Bn st b xb xu xc A U C/\Mx.bH N w A/\Mx.bH N N U/\Mx.bH N N C/\k<N/\o<N/\
 ∀st',Bn st' b st.length (st.length+1) (st.length+2) (Mx.a_ A k o) (Mx.a_ U k o) (Mx.a_ C k o)->st'.length=st.length+3->(∀m,m<st.length->m≠b->st'[m]?=st[m]?)->K .aq st'
def g6:List Str:=["self","k","other"]
def qc:DS:=(az (kM aw "body" (aa 0) (av gE (ab (cS aw "body" (aa 0)) (ab (aa 1) (ab (aa 2) af)))))
 (az (kM aw "turn" (aa 0) (av gE (ab (cS aw "turn" (aa 0)) (ab (aa 1) (ab (aa 2) af)))))
 (kM aw "back_columns" (aa 0) (av gE (ab (cS aw "back_columns" (aa 0)) (ab (aa 1) (ab (aa 2) af)))))))
theorem pf:O4 gY 3 qc g6:=by
 rintro ds st K ⟨b,xb,xu,xc,N,w,k,o,A,U,C,rfl,B,hA,hU,hC,hk,ho,kk⟩;refine⟨rfl,?_⟩;have lA:=hA.len;have lU:=hU.len;have lC:=hC.len;have bx1:=ia B.eb B.e1;have bx2:=ia B.eb B.e2;have bx3:=ia B.eb B.e3;have hb:b<st.length:=(O6.mp B.eb).1;have hu:xu<st.length:=(O6.mp B.e2).1;have hc:xc<st.length:=(O6.mp B.e3).1;refine bS B.eb rfl ?_;refine⟨xb,k,o,A,rfl,B.e1,by omega,by omega,?_⟩;have eb1:(st++[Cell.lst ((Mx.a_ A k o).map aW)])[b]?=some (.ins aw [("body",.ref xb),("turn",.ref xu),("back_columns",.ref xc)]):=by rw[Pd hb];exact B.eb
 refine jX eb1 (by simp) ?_;have pb:putD "body" (.ref st.length) [("body",.ref xb),("turn",.ref xu),("back_columns",.ref xc)]=([("body",.ref st.length),("turn",.ref xu),("back_columns",.ref xc)]:List (Str×D)):=rfl;rw[pb];generalize hs1:(st++[Cell.lst ((Mx.a_ A k o).map aW)]).set b (.ins aw [("body",.ref st.length),("turn",.ref xu),("back_columns",.ref xc)])=st1;have l1:st1.length=st.length+1:=by rw[<-hs1];simp
 have f1:∀m,m<st.length->m≠b->st1[m]?=st[m]?:=λ m hm hmb=>by rw[<-hs1,Pb (Pj hmb),Pd hm]
 have b1:st1[b]?=some (.ins aw [("body",.ref st.length),("turn",.ref xu),("back_columns",.ref xc)]):=by rw[<-hs1,Pg (by simp;omega)]
 have x1:st1[st.length]?=some (.lst ((Mx.a_ A k o).map aW)):=by rw[<-hs1,Pb (by omega)];simp
 clear hs1 eb1;refine bS b1 rfl ?_;refine⟨xu,k,o,U,rfl,(f1 xu hu (Pj bx2)).trans B.e2,by omega,by omega,?_⟩;have eb1:(st1++[Cell.lst ((Mx.a_ U k o).map aW)])[b]?=some (.ins aw [("body",.ref st.length),("turn",.ref xu),("back_columns",.ref xc)]):=by rw[Pd (by omega)];exact b1
 refine jX eb1 (by simp) ?_;have pb:putD "turn" (.ref st1.length) [("body",.ref st.length),("turn",.ref xu),("back_columns",.ref xc)]=([("body",.ref st.length),("turn",.ref st1.length),("back_columns",.ref xc)]:List (Str×D)):=rfl;rw[pb];generalize hs2:(st1++[Cell.lst ((Mx.a_ U k o).map aW)]).set b (.ins aw [("body",.ref st.length),("turn",.ref st1.length),("back_columns",.ref xc)])=st2;have l2:st2.length=st.length+2:=by rw[<-hs2];simp;omega
 have f2:∀m,m<st1.length->m≠b->st2[m]?=st1[m]?:=λ m hm hmb=>by rw[<-hs2,Pb (Pj hmb),Pd hm]
 have b2:st2[b]?=some (.ins aw [("body",.ref st.length),("turn",.ref st1.length),("back_columns",.ref xc)]):=by rw[<-hs2,Pg (by simp;omega)]
 have x2:st2[st1.length]?=some (.lst ((Mx.a_ U k o).map aW)):=by rw[<-hs2,Pb (by omega)];simp
 clear hs2 eb1;refine bS b2 rfl ?_;refine⟨xc,k,o,C,rfl,((f2 xc (by omega) (Pj bx3)).trans (f1 xc hc (Pj bx3))).trans B.e3,by omega,by omega,?_⟩;have eb1:(st2++[Cell.lst ((Mx.a_ C k o).map aW)])[b]?=some (.ins aw [("body",.ref st.length),("turn",.ref st1.length),("back_columns",.ref xc)]):=by rw[Pd (by omega)];exact b2
 refine jX eb1 (by simp) ?_;have pb:putD "back_columns" (.ref st2.length) [("body",.ref st.length),("turn",.ref st1.length),("back_columns",.ref xc)]=([("body",.ref st.length),("turn",.ref st1.length),("back_columns",.ref st2.length)]:List (Str×D)):=rfl;rw[pb];refine kk _ ⟨?_,?_,?_,?_,by omega,by omega,by omega⟩ (by simp;omega) λ m hm hmb=>?_
 . rw[Pg (by simp;omega),l1,l2]
 . rw[Pb (by omega),Pd (by omega),f2 _ (by omega) (by omega)];exact x1
 . rw[Pb (by omega),Pd (by omega)];rw[l1]at x2;exact x2
 . rw[Pb (by omega)];rw[show st.length+2=st2.length by omega];simp
 . rw[Pb (Pj hmb),Pd (by omega),f2 m (by omega) hmb,f1 m hm hmb]
def fJ:bR:=λ ds st K=>∃(b xb xu xc N w k:Nat) (A U C:List (List Int)),ds=[.ref b,.int k]/\Bn st b xb xu xc A U C/\Mx.bH N w A/\Mx.bH N N U/\Mx.bH N N C/\k<N/\N<=16/\w<=9/\
 ∀st',Bn st' b xb xu xc (Mx.e7 A k) (Mx.e7 U k) (Mx.e7 C k)->st'.length=st.length->(∀m,m≠xb->m≠xu->m≠xc->st'[m]?=st[m]?)->K .aq st'
def fL:List Str:=["self","k"]
def nj:DS:=(az (de (cS aw "body" (aa 0)) (aa 1) (av jf (ab (ai aH (cS aw "body" (aa 0)) (aa 1)) af)))
 (az (de (cS aw "turn" (aa 0)) (aa 1) (av jf (ab (ai aH (cS aw "turn" (aa 0)) (aa 1)) af)))
 (de (cS aw "back_columns" (aa 0)) (aa 1) (av jf (ab (ai aH (cS aw "back_columns" (aa 0)) (aa 1)) af)))))
theorem mQ:O4 fJ 2 nj fL:=by
 rintro ds st K ⟨b,xb,xu,xc,N,w,k,A,U,C,rfl,B,hA,hU,hC,hk,hN,hw,kk⟩;refine⟨rfl,?_⟩;have lA:=hA.len;have lU:=hU.len;have lC:=hC.len;have rA:=Mx.cf hA hk;have rU:=Mx.cf hU hk;have rC:=Mx.cf hC hk;have bx1:=ia B.eb B.e1;have bx2:=ia B.eb B.e2;have bx3:=ia B.eb B.e3;have n1:=B.n1;have n2:=B.n2;have n3:=B.n3;refine bS B.eb rfl (ax (ao B.e1) (cL (by omega)) ?_);refine⟨_,A.getD k [],rfl,rfl,by omega,?_⟩;refine bS B.eb rfl (eX B.e1 (by rw[O8,lA];exact ja hk) ?_);rw[fB];have g1:∀m,m≠xb->(st.set xb (.lst ((A.set k ((A.getD k []).map λ x=> -x)).map aW)))[m]?=st[m]?:=λ m hm=>Pb (Pj hm);have h1:(st.set xb (.lst ((A.set k ((A.getD k []).map λ x=> -x)).map aW)))[xb]?=some (.lst ((Mx.e7 A k).map aW)):=Pg (O6.mp B.e1).1;have z1:(st.set xb (.lst ((A.set k ((A.getD k []).map λ x=> -x)).map aW))).length=st.length:=Pl;generalize st.set xb (.lst ((A.set k ((A.getD k []).map λ x=> -x)).map aW))=st1 at g1 h1 z1⊢;have eb1:=(g1 b bx1).trans B.eb;have e21:=(g1 xu (Pj n1)).trans B.e2;have e31:=(g1 xc (Pj n2)).trans B.e3;refine bS eb1 rfl (ax (ao e21) (cL (by omega)) ?_);refine⟨_,U.getD k [],rfl,rfl,by omega,?_⟩;refine bS eb1 rfl (eX e21 (by rw[O8,lU];exact ja hk) ?_);rw[fB];have g2:∀m,m≠xu->(st1.set xu (.lst ((U.set k ((U.getD k []).map λ x=> -x)).map aW)))[m]?=st1[m]?:=λ m hm=>Pb (Pj hm);have h2:(st1.set xu (.lst ((U.set k ((U.getD k []).map λ x=> -x)).map aW)))[xu]?=some (.lst ((Mx.e7 U k).map aW)):=Pg (O6.mp e21).1;have z2:(st1.set xu (.lst ((U.set k ((U.getD k []).map λ x=> -x)).map aW))).length=st1.length:=Pl;generalize st1.set xu (.lst ((U.set k ((U.getD k []).map λ x=> -x)).map aW))=st2 at g2 h2 z2⊢;have eb2:=(g2 b bx2).trans eb1;have e32:=(g2 xc (Pj n3)).trans e31;refine bS eb2 rfl (ax (ao e32) (cL (by omega)) ?_);refine⟨_,C.getD k [],rfl,rfl,by omega,?_⟩;refine bS eb2 rfl (eX e32 (by rw[O8,lC];exact ja hk) ?_);rw[fB];refine kk _ ⟨?_,?_,?_,?_,n1,n2,n3⟩ (by rw[Pl];omega) λ m m1 m2 m3=>?_
 . rw[Pb (Pj bx3)];exact eb2
 . rw[Pb (Pj n2),g2 _ n1];exact h1
 . rw[Pb (Pj n3)];exact h2
 . exact Pg (O6.mp e32).1
 . rw[Pb (Pj m3),g2 m m2,g1 m m1]
def eP:bR:=λ ds st K=>∃(b xb xu xc N w top p:Nat) (A U C:List (List Int)) (f:Bool),ds=[.ref b,.int top,.int p]/\Bn st b xb xu xc A U C/\Mx.bH N w A/\top<=N/\N<=16/\p<w/\w<=9/\st[0]?=some (dz f)/\
 ∀L,Mx.jr A N top p L->K (.lst (L.map λ(k:Nat)=> .int (k:Int))) (st.set 0 (dz true))
def gu:List Str:=["self","top","place","live"]
def o_:DS:=(az (aR 3 (cy (oP (ab (aa 1) (ab (ba cR (ab (cS aw "body" (aa 0)) af)) af))) [none,some 0,some 2] (aV 0) (aU (ai h_ (ai aH (ai aH (cS aw "body" (aa 1)) (aa 0)) (aa 2)) (dC (.int 0)))) (aa 0)))
 (bh (vO 0 117 ⟨61,32,61,66⟩ "Bench.live_rows.<locals>.<lambda>" [none,some 0,some 2] (ba ou (ab (ai aH (ai aH (cS aw "body" (aa 1)) (aa 0)) (aa 2)) af)) (aa 3))))
theorem si{a b:Prop}(h:b):if false=true then a else b:=h
theorem Hk{st:ae}{b:Nat}{C:Addr}{fs:List (Str×D)}{f:Bool}(h1:st[b]?=some (Cell.ins C fs))(h2:st[0]?=some (dz f)):b≠0:=λ z=>by rw[z,h2]at h1;cases h1
theorem oU{st:ae}{b:Nat}{xs:List D}{f:Bool}(h1:st[b]?=some (Cell.lst xs))(h2:st[0]?=some (dz f)):b≠0:=λ z=>by rw[z,h2]at h1;cases h1
theorem Bn.keep{st st':ae}{b xb xu xc:Nat}{A U C:List (List Int)}(B:Bn st b xb xu xc A U C)(h:∀m,m=b\/m=xb\/m=xu\/m=xc->st'[m]?=st[m]?):Bn st' b xb xu xc A U C:=
 ⟨(h b (.inl rfl)).trans B.eb,(h xb (.inr (.inl rfl))).trans B.e1,(h xu (.inr (.inr (.inl rfl)))).trans B.e2,(h xc (.inr (.inr (.inr rfl)))).trans B.e3,B.n1,B.n2,B.n3⟩
theorem Bn.tab{st:ae}{b xb xu xc:Nat}{A U C:List (List Int)}{f:Bool}(B:Bn st b xb xu xc A U C)(h:st[0]?=some (dz f))(c:Cell):Bn (st.set 0 c) b xb xu xc A U C:=
 B.keep λ m hm=>Pb λ z=>by
  subst z;rcases hm with rfl|rfl|rfl|rfl
  . exact Hk B.eb h rfl
  . exact oU B.e1 h rfl
  . exact oU B.e2 h rfl
  . exact oU B.e3 h rfl
theorem j9{r:List Int}{k:Nat}(h:k<r.length):cT (aj r) (k:Int)=some (.int (r.getD k 0)):=by
 refine fC ?_;unfold aj;rw[PD,Pk h,Mx.aO h];rfl
def eE(A:List (List Int))(N top p:Nat):List Nat:=(List.range (N-top)).filterMap λ i=>if Mx.g A (top+i) p≠0 then some (top+i)else none
theorem uo{A:List (List Int)}{N top p k:Nat}:k∈eE A N top p↔top<=k/\k<N/\Mx.g A k p≠0:=by
 unfold eE;rw[Rq];constructor
 . rintro⟨i,hi,e⟩;rw[QD]at hi;split at e
   . rename_i h;cases e;exact⟨by omega,by omega,h⟩
   . cases e
 . rintro⟨h1,h2,h3⟩;refine⟨k-top,QD.mpr (by omega),?_⟩;rw[show top+(k-top)=k by omega,O_ h3]
theorem pw_filterMap{f:Nat->Option Nat}(h:∀i j a b,i<j->f i=some a->f j=some b->a<b):∀ {l:List Nat},l.Pairwise (· < ·)->(l.filterMap f).Pairwise (· < ·)
 | [],_=>by simp
 |x::l,hl=>by
  obtain⟨h1,h2⟩:=TM.mp hl;rw[Sk];split
  . exact pw_filterMap h h2
  . rename_i a e;refine TM.mpr ⟨λ b hb=>?_,pw_filterMap h h2⟩;obtain⟨j,hj,ej⟩:=Rq.mp hb;exact h x j a b (h1 j hj) e ej
theorem pw_liveR{A:List (List Int)}{N top p:Nat}:(eE A N top p).Pairwise (· < ·):=by
 unfold eE;refine pw_filterMap (λ i j a b hij ha hb=>?_) List.pairwise_lt_range;split at ha
 . split at hb
   . cases ha;cases hb;omega
   . cases hb
 . cases ha
theorem uU{f:Nat->Option Nat}(l:List Nat):(l.filterMap f).length<=l.length:=List.length_filterMap_le ..
theorem Hq{A:List (List Int)}{N top p:Nat}{os:List (Int×Int)}(hp:os.Perm (((eE A N top p).map λ(k:Nat)=>(((Mx.g A k p).natAbs:Nat):Int)).zip ((eE A N top p).map λ(k:Nat)=>(k:Int))))(hs:os.Pairwise slt):
 Mx.jr A N top p (os.map λ q=>q.2.toNat)/\os.map (λ q=>D.int q.2)=(os.map λ q=>q.2.toNat).map λ(k:Nat)=>D.int (k:Int):=by
 have hz:((eE A N top p).map λ(k:Nat)=>(((Mx.g A k p).natAbs:Nat):Int)).zip ((eE A N top p).map λ(k:Nat)=>(k:Int))=(eE A N top p).map λ k=>((((Mx.g A k p).natAbs:Nat):Int),(k:Int)):=by
  exact List.zip_map' ..
 rw[hz]at hp
 have hm:∀q∈os,∃k,k∈eE A N top p/\q=((((Mx.g A k p).natAbs:Nat):Int),(k:Int)):=λ q hq=>by
  obtain⟨k,h1,h2⟩:=Qa.mp (hp.mem_iff.mp hq);exact⟨k,h1,h2.symm⟩
 refine⟨⟨λ k=>?_,?_⟩,?_⟩
 . rw[<-uo];constructor
   . intro h;obtain⟨q,hq,e⟩:=Qa.mp h;obtain⟨j,h1,rfl⟩:=hm q hq;simp only[Pp]at e;rw[<-e];exact h1
   . intro h;exact Qa.mpr ⟨((((Mx.g A k p).natAbs:Nat):Int),(k:Int)),hp.mem_iff.mpr (Qa.mpr ⟨k,h,rfl⟩),by simp⟩
 . rw[RI];refine hs.imp_of_mem λ{x y} hx hy h=>?_;obtain⟨j,_,rfl⟩:=hm x hx;obtain⟨k,_,rfl⟩:=hm y hy;unfold slt at h;simp only[Pp];omega
 . rw[Qb];refine Qy λ q hq=>?_;obtain⟨j,_,rfl⟩:=hm q hq;simp
theorem oN:O4 eP 3 o_ gu:=by
 rintro ds st K ⟨b,xb,xu,xc,N,w,top,p,A,U,C,f,rfl,B,hA,ht,hN,hp,hw,h0,k⟩;refine⟨rfl,?_⟩;have lA:=hA.len;have rowA:∀i,i<N->(A.getD i []).length=w:=λ i hi=>Mx.cf hA hi;refine bS B.eb rfl (cu (ao B.e1) ?_);rw[O8,lA];refine Hj ⟨by omega,by omega,by omega,by omega⟩ ⟨bU (by unfold cA;simp;omega),?_⟩;have er:((N:Int)-(top:Int)).toNat=N-top:=by omega
 rw[er];refine cX (λ rest acc st'=>∃i:Nat,i<=N-top/\st'=st/\rest=(List.range (N-top-i)).map (λ j=>D.int ((top+i+j:Nat):Int))/\acc=((List.range i).filterMap λ i=>if Mx.g A (top+i) p≠0 then some (top+i)else none).map λ(k:Nat)=>D.int (k:Int)) ?_ ?_ _ _ _ ⟨0,Po _,rfl,by unfold cA;simp,by simp⟩
 . rintro acc st' ⟨i,hi,rfl,hr,rfl⟩
   have hi':i=N-top:=by
    rcases QX i (N-top)with z|z
    . rw[show N-top-i=(N-top-i-1)+1 by omega,Qg]at hr;cases hr
    . omega
   subst hi';refine⟨trivial,?_⟩;have e1:((eE A N top p).map λ(k:Nat)=>D.int (k:Int))=((eE A N top p).map λ(k:Nat)=>(k:Int)).map D.int:=by rw[Qb];rfl
   refine⟨(eE A N top p).map λ(k:Nat)=>(k:Int),(eE A N top p).map λ(k:Nat)=>(((Mx.g A k p).natAbs:Nat):Int),f,RD D.lst e1,?_,?_,by rw[O8,O8],h0,λ i n q hn hq=>?_,λ os hp' hs=>?_⟩
   . rw[O8];have:=uU (f:=λ i=>if Mx.g A (top+i) p≠0 then some (top+i)else none) (List.range (N-top));rw[T8]at this;show(eE A N top p).length<64;unfold eE;omega
   . rw[RI];exact pw_liveR.imp λ h=>by omega
   . rw[PD]at hn hq;cases z:(eE A N top p)[i]? with
     |none=>rw[z]at hn;cases hn
     |some j=>
      rw[z]at hn hq;cases hn;cases hq;obtain⟨j1,j2,j3⟩:=uo.mp (PM z);have B1:=B.tab h0 (dz true);refine bS B1.eb rfl (ax (ao B1.e1) (cL (by omega)) (ax rfl (j9 (by rw[rowA j j2];exact hp)) (rP ⟨rfl,rfl⟩)))
   . obtain⟨h1,h2⟩:=Hq hp' hs;rw[h2];exact k _ h1
 . rintro d rest acc st' ⟨i,hi,rfl,hr,rfl⟩ next
   have hlt:i<N-top:=by
    rcases QX i (N-top)with z|z
    . exact z
    . rw[show N-top-i=0 by omega]at hr;cases hr
   rw[show N-top-i=(N-top-i-1)+1 by omega,Qg,Qj,Qb]at hr;obtain⟨rfl,rfl⟩:=RT hr;refine⟨trivial,_,rfl,?_⟩;refine bS B.eb rfl (ax (ao B.e1) (cL (j:=top+i+0) (by omega)) (ax rfl (j9 (by rw[rowA _ (by omega)];exact hp)) ?_));have e2:List.range (i+1)=List.range i++[i]:=Rf
   have e3:((List.range (N-top-i-1)).map ((λ j=>D.int ((top+i+j:Nat):Int))∘Nat.succ))=(List.range (N-top-(i+1))).map λ j=>D.int ((top+(i+1)+j:Nat):Int):=by
    rw[show N-top-i-1=N-top-(i+1) by omega];refine Qy λ j _=>?_;show D.int ((top+i+(j+1):Nat):Int)=_;rw[show top+i+(j+1)=top+(i+1)+j by omega]
   refine ne2 (λ h=>?_) λ h=>?_
   . refine(next _ _ ⟨i+1,by omega,rfl,e3,?_⟩);rw[e2,UY,Qr];have:Mx.g A (top+i) p≠0:=h;simp[this]
   . refine(next _ _ ⟨i+1,by omega,rfl,e3,?_⟩);rw[e2,UY,Qr];have:Mx.g A (top+i) p=0:=h;simp[this]
structure Bo(n0:Nat)(st st':ae)(b xb xu xc:Nat):Prop where
 lo:1<=n0/\n0<=b/\n0<=xb/\n0<=xu/\n0<=xc
 fr:∀m,m<n0->m≠0->st'[m]?=st[m]?
 tb:∃f,st'[0]?=some (dz f)
def iG:bR:=λ ds st K=>∃(n0 b xb xu xc N w top p e u v:Nat) (A0 A U C:List (List Int)) (ld:Nat->Nat),ds=[.ref b,.int top,.int p]/\Bn st b xb xu xc A U C/\Bo n0 st st b xb xu xc/\Mx.fE A0 N w ⟨A,U,C⟩ top p ld e u v/\N<=16/\w<=9/\p<w/\(top<N->4*e+4<=60000000)/\
 (∀st',Bn st' b xb xu xc A U C->Bo n0 st st' b xb xu xc->Mx.jr A N top p []->K (.bl false) st')/\
 ∀st' xb' xu' xc' (c:Mx.B3) (r:Nat),Bn st' b xb' xu' xc' (Mx.setB c p top r).A (Mx.setB c p top r).U (Mx.setB c p top r).C->Bo n0 st st' b xb' xu' xc'->Mx.gJ N top p ⟨A,U,C⟩ c->Mx.jr c.A N top p [r]->top<N->
  Mx.xl A0 N w top p (2^(4*e+4)) ⟨A,U,C⟩ (Mx.setB c p top r)->K (.bl true) st'
def iP:List Str:=["self","top","place","live","great","small"]
def tR:DS:=(az (aR 3 (gB aw "live_rows" eP (aa 0) (ab (aa 1) (ab (aa 2) af))))
 (az (oH (aU (ai iC (ba cR (ab (aa 3) af)) (dC (.int 1)))) (az (aR 4 (ai aH (aa 3) (i9 ft (dC (.int 1)))))
 (az (aR 5 (ai aH (aa 3) (i9 ft (dC (.int 2)))))
 (az (gb (gB aw "take" iy (aa 0) (ab (aa 4) (ab (av fQ (ab (ai aH (ai aH (cS aw "body" (aa 0)) (aa 4)) (aa 2)) (ab (ai aH (ai aH (cS aw "body" (aa 0)) (aa 5)) (aa 2)) af))) (ab (aa 5) af)))))
 (aR 3 (gB aw "live_rows" eP (aa 0) (ab (aa 1) (ab (aa 2) af))))))))
 (az (cW (aU (ai dR (ba cR (ab (aa 3) af)) (dC (.int 0)))) (bh (dC (.bl false))) cE)
 (az (gb (gB aw "exchange" gY (aa 0) (ab (aa 1) (ab (ai aH (aa 3) (dC (.int 0))) af))))
 (az (cW (aU (ai nJ (ai aH (ai aH (cS aw "body" (aa 0)) (aa 1)) (aa 2)) (dC (.int 0)))) (gb (gB aw "change_sign" fJ (aa 0) (ab (aa 1) af))) cE)
 (bh (dC (.bl true))))))))
theorem Bo.Jt{n0:Nat}{st st':ae}{b xb xu xc:Nat}(h:Bo n0 st st' b xb xu xc):Bo n0 st (st'.set 0 (dz true)) b xb xu xc:=
 ⟨h.lo,λ m hm h0=>by rw[Pb (Pj h0)];exact h.fr m hm h0,true,by
  obtain⟨f,e⟩:=h.tb;exact Pg (O6.mp e).1⟩
theorem Bo.low{n0:Nat}{st st1 st2:ae}{b xb xu xc:Nat}(h:Bo n0 st st1 b xb xu xc)(f:∀m,m≠xb->m≠xu->m≠xc->st2[m]?=st1[m]?):Bo n0 st st2 b xb xu xc:=by
 obtain⟨l1,l2,l3,l4,l5⟩:=h.lo;refine⟨h.lo,λ m hm h0=>?_,?_⟩
 . rw[f m (by omega) (by omega) (by omega)];exact h.fr m hm h0
 . obtain⟨z,e⟩:=h.tb;exact⟨z,by rw[f 0 (by omega) (by omega) (by omega)];exact e⟩
theorem tu{X:List (List Int)}{N w top m i:Nat}(hX:Mx.bH N w X)(h:Mx.eR X N top m)(hi:top<=i)(hN:i<N):∀x∈X.getD i [],x.natAbs<=m:=λ x hx=>by
 obtain⟨c,hc,rfl⟩:=PK.mp hx;have:=h i c hi hN;unfold Mx.g at this;rwa [Mx.aO hc]at this
theorem wb{n j:Nat}(h:1<=j)(h2:j<=n):jy n (-(j:Int))=some (n-j):=by
 unfold jy;rw[O7 (by omega),O_ (by omega)];congr 1;omega
theorem Mn{L:List Nat}{j k:Nat}:cT ((L++[j,k]).map λ(k:Nat)=>D.int (k:Int)) (-1)=some (.int (k:Int)):=by
 unfold cT;have:=wb (n:=((L++[j,k]).map λ(k:Nat)=>D.int (k:Int)).length) (j:=1) (by decide) (by simp);rw[show(-((1:Nat):Int))= -1 from rfl]at this;rw[this];simp
theorem MT{L:List Nat}{j k:Nat}:cT ((L++[j,k]).map λ(k:Nat)=>D.int (k:Int)) (-2)=some (.int (j:Int)):=by
 unfold cT;have:=wb (n:=((L++[j,k]).map λ(k:Nat)=>D.int (k:Int)).length) (j:=2) (by decide) (by simp);rw[show(-((2:Nat):Int))= -2 from rfl]at this;rw[this];simp
theorem DJ:∀ {L:List Nat},1<L.length->∃M j k,L=M++[j,k]:=λ{L} h=>by
 refine⟨L.take (L.length-2),L[L.length-2]'(by omega),L[L.length-1]'(by omega),?_⟩;have e1:L=L.take (L.length-2)++L.drop (L.length-2):=(UX _ _).symm
 have e2:L.drop (L.length-2)=[L[L.length-2]'(by omega),L[L.length-1]'(by omega)]:=by
  rw[PF (by omega),PF (by omega),Qn (by omega)];congr 2;congr 1;omega
 rw[<-e2];exact e1
theorem rm:O4 iG 3 tR iP:=by
 rintro ds st K ⟨n0,b,xb,xu,xc,N,w,top,p,e,u,v,A0,A,U,C,ld,rfl,B,O,S,hN,hw,hp,hz,kf,kt⟩;refine⟨rfl,?_⟩;have hle:=S.le;obtain⟨f,h0⟩:=O.tb;refine hZ B.eb rfl ?_;refine⟨b,xb,xu,xc,N,w,top,p,A,U,C,f,rfl,B,S.tn.isA,hle,hN,hp,hw,h0,λ L hL=>?_⟩;have B1:=B.tab h0 (dz true);have O1:=O.Jt;try dsimp only[af]
 refine eZ (λ σ st'=>∃(L:List Nat) (v4 v5:Option D) (c:Mx.B3) (gr:Nat),σ=[some (.ref b),some (.int top),some (.int p),some (.lst (L.map λ(k:Nat)=> .int (k:Int))),v4,v5]/\L.length<=1/\Bn st' b xb xu xc c.A c.U c.C/\Bo n0 st st' b xb xu xc/\Mx.gJ N top p ⟨A,U,C⟩ c/\Mx.Gb A0 N w top p (2^(4*e)) (N*2^(4*e)) gr ⟨A,U,C⟩ c/\Mx.jr c.A N top p L) (λ nx hnx=>?_) ?_
 . refine⟨λ m σ st'=>∃(L:List Nat) (v4 v5:Option D) (c:Mx.B3) (gr:Nat),σ=[some (.ref b),some (.int top),some (.int p),some (.lst (L.map λ(k:Nat)=> .int (k:Int))),v4,v5]/\Bn st' b xb xu xc c.A c.U c.C/\Bo n0 st st' b xb xu xc/\Mx.gJ N top p ⟨A,U,C⟩ c/\Mx.Gb A0 N w top p (2^(4*e)) (N*2^(4*e)) gr ⟨A,U,C⟩ c/\Mx.jr c.A N top p L/\m=Mx.mu c.A N p,⟨_,L,none,none,⟨A,U,C⟩,_,rfl,B1,O1,.refl _,Mx.Gb.start S,hL,rfl⟩,?_⟩;rintro m σ st1 ⟨L,v4,v5,c,gr,rfl,B,O,hR,hG,hL,rfl⟩;refine cu rfl ?_;rw[O8];refine uI (λ h=>cv ?_) λ h=>si (hnx _ _ ⟨L,v4,v5,c,gr,rfl,by omega,B,O,hR,hG,hL⟩);obtain⟨M,j,k,rfl⟩:=DJ (L:=L) (by omega);refine gI (ax rfl Mn (gI (ax rfl MT ?_)));obtain⟨G2,hlt,hoth,k1,k2,j1,j2,hjk,hj0,hqq⟩:=hG.step hL;have hz:=hz (by omega);have T:=hG.tn;have lA:=T.isA.len;have hlow:=hG.low hN;refine hZ B.eb rfl (bS B.eb rfl (ax (ao B.e1) (cL (by omega)) (ax rfl (j9 (by rw[Mx.cf T.isA k2];exact hp)) (bS B.eb rfl (ax (ao B.e1) (cL (by omega)) (ax rfl (j9 (by rw[Mx.cf T.isA j2];exact hp)) ?_))))));refine⟨_,_,rfl,hj0,?_⟩
   have hq:(Mx.qn (Mx.g c.A k p) (Mx.g c.A j p)).natAbs<=2^(4*e+4):=by
    have h1:=(hG.sA k p k1 k2).2;rw[Q0];omega
   have hm:∀ {x:Int},x.natAbs<=2^(4*e+4)->IntMulOk (Mx.qn (Mx.g c.A k p) (Mx.g c.A j p)) x/\IntMulOk (-(Mx.qn (Mx.g c.A k p) (Mx.g c.A j p))) x:=λ{x} h=>
    ⟨gp hq h (by omega),gp (by rw[Rm];exact hq) h (by omega)⟩
   refine⟨b,xb,xu,xc,N,w,k,j,c.A,c.U,c.C,_,rfl,B,T.isA,T.dX,T.eN,k2,j2,hN,hw,λ x hx=>(hm (tu T.isA hlow.1 j1 j2 x hx)).2,λ x hx=>(hm (tu T.dX hlow.2.1 j1 j2 x hx)).2,λ x hx=>(hm (tu T.eN hlow.2.2 k1 k2 x hx)).1,λ st2 B2 l2 f2=>?_⟩;have O2:=O.low f2;obtain⟨f',h0'⟩:=O2.tb;refine hZ B2.eb rfl ?_;refine⟨b,xb,xu,xc,N,w,top,p,_,_,_,f',rfl,B2,G2.tn.isA,hle,hN,hp,hw,h0',λ L2 hL2=>?_⟩;refine⟨_,?_,L2,_,_,Mx.mW c p k j,_,rfl,B2.tab h0' (dz true),O2.Jt,hR.tail ⟨M,k,j,hL,rfl⟩,G2,hL2,rfl⟩;unfold Mx.mu;refine Mx.Gj (k:=k) hlt k2 λ i hi=>?_;by_cases h:i=k
   . rw[h];exact QK hlt
   . rw[hoth i h];exact O9 _
 . rintro σ st1 ⟨L,v4,v5,c,gr,rfl,hl,B,O,hR,hG,hL⟩;refine cu rfl ?_;rw[O8];match L,hl,hL with
   | [],_,hL=>
     refine eq2 (λ h=>cv ?_) λ h=>absurd rfl h
     have e0:c=⟨A,U,C⟩:=by
      rcases hG.L0 with z|⟨j,h1,h2,h3⟩
      . exact z
      . exact absurd ((hL.mem j).mpr ⟨h1,h2,h3⟩) (by simp)
     subst e0;exact kf st1 B O hL
   | [r],_,hL=>
     refine eq2 (λ h=>absurd h (by simp)) λ h=>si ?_;obtain⟨s2,hr1,hr2⟩:=hG.set (hG.low hN) hL;have ht:top<N:=by omega
     have T:=hG.tn;refine hZ B.eb rfl (ax rfl (show cT ([r].map λ(k:Nat)=>D.int (k:Int)) 0=some (.int (r:Int))from rfl) ?_);refine⟨b,xb,xu,xc,N,w,top,r,c.A,c.U,c.C,rfl,B,T.isA,T.dX,T.eN,ht,hr2,λ st2 B2 l2 f2=>?_⟩;obtain⟨l1,l2',l3,l4,l5⟩:=O.lo
     have hst:n0<=st1.length:=by
      have:=(O6.mp B.eb).1;omega
     have O2:Bo n0 st st2 b st1.length (st1.length+1) (st1.length+2):=by
      refine⟨⟨l1,l2',by omega,by omega,by omega⟩,λ m hm h0=>?_,?_⟩
      . rw[f2 m (by omega) (by omega)];exact O.fr m hm h0
      . obtain⟨z,e⟩:=O.tb;exact⟨z,by rw[f2 0 (by omega) (by omega)];exact e⟩
     have T1:=T.FE ht hr2;refine bS B2.eb rfl (ax (ao B2.e1) (cL (by have:=T1.isA.len;omega)) (ax rfl (j9 (by rw[Mx.cf T1.isA ht];exact hp)) ?_));refine Jf (λ h=>cv ?_) λ h=>si ?_
     . have es:Mx.setB c p top r=⟨Mx.e7 (Mx.a_ c.A top r) top,Mx.e7 (Mx.a_ c.U top r) top,Mx.e7 (Mx.a_ c.C top r) top⟩:=O_ h;refine hZ B2.eb rfl ?_;refine⟨b,_,_,_,N,w,top,_,_,_,rfl,B2,T1.isA,T1.dX,T1.eN,ht,hN,hw,λ st3 B3 l3 f3=>?_⟩;exact kt st3 _ _ _ c r (by rw[es];exact B3) (O2.low f3) hR hL ht s2
     . have es:Mx.setB c p top r=⟨Mx.a_ c.A top r,Mx.a_ c.U top r,Mx.a_ c.C top r⟩:=O7 (λ z=>by unfold Mx.g at z;omega);exact kt st2 _ _ _ c r (by rw[es];exact B2) O2 hR hL ht s2
def fH:bR:=λ ds st K=>∃(b xb xu xc N w top p e u v:Nat) (A0 A U C:List (List Int)),ds=[.ref b,.int top,.int p]/\Bn st b xb xu xc A U C/\Mx.Tn A0 A U C N w/\N<=16/\w<=9/\p<w/\top<N/\0<Mx.g A top p/\(∀q,q<p->Mx.g A top q=0)/\
 (∀q,(Mx.g A top q).natAbs<=2^e/\(Mx.g U top q).natAbs<=2^e/\(Mx.g C top q).natAbs<=2^e)/\(∀i q,i<top->(Mx.g A i q).natAbs<=2^u/\(Mx.g U i q).natAbs<=2^u/\(Mx.g C i q).natAbs<=2^v)/\u+e<=125000000/\u+v<=125000000/\
 ∀st',Bn st' b xb xu xc (Mx.jx p top top ⟨A,U,C⟩).A (Mx.jx p top top ⟨A,U,C⟩).U (Mx.jx p top top ⟨A,U,C⟩).C->(∀m,m≠xb->m≠xu->m≠xc->st'[m]?=st[m]?)->Mx.jG A0 N w top p e u v ⟨A,U,C⟩ top (Mx.jx p top top ⟨A,U,C⟩)->K .aq st'
def fI:List Str:=["self","top","place","k"]
def nt:DS:=(fy (b_ (ab (aa 1) af)) (aV 3) (gb (gB aw "take" iy (aa 0) (ab (aa 3) (ab (ai l6 (ai aH (ai aH (cS aw "body" (aa 0)) (aa 3)) (aa 2)) (ai aH (ai aH (cS aw "body" (aa 0)) (aa 1)) (aa 2))) (ab (aa 1) af))))))
theorem AZ{X:List (List Int)}{i:Nat}{x:Int}(hx:x∈X.getD i []):∃q,x=Mx.g X i q:=by
 obtain⟨c,hc,rfl⟩:=PK.mp hx;exact⟨c,by unfold Mx.g;rw[Mx.aO hc]⟩
theorem mv:O4 fH 3 nt fI:=by
 rintro ds st K ⟨b,xb,xu,xc,N,w,top,p,e,u,v,A0,A,U,C,rfl,B,T,hN,hw,hp,ht,htp,hz,hlo,hhi,he,hu,kk⟩;refine⟨rfl,?_⟩;refine cC ⟨by omega,by omega⟩ ?_;rw[Pp];refine et top (λ k σ st'=>∃v3:Option D,σ=[some (.ref b),some (.int top),some (.int p),v3]/\Bn st' b xb xu xc (Mx.jx p top k ⟨A,U,C⟩).A (Mx.jx p top k ⟨A,U,C⟩).U (Mx.jx p top k ⟨A,U,C⟩).C/\(∀m,m≠xb->m≠xu->m≠xc->st'[m]?=st[m]?)/\Mx.jG A0 N w top p e u v ⟨A,U,C⟩ k (Mx.jx p top k ⟨A,U,C⟩)) ?_ ?_ ⟨none,rfl,B,λ _ _ _ _=>rfl,Mx.jG.start T λ q=>(hlo q).2.2⟩
 . rintro σ st' ⟨v3,rfl,B',f,I⟩;exact kk st' B' f I
 . rintro k σ st' rest hk ⟨v3,rfl,B',f,I⟩ next
   refine⟨_,rfl,?_⟩;have hs:=I.step hk ht hp htp hz (λ q=>⟨(hlo q).1,(hlo q).2.1⟩) hhi;generalize hc:Mx.jx p top k ⟨A,U,C⟩=c at*;have lA:=I.tn.isA.len;have kN:k<N:=by omega
   have gA:∀i q,k<=i->Mx.g c.A i q=Mx.g A i q:=λ i q hi=>by unfold Mx.g;rw[(I.rA i hi).1]
   have gU:∀i q,k<=i->Mx.g c.U i q=Mx.g U i q:=λ i q hi=>by unfold Mx.g;rw[(I.rA i hi).2]
   have gC:∀i q,i≠top->Mx.g c.C i q=Mx.g C i q:=λ i q hi=>by unfold Mx.g;rw[I.rC i hi]
   have hq:((Mx.g c.A k p).fdiv (Mx.g c.A top p)).natAbs<=2^u:=by
    rw[gA k p (O9 _),gA top p (by omega)];exact Pe (Mx.g8 _ htp) (hhi k p hk).1
   have htp':Mx.g c.A top p≠0:=by rw[gA top p (by omega)];omega
   refine hZ B'.eb rfl (bS B'.eb rfl (ax (ao B'.e1) (cL (by omega)) (ax rfl (j9 (by rw[Mx.cf I.tn.isA kN];exact hp)) (bS B'.eb rfl (ax (ao B'.e1) (cL (by omega)) (ax rfl (j9 (by rw[Mx.cf I.tn.isA ht];exact hp)) (wV htp' ?_)))))));refine⟨b,xb,xu,xc,N,w,k,top,c.A,c.U,c.C,_,rfl,B',I.tn.isA,I.tn.dX,I.tn.eN,kN,ht,hN,hw,λ x hx=>?_,λ x hx=>?_,λ x hx=>?_,λ st2 B2 l2 f2=>?_⟩
   . obtain⟨q,rfl⟩:=AZ hx;rw[gA top q (by omega)];exact gp (by rw[Rm];exact hq) (hlo q).1 (by omega)
   . obtain⟨q,rfl⟩:=AZ hx;rw[gU top q (by omega)];exact gp (by rw[Rm];exact hq) (hlo q).2.1 (by omega)
   . obtain⟨q,rfl⟩:=AZ hx;rw[gC k q (by omega)];exact gp hq (hhi k q hk).2.2 (by omega)
   . have el:Mx.jx p top (k+1) ⟨A,U,C⟩=⟨Mx.aK c.A k ((Mx.g c.A k p).fdiv (Mx.g c.A top p)) top,Mx.aK c.U k ((Mx.g c.A k p).fdiv (Mx.g c.A top p)) top,Mx.aK c.C top (-((Mx.g c.A k p).fdiv (Mx.g c.A top p))) k⟩:=by rw[<-hc];rfl
     refine next _ _ ⟨_,rfl,?_,λ m h1 h2 h3=>(f2 m h1 h2 h3).trans (f m h1 h2 h3),?_⟩
     . rw[el];exact B2
     . rw[el];exact hs
structure Bk(st st':ae):Prop where
 le:st.length<=st'.length
 fr:∀m,m<st.length->m≠0->st'[m]?=st[m]?
 tb:∃f,st'[0]?=some (dz f)
def mY:bR:=λ ds st K=>∃(d:D) (N w e0:Nat) (A:List (List Int)) (f:Bool),ds=[d]/\eQ st d A/\Mx.bH N w A/\1<=N/\N<=16/\w<=8/\Mx.eR A N 0 (2^e0)/\e0<60000000/\Mx.Ry N w e0/\st[0]?=some (dz f)/\
 ∀st' (top:Nat) (c:Mx.B3) (ld:Nat->Nat),Mx.tP A N w top c->Mx.fE A N w c top w ld (Mx.Ey e0 top) (Mx.Uy e0 top) (Mx.Cy e0 top)->Bk st st'->K (.tup [a6 (c.A.take top),a6 c.U,a6 (Mx.Gv c.C N)]) st'
def rj:List Str:=["rows","bench","top","place","back"]
def z_:DS:=(az (aR 1 (Au aw g0 (ab (aa 0) af)))
 (az (aR 2 (dC (.int 0)))
 (az (fy (b_ (ab (ba cR (ab (ai aH (aa 0) (dC (.int 0))) af)) af)) (aV 3) (cW (aU (gB aw "gather" iG (aa 1) (ab (aa 2) (ab (aa 3) af)))) (az (gb (gB aw "lower_above" fH (aa 1) (ab (aa 2) (ab (aa 3) af))))
 (AQ 2 (wt (λ i j=>i+j)) (dC (.int 1)))) cE))
 (az (aR 4 (av jt (ab (cS aw "back_columns" (aa 1)) (ab (ba cR (ab (aa 0) af)) af))))
 (bh (fF (ab (av kR (ab (fR (cS aw "body" (aa 1)) fb (ix (aa 2))) af)) (ab (av kR (ab (cS aw "turn" (aa 1)) af)) (ab (aa 4) af)))))))))
theorem t_{st st':ae}{f:Bool}(h0:st[0]?=some (dz f))(fr:∀m,m<st.length->m≠0->st'[m]?=st[m]?){d:D}{xs:List D}(h:items? st d=some xs):items? st' d=some xs:=by
 cases d with
 |ref n=>
  have e:=nQ h;have n0:n≠0:=oU e h0;rw[ao ((fr n (O6.mp e).1 n0).trans e)]
 |_=>exact h
theorem uB{st st':ae}{f:Bool}(h0:st[0]?=some (dz f))(fr:∀m,m<st.length->m≠0->st'[m]?=st[m]?):∀ {ds:List D} {A:List (List Int)},bK st ds A->bK st' ds A
 | [],[],_=>trivial
 |_::_,_::_,h=>⟨t_ h0 fr h.1,uB h0 fr h.2⟩
theorem rS{st st':ae}{f:Bool}(h0:st[0]?=some (dz f))(fr:∀m,m<st.length->m≠0->st'[m]?=st[m]?){d:D}{A:List (List Int)}(h:eQ st d A):eQ st' d A:=by
 obtain⟨ds,h1,h2⟩:=h.ex;exact⟨ds,t_ h0 fr h1,uB h0 fr h2⟩
theorem Dj{xs:List D}{j:Nat}:L3.cutD xs none (some (j:Int))=xs.take j:=by
 unfold L3.cutD;rw[HT.yF,HT.qJ,UZ,Vf];by_cases h:j<=xs.length
 . rw[Uz h]
 . rw[Nat.min_eq_right (by omega),Uo,Ro (by omega)]
theorem x_:O4 mY 1 z_ rj:=by
 rintro ds st K ⟨d,N,w,e0,A,f,rfl,hd,hA,hN1,hN,hw,hlo,he0,hsz,h0,kk⟩;refine⟨rfl,?_⟩;have lA:=hA.len;have h0l:0<st.length:=(O6.mp h0).1;have hd1:eQ (st++[Cell.ins aw []]) d A:=rS h0 (λ m hm _=>Pd hm) hd;refine⟨st.length,N,d,A,rfl,by simp,hd1,lA,hN,λ st1 B1 l1 f1=>⟨rfl,?_⟩⟩;have hl1:(st++[Cell.ins aw []]).length=st.length+1:=by simp
 have fr1:∀m,m<st.length->st1[m]?=st[m]?:=λ m hm=>by rw[f1 m (by omega) (by omega),Pd hm]
 have O1:Bo st.length st st1 st.length (st.length+1) (st.length+1+1) (st.length+1+2):=⟨⟨h0l,by omega,by omega,by omega,by omega⟩,λ m hm _=>fr1 m hm,f,(fr1 0 h0l).trans h0⟩
 rw[hl1]at B1;have hdk:∀ {st':ae},(∀m,m<st.length->m≠0->st'[m]?=st[m]?)->eQ st' d A:=λ h=>rS h0 h hd;obtain⟨da,hda,hra⟩:=(hdk O1.fr).ex;have hdl:=hra.len
 have hrow0:∃d0,da[0]?=some d0/\items? st1 d0=some (aj (A.getD 0 [])):=by
  have hi:0<da.length:=by omega
  obtain⟨r,e1,e2⟩:=bK.get hra (Pk hi);refine⟨da[0],Pk hi,?_⟩;have:A.getD 0 []=r:=by rw[Pc,e1];rfl
  rw[this];exact e2
 obtain⟨d0,hd0,hi0⟩:=hrow0;have er:(aj (A.getD 0 [])).length=w:=by unfold aj;rw[O8];exact Mx.cf hA (by omega)
 try dsimp only[af]
 refine eZ (A:=aR 2 _) (λ σ st'=>σ=[some d,some (.ref st.length),some (.int 0),none,none]/\st'=st1) (λ nx h=>h _ _ ⟨rfl,rfl⟩) ?_;rintro _ _ ⟨rfl,rfl⟩;refine eZ (A:=fy _ _ _) (λ σ st'=>∃(top xb xu xc:Nat) (v3:Option D) (c:Mx.B3) (ld:Nat->Nat),σ=[some d,some (.ref st.length),some (.int top),v3,none]/\Bn st' st.length xb xu xc c.A c.U c.C/\Bo st.length st st' st.length xb xu xc/\Mx.tP A N w top c/\Mx.fE A N w c top w ld (Mx.Ey e0 top) (Mx.Uy e0 top) (Mx.Cy e0 top)) (λ nx hnx=>?_) ?_
 . refine ax hda (show cT da 0=some d0 from fC (j:=0) hd0) (cu hi0 ?_);rw[er];refine cC ⟨by omega,by omega⟩ ?_;rw[Pp];refine et w (λ p σ st'=>∃(top xb xu xc:Nat) (v3:Option D) (c:Mx.B3) (ld:Nat->Nat),σ=[some d,some (.ref st.length),some (.int top),v3,none]/\Bn st' st.length xb xu xc c.A c.U c.C/\Bo st.length st st' st.length xb xu xc/\Mx.tP A N p top c/\Mx.fE A N w c top p ld (Mx.Ey e0 top) (Mx.Uy e0 top) (Mx.Cy e0 top)) ?_ ?_ ⟨0,_,_,_,none,⟨A,Mx.units N,Mx.units N⟩,λ _=>0,rfl,B1,O1,.start,Mx.fE.start hA hlo⟩
   . rintro σ st' ⟨top,xb,xu,xc,v3,c,ld,rfl,B,O,hC,S⟩;exact hnx _ _ ⟨top,xb,xu,xc,v3,c,ld,rfl,B,O,hC,S⟩
   . rintro p σ st' rest hp ⟨top,xb,xu,xc,v3,c,ld,rfl,B,O,hC,S⟩ next
     refine⟨_,rfl,?_⟩;have hle:=S.le;have zd:=S.zd;have hz1:top<N->4*Mx.Ey e0 top+4<=60000000:=λ ht=>QK (hsz top ht (by omega)).1;refine hZ B.eb rfl ?_;refine⟨st.length,st.length,xb,xu,xc,N,w,top,p,_,_,_,A,c.A,c.U,c.C,ld,rfl,B,⟨O.lo,λ _ _ _=>rfl,O.tb⟩,S,hN,by omega,hp,hz1,λ st2 B2 O2 hL=>?_,λ st2 xb2 xu2 xc2 c2 r B2 O2 hR hL ht s1=>?_⟩
     . exact si (next _ _ ⟨top,xb,xu,xc,_,c,ld,rfl,B2,⟨O2.lo,λ m h1 h2=>(O2.fr m h1 h2).trans (O.fr m h1 h2),O2.tb⟩,.next hC (.none hL),S.skip hL⟩)
     . refine cv ?_;have O2':Bo st.length st st2 st.length xb2 xu2 xc2:=⟨O2.lo,λ m h1 h2=>(O2.fr m h1 h2).trans (O.fr m h1 h2),O2.tb⟩
       have hup:∀i q,i<top->Mx.g (Mx.setB c2 p top r).A i q=Mx.g c.A i q/\Mx.g (Mx.setB c2 p top r).U i q=Mx.g c.U i q/\Mx.g (Mx.setB c2 p top r).C i q=Mx.g c.C i q:=λ i q hi=>by
        obtain⟨a1,a2,a3⟩:=s1.up i hi;unfold Mx.g;rw[a1,a2,a3];exact⟨rfl,rfl,rfl⟩
       refine hZ B2.eb rfl ?_;refine⟨st.length,xb2,xu2,xc2,N,w,top,p,Mx.Ey e0 (top+1),Mx.Uy e0 top,Mx.Cy e0 top,A,_,_,_,rfl,B2,s1.tn,hN,by omega,hp,ht,s1.tp,λ q hq=>s1.zs top q (O9 _) ht hq,λ q=>⟨s1.lo.1 top q (O9 _) ht,s1.lo.2.1 top q (O9 _) ht,s1.lo.2.2 top q (O9 _) ht⟩,λ i q hi=>?_,Pe (hsz top ht (Ru S.zd hp)).2.1 (by decide),Pe (hsz top ht (Ru S.zd hp)).2.2 (by decide),λ st3 B3 f3 I=>?_⟩
       . obtain⟨a1,a2,a3⟩:=hup i q hi;rw[a1,a2,a3];exact S.hi i q hi
       . have hS:=Mx.xl.MA (e':=Mx.Ey e0 (top+1)) (u':=Mx.Uy e0 (top+1)) (v':=Mx.Cy e0 (top+1)) S s1 ht I (by omega) (O9 _) (by show _<=Mx.Uy e0 top+Mx.Cy e0 top+Mx.Ey e0 (top+1)+4;omega) (by show _<=Mx.Uy e0 top+Mx.Cy e0 top+Mx.Ey e0 (top+1)+4;omega);exact next _ _ ⟨top+1,xb2,xu2,xc2,_,_,_,rfl,B3,O2'.low f3,.next hC (.one hR hL),hS⟩
 . rintro σ st2 ⟨top,xb,xu,xc,v3,c,ld,rfl,B,O,hC,S⟩;have T:=S.tn;have lN:=T.isA.len;refine bS B.eb rfl ?_;obtain⟨da2,hda2,hra2⟩:=(hdk O.fr).ex;refine cu hda2 ?_;rw[hra2.len,lA];refine⟨_,c.C,N,rfl,⟨_,ao B.e3,bK.lst⟩,T.eN.ff,by rw[T.eN.len];omega,by omega,?_⟩;refine bS B.eb rfl (C8 B.e1 ?_);rw[Dj,<-T5];refine⟨_,c.A.take top,rfl,⟨_,rfl,bK.lst⟩,by rw[P_];omega,?_⟩;refine bS B.eb rfl ?_;refine⟨_,c.U,rfl,⟨_,ao B.e2,bK.lst⟩,by rw[T.dX.len];omega,?_⟩;refine⟨by show 3<=sizeLine;decide,?_⟩;refine kk st2 top c ld hC S ⟨?_,O.fr,O.tb⟩;have:=(O6.mp B.eb).1;omega
structure Wf(F:List (List Int))(m w:Nat):Prop where
 is:Mx.bH m w F
 st:Mx.aJ F m w (Mx.a9 F)
 m8:m<=8
 w8:w<=8
 sm:∀k c,k<m->c<w->(Mx.g F k c).natAbs<=2^5000
theorem Wf.lead{F:List (List Int)}{m w i:Nat}(h:Wf F m w)(hi:i<m):Mx.a9 F i<w/\0<Mx.g F i (Mx.a9 F i)/\(F.getD i []).length=w/\iW (F.getD i [])= .int ((Mx.a9 F i:Nat):Int):=by
 obtain⟨l1,l2,l3⟩:=h.st.lead i hi;refine⟨l1,l2,h.is.row hi,?_⟩;unfold iW;rw[uz l3 (Q6 l2)]
theorem Wf.row{F:List (List Int)}{m w i:Nat}(h:Wf F m w)(hi:i<m):∀x∈F.getD i [],x.natAbs<=2^5000:=λ x hx=>by
 obtain⟨c,hc,rfl⟩:=PK.mp hx;have hw:=h.is.row hi;have:=h.sm i c hi (by omega);unfold Mx.g at this;rwa [Mx.aO hc]at this
theorem qz{x:Int}(h:x.natAbs<=2^5000)(h0:x≠0):x.natAbs.log2<9000:=
 (UN (by omega)).mpr (Ru h (Tu (by decide) (by decide)))
theorem drop_cons{F:List (List Int)}{i:Nat}{d:D}{rest:List D}(hr:d::rest=(F.map bI).drop i):i<F.length/\d=bI (F.getD i [])/\rest=(F.map bI).drop (i+1):=by
 have hi:i<F.length:=by
  rcases QX i F.length with h|h
  . exact h
  . rw[Qn (by rw[O8];exact h)]at hr;cases hr
 rw[PF (by rw[O8];exact hi),QG]at hr;obtain⟨h1,h2⟩:=RT hr;exact⟨hi,by rw[Mx.aO hi];exact h1,h2⟩
theorem drop_nil{F:List (List Int)}{i:Nat}(hr: []=(F.map bI).drop i):F.length<=i:=by
 have:=RD List.length hr;rw[Qx,O8,Sm]at this;omega
theorem J9{i:Nat}{σ:bf}{st:ae}{K:DK}{d:D}(h:σ[i]?=some (some d))(k:K d st):aa i σ st K:=by
 unfold aa;simp only[h];exact k
structure rp(df:D)(ρ:List Int->D)(F:List (List Int)):Prop where
 it:∀st,items? st df=some (F.map ρ)
 row:∀r st,items? st (ρ r)=some (aj r)
theorem rp.T{F:List (List Int)}:rp (a6 F) bI F:=⟨λ _=>rfl,λ _ _=>rfl⟩
theorem rp.L{F:List (List Int)}:rp (jP F) aW F:=⟨λ _=>rfl,λ _ _=>rfl⟩
theorem rZ{ρ:List Int->D}{F:List (List Int)}{i:Nat}{d:D}{rest:List D}(hr:d::rest=(F.map ρ).drop i):i<F.length/\d=ρ (F.getD i [])/\rest=(F.map ρ).drop (i+1):=by
 have hi:i<F.length:=by
  rcases QX i F.length with h|h
  . exact h
  . rw[Qn (by rw[O8];exact h)]at hr;cases hr
 rw[PF (by rw[O8];exact hi),QG]at hr;obtain⟨h1,h2⟩:=RT hr;exact⟨hi,by rw[Mx.aO hi];exact h1,h2⟩
theorem um{ρ:List Int->D}{F:List (List Int)}{i:Nat}(hr: []=(F.map ρ).drop i):F.length<=i:=by
 have:=RD List.length hr;rw[Qx,O8,Sm]at this;omega
def nY:bR:=λ ds st K=>∃(df dr:D) (ρ:List Int->D) (F:List (List Int)) (r:List Int) (m w e:Nat),ds=[df,dr]/\rp df ρ F/\Wf F m w/\items? st dr=some (aj r)/\r.length=w/\(∀c,c<w->(r.getD c 0).natAbs<=2^e)/\e<=10000/\∀st',Ext st st'->K (.tup [bI (Mx.B9 F r m),bI (Mx.cm F r m)]) st'
def uq:List Str:=["form","row","weights","left","each","lead","weight"]
def B0:DS:=(az (aR 2 (qK af))
 (az (aR 3 (ba i8 (ab (aa 1) af)))
 (az (fy (cY (aa 0)) (aV 4) (az (aR 5 (av jh (ab (aa 4) af)))
 (az (aR 6 (ai gQ (ai aH (aa 3) (aa 5)) (ai aH (aa 4) (aa 5))))
 (az (gb (jS (aa 2) (aa 6)))
 (aR 3 (av iJ (ab (aa 3) (ab (i9 ft (aa 6)) (ab (aa 4) af)))))))))
 (bh (fF (ab (ba du (ab (aa 2) af)) (ab (ba du (ab (aa 3) af)) af)))))))
theorem zG:O4 nY 2 B0 uq:=by
 rintro ds st K ⟨df,dr,ρ,F,r,m,w,e,rfl,fr,hW,hr,lr,br,he,k⟩;refine⟨rfl,?_⟩;have lF:=hW.is.len;have m8:=hW.m8;have w8:=hW.w8;refine⟨Pz rfl,?_⟩;have X0:Ext st (st++[.lst []]):=Ext.push;have e0:(st++[Cell.lst []])[st.length]?=some (.lst (aj [])):=by simp
 refine jU (X0.items hr) (mr (fr.it _) λ ok aC=>?_);refine gq (λ rest σ st'=>∃(i:Nat) (v4 v5 v6:Option D),i<=m/\rest=(F.map ρ).drop i/\σ=[some df,some dr,some (.ref st.length),some (aW (Mx.cm F r i)),v4,v5,v6]/\Ext st st'/\st'[st.length]?=some (.lst (aj (Mx.B9 F r i)))) ?_ ?_ _ _ _ ⟨0,none,none,none,Po _,rfl,rfl,X0,e0⟩
 . rintro σ st' ⟨i,v4,v5,v6,hi,hrest,rfl,X,ew⟩;have e1:i=m:=Rb hi (by rw[<-lF];exact um hrest);subst e1;exact⟨aC _ (fr.it _),dc (ao ew) (dc rfl ⟨Pz rfl,k st' X⟩)⟩
 . rintro x rest σ st' ⟨i,v4,v5,v6,hi,hrest,rfl,X,ew⟩ next
   obtain⟨hiF,rfl,rfl⟩:=rZ hrest;have him:i<m:=by rw[<-lF];exact hiF
   obtain⟨l1,l2,wF,eld⟩:=hW.lead him;have lL:=Mx.h8 hW.is lr (i:=i) (QK him);refine⟨aC _ (fr.it _),_,rfl,_,F.getD i [],rfl,fr.row _ _,?_⟩;rw[eld];have at1:cT (aj (F.getD i [])) ((Mx.a9 F i:Nat):Int)=some (.int (Mx.g F i (Mx.a9 F i))):=dH (by omega);have at2:cT (aj (Mx.cm F r i)) ((Mx.a9 F i:Nat):Int)=some (.int ((Mx.cm F r i).getD (Mx.a9 F i) 0)):=dH (by omega);refine ax rfl at2 (ax (fr.row _ _) at1 (iQ (by omega) (qz (hW.sm i _ him l1) (by omega)) ?_));have bx:=Mx.tm hW.is lr hW.st hW.sm br (QK him) _ l1;have bq:(Mx.sr F (Mx.cm F r i) i).natAbs<=2^(e+i*(5000+1)):=Pe (Mx.g8 _ l2) bx;show az _ _ _ [_,_,_,_,_,_,some (.int (Mx.sr F (Mx.cm F r i) i))] _;have lW:(Mx.B9 F r i).length=i:=by unfold Mx.B9;simp
   refine BZ (by rfl) ew (J9 rfl (zC ew (by rw[QZ,O8,lW];omega) ?_));have hlt:=(O6.mp ew).1;refine gI ?_;refine⟨_,_,_,Mx.cm F r i,F.getD i [],rfl,rfl,fr.row _ _,by omega,λ b hb=>gp (by rw[Rm];exact bq) (hW.row him b hb) (by omega),?_⟩;refine next _ _ ⟨i+1,_,_,_,him,rfl,rfl,X.set (O9 _),?_⟩
   rw[Pg hlt,ints_app];congr 3;unfold Mx.B9;rw[Rf,Qr];rfl
def tS:bR:=λ ds st K=>∃(df dr:D) (ρ:List Int->D) (F:List (List Int)) (r:List Int) (m w e:Nat),ds=[df,dr]/\rp df ρ F/\Wf F m w/\items? st dr=some (aj r)/\r.length=w/\(∀c,c<w->(r.getD c 0).natAbs<=2^e)/\e<=10000/\∀st',Ext st st'->K (bI (Mx.cm F r m)) st'
def yM:List Str:=["form","row"]
def Io:DS:=(bh (ai aH (av nY (ab (aa 0) (ab (aa 1) af))) (dC (.int 1))))
theorem EW:O4 tS 2 Io yM:=by
 rintro ds st K ⟨df,dr,ρ,F,r,m,w,e,rfl,fr,hW,hr,lr,br,he,k⟩;exact⟨rfl,df,dr,ρ,F,r,m,w,e,rfl,fr,hW,hr,lr,br,he,λ st' X=>ax rfl rfl (k st' X)⟩
theorem uJ:∀(r:List Int) (i l:Nat),dZ r i=some l->∃k,l=i+k/\k<r.length/\r.getD k 0≠0/\∀c,c<k->r.getD c 0=0
 | [],_,_,h=>by cases h
 |x::r,i,l,h=>by
  unfold dZ at h;split at h
  . rename_i hx;obtain⟨k,e,hk,hr,hz⟩:=uJ r (i+1) l h;refine⟨k+1,by omega,RP hk,hr,λ c hc=>?_⟩;cases c with
    |zero=>exact hx
    |succ c=>exact hz c (R8 hc)
  . cases h;exact⟨0,rfl,Ts _,by assumption,λ c hc=>absurd hc (Pq _)⟩
theorem ya{r:List Int}{l:Nat}(h:dU r=some l):l<r.length/\r.getD l 0≠0/\∀c,c<l->r.getD c 0=0:=by
 obtain⟨k,e,h1,h2,h3⟩:=uJ r 0 l h;rw[QW]at e;subst e;exact⟨h1,h2,h3⟩
theorem eS{A:List (List Int)}{t i c:Nat}(h:i<t):Mx.g (A.take t) i c=Mx.g A i c:=by
 have e:(A.take t).getD i []=A.getD i []:=by rw[Pc,Pc,TQ,O_ h]
 unfold Mx.g;rw[e]
structure Fo(A:List (List Int))(N w:Nat)(F:List (List Int))(m:Nat):Prop where
 is:Mx.bH m w F
 st:Mx.aJ F m w (Mx.a9 F)
 red:Mx.p8 F m (Mx.a9 F)
 same:Mx.bG A N F m w
 m8:m<=8
theorem K_{A:List (List Int)}{N w top e u v:Nat}{c:Mx.B3}{ld:Nat->Nat}(H2:Mx.fE A N w c top w ld e u v)(w8:w<=8):Fo A N w (c.A.take top) top:=by
 have zd:=H2.zd;have H:=H2.OR
 have s:Mx.aJ (c.A.take top) top w ld:=⟨λ i hi=>by
  obtain⟨h1,h2,h3⟩:=H.lead i hi;exact⟨h1,by rw[eS hi];exact h2,λ c hc=>by rw[eS hi];exact h3 c hc⟩,H.mono⟩
 have le:=H.le;refine⟨⟨by rw[P_,H.tn.isA.len];omega,λ r hr=>H.tn.isA.ff r (RK hr)⟩,s.OS,λ i j hij hj=>?_,⟨λ k hk=>?_,λ k hk=>?_⟩,by omega⟩
 . rw[s.a9 hj,eS (Rz hij hj),eS hj];exact H.red i j hij hj
 . obtain⟨z,hz⟩:=H.out k hk;exact⟨z,λ q hq=>(hz q hq).trans (Mx.ay λ i hi=>by rw[eS hi])⟩
 . exact(H.in k hk).eq λ q _=>eS hk
theorem kr{F:List (List Int)}{m w:Nat}{r:List Int}(hW:Wf F m w)(lr:r.length=w):(Mx.cm F r m=List.replicate w 0↔Mx.aP F m w λ c=>r.getD c 0)/\(dU (Mx.cm F r m)=none↔Mx.cm F r m=List.replicate w 0):=by
 have lR:=Mx.h8 hW.is lr (O9 m);have fz:=(Mx.o9 hW.is lr hW.st (O9 m)).zero hW.st;have z:Mx.cm F r m=List.replicate w 0↔∀c,c<w->(Mx.cm F r m).getD c 0=0:=⟨λ h c _=>by rw[h];exact Mx.bY _ _,λ h=>Mx.GH lR (by simp) λ j hj=>by rw[h j hj,Mx.bY]⟩
 refine⟨z.trans fz,⟨λ h=>z.mpr λ c _=>rY _ 0 h c,λ h=>?_⟩⟩;cases e:dU (Mx.cm F r m)with
 |none=>rfl
 |some l=>
  obtain⟨h1,h2,_⟩:=ya e;exact absurd (z.mp h l (by omega)) h2
theorem oz{A:List (List Int)}{N w M:Nat}(hA:Mx.bH N w A)(h:∀r∈A,∀x∈r,x.natAbs<=M):∀i c,i<N->c<w->(Mx.g A i c).natAbs<=M:=λ i c hi hc=>by
 have lA:=hA.len;have lr:=hA.row hi;unfold Mx.g;exact h _ (by rw[Mx.aO (by omega)];exact Q8 _) _ (getD_mem (by omega))
theorem sH{A:List (List Int)}{N w M:Nat}(hA:Mx.bH N w A)(h:∀i c,i<N->c<w->(Mx.g A i c).natAbs<=M):Mx.eR A N 0 M:=λ i c _ hi=>by
 by_cases hc:c<w
 . exact h i c hi hc
 . have lr:=hA.row hi;unfold Mx.g;rw[Mx.iV (by omega)];exact Po _
def l7:bR:=λ ds st K=>∃(d:D) (A:List (List Int)) (N w e0:Nat) (f:Bool),ds=[.int w,d]/\eQ st d A/\Mx.bH N w A/\N<=16/\w<=8/\Mx.eR A N 0 (2^e0)/\e0<60000000/\Mx.Ry N w e0/\st[0]?=some (dz f)/\∀st' F m,Bk st st'->Fo A N w F m->K (.tup [.int w,a6 F]) st'
def yL:List Str:=["wide","rows"]
def HS:DS:=(bh (fF (ab (aa 0) (ab (vG (aU (ai iC (ba cR (ab (aa 1) af)) (dC (.int 0)))) (ai aH (av mY (ab (aa 1) af)) (dC (.int 0))) (fF af)) af))))
theorem IW{A:List (List Int)}{w:Nat}:Fo A 0 w [] 0:=
 ⟨⟨rfl,λ r hr=>by cases hr⟩,⟨λ i hi=>absurd hi (Pq _),λ i j _ hj=>absurd hj (Pq _)⟩,λ i j _ hj=>absurd hj (Pq _),⟨λ k hk=>absurd hk (Pq _),λ k hk=>absurd hk (Pq _)⟩,Po _⟩
theorem EJ:O4 l7 2 HS yL:=by
 rintro ds st K ⟨d,A,N,w,e0,f,rfl,hd,hA,n8,w8,hlo,he0,hRm,h0,k⟩;refine⟨rfl,?_⟩;have lA:=hA.len;obtain⟨da,hda,ra⟩:=hd.ex;have lda:da.length=N:=by rw[ra.len];exact lA
 refine cu hda (uI (λ h=>cv ?_) λ h=>?_)
 . exact⟨d,N,w,e0,A,f,rfl,hd,hA,by omega,n8,by omega,hlo,he0,hRm,h0,λ st1 top c ld hC H B=>ax rfl rfl ⟨Pz rfl,k st1 _ _ B (K_ H w8)⟩⟩
 . have n0:N=0:=by omega
   subst n0;exact⟨Po _,Pz rfl,k st [] 0 ⟨O9 _,λ _ _ _=>rfl,f,h0⟩ IW⟩
structure Sp(x:D)(w:Nat)(F:List (List Int))(k:Nat):Prop where
 ex:∃(df:D) (ρ:List Int->D),(∀st,items? st x=some [.int w,df])/\rp df ρ F
 wf:Wf F k w
theorem Sp.T{w k:Nat}{F:List (List Int)}(h:Wf F k w):Sp (.tup [.int w,a6 F]) w F k:=⟨⟨_,_,λ _=>rfl,rp.T⟩,h⟩
theorem Sp.L{w k:Nat}{F:List (List Int)}(h:Wf F k w):Sp (.lst [.int w,jP F]) w F k:=⟨⟨_,_,λ _=>rfl,rp.L⟩,h⟩
def dB:bR:=λ ds st K=>∃(x y:D) (F G:List (List Int)) (k m w:Nat),ds=[x,y]/\Sp x w F k/\Sp y w G m/\∀b:Bool,(b=true↔∀i,i<k->Mx.aP G m w (Mx.g F i))->∀st',Ext st st'->K (.bl b) st'
def pL:List Str:=["one","other"]
def yk:DS:=(bh (jE (ai dR (ai aH (aa 0) (dC (.int 0))) (ai aH (aa 1) (dC (.int 0)))) (ba tM (ab (cy (cY (ai aH (aa 0) (dC (.int 1)))) [none,some 1] (aV 0) bM (ai kP (av jh (ab (av tS (ab (ai aH (aa 1) (dC (.int 1))) (ab (aa 0) af))) af)) (dC .aq))) af))))
theorem D3{r:List Int}:iW r= .aq↔dU r=none:=by
 unfold iW;cases dU r with
 |none=>exact⟨λ _=>rfl,λ _=>rfl⟩
 |some k=>exact⟨(λ h=>nomatch h),(λ h=>nomatch h)⟩
theorem m5{α:Type}{f:α->Bool}:∀l:List α,il (l.map λ x=>D.bl (f x))=some (l.map f)
 | []=>rfl
 |x::l=>by simp[il,m5 l]
theorem MQ{d:D}{st:ae}{K:DK}(b:Bool)(hb:b=true↔d= .aq)(hd:d= .aq\/∃i,d= .int i)(k:K (.bl b) st):kP d .aq st K:=by
 rcases hd with rfl|⟨i,rfl⟩
 . have:b=true:=hb.mpr rfl;subst this;exact ma rfl k
 . have:b=false:=by
    cases b with
    |false=>rfl
    |true=>exact nomatch hb.mp rfl
   subst this;exact ma rfl k
theorem wL:O4 dB 2 yk pL:=by
 rintro ds st K ⟨x,y,F,G,k,m,w,rfl,⟨⟨df,ρ,hx,fr⟩,hF⟩,⟨⟨dg,ρ',hy,fr'⟩,hG⟩,kk⟩;refine⟨rfl,?_⟩;have lF:=hF.is.len;have k8:=hF.m8;refine ax (hx _) rfl (ax (hy _) rfl (eqT rfl (cv ?_)));refine ax (hx _) rfl (mr (fr.it _) λ ok aC=>⟨bU (by rw[O8];omega),?_⟩);refine cX (λ rest acc st'=>∃i:Nat,i<=k/\rest=(F.map ρ).drop i/\acc=(List.range i).map (λ j=>D.bl (decide (dU (Mx.cm G (F.getD j []) m)=none)))/\Ext st st') ?_ ?_ _ _ _ ⟨0,Po _,rfl,rfl,Ext.refl⟩
 . rintro acc st' ⟨i,hi,hrest,rfl,X⟩;have e1:i=k:=Rb hi (by rw[<-lF];exact um hrest);subst e1;refine⟨aC _ (fr.it _),CY (m5 _) (kk _ ?_ st' X)⟩;rw[Vd,Qe];refine⟨λ h j hj=>?_,λ h j hj=>?_⟩
   . have:=h j (QD.mpr hj);have lr:=hF.is.row hj;exact(kr hG lr).1.mp ((kr hG lr).2.mp (by simpa using this))
   . have hj':=QD.mp hj;have lr:=hF.is.row hj';have:=(kr hG lr).2.mpr ((kr hG lr).1.mpr (h j hj'));simpa using this
 . rintro d rest acc st' ⟨i,hi,hrest,rfl,X⟩ next
   obtain⟨hiF,rfl,rfl⟩:=rZ hrest;have hik:i<k:=by omega
   have lr:=hF.is.row hik;refine⟨aC _ (fr.it _),_,rfl,ax (hy _) rfl ⟨dg,_,ρ',G,F.getD i [],m,w,5000,rfl,fr',hG,fr.row _ _,lr,λ c hc=>hF.sm i c hik hc,by decide,λ st2 X2=>⟨_,_,rfl,rfl,?_⟩⟩⟩;refine MQ (decide (dU (Mx.cm G (F.getD i []) m)=none)) (by rw[D3,decide_eq_true_iff]) ?_ ?_
   . unfold iW;cases dU (Mx.cm G (F.getD i []) m)with
     |none=>exact .inl rfl
     |some j=>exact .inr ⟨_,rfl⟩
   . refine next _ _ ⟨i+1,hik,rfl,?_,X.trans X2⟩
     rw[Rf,Qr];rfl
def JK(F G:List (List Int))(k m w:Nat)(d:D):Prop:=((¬(∀i,i<k->Mx.aP G m w (Mx.g F i))\/k≠m)/\d= .aq)\/((∀i,i<k->Mx.aP G m w (Mx.g F i))/\k=m/\d= .int (Mx.Pr m λ i=>Mx.g F i (Mx.a9 G i)/Mx.g G i (Mx.a9 G i)))
def eC:bR:=λ ds st K=>∃(x y:D) (F G:List (List Int)) (k m w:Nat),ds=[x,y]/\Sp x w F k/\Sp y w G m/\∀d st',JK F G k m w d->Ext st st'->K d st'
def sf:List Str:=["one","other","times","inner","outer","lead"]
def zV:DS:=(az (cW (ny (kQ (aU (av dB (ab (aa 0) (ab (aa 1) af))))) (aU (ai h_ (ba cR (ab (ai aH (aa 0) (dC (.int 1))) af)) (ba cR (ab (ai aH (aa 1) (dC (.int 1))) af))))) (bh (dC .aq)) cE)
 (az (aR 2 (dC (.int 1)))
 (az (fy (qk (ab (ai aH (aa 0) (dC (.int 1))) (ab (ai aH (aa 1) (dC (.int 1))) af))) (fO 3 4) (az (aR 5 (av jh (ab (aa 3) af)))
 (aR 2 (ai cJ (aa 2) (ai gQ (ai aH (aa 3) (aa 5)) (ai aH (aa 4) (aa 5)))))))
 (bh (aa 2)))))
theorem yw:O4 eC 2 zV sf:=by
 rintro ds st K ⟨x,y,F,G,k,m,w,rfl,hx',hy',kk⟩;obtain⟨⟨df,ρ,hx,fr⟩,hF⟩:=hx';obtain⟨⟨dg,ρ',hy,fr'⟩,hG⟩:=hy';refine⟨rfl,?_⟩;have lF:=hF.is.len;have lG:=hG.is.len;have k8:=hF.m8;have m8:=hG.m8;refine⟨x,y,F,G,k,m,w,rfl,⟨⟨df,ρ,hx,fr⟩,hF⟩,⟨⟨dg,ρ',hy,fr'⟩,hG⟩,λ b hb st1 X1=>?_⟩;cases b with
 |false=>exact kk _ _ (.inl ⟨.inl λ h=>PV (hb.mpr h),rfl⟩) X1
 |true=>
  have hin:=hb.mp rfl;refine ax (hx _) rfl (cu (fr.it _) (ax (hy _) rfl (cu (fr'.it _) ?_)));rw[O8,O8,lF,lG];refine ne2 (λ h=>cv (kk _ _ (.inl ⟨.inr λ z=>h (by rw[z]),rfl⟩) X1)) λ h=>?_;have hkm:k=m:=by omega
  subst hkm;have al:=λ i hi=>hF.st.alike hG.st hin i hi;have hF':∀ {i:Nat},i<k->i<(F.map ρ).length:=λ h=>by rw[O8];omega
  have hG':∀ {i:Nat},i<k->i<(G.map ρ').length:=λ h=>by rw[O8];omega
  refine ax (hx _) rfl (ax (hy _) rfl (oo (fr.it _) (fr'.it _) λ ok aC=>?_));refine gq (λ rest σ st'=>∃(i:Nat) (v3 v4 v5:Option D),i<=k/\rest=eL ((F.map ρ).drop i) ((G.map ρ').drop i)/\σ=[some x,some y,some (.int (Mx.Pr i λ j=>Mx.g F j (Mx.a9 G j)/Mx.g G j (Mx.a9 G j))),v3,v4,v5]/\st'=st1) ?_ ?_ _ _ _ ⟨0,none,none,none,Po _,rfl,rfl,rfl⟩
  . rintro σ st' ⟨i,v3,v4,v5,hi,hrest,rfl,rfl⟩
    have e1:i=k:=by
     rcases QX i k with h|h
     . rw[PF (hF' h),PF (hG' h)]at hrest;cases hrest
     . omega
    subst e1;exact⟨aC _ (fr.it _) (fr'.it _),kk _ _ (.inr ⟨hin,rfl,rfl⟩) X1⟩
  . rintro d rest σ st' ⟨i,v3,v4,v5,hi,hrest,rfl,rfl⟩ next
    have hik:i<k:=by
     rcases QX i k with h|h
     . exact h
     . rw[Qn (by rw[O8];omega)]at hrest;cases hrest
    rw[PF (hF' hik),PF (hG' hik),QG,QG]at hrest;have hz:∀(a b:D) (as bs:List D),eL (a::as) (b::bs)= .tup [a,b]::eL as bs:=λ _ _ _ _=>rfl;rw[hz]at hrest;obtain⟨rfl,rfl⟩:=RT hrest;have eF:F[i]'(by omega)=F.getD i []:=by rw[Mx.aO (by omega)]
    have eG:G[i]'(by omega)=G.getD i []:=by rw[Mx.aO (by omega)]
    rw[eF,eG];obtain⟨l1,l2,wF,eld⟩:=hF.lead hik;obtain⟨g1,g2,wG,_⟩:=hG.lead hik;obtain⟨ea,ed⟩:=al i hik;refine⟨aC _ (fr.it _) (fr'.it _),_,rfl,_,F.getD i [],rfl,fr.row _ _,?_⟩;rw[eld,<-ea];have at1:cT (aj (F.getD i [])) ((Mx.a9 G i:Nat):Int)=some (.int (Mx.g F i (Mx.a9 G i))):=dH (by rw[wF];exact g1);have at2:cT (aj (G.getD i [])) ((Mx.a9 G i:Nat):Int)=some (.int (Mx.g G i (Mx.a9 G i))):=dH (by omega);refine ax (fr.row _ _) at1 (ax (fr'.row _ _) at2 (iQ (by omega) (qz (hG.sm i _ hik g1) (by omega)) ?_));rw[QT _ (by omega)]
    have bq:(Mx.g F i (Mx.a9 G i)/Mx.g G i (Mx.a9 G i)).natAbs<=2^5000:=by
     rw[<-QT _ (Ra g2)];exact Pe (Mx.g8 _ g2) (hF.sm i _ hik g1)
    have bP:∀j,j<=k->(Mx.Pr j λ j=>Mx.g F j (Mx.a9 G j)/Mx.g G j (Mx.a9 G j)).natAbs<=2^(5000*j):=λ j=>by
     induction j with
     |zero=>intro _;exact O9 1
     |succ j ih=>
      intro hj;have g3:=(hG.lead (show j<k by omega))
      show(_*_:Int).natAbs<=_;rw[Qm,Vg,Q0];refine PY (ih (by omega)) ?_;show(Mx.g F j (Mx.a9 G j)/Mx.g G j (Mx.a9 G j)).natAbs<=_;rw[<-QT _ (Ra g3.2.1)];exact Pe (Mx.g8 _ g3.2.1) (hF.sm j _ (by omega) g3.1)
    refine dG (gp (bP i (by omega)) bq (by omega)) ?_;exact next _ _ ⟨i+1,_,_,_,hik,rfl,rfl,rfl⟩
structure Hd(st:ae)(n:Nat)(b:Int):Prop where
 ex:∃(cs:List Int) (p q f:Int),st[n]?=some (.lst [.lst (aj cs),.int p,.int q,.int f])/\cs.length<=63/\0<=p/\0<=q/\p<=100+b
structure Upd(st:ae)(n:Nat)(st':ae):Prop where
 len:st'.length=st.length
 same:∀m,m≠n->st'[m]?=st[m]?
theorem Upd.refl{st:ae}{n:Nat}:Upd st n st:=⟨rfl,λ _ _=>rfl⟩
theorem Upd.trans{st st1 st2:ae}{n:Nat}(a:Upd st n st1)(b:Upd st1 n st2):Upd st n st2:=⟨b.len.trans a.len,λ m h=>(b.same m h).trans (a.same m h)⟩
theorem Upd.set{st:ae}{n:Nat}{c:Cell}:Upd st n (st.set n c):=⟨Pl,λ m h=>Pb (Pj h)⟩
theorem Hd.mono{st:ae}{n:Nat}{b b':Int}(h:Hd st n b)(l:b<=b'):Hd st n b':=let⟨cs,p,q,f,e,h1,h2,h3,h4⟩:=h.ex;⟨cs,p,q,f,e,h1,h2,h3,by omega⟩
theorem Hd.lt{st:ae}{n:Nat}{b:Int}(B:Hd st n b):n<st.length:=by
 obtain⟨_,_,_,_,e,_⟩:=B.ex;exact(O6.mp e).1
theorem Hd.cell{st st':ae}{n:Nat}{b:Int}(B:Hd st n b)(e:st'[n]?=st[n]?):Hd st' n b:=by
 obtain⟨cs,p,q,f,h,r⟩:=B.ex;exact⟨cs,p,q,f,e.trans h,r⟩
theorem o8{st:ae}{n:Nat}{xs ys:List D}{i:Int}{j:Nat}{d:D}{K:ae->Prop}(h:st[n]?=some (.lst xs))(e:jy xs.length i=some j)(ey:xs.set j d=ys)(k:∀st',st'[n]?=some (.lst ys)->Upd st n st'->K st'):qM (.ref n) (.int i) d st K:=eX h e (by
 refine k _ ?_ Upd.set;rw[Pg (O6.mp h).1,ey])
def mX:bR:=λ ds st K=>∃ns:List Int,ds=[.lst (ns.map .int)]/\ns.length<=63/\∀st',Hd st' st.length 0->Ext st st'->K (.ref st.length) st'
def r_:List Str:=["_law_script","_law_first"]
def Ak:DS:=(az (aR 1 (ba qO (ab (fR (aa 0) fb (ix (dC (.int 1)))) af)))
 (bh (qK (ab (ba i8 (ab (fR (aa 0) fb (ix (dC (.int 63)))) af)) (ab (dC (.int 0)) (ab (ai gQ (ba ou (ab (aa 1) af)) (dC (.int 2))) (ab (ba nC (ab (ai Bp (ba ou (ab (aa 1) af)) (ai nF (dC (.int 10)) (dC (.int 18)))) af)) af)))))))
theorem la{r:List Int}{j:Nat}:L3.cutD (aj r) none (some (j:Int))=aj (r.take j):=by rw[Dj];exact(T5 ..).symm
theorem xY:O4 mX 1 Ak r_:=by
 rintro ds st K ⟨ns,rfl,hl,k⟩;refine⟨rfl,?_⟩;refine kJ ?_;rw[show(1:Int)=((1:Nat):Int)from rfl,show ns.map D.int=aj ns from rfl,la];refine Dm (ints_map _) ?_;generalize(ns.take 1).sum=x;refine kJ ?_;rw[show(63:Int)=((63:Nat):Int)from rfl,la];refine jU rfl (rP (iQ (by decide) (by decide) (rP (rX ⟨by decide,by decide,by decide⟩ (Ma (iS ⟨Pz rfl,?_⟩))))));refine k _ ⟨_,_,_,_,Qz,by rw[P_];omega,SN _,?_,by omega⟩ Ext.push;rw[QT _ (by decide)];exact Int.ediv_nonneg (TN _) (by decide)
def aL:bR:=λ ds st K=>∃(n:Nat) (m b:Int),ds=[.ref n,.int m]/\Hd st n b/\0<=b/\b<=1000000000/\0<m/\m<2^62/\∀r st',0<=r->r<m->Hd st' n (b+1)->Upd st n st'->K (.int r) st'
def q_:List Str:=["_law_hand_here","_law_many_here","_law_found","_law_cell","_law_once","_law_twice"]
def AK:DS:=(az (oH (gL (aU (ai dR (ai aH (aa 0) (dC (.int 3))) (dC (.int 1)))) (gL (aU (ai dR (ai aH (aa 0) (dC (.int 2))) (dC (.int 0)))) (aU (ai nJ (ai ck (ai aH (aa 0) (dC (.int 1))) (dC (.int 1))) (ba cR (ab (ai aH (aa 0) (dC (.int 0))) af)))))) (az (de (aa 0) (dC (.int 1)) (ai ck (ai aH (aa 0) (dC (.int 1))) (dC (.int 1))))
 (de (aa 0) (dC (.int 2)) (ba ou (ab (ai aH (ai aH (aa 0) (dC (.int 0))) (ai aH (aa 0) (dC (.int 1)))) af)))))
 (az (cW (gL (aU (ai dR (ai aH (aa 0) (dC (.int 3))) (dC (.int 1)))) (aU (ai iC (ai aH (aa 0) (dC (.int 2))) (dC (.int 0))))) (az (aR 2 (ai fi (ai aH (aa 0) (dC (.int 2))) (aa 1)))
 (az (de (aa 0) (dC (.int 2)) (ai gQ (ai aH (aa 0) (dC (.int 2))) (aa 1)))
 (bh (aa 2)))) cE)
 (az (de (aa 0) (dC (.int 1)) (ai ck (ai aH (aa 0) (dC (.int 1))) (dC (.int 1))))
 (az (aR 3 (ba qO (ab (fR (fR (ai aH (aa 0) (dC (.int 0))) (ix (ai fi (ai aH (aa 0) (dC (.int 1))) (ba sT (ab (dC (.int 1)) (ab (ba cR (ab (ai aH (aa 0) (dC (.int 0))) af)) af))))) fb) fb (ix (dC (.int 1)))) af)))
 (az (aR 4 (ai fi (ai cJ (ai ck (ai ck (ai fi (aa 3) (dC (.int 2147483629))) (ai cJ (dC (.int 7919)) (ai aH (aa 0) (dC (.int 1))))) (dC (.int 11))) (ai ck (dC (.int 48271)) (ai cJ (dC (.int 2)) (ai aH (aa 0) (dC (.int 1)))))) (dC (.int 2147483647))))
 (az (aR 5 (ai fi (ai ck (ai cJ (aa 4) (ai ck (ai fi (aa 4) (dC (.int 39373))) (ai aH (aa 0) (dC (.int 1))))) (ai cJ (dC (.int 31)) (ai aH (aa 0) (dC (.int 1))))) (dC (.int 1999999973))))
 (bh (ai fi (ai gQ (aa 5) (dC (.int 7))) (aa 1)))))))))
theorem D2{xs:List D}{j:Nat}:L3.cutD xs (some (j:Int)) none=xs.drop j:=by
 unfold L3.cutD;rw[HT.yF,HT.qJ];by_cases h:j<=xs.length
 . rw[Uz h,Ro (by rw[Qx];omega)]
 . rw[Nat.min_eq_right (by omega),UO (O9 _),UO (by omega)];simp
theorem Cg{m:Int}(h0:0<m)(h:m<2^62):m.natAbs.log2<9000:=by
 have:m.natAbs.log2<62:=(UN (by omega)).mpr (by omega);omega
theorem yp:O4 aL 2 AK q_:=by
 rintro ds st K ⟨n,m,b,rfl,⟨cs,p,q,f,e,hcl,hp,hq,hpb⟩,hb0,hb2,hm0,hm1,k⟩;refine⟨rfl,?_⟩;try dsimp only
 refine eZ (A:=oH _ _) (λ σ' st'=>∃(p q:Int),σ'=[some (.ref n),some (.int m),none,none,none,none]/\st'[n]?=some (.lst [.lst (aj cs),.int p,.int q,.int f])/\0<=p/\0<=q/\p<=100+b/\Upd st n st') (λ nx hnx=>?_) ?_
 . refine⟨λ m' σ st'=>∃(p q:Int),σ=[some (.ref n),some (.int m),none,none,none,none]/\st'[n]?=some (.lst [.lst (aj cs),.int p,.int q,.int f])/\0<=p/\0<=q/\p<=100+b/\Upd st n st'/\m'=(cs.length-p).toNat,⟨_,p,q,rfl,e,hp,hq,hpb,Upd.refl,rfl⟩,?_⟩;clear e hp hq hpb p q;rintro m' σ st' ⟨p,q,rfl,e,hp,hq,hpb,U,rfl⟩;have stop:nx [some (.ref n),some (.int m),none,none,none,none] st':=hnx _ _ ⟨p,q,rfl,e,hp,hq,hpb,U⟩;refine ax (ao e) (by rfl) (eq2 (λ _=>cv ?_) λ _=>stop);refine ax (ao e) (by rfl) (eq2 (λ _=>cv ?_) λ _=>stop);refine ax (ao e) (by rfl) (cN (ax (ao e) (by rfl) (cu rfl ?_)));rw[O8];refine Jf (λ h=>cv ?_) λ _=>stop;refine ax (ao e) (by rfl) (cN (o8 (ys:=[.lst (aj cs),.int (p+1),.int q,.int f]) e (by rfl) (by rfl) λ st1 e1 U1=>?_));obtain⟨j,ej⟩:=Qu (show 0<=p+1 by omega);have hj:j<cs.length:=by omega
   refine ax (ao e1) (by rfl) (ax (ao e1) (by rfl) ?_);rw[ej];refine ax rfl (dH hj) (rP ?_);rw[ej]at e1;refine o8 (ys:=[.lst (aj cs),.int j,.int ((cs.getD j 0).natAbs:Nat),.int f]) e1 (by rfl) (by rfl) λ st2 e2 U2=>?_;exact⟨_,by omega,(j:Int),_,rfl,e2,by omega,TN _,by omega,U.trans (U1.trans U2),rfl⟩
 . clear e hp hq hpb p q;rintro σ st1 ⟨p,q,rfl,e,hp,hq,hpb,U⟩
   have mixed:(az (de (aa 0) (dC (.int 1)) (ai ck (ai aH (aa 0) (dC (.int 1))) (dC (.int 1))))
    (az (aR 3 (ba qO (ab (fR (fR (ai aH (aa 0) (dC (.int 0))) (ix (ai fi (ai aH (aa 0) (dC (.int 1))) (ba sT (ab (dC (.int 1)) (ab (ba cR (ab (ai aH (aa 0) (dC (.int 0))) af)) af))))) fb) fb (ix (dC (.int 1)))) af)))
    (az (aR 4 (ai fi (ai cJ (ai ck (ai ck (ai fi (aa 3) (dC (.int 2147483629))) (ai cJ (dC (.int 7919)) (ai aH (aa 0) (dC (.int 1))))) (dC (.int 11))) (ai ck (dC (.int 48271)) (ai cJ (dC (.int 2)) (ai aH (aa 0) (dC (.int 1)))))) (dC (.int 2147483647))))
    (az (aR 5 (ai fi (ai ck (ai cJ (aa 4) (ai ck (ai fi (aa 4) (dC (.int 39373))) (ai aH (aa 0) (dC (.int 1))))) (ai cJ (dC (.int 31)) (ai aH (aa 0) (dC (.int 1))))) (dC (.int 1999999973))))
    (bh (ai fi (ai gQ (aa 5) (dC (.int 7))) (aa 1))))))) {nx:=λ _ st'=>K .aq st',rt:=K} [some (.ref n),some (.int m),none,none,none,none] st1:=by
    refine ax (ao e) (by rfl) (cN (o8 (ys:=[.lst (aj cs),.int (p+1),.int q,.int f]) e (by rfl) (by rfl) λ st2 e2 U2=>?_));have p0:0<=p+1:=by omega
    have pb:p+1<=100+(b+1):=by omega
    generalize p+1=c at e2 p0 pb;refine ax (ao e2) (by rfl) (ax (ao e2) (by rfl) (ax (ao e2) (by rfl) (cu rfl (IG ?_))));have mx:0<(if(((aj cs).length:Nat):Int)>1 then(((aj cs).length:Nat):Int)else 1):=by split<;>omega
    generalize(if(((aj cs).length:Nat):Int)>1 then(((aj cs).length:Nat):Int)else 1)=mm at mx;refine jm (by omega) ?_;obtain⟨j,ej⟩:=Qu (Qo c mx);rw[ej];refine kJ ?_;rw[D2,<-List.map_drop];refine kJ ?_;rw[show(1:Int)=((1:Nat):Int)from rfl,la];refine Dm (ints_map _) ?_;generalize((cs.drop j).take 1).sum=x;refine jm (by decide) (ax (ao e2) (by rfl) (dG (eh (by decide) (by decide)) (cN (cN ?_))));have m1:=Qo x (show(0:Int)<2147483629 by decide);have m2:=QP x (show(0:Int)<2147483629 by decide);refine ax (ao e2) (by rfl) (dG (eh (by decide) (by decide)) (cN (dG (eh (by omega) (by omega)) (jm (by decide) ?_))));have u1:=Qo ((x.fmod 2147483629+7919*c+11)*(48271+2*c)) (show(0:Int)<2147483647 by decide);have u2:=QP ((x.fmod 2147483629+7919*c+11)*(48271+2*c)) (show(0:Int)<2147483647 by decide);generalize((x.fmod 2147483629+7919*c+11)*(48271+2*c)).fmod 2147483647=u at u1 u2⊢;refine jm (by decide) (ax (ao e2) (by rfl) (cN (dG (eh (by omega) (by omega)) (ax (ao e2) (by rfl) (dG (eh (by decide) (by decide)) (cN (jm (by decide) ?_)))))));refine iQ (by decide) (by decide+kernel) (jm (by omega) ?_);exact k _ _ (Qo _ hm0) (QP _ hm0) ⟨cs,_,_,_,e2,hcl,p0,hq,pb⟩ (U.trans U2)
   refine ax (ao e) (by rfl) (eq2 (λ _=>cv ?_) λ _=>mixed);refine ax (ao e) (by rfl) (uI (λ _=>cv ?_) λ _=>mixed);refine ax (ao e) (by rfl) (jm (by omega) (ax (ao e) (by rfl) (iQ (by omega) (Cg hm0 hm1) (o8 (ys:=[.lst (aj cs),.int p,.int (q.fdiv m),.int f]) e (by rfl) (by rfl) λ st4 e4 U4=>?_))));refine k _ _ (Qo _ hm0) (QP _ hm0) ⟨cs,_,_,_,e4,hcl,hp,?_,by omega⟩ (U.trans U4);rw[QT _ (by omega)];exact Int.ediv_nonneg hq (by omega)
def kZ(wild:Int):Nat:=if wild=15 then 1000000000000 else 30
def ka:bR:=λ ds st K=>∃(n:Nat) (b wild:Int),ds=[.ref n,.int wild]/\Hd st n b/\0<=b/\b<=900000000/\∀r st',r.natAbs<=kZ wild->Hd st' n (b+2)->Upd st n st'->K (.int r) st'
def ox:List Str:=["_law_hand_here","_law_wild"]
def vU:DS:=(az (cW (gL (aU (ai dR (aa 1) (dC (.int 15)))) (aU (ai dR (av aL (ab (aa 0) (ab (dC (.int 3)) af))) (dC (.int 0))))) (bh (ai ck (ai fx (av aL (ab (aa 0) (ab (ai fx (ai cJ (dC (.int 2)) (ai nF (dC (.int 10)) (dC (.int 12)))) (dC (.int 1))) af))) (ai nF (dC (.int 10)) (dC (.int 12)))) (dC (.int 1)))) cE)
 (az (cW (aU (ai iC (aa 1) (dC (.int 11)))) (bh (ai fx (av aL (ab (aa 0) (ab (dC (.int 61)) af))) (dC (.int 30)))) cE)
 (bh (ai aH (lB (ab (dC (.int 0)) (ab (dC (.int 1)) (ab (i9 ft (dC (.int 1))) (ab (dC (.int 2)) (ab (dC (.int 0)) (ab (dC (.int 3)) (ab (i9 ft (dC (.int 2))) (ab (dC (.int 1)) af))))))))) (av aL (ab (aa 0) (ab (dC (.int 8)) af)))))))
theorem uS:O4 ka 2 vU ox:=by
 rintro ds st K ⟨n,b,wild,rfl,B,b0,hb,k⟩;refine⟨rfl,?_⟩;have h30:30<=kZ wild:=by unfold kZ;split<;>omega
 have e12:(10:Int)^(12:Int).toNat=1000000000000:=by decide
 have rest:∀st1,Hd st1 n (b+1)->Upd st n st1->(az (cW (aU (ai iC (aa 1) (dC (.int 11)))) (bh (ai fx (av aL (ab (aa 0) (ab (dC (.int 61)) af))) (dC (.int 30)))) cE)
  (bh (ai aH (lB (ab (dC (.int 0)) (ab (dC (.int 1)) (ab (i9 ft (dC (.int 1))) (ab (dC (.int 2)) (ab (dC (.int 0)) (ab (dC (.int 3)) (ab (i9 ft (dC (.int 2))) (ab (dC (.int 1)) af))))))))) (av aL (ab (aa 0) (ab (dC (.int 8)) af)))))) {nx:=λ _ st'=>K .aq st',rt:=K} [some (.ref n),some (.int wild)] st1:=λ st1 B1 U1=>by
  refine uI (λ _=>cv ?_) λ _=>?_
  . exact⟨n,61,_,rfl,B1,by omega,by omega,by decide,by decide,λ r st2 r0 r1 B2 U2=>f9 (k _ _ (by omega) (B2.mono (by omega)) (U1.trans U2))⟩
  . refine gI (gI ⟨Pz rfl,n,8,_,rfl,B1,by omega,by omega,by decide,by decide,λ r st2 r0 r1 B2 U2=>?_⟩);have go:∀c:Int,c.natAbs<=30->K (.int c) st2:=λ c hc=>k c st2 (by omega) (B2.mono (by omega)) (U1.trans U2);have:r=0\/r=1\/r=2\/r=3\/r=4\/r=5\/r=6\/r=7:=by omega
    rcases this with rfl|rfl|rfl|rfl|rfl|rfl|rfl|rfl<;>exact ax rfl rfl (go _ (by decide))
 refine eq2 (λ h15=>cv ?_) λ _=>rest st (B.mono (by omega)) Upd.refl;refine⟨n,3,_,rfl,B,b0,by omega,by decide,by decide,λ r st1 r0 r1 B1 U1=>eq2 (λ _=>cv ?_) λ _=>rest st1 B1 U1⟩;refine rX ⟨by decide,by decide,by decide⟩ (dG (eh (by decide) (by decide)) (f9 ?_));rw[e12];refine⟨n,_,_,rfl,B1,by omega,by omega,by decide,by decide,λ r st2 r0 r1 B2 U2=>rX ⟨by decide,by decide,by decide⟩ (f9 (cN ?_))⟩;rw[e12];refine k _ _ ?_ (B2.mono (by omega)) (U1.trans U2);unfold kZ;rw[O_ h15];omega
def jI:bR:=λ ds st K=>∃(n:Nat) (b:Int) (N w:Nat),ds=[.ref n,.int N,.int w]/\Hd st n b/\0<=b/\b<=800000000/\N<=8/\w<=8/\∀A st',Mx.bH N w A->(∀r∈A,∀x∈r,x.natAbs<=1000000000000)->(5<w->∀r∈A,∀x∈r,x.natAbs<=30)->Hd st' n (b+140)->Upd st n st'->K (a6 A) st'
def rg:List Str:=["_law_hand_here","_law_many_here","_law_wide","_law_wild"]
def AN:DS:=(az (aR 3 (av aL (ab (aa 0) (ab (dC (.int 16)) af))))
 (az (cW (aU (ai iC (aa 2) (dC (.int 5)))) (aR 3 (ba sQ (ab (aa 3) (ab (dC (.int 12)) af)))) cE)
 (bh (ba du (ab (cy (b_ (ab (aa 1) af)) [none,some 2,some 0,some 3] (aV 0) bM (ba du (ab (cy (b_ (ab (aa 1) af)) [none,some 2,some 3] (aV 0) bM (av ka (ab (aa 1) (ab (aa 2) af)))) af))) af)))))
theorem x9:O4 jI 3 AN rg:=by
 rintro ds st K ⟨n,b,N,w,rfl,B,b0,hb,n8,w8,k⟩;refine⟨rfl,?_⟩;refine⟨n,16,_,rfl,B,b0,by omega,by decide,by decide,λ wl st1 r0 r1 B1 U1=>?_⟩;dsimp only;refine eZ (λ σ' st'=>∃wild:Int,σ'=[some (.ref n),some (.int N),some (.int w),some (.int wild)]/\st'=st1/\(5<w->wild≠15)) (λ nx hnx=>?_) ?_
 . refine uI (λ h=>cv (BM ?_)) λ h=>hnx _ _ ⟨wl,rfl,rfl,λ z=>by omega⟩;exact hnx _ _ ⟨_,rfl,rfl,λ _=>by split<;>omega⟩
 rintro σ' st' ⟨wild,rfl,rfl,hwild⟩;have nb:kZ wild<=1000000000000:=by unfold kZ;split<;>omega
 have nb2:5<w->kZ wild<=30:=λ h=>by unfold kZ;rw[O7 (hwild h)];exact O9 _
 refine cC ⟨by omega,by omega⟩ ⟨bU (by rw[cB];omega),?_⟩;rw[Pp];refine cX (λ rest acc st'=>∃A:List (List Int),acc=A.map bI/\A.length+rest.length=N/\(∀r∈A,r.length=w)/\(∀r∈A,∀x∈r,x.natAbs<=kZ wild)/\Hd st' n (b+1+16*A.length)/\Upd st n st') ?_ ?_ _ _ _ ⟨[],rfl,by rw[cB];simp,by simp,by simp,B1.mono (by simp),U1⟩
 . rintro acc st2 ⟨A,rfl,hl,hA,hbd,B2,U2⟩;have hl:A.length=N:=by simpa using hl
   exact⟨trivial,dc rfl (k A st2 ⟨hl,hA⟩ (λ r hr x hx=>Pe (hbd r hr x hx) nb) (λ h r hr x hx=>Pe (hbd r hr x hx) (nb2 h)) (B2.mono (by omega)) U2)⟩
 . rintro x rest acc st2 ⟨A,rfl,hl,hA,hbd,B2,U2⟩ next
   have hl2:A.length<N:=by simp at hl;omega
   refine⟨trivial,_,rfl,?_⟩;refine cC ⟨by omega,by omega⟩ ⟨bU (by rw[cB];omega),?_⟩;rw[Pp];refine cX (λ rest acc st'=>∃r:List Int,acc=aj r/\r.length+rest.length=w/\(∀x∈r,x.natAbs<=kZ wild)/\Hd st' n (b+1+16*A.length+2*r.length)/\Upd st n st') ?_ ?_ _ _ _ ⟨[],rfl,by rw[cB];simp,by simp,B2.mono (by simp),U2⟩
   . rintro acc st3 ⟨r,rfl,hr,hrb,B3,U3⟩;have hr:r.length=w:=by simpa using hr
     refine⟨trivial,dc rfl ?_⟩;show cp _ _ _ _ _ _ _ _ _;rw[Ei];refine next _ _ ⟨A++[r],rfl,by simp at hl⊢;omega,λ q hq=>?_,λ q hq=>?_,B3.mono (by simp;omega),U3⟩
     . rcases PQ.mp hq with h|h
       . exact hA q h
       . rw[Ql.mp h];exact hr
     . rcases PQ.mp hq with h|h
       . exact hbd q h
       . rw[Ql.mp h];exact hrb
   . rintro y rest2 acc st3 ⟨r,rfl,hr,hrb,B3,U3⟩ next2;have hr2:r.length<w:=by simp at hr;omega
     refine⟨trivial,_,rfl,n,_,wild,rfl,B3,by omega,by omega,λ z st4 hz B4 U4=>?_⟩;show cp _ _ _ _ _ _ _ _ _;rw[ints_app];refine next2 _ _ ⟨r++[z],rfl,by simp at hr⊢;omega,λ x hx=>?_,B4.mono (by simp;omega),U3.trans U4⟩;rcases PQ.mp hx with h|h
     . exact hrb x h
     . rw[Ql.mp h];exact hz
def lj:bR:=λ ds st K=>∃(n:Nat) (b:Int),ds=[.ref n]/\Hd st n b/\0<=b/\b<=800000000/\∀(w:Nat) (g:Bool) st',1<=w->w<=8->(g=true->6<=w)->(g=false->w<=4)->Hd st' n (b+2)->Upd st n st'->K (.tup [.int w,.bl g]) st'
def pR:List Str:=["_law_hand_here"]
def yv:DS:=(az (cW (aU (ai dR (av aL (ab (aa 0) (ab (dC (.int 8)) af))) (dC (.int 7)))) (bh (fF (ab (ai ck (dC (.int 6)) (av aL (ab (aa 0) (ab (dC (.int 3)) af)))) (ab (dC (.bl true)) af)))) cE)
 (bh (fF (ab (ai ck (dC (.int 1)) (av aL (ab (aa 0) (ab (dC (.int 4)) af)))) (ab (dC (.bl false)) af)))))
theorem wN:O4 lj 1 yv pR:=by
 rintro ds st K ⟨n,b,rfl,B,b0,hb,k⟩;refine⟨rfl,?_⟩;refine⟨n,8,_,rfl,B,b0,by omega,by decide,by decide,λ r st1 r0 r1 B1 U1=>eq2 (λ _=>cv ?_) λ _=>?_⟩
 . refine⟨n,3,_,rfl,B1,by omega,by omega,by decide,by decide,λ r st2 r0 r1 B2 U2=>cN ⟨Pz rfl,?_⟩⟩;obtain⟨j,rfl⟩:=Qu r0;exact k (6+j) true st2 (by omega) (by omega) (λ _=>by omega) (λ z=>by cases z) (B2.mono (by omega)) (U1.trans U2)
 . refine⟨n,4,_,rfl,B1,by omega,by omega,by decide,by decide,λ r st2 r0 r1 B2 U2=>cN ⟨Pz rfl,?_⟩⟩;obtain⟨j,rfl⟩:=Qu r0;exact k (1+j) false st2 (by omega) (by omega) (λ z=>by cases z) (λ _=>by omega) (B2.mono (by omega)) (U1.trans U2)
def jR:bR:=λ ds st K=>∃(n:Nat) (b:Int) (w:Nat) (g:Bool),ds=[.ref n,.int w,.bl g]/\Hd st n b/\0<=b/\b<=800000000/\1<=w/\w<=8/\∀(N:Nat) st',N<=9->((g=false->w<=4)->N<=8)->Hd st' n (b+1)->Upd st n st'->K (.int N) st'
def rV:List Str:=["_law_hand_here","_law_wide","_law_great"]
def Ap:DS:=(az (cW (aU (aa 2)) (bh (ai aH (lB (ab (aa 1) (ab (dC (.int 7)) (ab (dC (.int 6)) (ab (ai fx (aa 1) (dC (.int 1))) af))))) (av aL (ab (aa 0) (ab (dC (.int 4)) af))))) cE)
 (bh (av aL (ab (aa 0) (ab (ai ck (aa 1) (dC (.int 2))) af)))))
theorem xZ:O4 jR 3 Ap rV:=by
 rintro ds st K ⟨n,b,w,g,rfl,B,b0,hb,w1,w8,k⟩;refine⟨rfl,?_⟩;cases g with
 |true=>
  refine f9 ⟨Pz rfl,n,4,_,rfl,B,b0,by omega,by decide,by decide,λ r st2 r0 r1 B2 U2=>?_⟩;have:r=0\/r=1\/r=2\/r=3:=by omega
  rcases this with rfl|rfl|rfl|rfl
  . exact ax rfl rfl (k w st2 (by omega) (λ _=>w8) B2 U2)
  . exact ax rfl rfl (k 7 st2 (by decide) (λ _=>by decide) B2 U2)
  . exact ax rfl rfl (k 6 st2 (by decide) (λ _=>by decide) B2 U2)
  . obtain⟨v,rfl⟩:∃v,w=v+1:=⟨w-1,by omega⟩
    refine ax rfl (show cT [D.int ((v+1:Nat):Int),.int 7,.int 6,.int (((v+1:Nat):Int)-1)] 3=some (.int (((v+1:Nat):Int)-1))from rfl) ?_;rw[show((v+1:Nat):Int)-1=(v:Int) by omega];exact k v st2 (by omega) (λ _=>by omega) B2 U2
 |false=>
  refine cN ⟨n,_,_,rfl,B,b0,by omega,by omega,by omega,λ r st2 r0 r1 B2 U2=>?_⟩;obtain⟨j,rfl⟩:=Qu r0;exact k j st2 (by omega) (λ h=>by have:=h rfl;omega) B2 U2
def i7:bR:=λ ds st K=>∃(dr:D) (F:List (List Int)) (r:List Int) (m w e:Nat),ds=[a6 F,dr]/\Wf F m w/\items? st dr=some (aj r)/\r.length=w/\(∀c,c<w->(r.getD c 0).natAbs<=2^e)/\e<=10000/\∀st',Ext st st'->K (bI (Mx.cm F r m)) st'
def pA:List Str:=["_law_form","_law_row","_law_left","_law_step","_law_lead","_law_many_here","_law_k"]
def x6:DS:=(az (aR 2 (ba mh (ab (aa 1) af)))
 (az (fy (cY (aa 0)) (aV 3) (az (aR 4 (ai aH (cy (b_ (ab (ba cR (ab (aa 3) af)) af)) [none,some 3] (aV 0) (aU (ai h_ (ai aH (aa 1) (aa 0)) (dC (.int 0)))) (aa 0)) (dC (.int 0))))
 (az (aR 5 (ai gQ (ai aH (aa 2) (aa 4)) (ai aH (aa 3) (aa 4))))
 (fy (b_ (ab (ba cR (ab (aa 2) af)) af)) (aV 6) (de (aa 2) (aa 6) (ai fx (ai aH (aa 2) (aa 6)) (ai cJ (aa 5) (ai aH (aa 3) (aa 6)))))))))
 (bh (ba du (ab (aa 2) af)))))
theorem se:∀(r:List Int) (i:Nat),dZ r (i+1)=(dZ r i).map (· +1)
 | [],_=>rfl
 |x::r,i=>by
  unfold dZ;split
  . exact se r (i+1)
  . rfl
theorem pM:∀r:List Int,((List.range r.length).filter λ j=>decide (r.getD j 0≠0)).head?=dU r
 | []=>rfl
 |x::r=>by
  have ih:=pM r;rw[P7,Qg,Ur];by_cases h:x=0
  . have h1:decide ((x::r).getD 0 0≠0)=false:=by simpa using h
    rw[h1,O7 PV,List.filter_map,List.head?_map]
    have e:(λ j=>decide ((x::r).getD j 0≠0))∘Nat.succ=λ j=>decide (r.getD j 0≠0):=by
     funext j;simp
    rw[e,ih];unfold dU;conv=>rhs;unfold dZ
    rw[O_ h,se]
  . have h1:decide ((x::r).getD 0 0≠0)=true:=by simpa using h
    rw[h1,O_ rfl,List.head?_cons];unfold dU dZ;rw[O7 h]
theorem x8{n:Nat}{p:Nat->Bool}{c:DT}{te:DE}{σc:bf}{st:ae}{K:List D->ae->Prop}(h:∀i:Nat,i<n->∃σ2,aV 0 (.int (i:Int)) σc=some σ2/\(∀K',K' (p i) st->c σ2 st K')/\∀K',K' (.int (i:Int)) st->te σ2 st K')(k:K (((List.range n).filter p).map λ(j:Nat)=>D.int (j:Int)) st):cp (aV 0) c te (λ _=>True) σc (cA 0 n) [] st K:=by
 refine cX (λ rest acc st'=>st'=st/\∃j:Nat,j<=n/\rest=(List.range (n-j)).map (λ i=>D.int (((j+i:Nat):Int)))/\acc=((List.range j).filter p).map λ(j:Nat)=>D.int (j:Int)) ?_ ?_ _ _ _ ⟨rfl,0,Po _,by unfold cA;simp,rfl⟩
 . rintro acc st' ⟨rfl,j,hj,hr,rfl⟩
   have:n-j=0:=by
    cases q:n-j with
    |zero=>rfl
    |succ m=>rw[q,Qg]at hr;cases hr
   have hjn:j=n:=by omega
   subst hjn;exact⟨trivial,k⟩
 . rintro d rest acc st' ⟨rfl,j,hj,hr,rfl⟩ next
   cases q:n-j with
   |zero=>rw[q]at hr;cases hr
   |succ m=>
    rw[q,Qg,Qj,Qb]at hr;simp only[RX]at hr;obtain⟨rfl,hrest⟩:=hr;obtain⟨σ2,e2,hc,ht⟩:=h j (by omega)
    have hrest':rest=(List.range (n-(j+1))).map (λ i=>D.int (((j+1+i:Nat):Int))):=by
     have:n-(j+1)=m:=by omega
     rw[this,hrest];refine Qy λ i _=>?_;show D.int (((j+(i+1):Nat):Int))=D.int (((j+1+i:Nat):Int));congr 2;omega
    refine⟨trivial,σ2,e2,hc _ ?_⟩;cases ep:p j with
    |false=>
     refine next _ _ ⟨rfl,j+1,by omega,hrest',?_⟩
     rw[Rf,Sz,Qr];simp[ep]
    |true=>
     refine cv (ht _ (next _ _ ⟨rfl,j+1,by omega,hrest',?_⟩));rw[Rf,Sz,Qr];simp[ep]
theorem xT{M L:List Int}{k:Nat}(hl:M.length=L.length)(hk:k<L.length):(aj (M.take k++L.drop k)).set k (.int (M.getD k 0))=aj (M.take (k+1)++L.drop (k+1)):=by
 rw[<-Uq];congr 1;have l1:(M.take k).length=k:=by rw[P_];omega
 rw[S9 _ _ (by omega),l1,QM,PF hk,List.set_cons_zero,SV (by omega),QJ,Mx.aO (by omega)];rfl
theorem Bf{M L:List Int}{k:Nat}(hl:M.length=L.length)(hk:k<L.length):cT (aj (M.take k++L.drop k)) (k:Int)=some (.int (L.getD k 0)):=by
 have l1:(M.take k).length=k:=by rw[P_];omega
 rw[dH (by rw[Py,Qx,l1];omega),Pc,PH (by omega),l1,QM,TJ,Nat.add_zero,Pc]
theorem vM:O4 i7 2 x6 pA:=by
 rintro ds st K ⟨dr,F,r,m,w,e,rfl,hW,hr,lr,br,he,k⟩;refine⟨rfl,?_⟩;have lF:=hW.is.len;have m8:=hW.m8;have w8:=hW.w8;refine wy hr ?_;have X0:Ext st (st++[.lst (aj r)]):=Ext.push;have e0:(st++[Cell.lst (aj r)])[st.length]?=some (.lst (aj (Mx.cm F r 0))):=by simp[Mx.cm]
 refine gh ?_;refine gq (λ rest σ st'=>∃(i:Nat) (v3 v4 v5 v6:Option D),i<=m/\rest=(F.map bI).drop i/\σ=[some (a6 F),some dr,some (.ref st.length),v3,v4,v5,v6]/\Ext st st'/\st'[st.length]?=some (.lst (aj (Mx.cm F r i)))) ?_ ?_ _ _ _ ⟨0,none,none,none,none,Po _,rfl,rfl,X0,e0⟩
 . rintro σ st' ⟨i,v3,v4,v5,v6,hi,hrest,rfl,X,ew⟩;have e1:i=m:=Rb hi (by rw[<-lF];exact drop_nil hrest);subst e1;exact⟨trivial,dc (ao ew) (k st' X)⟩
 . rintro x rest σ st' ⟨i,v3,v4,v5,v6,hi,hrest,rfl,X,ew⟩ next
   obtain⟨hiF,rfl,rfl⟩:=drop_cons hrest;have him:i<m:=by rw[<-lF];exact hiF
   obtain⟨l1,l2,wF,eld⟩:=hW.lead him;have lL:=Mx.h8 hW.is lr (i:=i) (QK him);refine⟨trivial,_,rfl,cu rfl ?_⟩;rw[O8,wF];refine cC ⟨by omega,by omega⟩ ⟨bU (by rw[cB];omega),?_⟩;rw[Pp];refine x8 (p:=λ j=>decide ((F.getD i []).getD j 0≠0)) (λ j hj=>⟨_,rfl,λ K' q=>?_,λ K' q=>q⟩) ?_
   . refine ax rfl (dH (by omega)) (ne2 (λ h=>?_) λ h=>?_)
     . rw[QL h]at q;exact q
     . rw[PZ (by simpa using h)]at q;exact q
   have hf:=pM (F.getD i []);rw[wF,uz (hW.st.lead i him).2.2 (Q6 l2)]at hf;generalize((List.range w).filter λ j=>decide ((F.getD i []).getD j 0≠0))=fl at hf;match fl,hf with
   |l::fl,hf=>
    have hl:l=Mx.a9 F i:=by simpa using hf
    subst hl;refine ax rfl (show cT ((Mx.a9 F i::fl).map λ(j:Nat)=>D.int (j:Int)) 0=some (.int ((Mx.a9 F i:Nat):Int))from fC (j:=0) rfl) ?_;have at1:cT (aj (F.getD i [])) ((Mx.a9 F i:Nat):Int)=some (.int (Mx.g F i (Mx.a9 F i))):=dH (by omega);have at2:cT (aj (Mx.cm F r i)) ((Mx.a9 F i:Nat):Int)=some (.int ((Mx.cm F r i).getD (Mx.a9 F i) 0)):=dH (by omega);refine ax (ao ew) at2 (ax rfl at1 (iQ (by omega) (qz (hW.sm i _ him l1) (by omega)) ?_));have bx:=Mx.tm hW.is lr hW.st hW.sm br (QK him) _ l1;have bq:(Mx.sr F (Mx.cm F r i) i).natAbs<=2^(e+i*(5000+1)):=Pe (Mx.g8 _ l2) bx;have lM:(Mx.cm F r (i+1)).length=(Mx.cm F r i).length:=by rw[lL];exact Mx.h8 hW.is lr him
    have hMk:∀c,(Mx.cm F r (i+1)).getD c 0=(Mx.cm F r i).getD c 0-Mx.sr F (Mx.cm F r i) i*Mx.g F i c:=Mx.vE hW.is lr him;unfold Mx.sr at bq hMk;generalize((Mx.cm F r i).getD (Mx.a9 F i) 0).fdiv (Mx.g F i (Mx.a9 F i))=q at bq hMk⊢;refine cu (ao ew) ?_;rw[O8,lL];refine cC ⟨by omega,by omega⟩ ?_;rw[Pp];refine et w (λ c σ st2=>∃v6:Option D,σ=[some (a6 F),some dr,some (.ref st.length),some (bI (F.getD i [])),some (.int (Mx.a9 F i:Nat)),some (.int q),v6]/\Ext st st2/\st2[st.length]?=some (.lst (aj ((Mx.cm F r (i+1)).take c++(Mx.cm F r i).drop c)))) ?_ ?_ ⟨_,rfl,X,by rw[List.take_zero,UZ];exact ew⟩
    . rintro σ st2 ⟨v6,rfl,X2,e2⟩;rw[Qn (by omega),QO,Ro (by omega)]at e2;exact next _ _ ⟨i+1,_,_,_,_,him,rfl,rfl,X2,e2⟩
    . rintro c σ st2 rest2 hc ⟨v6,rfl,X2,e2⟩ next2;refine⟨_,rfl,?_⟩;refine ax (ao e2) (Bf lM (by omega)) (ax rfl (dH (by omega)) (dG (gp bq (hW.sm i c him hc) (by omega)) (f9 ?_)));refine eX e2 (og (by omega) (by rw[O8,Py,P_,Qx];omega)) ?_;rw[Pp];refine next2 _ _ ⟨_,rfl,X2.set (O9 _),?_⟩;rw[Pg (O6.mp e2).1,<-xT lM (by omega),hMk c];rfl
def qD:bR:=λ ds st K=>∃(dr:D) (F:List (List Int)) (r:List Int) (m w e:Nat),ds=[a6 F,dr]/\Wf F m w/\items? st dr=some (aj r)/\r.length=w/\(∀c,c<w->(r.getD c 0).natAbs<=2^e)/\e<=10000/\∀b:Bool,(b=true↔Mx.aP F m w (λ c=>r.getD c 0))->∀st',Ext st st'->K (.bl b) st'
def xF:List Str:=["_law_form","_law_row"]
def EF:DS:=(bh (u_ (aU (ba rQ (ab (av i7 (ab (aa 0) (ab (aa 1) af))) af)))))
theorem any_zero{r:List Int}{w:Nat}(h:r.length=w):(r.any λ n=>decide (n≠0))=false↔r=List.replicate w 0:=by
 rw[List.any_eq_false];refine⟨λ q=>Sd.mpr ⟨h,λ b hb=>by simpa using q b hb⟩,λ q x hx=>?_⟩;have:=(Sd.mp q).2 x hx;simpa using this
theorem Cz:O4 qD 2 EF xF:=by
 rintro ds st K ⟨dr,F,r,m,w,e,rfl,hW,hr,lr,br,he,k⟩;refine⟨rfl,dr,F,r,m,w,e,rfl,hW,hr,lr,br,he,λ st' X=>HB (ints_map _) ?_⟩;refine k _ ?_ st' X;rw[<-(kr hW lr).1,<-any_zero (Mx.h8 hW.is lr (O9 m))];simp
structure XU(st:ae)(n:Nat)(st':ae):Prop where
 len:st.length<=st'.length
 same:∀m,m<st.length->m≠n->st'[m]?=st[m]?
theorem XU.trans{st st1 st2:ae}{n:Nat}(a:XU st n st1)(b:XU st1 n st2):XU st n st2:=⟨Pe a.len b.len,λ m h g=>(b.same m (Pu h a.len) g).trans (a.same m h g)⟩
theorem XU.upd{st st1:ae}{n:Nat}(a:Upd st n st1):XU st n st1:=⟨by rw[a.len];exact O9 _,λ m _ g=>a.same m g⟩
theorem XU.ext{st st1:ae}{n:Nat}(a:Ext st st1):XU st n st1:=⟨a.len,λ m h _=>a.same m h⟩
theorem XU.set{st st1:ae}{n k:Nat}{c:Cell}(a:XU st n st1)(h:st.length<=k):XU st n (st1.set k c):=⟨by rw[Pl];exact a.len,λ m hm g=>by rw[Pb (by omega)];exact a.same m hm g⟩
structure Md(st:ae)(p lo:Nat)(rs:List Nat)(X:List (List Int)):Prop where
 ep:st[p]?=some (.lst (rs.map D.ref))
 len:rs.length=X.length
 at_:∀i,i<X.length->st[rs.getD i 0]?=some (.lst (aj (X.getD i [])))
 nd:∀i j,i<X.length->j<X.length->i≠j->rs.getD i 0≠rs.getD j 0
 ge:∀i,i<X.length->lo<=rs.getD i 0/\rs.getD i 0≠p
 lp:lo<=p
def lg:bR:=λ ds st K=>∃(n:Nat) (b:Int) (A:List (List Int)) (N w M0:Nat),ds=[.ref n,a6 A]/\Hd st n b/\0<=b/\b<=800000000/\Mx.bH N w A/\N<=8/\w<=8/\(∀r∈A,∀x∈r,x.natAbs<=M0)/\∀B N' st',(Hd st' n (b+40))->Mx.bH N' w B->N'<=8->(∀r∈B,∀x∈r,x.natAbs<=243*M0)->Mx.bG A N B N' w->XU st n st'->K (a6 B) st'
def pG:List Str:=["_law_hand_here","_law_rows_here","_law_many_here","_law_made","_law_turn","_law_one","_law_other","_law_by","_law_k"]
def yd:DS:=(az (aR 2 (ba cR (ab (aa 1) af)))
 (az (aR 3 (dN (b_ (ab (aa 2) af)) [none,some 2] (aV 0) bM (dN (b_ (ab (aa 1) af)) [none,some 0] (aV 0) bM (ba nC (ab (ai dR (aa 1) (aa 0)) af)))))
 (az (fy (b_ (ab (ai cJ (av aL (ab (aa 0) (ab (dC (.int 6)) af))) (ba nC (ab (ai iC (aa 2) (dC (.int 1))) af))) af)) (aV 4) (az (aR 5 (av aL (ab (aa 0) (ab (aa 2) af))))
 (az (aR 6 (ai fi (ai ck (ai ck (aa 5) (dC (.int 1))) (av aL (ab (aa 0) (ab (ai fx (aa 2) (dC (.int 1))) af)))) (aa 2)))
 (az (aR 7 (ai fx (av aL (ab (aa 0) (ab (dC (.int 5)) af))) (dC (.int 2))))
 (az (cW (aU (ai dR (aa 7) (dC (.int 0)))) (u9 (oB (kO (aa 3) (aa 5)) (kO (aa 3) (aa 6))) (fF (ab (ai aH (aa 3) (aa 6)) (ab (dN (cY (ai aH (aa 3) (aa 5))) [none] (aV 0) bM (i9 ft (aa 0))) af)))) cE)
 (fy (b_ (ab (aa 2) af)) (aV 8) (de (ai aH (aa 3) (aa 5)) (aa 8) (ai ck (ai aH (ai aH (aa 3) (aa 5)) (aa 8)) (ai cJ (aa 7) (ai aH (ai aH (aa 3) (aa 6)) (aa 8)))))))))))
 (az (cW (gL (aU (ai nJ (aa 2) (dC (.int 8)))) (aU (ai dR (av aL (ab (aa 0) (ab (dC (.int 3)) af))) (dC (.int 0))))) (gb (gR jF (aa 3) (ab (av aL (ab (aa 0) (ab (ai ck (ba cR (ab (aa 3) af)) (dC (.int 1))) af))) (ab (dN (cY (aa 1)) [none,some 0] (aV 0) bM (ai fx (av aL (ab (aa 1) (ab (dC (.int 3)) af))) (dC (.int 1)))) af)))) cE)
 (bh (vG (aU (ai iC (aa 2) (dC (.int 0)))) (av hO (ab (aa 3) (ab (aa 1) af))) (fF af)))))))
theorem pS{tg:dJ}{te:DE}{σc:bf}{st:ae}{K:List D->ae->Prop}(n:Nat)(I:Nat->List D->ae->Prop)(hend:∀acc st,I n acc st->K acc st)
 (hstep:∀(j:Nat) acc st,j<n->I j acc st->∀K':DK,(∀y st',I (j+1) (acc++[y]) st'->K' y st')->∃σ2,tg (.int (j:Int)) σc=some σ2/\te σ2 st K') (h0:I 0 [] st):cp tg bM te (λ _=>True) σc (cA 0 n) [] st K:=by
 refine cX (λ rest acc st=>∃j:Nat,j<=n/\rest=(List.range (n-j)).map (λ i=>D.int (((j+i:Nat):Int)))/\I j acc st) ?_ ?_ _ _ _ ⟨0,Po _,by unfold cA;simp,h0⟩
 . rintro acc st ⟨j,hj,hr,hI⟩
   have:n-j=0:=by
    cases q:n-j with
    |zero=>rfl
    |succ m=>rw[q,Qg]at hr;cases hr
   have hjn:j=n:=by omega
   subst hjn;exact⟨trivial,hend acc st hI⟩
 . rintro d rest acc st ⟨j,hj,hr,hI⟩ next
   cases q:n-j with
   |zero=>rw[q]at hr;cases hr
   |succ m=>
    rw[q,Qg,Qj,Qb]at hr;simp only[RX]at hr;obtain⟨rfl,hrest⟩:=hr
    obtain⟨σ2,e2,h2⟩:=hstep j acc st (by omega) hI (λ y st2=>cp tg bM te (λ _=>True) σc rest (acc++[y]) st2 K) λ y st' h'=>next _ _ ⟨j+1,by omega,by
     have:n-(j+1)=m:=by omega
     rw[this,hrest];refine Qy λ i _=>?_;show D.int (((j+(i+1):Nat):Int))=D.int (((j+1+i:Nat):Int));congr 2;omega,h'⟩
    exact⟨trivial,σ2,e2,h2⟩
theorem Ie{σ:bf}{st:ae}{K:DK}{n:Nat}{xs:List D}{to:DE}{ta:DA}(ho:∀K',K' (.ref n) st->to σ st K')(e:st[n]?=some (.lst xs))(ha:ta σ st λ ds st2=>(∃ys,st2[n]?=some (.lst ys))/\jF n ds st2 K):gR jF to ta σ st K:=by
 unfold gR;refine ho _ ?_;simp only[e];exact ha
theorem NB{st2:ae}{K:DK}{n:Nat}{ys:List D}{i:Int}{d:D}(e2:st2[n]?=some (.lst ys))(h:0<=i/\i<=ys.length/\i<2^62/\ys.length<sizeLine)(k:K .aq (st2.set n (.lst (ys.take i.toNat++d::ys.drop i.toNat)))):(∃ys,st2[n]?=some (.lst ys))/\jF n [.int i,d] st2 K:=by
 refine⟨⟨ys,e2⟩,?_⟩;unfold jF;simp only[e2];exact⟨h,k⟩
theorem xQ{rs:List Nat}{k x:Nat}(hk:k<rs.length)(i:Nat):(rs.set k x).getD i 0=if i=k then x else rs.getD i 0:=by
 rw[Pc,Pc];by_cases h:i=k
 . subst h;rw[Pg hk,O_ rfl];rfl
 . rw[Pb (Pj h),O7 h]
theorem kb{X:List (List Int)}{k:Nat}{x:List Int}(hk:k<X.length)(i:Nat):(X.set k x).getD i []=if i=k then x else X.getD i []:=by
 rw[Pc,Pc];by_cases h:i=k
 . subst h;rw[Pg hk,O_ rfl];rfl
 . rw[Pb (Pj h),O7 h]
theorem mn{rs:List Nat}{i:Nat}(h:i<rs.length):cT (rs.map D.ref) (i:Int)=some (.ref (rs.getD i 0)):=by
 refine fC ?_;rw[PD,Pk h,Mx.aO h];rfl
theorem tX{st:ae}:∀(rs:List Nat) (X:List (List Int)),rs.length=X.length->(∀i,i<X.length->st[rs.getD i 0]?=some (.lst (aj (X.getD i []))))->bK st (rs.map D.ref) X
 | [],[],_,_=>trivial
 | [],_::_,h,_=>by cases h
 |_::_,[],h,_=>by cases h
 |r::rs,x::X,h,k=>⟨ao (k 0 (Up _)),tX rs X (Nat.succ.inj h) λ i hi=>k (i+1) (RP hi)⟩
theorem Md.rows{st:ae}{p lo:Nat}{rs:List Nat}{X:List (List Int)}(h:Md st p lo rs X):eQ st (.ref p) X:=⟨_,ao h.ep,tX rs X h.len h.at_⟩
theorem Md.keep{st st':ae}{p lo:Nat}{rs:List Nat}{X:List (List Int)}(h:Md st p lo rs X)(k:∀n,lo<=n->n<st.length->st'[n]?=st[n]?):Md st' p lo rs X:=
 ⟨(k p h.lp (O6.mp h.ep).1).trans h.ep,h.len,λ i hi=>(k _ (h.ge i hi).1 (O6.mp (h.at_ i hi)).1).trans (h.at_ i hi),h.nd,h.ge,h.lp⟩
theorem Md.put{st st':ae}{p lo i:Nat}{rs:List Nat}{X:List (List Int)}{r:List Int}(h:Md st p lo rs X)(hi:i<X.length)(e:st'[rs.getD i 0]?=some (.lst (aj r)))(U:∀n,n≠rs.getD i 0->st'[n]?=st[n]?):Md st' p lo rs (X.set i r):=by
 refine⟨(U p (Pj (h.ge i hi).2)).trans h.ep,by rw[Pl];exact h.len,λ j hj=>?_,λ a c ha hc=>?_,λ j hj=>?_,h.lp⟩
 . rw[Pl]at hj;rw[kb hi];by_cases q:j=i
   . rw[O_ q,q];exact e
   . rw[O7 q];exact(U _ (h.nd j i hj hi q)).trans (h.at_ j hj)
 . rw[Pl]at ha hc;exact h.nd a c ha hc
 . rw[Pl]at hj;exact h.ge j hj
theorem xM:∀ {r:List Int} {x:Int},x∈r->x.natAbs<=Mx.l1 r
 |y::r,x,h=>by
  show _<=y.natAbs+Mx.l1 r;rcases Px.mp h with rfl|h
  . omega
  . have:=xM h;omega
structure Mz(st:ae)(p lo N:Nat)(rs:List Nat)(X:List (List Int))(m M:Nat):Prop where
 md:Md st p lo rs X
 is:Mx.bH m N X
 same:Mx.bG (Mx.units N) N X m N
 l1:∀i,i<m->Mx.l1 (X.getD i [])<=M
theorem XU.low{st st' st'':ae}{n:Nat}(X:XU st n st')(h:st'.length<=st''.length)(k:∀m,m<st.length->st''[m]?=st'[m]?):XU st n st'':=⟨Pe X.len h,λ m hm g=>(k m hm).trans (X.same m hm g)⟩
theorem wk:O4 lg 2 yd pG:=by
 rintro ds st K ⟨n,b,A,N,w,M0,rfl,B,b0,hb,hA,n8,w8,bA,k⟩;refine⟨rfl,?_⟩;have lA:=hA.len;have hn:=B.lt;refine cu rfl ?_;rw[O8,lA];refine cC ⟨by omega,by omega⟩ ⟨bU (by rw[cB];omega),?_⟩;rw[Pp];refine pS N (λ j acc st'=>acc=((List.range j).map λ i=>st.length+i).map D.ref/\st'=st++(List.range j).map λ i=>Cell.lst (aj (Mx.cM N i))) ?_ ?_ ⟨rfl,by simp⟩;rotate_left 1
 . rintro j acc st' hj ⟨rfl,rfl⟩ K' next
   refine⟨_,rfl,?_⟩;refine cC ⟨by omega,by omega⟩ ⟨bU (by rw[cB];omega),?_⟩;rw[Pp];refine ij (λ c=> .int (Mx.dl c j)) N (λ c hc K2 q=>⟨_,rfl,?_⟩) ?_
   . refine eq2 (λ h=>iS ?_) λ h=>iS ?_
     . have:c=j:=by omega
       subst this;rw[Mx.cD]at q;exact q
     . rw[Mx.cV (by omega)]at q;exact q
   . have e:(List.range N).map (λ c=>D.int (Mx.dl c j))=aj (Mx.cM N j):=by unfold Mx.cM aj;rw[Qb];rfl
     rw[e];refine next _ _ ⟨?_,?_⟩
     . rw[Rf,Qr,Qr,Py,O8,T8];rfl
     . rw[Rf,Qr,QJ];rfl
 rintro acc st' ⟨rfl,rfl⟩
 have hget:∀i,i<N->((List.range N).map λ i=>st.length+i).getD i 0=st.length+i:=λ i hi=>by
  rw[Mx.aO (by simpa using hi),QG,SA]
 have lU:(Mx.units N).length=N:=(Mx.ky N).len
 have z0:∃(st1:ae) (p:Nat) (rs:List Nat),st1=(st++(List.range N).map λ i=>Cell.lst (aj (Mx.cM N i)))++[Cell.lst (((List.range N).map λ i=>st.length+i).map D.ref)]/\p=(st++(List.range N).map λ i=>Cell.lst (aj (Mx.cM N i))).length/\Mz st1 p st.length N rs (Mx.units N) N 1/\Ext st st1:=by
  refine⟨_,_,(List.range N).map λ i=>st.length+i,rfl,rfl,⟨⟨Qz,by rw[lU];simp,λ i hi=>?_,λ i j hi hj hne=>?_,λ i hi=>?_,by rw[Py];omega⟩,Mx.ky N,Mx.bG.refl _ _ _,λ i hi=>?_⟩,?_⟩
  . rw[lU]at hi;rw[hget i hi,Pd (by simp;omega),PH (by omega),Nat.add_sub_cancel_left,PD,List.getElem?_range hi]
    have e:(Mx.units N).getD i []=Mx.cM N i:=by
     unfold Mx.units;rw[Mx.aO (by simpa using hi),QG,SA]
    rw[e];rfl
  . rw[lU]at hi hj;rw[hget i hi,hget j hj];omega
  . rw[lU]at hi;rw[hget i hi,Py,O8,T8];omega
  . have e:(Mx.units N).getD i []=Mx.cM N i:=by
     unfold Mx.units;rw[Mx.aO (by simpa using hi),QG,SA]
    rw[e];exact Mx.Ih N i
  . rw[QJ];exact Ext.push
 obtain⟨st1,p,rs,e1,ep,Z,X0⟩:=z0;rw[<-e1,<-ep];clear e1 ep hget;have B1:Hd st1 n b:=B.cell (X0.same n hn);refine⟨n,6,_,rfl,B1,b0,by omega,by decide,by decide,λ t0 st2 r0 r1 B2 U2=>?_⟩;have Z2:Mz st2 p st.length N rs (Mx.units N) N 1:=⟨Z.md.keep λ m hm _=>U2.same m (by omega),Z.is,Z.same,Z.l1⟩
 have X2:XU st n st2:=(XU.ext X0).trans (XU.upd U2)
 have loop:∀T:Nat,T<=5->(0<T->2<=N)->∀E:iZ,(∀st3 rs3 X3 v4 v5 v6 v7 v8,Mz st3 p st.length N rs3 X3 N 243->Hd st3 n (b+20)->XU st n st3->E.nx [some (.ref n),some (a6 A),some (.int N),some (.ref p),v4,v5,v6,v7,v8] st3)->
  fD (aV 4) (az (aR 5 (av aL (ab (aa 0) (ab (aa 2) af))))
  (az (aR 6 (ai fi (ai ck (ai ck (aa 5) (dC (.int 1))) (av aL (ab (aa 0) (ab (ai fx (aa 2) (dC (.int 1))) af)))) (aa 2)))
  (az (aR 7 (ai fx (av aL (ab (aa 0) (ab (dC (.int 5)) af))) (dC (.int 2))))
  (az (cW (aU (ai dR (aa 7) (dC (.int 0)))) (u9 (oB (kO (aa 3) (aa 5)) (kO (aa 3) (aa 6))) (fF (ab (ai aH (aa 3) (aa 6)) (ab (dN (cY (ai aH (aa 3) (aa 5))) [none] (aV 0) bM (i9 ft (aa 0))) af)))) cE)
  (fy (b_ (ab (aa 2) af)) (aV 8) (de (ai aH (aa 3) (aa 5)) (aa 8) (ai ck (ai aH (ai aH (aa 3) (aa 5)) (aa 8)) (ai cJ (aa 7) (ai aH (ai aH (aa 3) (aa 6)) (aa 8)))))))))) (λ _=>True) E (cA 0 T) [some (.ref n),some (a6 A),some (.int N),some (.ref p),none,none,none,none,none] st2:=λ T hT hT2 E hE=>by
  refine et T (λ j σ st3=>∃(rs3:List Nat) (X3:List (List Int)) (v4 v5 v6 v7 v8:Option D),σ=[some (.ref n),some (a6 A),some (.int N),some (.ref p),v4,v5,v6,v7,v8]/\Mz st3 p st.length N rs3 X3 N (3^j)/\Hd st3 n (b+1+3*j)/\XU st n st3) ?_ ?_ ⟨rs,_,none,none,none,none,none,rfl,Z2,B2.mono (by omega),X2⟩
  . rintro σ st3 ⟨rs3,X3,v4,v5,v6,v7,v8,rfl,Z3,B3,X3'⟩;have:3^T<=3^5:=PX (by decide) hT;exact hE st3 rs3 X3 _ _ _ _ _ ⟨Z3.md,Z3.is,Z3.same,λ i hi=>Pe (Z3.l1 i hi) (Pe this (by decide))⟩ (B3.mono (by omega)) X3'
  . rintro j σ st3 rest hj ⟨rs3,X3,v4,v5,v6,v7,v8,rfl,Z3,B3,X3'⟩ next
    have hN2:2<=N:=hT2 (by omega);refine⟨_,rfl,?_⟩;refine⟨n,_,_,rfl,B3,by omega,by omega,by omega,by omega,λ o st4 o0 o1 B4 U4=>?_⟩;obtain⟨one,rfl⟩:=Qu o0;refine cN (f9 ⟨n,_,_,rfl,B4,by omega,by omega,by omega,by omega,λ q st5 q0 q1 B5 U5=>cN (jm (by omega) ?_)⟩)
    obtain⟨oth,eo,ho,hne⟩:∃oth:Nat,((one:Int)+1+q).fmod (N:Int)=(oth:Int)/\oth<N/\oth≠one:=by
     obtain⟨q',rfl⟩:=Qu q0;refine⟨(one+1+q')%N,?_,U9 _ (by omega),λ z=>?_⟩
     . have:=DZ (one+1+q') N;rw[<-this];rfl
     . by_cases h:one+1+q'<N
       . rw[Nat.mod_eq_of_lt h]at z;omega
       . have h2:one+1+q'-N<N:=by omega
         rw[Nat.mod_eq_sub_mod (by omega),Nat.mod_eq_of_lt h2]at z;omega
    rw[eo];have hone:one<N:=by omega
    clear eo q0 q1 o0 o1;refine⟨n,5,_,rfl,B5,by omega,by omega,by decide,by decide,λ y st6 y0 y1 B6 U6=>f9 ?_⟩;have hby:(y-2).natAbs<=2:=by omega
    generalize y-2=by_ at hby;have U36:Upd st3 n st6:=U4.trans (U5.trans U6);have Z6:Mz st6 p st.length N rs3 X3 N (3^j):=⟨Z3.md.keep λ m hm _=>U36.same m (by omega),Z3.is,Z3.same,Z3.l1⟩
    have X6:XU st n st6:=X3'.trans (XU.upd U36);have B6':Hd st6 n (b+1+3*((j+1:Nat):Int)):=B6.mono (by omega);clear U4 U5 U6 U36 B4 B5 B6 Z3 X3' B3 y0 y1;dsimp only;refine eZ (λ σ' st7=>∃(rs7:List Nat) (X7:List (List Int)),σ'=[some (.ref n),some (a6 A),some (.int N),some (.ref p),some (.int (j:Int)),some (.int (one:Int)),some (.int (oth:Int)),some (.int by_),v8]/\Mz st7 p st.length N rs7 X7 N (3^j)/\Hd st7 n (b+1+3*((j+1:Nat):Int))/\XU st n st7) (λ nx hnx=>?_) ?_
    . refine eq2 (λ _=>cv ?_) λ _=>hnx _ _ ⟨rs3,X3,rfl,Z6,B6',X6⟩;have M:=Z6.md;have lX:=Z6.is.len;have lr:rs3.length=N:=by rw[M.len,lX]
      have e1:=M.at_ one (by omega);have w1:=Z6.is.row hone;refine ax (ao M.ep) (mn (by omega)) (ax (ao M.ep) (mn (by omega)) (mr (ao e1) λ ok aC=>⟨bU (by rw[O8];omega),?_⟩));refine comp_map (g:=λ x=>match x with| .int a=> .int (-a)|_=> .aq) (aC _ (ao e1)) _ (λ x hx K' q=>?_) ?_
      . obtain⟨a,_,rfl⟩:=Qa.mp hx;exact⟨_,rfl,gI q⟩
      have eneg:(aj (X3.getD one [])).map (λ x=>match x with| .int a=> .int (-a)|_=> .aq)=aj ((X3.getD one []).map λ x=> -x):=by unfold aj;rw[Qb,Qb];rfl
      rw[eneg];refine⟨Pz rfl,?_⟩;have lp:=(O6.mp M.ep).1;have ep7:(st6++[Cell.lst (aj ((X3.getD one []).map λ x=> -x))])[p]?=some (.lst (rs3.map D.ref)):=by rw[Pd lp];exact M.ep
      refine eX ep7 (og (by omega) (by rw[O8];omega)) ?_;rw[Pp,<-Uq];refine eX (Pg (by rw[Py];omega)) (og (by omega) (by rw[O8,Pl];omega)) ?_;rw[Pp,<-Uq,List.set_set]
      have cell:∀m,m<st6.length->m≠p->((st6++[Cell.lst (aj ((X3.getD one []).map λ x=> -x))]).set p (.lst (((rs3.set one (rs3.getD oth 0)).set oth st6.length).map D.ref)))[m]?=st6[m]?:=λ m hm hmp=>by
       rw[Pb (Pj hmp),Pd hm]
      have w9:(rs3.set one (rs3.getD oth 0)).length=N:=by rw[Pl];exact lr
      have gs:∀i,((rs3.set one (rs3.getD oth 0)).set oth st6.length).getD i 0=if i=oth then st6.length else if i=one then rs3.getD oth 0 else rs3.getD i 0:=λ i=>by
       rw[xQ (by omega),xQ (by omega)]
      have gx:∀i,((X3.set one (X3.getD oth [])).set oth ((X3.getD one []).map λ x=> -x)).getD i []=if i=oth then(X3.getD one []).map (λ x=> -x)else if i=one then X3.getD oth []else X3.getD i []:=λ i=>by
       rw[kb (by rw[Pl];omega),kb (by omega)]
      have lX7:((X3.set one (X3.getD oth [])).set oth ((X3.getD one []).map λ x=> -x)).length=N:=by rw[Pl,Pl,lX]
      have lt:∀i,i<N->rs3.getD i 0<st6.length:=λ i hi=>(O6.mp (M.at_ i (by omega))).1;refine hnx _ _ ⟨_,_,rfl,⟨⟨Pg (by rw[Py];omega),by rw[Pl,w9,lX7],λ i hi=>?_,λ i c hi hc hic=>?_,λ i hi=>?_,M.lp⟩,?_,?_,λ i hi=>?_⟩,B6'.cell (cell n (by have:=X6.len;omega) (by have:=M.lp;omega)),X6.low (by rw[Pl,Py];omega) λ m hm=>cell m (by have:=X6.len;omega) (by have:=M.lp;omega)⟩
      . rw[lX7]at hi;rw[gs,gx];by_cases h1:i=oth
        . rw[O_ h1,O_ h1,Pb (by omega),Qz]
        . rw[O7 h1,O7 h1];by_cases h2:i=one
          . rw[O_ h2,O_ h2,cell _ (lt oth ho) (M.ge oth (by omega)).2];exact M.at_ oth (by omega)
          . rw[O7 h2,O7 h2,cell _ (lt i hi) (M.ge i (by omega)).2];exact M.at_ i (by omega)
      . rw[lX7]at hi hc;rw[gs,gs];have a1:=lt i hi;have a2:=lt c hc;have a3:=lt oth ho;have nd:=M.nd;rw[lX]at nd;by_cases h1:i=oth
        . rw[O_ h1,O7 (by omega)];split<;>omega
        . rw[O7 h1];by_cases h2:i=one
          . rw[O_ h2];by_cases h3:c=oth
            . rw[O_ h3];omega
            . rw[O7 h3,O7 (by omega)];exact nd oth c ho hc (by omega)
          . rw[O7 h2];by_cases h3:c=oth
            . rw[O_ h3];omega
            . rw[O7 h3];by_cases h4:c=one
              . rw[O_ h4];exact nd i oth hi ho h1
              . rw[O7 h4];exact nd i c hi hc hic
      . rw[lX7]at hi;have lo:=M.lp;have sl:=X6.len;rw[gs];split
        . omega
        . split
          . exact M.ge oth (by omega)
          . exact M.ge i (by omega)
      . exact Mx.mj (Mx.mj Z6.is (Z6.is.row ho)) (by rw[O8];exact w1)
      . have M0:Mx.m_ (Mx.units N) N N (3^j) X3 N:=⟨Z6.is,by omega,n8,λ r hr x hx=>by
         obtain⟨i,hi,rfl⟩:=PK.mp hr;have:=Z6.l1 i (by omega);rw[Mx.aO hi]at this;exact Pe (xM hx) this,Z6.same⟩
        have M1:=(M0.swap hone ho).neg ho;have e:((X3.set one (X3.getD oth [])).set oth (X3.getD one [])).getD oth []=X3.getD one []:=by rw[kb (by rw[Pl];omega),O_ rfl]
        rw[e,List.set_set]at M1;exact M1.same
      . rw[gx];split
        . rw[Mx.CF];exact Z6.l1 one hone
        . split
          . exact Z6.l1 oth ho
          . exact Z6.l1 i hi
    . clear Z6 X6 B6' rs3 X3;rintro σ' st7 ⟨rs7,X7,rfl,Z7,B7,X7'⟩;have M:=Z7.md;have lX:=Z7.is.len;have lr:rs7.length=N:=by rw[M.len,lX]
      have w1:=Z7.is.row hone;have w2:=Z7.is.row ho;have e1:=M.at_ one (by omega);have e2:=M.at_ oth (by omega);have nr:=M.nd one oth (by omega) (by omega) (Pj hne);have g1:=M.ge one (by omega);have lM:(Mx.cK (X7.getD one []) by_ (X7.getD oth [])).length=(X7.getD one []).length:=Mx.gW (by omega);refine cC ⟨by omega,by omega⟩ ?_;rw[Pp];refine et N (λ c σ st8=>∃v8:Option D,σ=[some (.ref n),some (a6 A),some (.int N),some (.ref p),some (.int (j:Int)),some (.int (one:Int)),some (.int (oth:Int)),some (.int by_),v8]/\st8[rs7.getD one 0]?=some (.lst (aj ((Mx.cK (X7.getD one []) by_ (X7.getD oth [])).take c++(X7.getD one []).drop c)))/\Upd st7 (rs7.getD one 0) st8) ?_ ?_ ⟨_,rfl,by rw[List.take_zero,UZ];exact e1,Upd.refl⟩
      . rintro σ st8 ⟨v8,rfl,e8,U8⟩;rw[Qn (by omega),QO,Ro (by omega)]at e8;refine next _ _ ⟨rs7,X7.set one (Mx.cK (X7.getD one []) by_ (X7.getD oth [])),_,_,_,_,_,rfl,⟨M.put (by omega) e8 U8.same,Mx.mj Z7.is (by omega),?_,λ i hi=>?_⟩,B7.cell (U8.same n (by omega)),X7'.low (by rw[U8.len];exact O9 _) λ m hm=>U8.same m (by omega)⟩
        . refine Z7.same.trans (Mx.bG.add (x:=by_) hone ho (Pj hne) (λ q _=>?_) λ i q _ hi _=>?_)
          . rw[Mx.l0 (by omega),O_ rfl,Mx.jW (by omega)];rfl
          . rw[Mx.l0 (by omega),O7 hi]
        . rw[kb (by omega),Sb];have a1:=Z7.l1 one hone;have a2:=Z7.l1 oth ho;split
          . have:=Mx.yZ by_ (X7.getD one []) (X7.getD oth []);have h3:by_.natAbs*Mx.l1 (X7.getD oth [])<=2*3^j:=PY hby a2;omega
          . have:=Z7.l1 i hi;omega
      . rintro c σ st8 rest2 hc ⟨v8,rfl,e8,U8⟩ next2;refine⟨_,rfl,?_⟩;have ep8:=(U8.same p (Pj g1.2)).trans M.ep;have e28:=(U8.same _ (Pj nr)).trans e2;refine ax (ao ep8) (mn (by omega)) (ax (ao e8) (Bf lM (by omega)) (ax (ao ep8) (mn (by omega)) (ax (ao e28) (dH (by omega)) (dG (eh (by omega) (by omega)) (cN ?_)))));refine ax (ao ep8) (mn (by omega)) ?_;refine eX e8 (og (by omega) (by rw[O8,Py,P_,Qx];omega)) ?_;rw[Pp];refine next2 _ _ ⟨_,rfl,?_,U8.trans Upd.set⟩;rw[Pg (O6.mp e8).1,<-xT lM (by omega),Mx.jW (by omega)]
 have fin:∀st3 rs3 X3 (m M:Nat) v4 v5 v6 v7 v8,Mz st3 p st.length N rs3 X3 m M->m<=8->M<=243->XU st n st3->Hd st3 n (b+40)->bh (vG (aU (ai iC (aa 2) (dC (.int 0)))) (av hO (ab (aa 3) (ab (aa 1) af))) (fF af)) {nx:=λ _ st'=>K .aq st',rt:=K} [some (.ref n),some (a6 A),some (.int N),some (.ref p),v4,v5,v6,v7,v8] st3:=λ st3 rs3 X3 m M v4 v5 v6 v7 v8 Z3 m8 hM X3' BB=>by
  refine uI (λ h=>cv ?_) λ h=>?_
  . have lX:=Z3.is.len
    have bX:∀r∈X3,Mx.l1 r<=243:=λ r hr=>by
     obtain⟨i,hi,rfl⟩:=PK.mp hr;have:=Z3.l1 i (by omega);rw[Mx.aO hi]at this;omega
    refine⟨_,_,w,X3,A,rfl,Z3.md.rows,lS,λ z=>by rw[z]at lA;simp at lA;omega,hA.ff,by omega,by omega,λ r hr c hc _ _ _ _=>?_,k _ m st3 BB (Mx.yO Z3.is hA) m8 (λ r hr x hx=>?_) (Mx.bG.mul Z3.is hA Z3.same) X3'⟩
    . have a1:=xM hc;have a2:=bX r hr;exact eh (by omega) (by omega)
    . unfold Mx.mulM at hr;obtain⟨ws,hws,rfl⟩:=Qa.mp hr;obtain⟨c,hc,rfl⟩:=PK.mp hx;have e:=Mx.mL (M:=M0) ws A (List.replicate w 0) c (by simp) hA.ff bA;rw[Mx.bY,Mx.aO hc]at e;have:=PN M0 (bX ws hws);have e0:(0:Int).natAbs=0:=rfl;omega
  . have n0:N=0:=by omega
    subst n0;exact⟨Po _,k [] 0 st3 BB ⟨rfl,λ r hr=>by cases hr⟩ (by decide) (λ r hr=>by cases hr) ⟨λ k hk=>absurd hk (Pq _),λ k hk=>absurd hk (Pq _)⟩ X3'⟩
 have after:∀st3 rs3 X3 v4 v5 v6 v7 v8,Mz st3 p st.length N rs3 X3 N 243->Hd st3 n (b+20)->XU st n st3->az (cW (gL (aU (ai nJ (aa 2) (dC (.int 8)))) (aU (ai dR (av aL (ab (aa 0) (ab (dC (.int 3)) af))) (dC (.int 0))))) (gb (gR jF (aa 3) (ab (av aL (ab (aa 0) (ab (ai ck (ba cR (ab (aa 3) af)) (dC (.int 1))) af))) (ab (dN (cY (aa 1)) [none,some 0] (aV 0) bM (ai fx (av aL (ab (aa 1) (ab (dC (.int 3)) af))) (dC (.int 1)))) af)))) cE)
  (bh (vG (aU (ai iC (aa 2) (dC (.int 0)))) (av hO (ab (aa 3) (ab (aa 1) af))) (fF af))) {nx:=λ _ st'=>K .aq st',rt:=K} [some (.ref n),some (a6 A),some (.int N),some (.ref p),v4,v5,v6,v7,v8] st3:=λ st3 rs3 X3 v4 v5 v6 v7 v8 Z3 B3 X3'=>by
  have lX:=Z3.is.len;have M:=Z3.md;refine Jf (λ hN=>cv ?_) λ _=>fin st3 rs3 X3 N 243 _ _ _ _ _ Z3 n8 (O9 _) X3' (B3.mono (by omega));refine⟨n,3,_,rfl,B3,by omega,by omega,by decide,by decide,λ y st4 y0 y1 B4 U4=>?_⟩;have lo:=M.lp;have Z4:Mz st4 p st.length N rs3 X3 N 243:=⟨M.keep λ m hm _=>U4.same m (by omega),Z3.is,Z3.same,Z3.l1⟩
  have X4:XU st n st4:=X3'.trans (XU.upd U4);refine eq2 (λ _=>cv ?_) λ _=>fin st4 rs3 X3 N 243 _ _ _ _ _ Z4 n8 (O9 _) X4 (B4.mono (by omega));have M4:=Z4.md;have lr:rs3.length=N:=by rw[M4.len,lX]
  refine Ie (λ K' q=>q) M4.ep (cu (ao M4.ep) (cN ⟨n,_,_,rfl,B4,by omega,by omega,by omega,by rw[O8];omega,λ pos st5 p0 p1 B5 U5=>?_⟩));rw[O8,lr]at p1;obtain⟨pos,rfl⟩:=Qu p0;refine gh ⟨bU (by rw[O8];omega),?_⟩;refine cX (λ rest acc st'=>∃(i:Nat) (l:List Int),i<=N/\rest=(A.map bI).drop i/\acc=aj l/\l.length=i/\(∀x∈l,x.natAbs<=1)/\Hd st' n (b+22+i)/\Upd st4 n st') ?_ ?_ _ _ _ ⟨0,[],Po _,rfl,rfl,rfl,by simp,B5.mono (by omega),U5⟩;rotate_left 1
  . rintro d rest acc st' ⟨i,l,hi,hrest,rfl,hl,h1,B',U'⟩ next
    obtain⟨hiA,rfl,rfl⟩:=drop_cons hrest;refine⟨trivial,_,rfl,n,3,_,rfl,B',by omega,by omega,by decide,by decide,λ o st6 o0 o1 B6 U6=>f9 ?_⟩;show cp _ _ _ _ _ _ _ _ _;rw[ints_app];refine next _ _ ⟨i+1,l++[o-1],by omega,rfl,rfl,by simp[hl],λ x hx=>?_,B6.mono (by omega),U'.trans U6⟩
    rcases PQ.mp hx with h|h
    . exact h1 x h
    . rw[Ql.mp h];omega
  rintro acc st6 ⟨i,l,hi,hrest,rfl,hl,h1,B6,U6⟩;have hiN:i=N:=by have:=drop_nil hrest;omega
  subst hiN;have Z6:Mz st6 p st.length i rs3 X3 i 243:=⟨M4.keep λ m hm _=>U6.same m (by omega),Z4.is,Z4.same,Z4.l1⟩
  have X6:XU st n st6:=X4.trans (XU.upd U6);have M6:=Z6.md;have lp:=(O6.mp M6.ep).1;have sl:=X6.len;have ep7:(st6++[Cell.lst (aj l)])[p]?=some (.lst (rs3.map D.ref)):=by rw[Pd lp];exact M6.ep
  refine⟨trivial,NB ep7 ⟨by omega,by rw[O8];omega,by omega,by rw[QZ,O8];omega⟩ ?_⟩;rw[Pp,<-T5,<-List.map_drop];have eref:(rs3.take pos).map D.ref++D.ref st6.length::(rs3.drop pos).map D.ref=(rs3.take pos++st6.length::rs3.drop pos).map D.ref:=by rw[Qr];rfl
  rw[eref]
  have cell:∀m,m<st6.length->m≠p->((st6++[Cell.lst (aj l)]).set p (.lst ((rs3.take pos++st6.length::rs3.drop pos).map D.ref)))[m]?=st6[m]?:=λ m hm hmp=>by
   rw[Pb (Pj hmp),Pd hm]
  have insN:∀c,(rs3.take pos++st6.length::rs3.drop pos).getD c 0=if c<pos then rs3.getD c 0 else if c=pos then st6.length else rs3.getD (c-1) 0:=λ c=>by
   rw[Pc,List.getElem?_append,P_,Uz (by omega)];by_cases h1:c<pos
   . rw[O_ h1,O_ h1,TQ,O_ h1,Pc]
   . rw[O7 h1,O7 h1];by_cases h2:c=pos
     . rw[O_ h2,h2,QM];rfl
     . rw[O7 h2];obtain⟨e,he⟩:∃e,c-pos=e+1:=⟨c-pos-1,by omega⟩
       rw[he,Ri,TJ,Pc,show pos+e=c-1 by omega]
  have insR:∀c,(X3.take pos++l::X3.drop pos).getD c []=if c<pos then X3.getD c []else if c=pos then l else X3.getD (c-1) []:=λ c=>Mx.gf (by omega) c
  have lX7:(X3.take pos++l::X3.drop pos).length=i+1:=by rw[Py,P7,P_,Qx,lX];omega
  have lt:∀c,c<i->rs3.getD c 0<st6.length:=λ c hc=>(O6.mp (M6.at_ c (by omega))).1;have nd:=M6.nd;rw[lX]at nd;refine fin _ _ (X3.take pos++l::X3.drop pos) (i+1) 243 _ _ _ _ _ ⟨⟨Pg (by rw[Py];omega),by rw[lX7,Py,P7,P_,Qx,lr];omega,λ c hc=>?_,λ c d hc hd hcd=>?_,λ c hc=>?_,M6.lp⟩,⟨lX7,λ q hq=>?_⟩,Z6.same.Mf lX (by omega) (Z6.same.any _),λ c hc=>?_⟩ (by omega) (O9 _) (X6.low (by rw[Pl,Py];omega) λ m hm=>cell m (by omega) (by omega)) ((B6.mono (by omega)).cell (cell n (by omega) (by omega)))
  . rw[lX7]at hc;rw[insN,insR];by_cases h1:c<pos
    . rw[O_ h1,O_ h1,cell _ (lt c (by omega)) (M6.ge c (by omega)).2];exact M6.at_ c (by omega)
    . rw[O7 h1,O7 h1];by_cases h2:c=pos
      . rw[O_ h2,O_ h2,Pb (by omega),Qz]
      . rw[O7 h2,O7 h2,cell _ (lt _ (by omega)) (M6.ge _ (by omega)).2];exact M6.at_ _ (by omega)
  . rw[lX7]at hc hd;rw[insN,insN];by_cases h1:c<pos
    . rw[O_ h1];have:=lt c (by omega);by_cases h2:d<pos
      . rw[O_ h2];exact nd c d (by omega) (by omega) hcd
      . rw[O7 h2];by_cases h3:d=pos
        . rw[O_ h3];omega
        . rw[O7 h3];exact nd c (d-1) (by omega) (by omega) (by omega)
    . rw[O7 h1];by_cases h0:c=pos
      . rw[O_ h0];by_cases h2:d<pos
        . rw[O_ h2];have:=lt d (by omega);omega
        . rw[O7 h2,O7 (by omega)];have:=lt (d-1) (by omega);omega
      . rw[O7 h0];have:=lt (c-1) (by omega);by_cases h2:d<pos
        . rw[O_ h2];exact nd (c-1) d (by omega) (by omega) (by omega)
        . rw[O7 h2];by_cases h3:d=pos
          . rw[O_ h3];omega
          . rw[O7 h3];exact nd (c-1) (d-1) (by omega) (by omega) (by omega)
  . rw[lX7]at hc;rw[insN];split
    . exact M6.ge c (by omega)
    . split
      . omega
      . exact M6.ge (c-1) (by omega)
  . rcases PQ.mp hq with h|h
    . exact Z6.is.ff q (RK h)
    . rcases Px.mp h with h|h
      . rw[h];exact hl
      . exact Z6.is.ff q (Tt h)
  . rw[insR];split
    . exact Z6.l1 c (by omega)
    . split
      . have:=Mx.rk h1;omega
      . exact Z6.l1 (c-1) (by omega)
 refine uI (λ h=>iS (dG (sP (by decide) (by decide)) ?_)) λ h=>iS (dG (sP (by decide) (by decide)) ?_)
 . obtain⟨t,rfl⟩:=Qu r0;rw[O_ rfl,RL];refine cC ⟨by omega,by omega⟩ ?_;rw[Pp];exact loop t (by omega) (λ _=>by omega) _ after
 . rw[O7 (by decide),Qc];exact cC ⟨by decide,by decide⟩ (loop 0 (by decide) (λ z=>absurd z (QC _)) _ after)
def kB:bR:=λ ds st K=>∃(n:Nat) (b:Int) (m:Nat),ds=[.ref n,.int m]/\Hd st n b/\0<=b/\b<=700000000/\m<=8/\∀T st',Mx.bH m m T->Mx.sd (Mx.g T) m->(∀r∈T,∀x∈r,x.natAbs<=1000000)->Hd st' n (b+120)->XU st n st'->K (jP T) st'
def nI:List Str:=["_law_hand_here","_law_many_here","_law_far","_law_made","_law_j","_law_number_here","_law_row"]
def v_:DS:=(az (aR 2 (ai dR (av aL (ab (aa 0) (ab (dC (.int 4)) af))) (dC (.int 0))))
 (az (aR 3 (qK af))
 (az (fy (b_ (ab (aa 1) af)) (aV 4) (az (aR 5 (ai ck (dC (.int 1)) (av aL (ab (aa 0) (ab (dC (.int 4)) af)))))
 (az (cW (gL (aU (aa 2)) (aU (ai dR (av aL (ab (aa 0) (ab (dC (.int 2)) af))) (dC (.int 0))))) (aR 5 (ai ck (dC (.int 1)) (av aL (ab (aa 0) (ab (ai nF (dC (.int 10)) (dC (.int 6))) af))))) cE)
 (az (aR 6 (cy (b_ (ab (aa 4) af)) [none,some 0] (aV 0) bM (ai fx (av aL (ab (aa 1) (ab (dC (.int 5)) af))) (dC (.int 2)))))
 (gb (jS (aa 3) (ai ck (ai ck (aa 6) (lB (ab (aa 5) af))) (ai cJ (lB (ab (dC (.int 0)) af)) (ai fx (ai fx (aa 1) (aa 4)) (dC (.int 1)))))))))))
 (kL 3 (bh (aa 3))))))
structure Sq(T:List (List Int))(j m:Nat):Prop where
 len:T.length=j
 ff:∀r∈T,r.length=m
 lo:∀i c,i<j->c<m->i<c->Mx.g T i c=0
 pos:∀i,i<j->0<Mx.g T i i
 bd:∀r∈T,∀x∈r,x.natAbs<=1000000
theorem C1{T:List (List Int)}{r:List Int}{j i c:Nat}(h:T.length=j):Mx.g (T++[r]) i c=if i<j then Mx.g T i c else if i=j then r.getD c 0 else 0:=by
 unfold Mx.g
 have e:(T++[r]).getD i []=if i<j then T.getD i []else if i=j then r else []:=by
  rw[Pc];by_cases h1:i<j
  . rw[O_ h1,Pd (by omega),Pc]
  . rw[O7 h1,PH (by omega),h];by_cases h2:i=j
    . rw[O_ h2,h2,QM];rfl
    . rw[O7 h2];have:i-j=(i-j-1)+1:=by omega
      rw[this];rfl
 rw[e];split
 . rfl
 . split
   . rfl
   . rfl
theorem Sq.more{T:List (List Int)}{j m:Nat}{l:List Int}{x:Int}(h:Sq T j m)(hj:j<m)(hl:l.length=j)(bl:∀y∈l,y.natAbs<=2)(x1:1<=x)(x2:x<=1000000):Sq (T++[l++[x]++List.replicate (m-j-1) 0]) (j+1) m:=by
 have lr:(l++[x]++List.replicate (m-j-1) 0).length=m:=by simp[hl];omega
 have at_:∀c,(l++[x]++List.replicate (m-j-1) 0).getD c 0=if c<j then l.getD c 0 else if c=j then x else 0:=λ c=>by
  rw[Pc,QJ];by_cases h1:c<j
  . rw[O_ h1,Pd (by omega),Pc]
  . rw[O7 h1,PH (by omega),hl];by_cases h2:c=j
    . rw[O_ h2,h2,QM];rfl
    . rw[O7 h2];obtain⟨e,he⟩:∃e,c-j=e+1:=⟨c-j-1,by omega⟩
      rw[he,List.singleton_append,Ri,<-Pc,Mx.bY]
 refine⟨by rw[Py,h.len];rfl,λ r hr=>?_,λ i c hi hc hic=>?_,λ i hi=>?_,λ r hr y hy=>?_⟩
 . rcases PQ.mp hr with q|q
   . exact h.ff r q
   . rw[Ql.mp q];exact lr
 . rw[C1 h.len];split
   . exact h.lo i c (by omega) hc hic
   . rw[O_ (by omega),at_,O7 (by omega),O7 (by omega)]
 . rw[C1 h.len];split
   . exact h.pos i (by omega)
   . rw[O_ (by omega),at_,O7 (by omega),O_ (by omega)];omega
 . rcases PQ.mp hr with q|q
   . exact h.bd r q y hy
   . rw[Ql.mp q]at hy;rcases PQ.mp hy with z|z
     . rcases PQ.mp z with z|z
       . have:=bl y z;omega
       . rw[Ql.mp z];omega
     . rw[(List.mem_replicate.mp z).2];decide
theorem uZ:O4 kB 2 v_ nI:=by
 rintro ds st K ⟨n,b,m,rfl,B,b0,hb,m8,k⟩;refine⟨rfl,?_⟩;have hn:=B.lt;refine⟨n,4,_,rfl,B,b0,by omega,by decide,by decide,λ r1 st1 a0 a1 B1 U1=>Ah rfl rfl ?_⟩;generalize dm (.int r1) (.int 0)=far;refine⟨Po _,?_⟩;have l1:=U1.len;have X1:XU st n (st1++[.lst []]):=(XU.upd U1).trans (XU.ext Ext.push);have B1':Hd (st1++[Cell.lst []]) n (b+1):=B1.cell (by rw[Pd (by omega)]);refine cC ⟨by omega,by omega⟩ ?_;rw[Pp];refine et m (λ j σ s=>∃(T:List (List Int)) (v4 v5 v6:Option D),σ=[some (.ref n),some (.int m),some (.bl far),some (.ref st1.length),v4,v5,v6]/\s[st1.length]?=some (.lst (T.map aW))/\Sq T j m/\Hd s n (b+1+12*j)/\XU st n s) ?_ ?_ ⟨[],none,none,none,rfl,Qz,⟨rfl,by simp,λ i c hi=>absurd hi (Pq _),λ i hi=>absurd hi (Pq _),by simp⟩,B1'.mono (by omega),X1⟩
 . rintro σ s ⟨T,v4,v5,v6,rfl,e,q,B2,X2⟩;refine vZ rfl e ?_;exact k T _ ⟨q.len,q.ff⟩ ⟨λ i c hi hc h=>q.lo i c hi hc h,q.pos⟩ q.bd ((B2.mono (by omega)).cell (Pb (by omega))) (X2.set (by omega))
 . rintro j σ s rest hj ⟨T,v4,v5,v6,rfl,e,q,B2,X2⟩ next
   refine⟨_,rfl,?_⟩;refine⟨n,4,_,rfl,B2,by omega,by omega,by decide,by decide,λ r2 s2 c0 c1 B3 U3=>cN ?_⟩;have X3:=X2.trans (XU.upd U3);have e3:=(U3.same st1.length (by omega)).trans e;have ls:st1.length<s.length:=(O6.mp e).1;dsimp only;refine eZ (λ σ' s'=>∃x:Int,σ'=[some (.ref n),some (.int m),some (.bl far),some (.ref st1.length),some (.int (j:Int)),some (.int x),v6]/\1<=x/\x<=1000000/\s'[st1.length]?=some (.lst (T.map aW))/\Hd s' n (b+1+12*j+3)/\XU st n s') (λ nx hnx=>?_) ?_
   . cases far with
     |false=>exact hnx _ _ ⟨1+r2,rfl,by omega,by omega,e3,B3.mono (by omega),X3⟩
     |true=>
      refine⟨n,2,_,rfl,B3,by omega,by omega,by decide,by decide,λ r4 s4 d0 d1 B4 U4=>?_⟩;have e4:=(U4.same st1.length (by omega)).trans e3;refine eq2 (λ _=>cv ?_) λ _=>hnx _ _ ⟨1+r2,rfl,by omega,by omega,e4,B4.mono (by omega),X3.trans (XU.upd U4)⟩;refine rX ⟨by decide,by decide,by decide⟩ ?_;rw[show(10:Int)^(6:Int).toNat=1000000 by decide];refine⟨n,1000000,_,rfl,B4,by omega,by omega,by decide,by decide,λ r5 s5 d2 d3 B5 U5=>cN ?_⟩;exact hnx _ _ ⟨1+r5,rfl,by omega,by omega,(U5.same st1.length (by omega)).trans e4,B5.mono (by omega),(X3.trans (XU.upd U4)).trans (XU.upd U5)⟩
   . clear e3 X3 B3 U3 e X2 B2;rintro σ' s' ⟨x,rfl,x1,x2,e,B2,X2⟩;have hlt:=(O6.mp e).1;refine cC ⟨by omega,by omega⟩ ⟨bU (by rw[cB];omega),?_⟩;rw[Pp];refine pS j (λ i acc s2=>∃l:List Int,acc=aj l/\l.length=i/\(∀y∈l,y.natAbs<=2)/\Hd s2 n (b+1+12*j+3+i)/\Upd s' n s2) ?_ ?_ ⟨[],rfl,rfl,by simp,B2.mono (by omega),Upd.refl⟩
     . rintro acc s2 ⟨l,rfl,hl,bl,B3,U3⟩;have e3:=(U3.same st1.length (by omega)).trans e;have lT:=q.len;refine BZ (by rfl) e3 ⟨Pz rfl,yT (by rw[QZ,O8];simp;omega) ⟨Pz rfl,f9 (f9 (y9 ⟨by omega,by omega,by rw[QZ];simp;omega⟩ ?_))⟩⟩
       have ez:(List.replicate ((m:Int)-(j:Int)-1).toNat [D.int 0]).flatten=aj (List.replicate (m-j-1) 0):=by
        rw[show((m:Int)-(j:Int)-1).toNat=m-j-1 by omega];exact qr _
       rw[ez];have er:aj l++[D.int x]++aj (List.replicate (m-j-1) 0)=aj (l++[x]++List.replicate (m-j-1) 0):=by simp[aj]
       refine yT (by rw[QZ];simp;omega) ?_;rw[er];refine zC e3 (by rw[QZ,O8];omega) ?_;have h3:st1.length<s2.length:=by rw[U3.len];exact hlt
       refine next _ _ ⟨T++[l++[x]++List.replicate (m-j-1) 0],_,_,_,rfl,?_,q.more hj hl bl x1 x2,(B3.mono (by omega)).cell (Pb (by omega)),(X2.trans (XU.upd U3)).set (by omega)⟩
       rw[Pg h3,Qr];rfl
     . rintro i acc s2 hi ⟨l,rfl,hl,bl,B3,U3⟩ K' next';refine⟨_,rfl,n,5,_,rfl,B3,by omega,by omega,by decide,by decide,λ o s3 o0 o1 B4 U4=>f9 ?_⟩;refine next' _ _ ⟨l++[o-2],by rw[<-ints_app],by simp[hl],λ y hy=>?_,B4.mono (by omega),U3.trans U4⟩;rcases PQ.mp hy with z|z
       . exact bl y z
       . rw[Ql.mp z];omega
def i6:bR:=λ ds st K=>∃(F:List (List Int)) (m w:Nat),ds=[a6 F]/\Wf F m w/\K (.int (Mx.Pr m λ i=>Mx.g F i (Mx.a9 F i))) st
def pP:List Str:=["_law_form","_law_many_here","_law_row"]
def yh:DS:=(az (aR 1 (dC (.int 1)))
 (az (fy (cY (aa 0)) (aV 2) (aR 1 (ai cJ (aa 1) (ai aH (cy (cY (aa 2)) [none] (aV 0) (aU (ai h_ (aa 0) (dC (.int 0)))) (aa 0)) (dC (.int 0))))))
 (bh (aa 1))))
theorem Hb{r:List Int}{c:DT}{te:DE}{σc:bf}{st:ae}{K:List D->ae->Prop}{ok:ae->Prop}(ho:ok st)(h:∀x∈r,∃σ2,aV 0 (.int x) σc=some σ2/\(∀K',K' (decide (x≠0)) st->c σ2 st K')/\∀K',K' (.int x) st->te σ2 st K')(k:K (aj (r.filter λ x=>decide (x≠0))) st):cp (aV 0) c te ok σc (aj r) [] st K:=by
 refine cX (λ rest acc st'=>st'=st/\∃(a b:List Int),a++b=r/\rest=aj b/\acc=aj (a.filter λ x=>decide (x≠0))) ?_ ?_ _ _ _ ⟨rfl,[],r,rfl,rfl,rfl⟩
 . rintro acc st' ⟨rfl,a,b,hab,hr,rfl⟩
   have:b=[]:=by
    cases b with
    |nil=>rfl
    |cons x b=>cases hr
   subst this;rw[QO]at hab;subst hab;exact⟨ho,k⟩
 . rintro d rest acc st' ⟨rfl,a,b,hab,hr,rfl⟩ next
   cases b with
   |nil=>cases hr
   |cons x b=>
    obtain⟨rfl,rfl⟩:=RT hr;obtain⟨σ2,e2,hc,ht⟩:=h x (by rw[<-hab];simp);refine⟨ho,σ2,e2,hc _ ?_⟩;by_cases hx:x=0
    . rw[PZ (λ z=>z hx)];exact next _ _ ⟨rfl,a++[x],b,by rw[QJ];exact hab,rfl,by rw[Sz];simp[hx]⟩
    . rw[QL hx];exact cv (ht _ (next _ _ ⟨rfl,a++[x],b,by rw[QJ];exact hab,rfl,by rw[Sz];simp[hx]⟩))
theorem zu:∀ {r:List Int} {l:Nat},(∀c,c<l->r.getD c 0=0)->r.getD l 0≠0->∃rest,(r.filter λ x=>decide (x≠0))=r.getD l 0::rest
 | [],l,_,h=>absurd (by simp) h
 |x::r,0,_,h=>⟨_,by rw[Ur,O_ (by simpa using h)];rfl⟩
 |x::r,l+1,h0,h=>by
  have hx:x=0:=h0 0 (Ts _);obtain⟨rest,e⟩:=zu (r:=r) (l:=l) (λ c hc=>h0 (c+1) (RP hc)) h;exact⟨rest,by rw[Ur,O7 (by simp[hx]),e];rfl⟩
theorem HF{F:List (List Int)}{m w:Nat}(hW:Wf F m w):∀j,j<=m->(Mx.Pr j λ i=>Mx.g F i (Mx.a9 F i)).natAbs<=2^(5000*j):=λ j=>by
 induction j with
 |zero=>intro _;exact O9 1
 |succ j ih=>
  intro hj;show(_*_:Int).natAbs<=_;rw[Qm,Vg,Q0];exact PY (ih (by omega)) (hW.sm j _ (by omega) (hW.lead (show j<m by omega)).1)
theorem vQ:O4 i6 1 yh pP:=by
 rintro ds st K ⟨F,m,w,rfl,hW,k⟩;refine⟨rfl,?_⟩;have lF:=hW.is.len;have m8:=hW.m8;have w8:=hW.w8;refine gh ?_;refine gq (λ rest σ st'=>st=st'/\∃(i:Nat) (v2:Option D),i<=m/\rest=(F.map bI).drop i/\σ=[some (a6 F),some (.int (Mx.Pr i λ j=>Mx.g F j (Mx.a9 F j))),v2]) ?_ ?_ _ _ _ ⟨rfl,0,none,Po _,rfl,rfl⟩
 . rintro σ st' ⟨rfl,i,v2,hi,hrest,rfl⟩;have e1:i=m:=Rb hi (by rw[<-lF];exact drop_nil hrest);subst e1;exact⟨trivial,k⟩
 . rintro d rest σ st' ⟨rfl,i,v2,hi,hrest,rfl⟩ next
   obtain⟨hiF,rfl,rfl⟩:=drop_cons hrest;have him:i<m:=by omega
   obtain⟨l1,l2,wF,_⟩:=hW.lead him;obtain⟨_,_,l3⟩:=hW.st.lead i him;refine⟨trivial,_,rfl,gh ⟨bU (by rw[O8];omega),?_⟩⟩;refine Hb trivial (λ x _=>⟨_,rfl,λ K' q=>ne2 (λ h=>by rw[QL h]at q;exact q) λ h=>by rw[PZ (by simpa using h)]at q;exact q,λ K' q=>q⟩) ?_;obtain⟨rs,e⟩:=zu (r:=F.getD i []) (l:=Mx.a9 F i) l3 (Q6 l2);rw[e];refine ax rfl (show cT (aj (Mx.g F i (Mx.a9 F i)::rs)) 0=some (.int (Mx.g F i (Mx.a9 F i)))from fC (j:=0) rfl) ?_;refine dG (gp (HF hW i (by omega)) (hW.sm i _ him l1) (by omega)) ?_;exact next _ _ ⟨rfl,i+1,_,him,rfl,rfl⟩
def lE:bR:=λ ds st K=>∃(F G:List (List Int)) (m w:Nat) (d:Nat->Nat),ds=[.tup [.int w,a6 G],.tup [.int w,a6 F],.lst (aj ((List.range m).map λ i=>((d i:Nat):Int)))]/\Wf F m w/\Wf G m w/\((Mx.bW d m).map λ u=>Mx.cm G (Mx.bo u F (List.replicate w 0)) m).Nodup/\(∀i,i<=m->(Mx.bW d i).length<=64)/\(∀i,i<m->d i<=64)/\∀st',Ext st st'->K (.int (Mx.bW d m).length) st'
def pq:List Str:=["_law_one","_law_other","_law_diagonal","_law_sums","_law_row","_law_many_here","_law_ahead","_law_weight"]
def ye:DS:=(az (aR 3 (qK (ab (ai cJ (fF (ab (dC (.int 0)) af)) (ai aH (aa 0) (dC (.int 0)))) af)))
 (az (fy (qk (ab (ai aH (aa 1) (dC (.int 1))) (ab (aa 2) af))) (fO 4 5) (az (kL 3 (aR 6 (aa 3)))
 (az (aR 3 (qK af))
 (fy (b_ (ab (aa 5) af)) (aV 7) (gb (gR kK (aa 3) (ab (cy (cY (aa 6)) [none,some 4,some 7] (aV 0) bM (ba du (ab (cy (qk (ab (aa 0) (ab (aa 1) af))) [none,none,some 2] (fO 0 1) bM (ai ck (aa 0) (ai cJ (aa 2) (aa 1)))) af))) af)))))))
 (kL 3 (bh (ba rJ (ab (cy (cY (aa 3)) [none,some 0] (aV 0) bM (av i7 (ab (ai aH (aa 1) (dC (.int 1))) (ab (aa 0) af)))) af))))))
theorem ze{F:List (List Int)}{m w:Nat}(hW:Wf F m w){d:Nat->Nat}(hd:∀i,i<m->d i<=64){i:Nat}{u:List Int}(hi:i<=m)(hu:u∈Mx.bW d i):(Mx.bo u F (List.replicate w 0)).length=w/\∀x∈Mx.bo u F (List.replicate w 0),x.natAbs<=2^5010:=by
 obtain⟨lu,bu⟩:=Mx.rE hu;have len:(Mx.bo u F (List.replicate w 0)).length=w:=Mx.kI (by simp) hW.is.ff;refine⟨len,λ x hx=>?_⟩;obtain⟨c,hc,rfl⟩:=PK.mp hx
 have e:=Mx.mL (M:=2^5000) u F (List.replicate w 0) c (by simp) hW.is.ff (λ r hr x hx=>by
  obtain⟨j,hj,rfl⟩:=PK.mp hr;have lF:=hW.is.len;have:=hW.row (i:=j) (by omega) x (by rw[Mx.aO hj];exact hx);exact this)
 rw[Mx.bY,Mx.aO hc]at e;have m8:=hW.m8
 have h1:Mx.l1 u<=u.length*64:=Mx.rk λ x hx=>by
  obtain⟨j,hj,rfl⟩:=PK.mp hx;have:=bu j (by omega);rw[Mx.aO hj]at this;have:=hd j (by omega);omega
 have h2:Mx.l1 u*2^5000<=2^10*2^5000:=PN _ (by omega);rw[<-Q0]at h2;have e0:(0:Int).natAbs=0:=rfl;rw[e0,QW]at e;exact Pe e h2
theorem vK:O4 lE 3 ye pq:=by
 rintro ds st K ⟨F,G,m,w,d,rfl,hF,hG,hnd,hlen,hd,k⟩;refine⟨rfl,?_⟩;have lF:=hF.is.len;have m8:=hF.m8;have w8:=hF.w8;have lD:((List.range m).map λ i=>((d i:Nat):Int)).length=m:=by simp
 refine⟨Pz rfl,ax rfl rfl (HL ⟨by omega,by omega,by rw[QZ];simp;omega⟩ ⟨Pz rfl,?_⟩)⟩
 have ez:(List.replicate (w:Int).toNat [D.int 0]).flatten=aj (List.replicate w 0):=by
  rw[Pp];exact qr _
 rw[ez];refine ax rfl rfl (oo rfl rfl λ ok aC=>?_);have X0:Ext st (st++[.lst [bI (List.replicate w 0)]]):=Ext.push;refine gq (λ rest σ s=>∃(i p:Nat) (v4 v5 v6 v7:Option D),i<=m/\rest=eL ((F.map bI).drop i) ((aj ((List.range m).map λ i=>((d i:Nat):Int))).drop i)/\σ=[some (.tup [.int w,a6 G]),some (.tup [.int w,a6 F]),some (.lst (aj ((List.range m).map λ i=>((d i:Nat):Int)))),some (.ref p),v4,v5,v6,v7]/\s[p]?=some (.lst ((Mx.bW d i).map λ u=>bI (Mx.bo u F (List.replicate w 0))))/\st.length<=p/\Ext st s) ?_ ?_ _ _ _ ⟨0,st.length,none,none,none,none,Po _,rfl,rfl,?_,O9 _,X0⟩;rotate_left 2
 . rw[Qz];unfold Mx.bW;cases F<;>rfl
 . rintro σ s ⟨i,p,v4,v5,v6,v7,hi,hrest,rfl,e,hp,X⟩
   have e1:i=m:=by
    rcases QX i m with h|h
    . rw[PF (show i<(F.map bI).length by rw[O8];omega),PF (show i<(aj ((List.range m).map λ i=>((d i:Nat):Int))).length by rw[O8,lD];exact h)]at hrest;cases hrest
    . omega
   subst e1;refine⟨aC _ rfl rfl,vZ rfl e ?_⟩;have X2:=X.set (c:= .dead) hp;generalize s.set p .dead=s2 at X2;have hl:=hlen i (O9 _);refine mr rfl λ ok2 hok2=>⟨bU (by rw[O8];omega),?_⟩
   refine cX (λ rest acc s3=>∃j:Nat,j<=(Mx.bW d i).length/\rest=((Mx.bW d i).map λ u=>bI (Mx.bo u F (List.replicate w 0))).drop j/\acc=(((Mx.bW d i).take j).map λ u=>bI (Mx.cm G (Mx.bo u F (List.replicate w 0)) i))/\Ext st s3) ?_ ?_ _ _ _ ⟨0,Po _,rfl,rfl,X2⟩
   . rintro acc s3 ⟨j,hj,hr,rfl,X3⟩
     have ej:j=(Mx.bW d i).length:=Rb hj (by
      have:=RD List.length hr;rw[Qx,O8,Sm]at this;omega)
     subst ej;rw[Uo];refine⟨hok2 _ rfl,GI (rows:=(Mx.bW d i).map λ u=>Mx.cm G (Mx.bo u F (List.replicate w 0)) i) ?_ hnd (by rw[O8];exact hl) ?_⟩
     . rw[Qb];rfl
     . rw[O8];exact k s3 X3
   . rintro x rest acc s3 ⟨j,hj,hr,rfl,X3⟩ next
     have hjl:j<(Mx.bW d i).length:=by
      rcases QX j (Mx.bW d i).length with q|q
      . exact q
      . rw[Qn (by rw[O8];exact q)]at hr;cases hr
     rw[PF (by rw[O8];exact hjl),QG]at hr;obtain⟨rfl,rfl⟩:=RT hr;obtain⟨b1,b2⟩:=ze hF hd (O9 _) (Q8 hjl);refine⟨hok2 _ rfl,_,rfl,ax rfl rfl ⟨_,G,_,i,w,5010,rfl,hG,rfl,b1,λ c hc=>b2 _ (getD_mem (by omega)),by decide,λ s4 X4=>?_⟩⟩;refine next _ _ ⟨j+1,hjl,rfl,?_,X3.trans X4⟩
     rw[SV hjl,Qr];rfl
 . rintro x rest σ s ⟨i,p,v4,v5,v6,v7,hi,hrest,rfl,e,hp,X⟩ next
   have him:i<m:=by
    rcases QX i m with h|h
    . exact h
    . rw[Qn (by rw[O8];omega)]at hrest;cases hrest
   rw[PF (show i<(F.map bI).length by rw[O8];omega),PF (show i<(aj ((List.range m).map λ i=>((d i:Nat):Int))).length by rw[O8,lD];exact him),QG,QG,QG,SA]at hrest;have hz:∀(a b:D) (as bs:List D),eL (a::as) (b::bs)= .tup [a,b]::eL as bs:=λ _ _ _ _=>rfl;rw[hz]at hrest;obtain⟨rfl,rfl⟩:=RT hrest;have hdi:=hd i him;have hl0:=hlen i hi;have hl1:=hlen (i+1) him;have wF:=hF.is.row him;have eF:F[i]'(by omega)=F.getD i []:=by rw[Mx.aO (by omega)]
   rw[eF];refine⟨aC _ rfl rfl,_,rfl,vZ rfl e ?_⟩;have X2:=X.set (c:= .dead) hp;generalize s.set p .dead=s2 at X2;refine⟨Po _,?_⟩;have e2:(s2++[Cell.lst []])[s2.length]?=some (.lst []):=Qz;refine cC ⟨by omega,by omega⟩ ?_;rw[Pp];refine et (d i) (λ y σ s3=>∃v7:Option D,σ=[some (.tup [.int w,a6 G]),some (.tup [.int w,a6 F]),some (.lst (aj ((List.range m).map λ i=>((d i:Nat):Int)))),some (.ref s2.length),some (bI (F.getD i [])),some (.int ((d i:Nat):Int)),some (.lst ((Mx.bW d i).map λ u=>bI (Mx.bo u F (List.replicate w 0)))),v7]/\s3[s2.length]?=some (.lst (((List.range y).flatMap λ z=>(Mx.bW d i).map λ u=>u++[((z:Nat):Int)]).map λ u=>bI (Mx.bo u F (List.replicate w 0))))/\Ext st s3) ?_ ?_ ⟨_,rfl,e2,X2.trans Ext.push⟩
   . rintro σ s3 ⟨v7,rfl,e3,X3⟩;exact next _ _ ⟨i+1,s2.length,_,_,_,_,him,rfl,rfl,e3,X2.len,X3⟩
   . rintro y σ s3 rest2 hy ⟨v7,rfl,e3,X3⟩ next2;refine⟨_,rfl,Jo (λ K' q=>q) e3 (mr rfl λ ok3 hok3=>⟨bU (by rw[O8];omega),?_⟩)⟩;refine comp_map (g:=λ x=>match x with| .tup xs=>(match gO xs with|some r=>bI (Mx.cK r (y:Int) (F.getD i []))|none=> .aq)|_=> .aq) (hok3 _ rfl) _ (λ x hx K' q=>?_) ?_
     . obtain⟨u,hu,rfl⟩:=Qa.mp hx;obtain⟨b1,b2⟩:=ze hF hd hi hu;refine⟨_,rfl,oo rfl rfl λ ok4 hok4=>⟨bU (by rw[qE];simp;omega),?_⟩⟩;refine comp_map (g:=λ d=>match d with| .tup [.int a,.int b]=> .int (a+(y:Int)*b)|_=> .aq) (hok4 _ rfl rfl) _ (λ d hd K2 q2=>?_) ?_
       . obtain⟨a,b,ha,hb,rfl⟩:=w_ hd;exact⟨_,rfl,dG (eh (by omega) (by omega)) (cN q2)⟩
       . have am:(eL (aj (Mx.bo u F (List.replicate w 0))) (aj (F.getD i []))).map (λ d=>match d with| .tup [.int a,.int b]=> .int (a+(y:Int)*b)|_=> .aq)=aj (Mx.cK (Mx.bo u F (List.replicate w 0)) (y:Int) (F.getD i [])):=nV _ _;rw[am];refine dc rfl ?_;have:=L3.ints_map (Mx.bo u F (List.replicate w 0));simp only[bI,this]at q;exact q
     . have em:((Mx.bW d i).map λ u=>bI (Mx.bo u F (List.replicate w 0))).map (λ x=>match x with| .tup xs=>(match gO xs with|some r=>bI (Mx.cK r (y:Int) (F.getD i []))|none=> .aq)|_=> .aq)=((Mx.bW d i).map λ u=>u++[((y:Nat):Int)]).map λ u=>bI (Mx.bo u F (List.replicate w 0)):=by
        rw[Qb,Qb];refine Qy λ u hu=>?_;obtain⟨lu,_⟩:=Mx.rE hu;have:=L3.ints_map (Mx.bo u F (List.replicate w 0));simp only[Function.comp,bI,this];rw[Mx.rB u F _ (by omega),lu]
       rw[em]
       have ll:((List.range y).flatMap λ z=>(Mx.bW d i).map λ u=>u++[((z:Nat):Int)]).length=y*(Mx.bW d i).length:=by
        rw[List.length_flatMap]
        have e:(List.map (λ(a:Nat)=>((Mx.bW d i).map λ u=>u++[((a:Nat):Int)]).length) (List.range y))=List.replicate y (Mx.bW d i).length:=by
         rw[Sd]
         exact⟨by simp,λ b hb=>by
          obtain⟨x,_,rfl⟩:=Qa.mp hb;rw[O8]⟩
        rw[e,UM]
       have l64:y*(Mx.bW d i).length<=64*64:=PY (by omega) hl0;refine N8 e3 (by rw[QZ,O8,O8,O8,ll];omega) (next2 _ _ ⟨_,rfl,?_,X3.set X2.len⟩);rw[Pg (O6.mp e3).1,Rf,List.flatMap_append,Qr];simp
def gw:bR:=λ ds st K=>∃x y:D,ds=[x,y]/\(x= .aq\/∃i,x= .int i)/\y=x/\K (.bl true) st
def pV:List Str:=["_law_found","_law_due"]
def yt:DS:=(az (cW (aU (ai kP (aa 1) (dC .aq))) (bh (ai kP (aa 0) (dC .aq))) cE)
 (bh (jE (ba nM (ab (aa 0) (ab (dC (.ty "int")) af))) (jE (u_ (aU (ba nM (ab (aa 0) (ab (dC (.ty "bool")) af))))) (ai dR (aa 0) (aa 1))))))
theorem wW:O4 gw 2 yt pV:=by
 rintro ds st K ⟨x,y,rfl,hx,rfl,k⟩;refine⟨rfl,?_⟩;rcases hx with rfl|⟨i,rfl⟩
 . exact ma rfl (cv (ma rfl k))
 . refine ma rfl ?_;exact nZ rfl (by decide) (cv (nZ rfl (by decide) (cv (eqT rfl k))))
def fY:bR:=λ ds st K=>∃(w:Int) (F:List (List Int)),ds=[.tup [.int w,a6 F]]/\F.length<=1000/\K (.lst [.int w,jP F]) st
def nL:List Str:=["_law_one"]
def xI:DS:=(bh (lB (ab (ai aH (aa 0) (dC (.int 0))) (ab (cy (cY (ai aH (aa 0) (dC (.int 1)))) [none] (aV 0) bM (ba i8 (ab (aa 0) af))) af))))
theorem uT:O4 fY 1 xI nL:=by
 rintro ds st K ⟨w,F,rfl,hl,k⟩;refine⟨rfl,?_⟩;refine ax rfl rfl (ax rfl rfl (gh ⟨bU (by rw[O8];omega),?_⟩));exact t7 aW trivial bK.tup (λ e q hq he K' t=>⟨_,rfl,jU he t⟩) ⟨Pz rfl,k⟩
def Nb(w e0:Nat):Prop:=(w<=4/\e0=200)\/e0=72
structure Fb(F:List (List Int))(m w e0:Nat):Prop where
 is:Mx.bH m w F
 st:Mx.aJ F m w (Mx.a9 F)
 red:Mx.p8 F m (Mx.a9 F)
 m8:m<=8
 w8:w<=8
 bd:∀r∈F,∀x∈r,x.natAbs<=2^e0
 sz:Nb w e0
theorem Fb.wf{F:List (List Int)}{m w e0:Nat}(h:Fb F m w e0):Wf F m w:=⟨h.is,h.st,h.m8,h.w8,λ k c hk hc=>Pe (oz h.is h.bd k c hk hc) (PX (by decide) (by rcases h.sz with⟨_,e⟩|e<;>omega))⟩
def g5:bR:=λ ds st K=>∃(n:Nat) (b:Int) (F:List (List Int)) (m w e0:Nat) (f:Bool),ds=[.ref n,.tup [.int w,a6 F]]/\Hd st n b/\n≠0/\0<=b/\b<=600000000/\Fb F m w e0/\st[0]?=some (dz f)/\∀st' f',Hd st' n (b+200)->st'[0]?=some (dz f')->K (.bl true) st'
def j6:List Str:=["_law_hand_here","_law_other","_law_wide","_law_form","_law_square_here","_law_due","_law_j","_law_one","_law_diagonal","_law_back","_law_found","_law_fewer"]
def qF:DS:=(az (Aj (fO 2 3) (aa 1))
 (az (aR 4 (av kB (ab (aa 0) (ab (ba cR (ab (aa 3) af)) af))))
 (az (aR 5 (dC (.int 1)))
 (az (fy (b_ (ab (ba cR (ab (aa 3) af)) af)) (aV 6) (aR 5 (ai cJ (aa 5) (ai aH (ai aH (aa 4) (aa 6)) (aa 6)))))
 (az (aR 7 (fF (ab (aa 2) (ab (fF af) af))))
 (az (cW (aU (ai iC (ba cR (ab (aa 3) af)) (dC (.int 0)))) (aR 7 (av l7 (ab (aa 2) (ab (av lg (ab (aa 0) (ab (av hO (ab (aa 4) (ab (aa 3) af))) af))) af)))) cE)
 (az (cW (ny (aU (ai rD (av dB (ab (aa 7) (ab (aa 1) af))) (dC (.bl true)))) (kQ (aU (av gw (ab (av eC (ab (aa 7) (ab (aa 1) af))) (ab (aa 5) af)))))) (bh (dC (.bl false))) cE)
 (az (cW (ny (kQ (aU (av dB (ab (av fY (ab (aa 7) af)) (ab (aa 1) af))))) (aU (ai h_ (av eC (ab (av fY (ab (aa 7) af)) (ab (av fY (ab (aa 1) af)) af))) (aa 5)))) (bh (dC (.bl false))) cE)
 (az (aR 8 (cy (b_ (ab (ba cR (ab (aa 3) af)) af)) [none,some 4] (aV 0) bM (ai aH (ai aH (aa 1) (aa 0)) (aa 0))))
 (az (cW (gL (aU (ai uv (aa 5) (dC (.int 64)))) (aU (ai h_ (av lE (ab (aa 7) (ab (aa 1) (ab (aa 8) af)))) (aa 5)))) (bh (dC (.bl false))) cE)
 (az (aR 9 (ai aH (lB (ab (dC .aq) (ab (dC (.int 1)) af))) (ba nC (ab (ai dR (aa 5) (dC (.int 1))) af))))
 (az (aR 10 (av dB (ab (aa 1) (ab (aa 7) af))))
 (az (cW (ny (kQ (aU (ba nM (ab (aa 10) (ab (dC (.ty "bool")) af))))) (ny (aU (ai h_ (aa 10) (ai dR (aa 5) (dC (.int 1))))) (kQ (aU (av gw (ab (av eC (ab (aa 1) (ab (aa 7) af))) (ab (aa 9) af))))))) (bh (dC (.bl false))) cE)
 (az (aR 11 (fF (ab (aa 2) (ab (fR (ai aH (aa 7) (dC (.int 1))) fb (ix (i9 ft (dC (.int 1))))) af))))
 (bh (A5 (ai dR (ba cR (ab (aa 3) af)) (dC (.int 0))) (jE (ai kP (av dB (ab (aa 11) (ab (aa 1) af))) (dC (.bl true))) (ai kP (av eC (ab (aa 11) (ab (aa 1) af))) (dC .aq)))))))))))))))))))
theorem xB{F:List (List Int)}{m w:Nat}{ld:Nat->Nat}(s:Mx.aJ F m w ld):m<=w:=by
 have go:∀i,i<m->i<=ld i:=λ i=>by
  induction i with
  |zero=>intro _;exact Po _
  |succ i ih=>
   intro h;have:=ih (by omega);have:=s.mono i (i+1) (by omega) h;omega
 rcases TK m with z|z
 . omega
 . have h1:=go (m-1) (by omega);have h2:=(s.lead (m-1) (by omega)).1;omega
theorem xO{T:List (List Int)}{j:Nat}(h:j<T.length):cT (T.map aW) (j:Int)=some (aW (T.getD j [])):=by
 refine fC ?_;rw[PD,Pk h,Mx.aO h];rfl
theorem E7{xs:List D}{n:Nat}(h:xs.length=n+1):L3.cutD xs none (some (-1))=xs.take n:=by
 unfold L3.cutD;rw[HT.qJ]
 have e:HT.bp xs.length xs.length (some (-1))=n:=by
  unfold HT.bp;rw[h];simp only;rw[O_ (by decide)];omega
 rw[e,Vf];rfl
theorem Fb.same{A F:List (List Int)}{N w m e1:Nat}(fo:Fo A N w F m)(hA:Mx.bH N w A)(w8:w<=8)(bA:∀r∈A,∀x∈r,x.natAbs<=2^e1)(h:(w<=4/\e1=240)\/e1=110):Wf F m w:=by
 have mw:=xB fo.st;refine⟨fo.is,fo.st,fo.m8,w8,λ i c hi hc=>?_⟩;refine Pe (fo.same.abs fo.m8 fo.st fo.red (b:=2^e1) (oz hA bA) i c hi hc) ?_;rcases h with⟨w4,rfl⟩|rfl
 . exact Pe (PY (show m<=4 by omega) (PX (by decide) (show m<=4 by omega))) (show 4*(9*2^240)^4<=2^5000 by decide+kernel)
 . exact Pe (PY (show m<=8 by omega) (PX (by decide) (show m<=8 by omega))) (show 8*(9*2^110)^8<=2^5000 by decide+kernel)
theorem vS{N w e1:Nat}(hN:N<=16)(w8:w<=8)(h:(w<=4/\e1=240)\/e1=110):Mx.Ry N w e1:=λ t h1 h2=>by
 rcases h with⟨w4,rfl⟩|rfl
 . exact(show Mx.Ry 16 4 240 by decide+kernel) t (by omega) (by omega)
 . exact(show Mx.Ry 16 8 110 by decide+kernel) t (by omega) (by omega)
theorem vF{T:Mx.Fn}{F P:List (List Int)}{m w:Nat}(t:Mx.sd T m)(hP:∀i c,i<m->c<w->Mx.g P i c=Mx.S m λ j=>T i j*Mx.g F j c)(h1:∀i,i<m->T i i=1):∀n i,i<n->i<m->Mx.aP P m w (Mx.g F i)
 |0,i,h,_=>absurd h (Pq _)
 |n+1,i,h,hi=>by
  have ih:=vF t hP h1 n;have hs:Mx.aP P m w λ c=>Mx.S i λ j=>T i j*Mx.g F j c:=Mx.aP.comb (a:=T i) (v:=λ j=>Mx.g F j) λ l hl=>ih l (by omega) (by omega);refine((Mx.aP.row hi).sub hs).eq λ c hc=>?_;rw[hP i c hi hc];have e:(Mx.S m λ j=>T i j*Mx.g F j c)=Mx.S (i+1) λ j=>T i j*Mx.g F j c:=Mx.u5 (by omega) λ j h1 h2=>by rw[t.lo i j hi h2 (by omega),Qv]
  rw[e];show _=Mx.S i (λ j=>T i j*Mx.g F j c)+T i i*Mx.g F i c-_;rw[h1 i hi,Rp];omega
theorem C4{m:Nat}{f:Nat->Int}(h:∀i,i<m->f i=1):Mx.Pr m f=1:=by
 induction m with
 |zero=>rfl
 |succ m ih=>
  show Mx.Pr m f*f m=1;rw[ih λ i hi=>h i (by omega),h m (PL _)];rfl
theorem M5{f:Nat->Int}{m:Nat}(h:∀i,i<m->0<f i):∀i,i<=m->Mx.Pr i f<=Mx.Pr m f:=by
 induction m with
 |zero=>intro i hi;rw[show i=0 by omega];exact SN _
 |succ m ih=>
  intro i hi;rcases Nat.eq_or_lt_of_le hi with q|q
  . rw[q];exact SN _
  . refine Int.le_trans (ih (λ i hi=>h i (by omega)) i (by omega)) ?_;have p:=Mx.ig (n:=m) (f:=f) λ i hi=>h i (by omega);have q:=h m (PL _);have:=Tv (show(1:Int)<=f m by omega) (Ra p);rw[RL]at this;exact this
structure vX(F G:List (List Int))(T:Mx.Fn)(P:List (List Int))(m w:Nat):Prop where
 wf:Wf G m w
 red:Mx.p8 G m (Mx.a9 G)
 Bx:∀i,i<m->Mx.aP F m w (Mx.g G i)
 same:Mx.bG P m G m w
 Na:(Mx.Pr m λ i=>Mx.g G i (Mx.a9 F i)/Mx.g F i (Mx.a9 F i))=Mx.Pr m λ i=>T i i
theorem vX.times{F G P:List (List Int)}{T:Mx.Fn}{m w:Nat}(M:vX F G T P m w)(hF:Mx.aJ F m w (Mx.a9 F)){d:D}(h:JK G F m m w d):d= .int (Mx.Pr m λ i=>T i i):=by
 rcases h with⟨h,_⟩|⟨_,_,h⟩
 . rcases h with h|h
   . exact absurd M.Bx h
   . exact absurd rfl h
 . rw[h,M.Na]
theorem vX.one{F G P:List (List Int)}{T:Mx.Fn}{m w:Nat}(M:vX F G T P m w)(hF:Mx.aJ F m w (Mx.a9 F))(hin:∀i,i<m->Mx.aP G m w (Mx.g F i))(i:Nat)(hi:i<m):Mx.a9 G i=Mx.a9 F i/\Mx.g G i (Mx.a9 F i)=Mx.g F i (Mx.a9 F i):=by
 obtain⟨_,h2,h3⟩:=hF.same M.wf.st hin M.Bx i hi;exact⟨h2,h3⟩
theorem vX.in1{F G P:List (List Int)}{T:Mx.Fn}{m w:Nat}(M:vX F G T P m w)(hF:Mx.aJ F m w (Mx.a9 F))(t:Mx.sd T m)(hP:∀i c,i<m->c<w->Mx.g P i c=Mx.S m λ j=>T i j*Mx.g F j c):(∀i,i<m->Mx.aP G m w (Mx.g F i))↔(Mx.Pr m λ i=>T i i)=1:=by
 refine⟨λ hin=>?_,λ h i hi=>?_⟩
 . rw[<-M.Na];refine C4 λ i hi=>?_;rw[(M.one hF hin i hi).2];exact Int.ediv_self (Q6 (hF.lead i hi).2.1)
 . have h1:∀i,i<m->T i i=1:=λ i hi=>by
    have a:=Mx.zP t.pos i hi;have c:=t.pos i hi;omega
   exact Mx.aP.trans M.same.to (vF t hP h1 m i hi hi)
theorem Wf.take{F:List (List Int)}{m w t:Nat}(h:Wf F m w)(ht:t<=m):Wf (F.take t) t w:=by
 have e:∀i,i<t->Mx.a9 (F.take t) i=Mx.a9 F i:=λ i hi=>by
  unfold Mx.a9;rw[Pc,TQ,O_ hi,<-Pc]
 refine⟨⟨by rw[P_,h.is.len];omega,λ r hr=>h.is.ff r (RK hr)⟩,⟨λ i hi=>?_,λ i j hij hj=>?_⟩,by have:=h.m8;omega,h.w8,λ k c hk hc=>by rw[eS hk];exact h.sm k c (by omega) hc⟩
 . obtain⟨l1,l2,l3⟩:=h.st.lead i (by omega);rw[e i hi];exact⟨l1,by rw[eS hi];exact l2,λ c hc=>by rw[eS hi];exact l3 c hc⟩
 . rw[e i (by omega),e j hj];exact h.st.mono i j hij (by omega)
theorem pd:O4 g5 2 qF j6:=by
 rintro ds st K ⟨n,b,F,m,w,e0,f,rfl,B,nz,b0,hb,hF,h0,k⟩;refine⟨rfl,?_⟩;have hWF:=hF.wf;have lF:=hF.is.len;have m8:=hF.m8;have w8:=hF.w8;have hn:=B.lt;refine⟨_,rfl,cu rfl ?_⟩;rw[O8,lF];refine⟨n,b,m,rfl,B,b0,by omega,m8,λ T st1 hT tri bT B1 X1=>?_⟩;have lT:=hT.len;have t1:st1[0]?=some (dz f):=(X1.same 0 (O6.mp h0).1 (Pj nz)).trans h0;have l1:=X1.len;refine cu rfl ?_;rw[O8,lF];refine cC ⟨by omega,by omega⟩ ?_;rw[Pp];refine et m (λ j σ s=>s=st1/\∃v6:Option D,σ=[some (.ref n),some (.tup [.int w,a6 F]),some (.int w),some (a6 F),some (jP T),some (.int (Mx.Pr j λ i=>Mx.g T i i)),v6,none,none,none,none,none]) ?_ ?_ ⟨rfl,none,rfl⟩;rotate_left 1
 . rintro j σ s rest hj ⟨rfl,v6,rfl⟩ next
   refine⟨_,rfl,ax rfl (xO (by omega)) (ax rfl (dH (by have:=hT.row hj;omega)) ?_)⟩;have bj:=oz hT bT j j hj hj;refine dG (sP (by unfold Mx.g at bj;omega) (by unfold Mx.g at bj;omega)) ?_;exact next _ _ ⟨rfl,_,rfl⟩
 rintro σ s ⟨rfl,v6,rfl⟩;have dpos:0<Mx.Pr m λ i=>Mx.g T i i:=Mx.ig tri.pos;refine⟨Po _,Pz rfl,?_⟩;try dsimp only[af]
 refine eZ (A:=cW _ _ _) (λ σ s=>∃(G P:List (List Int)) (f1:Bool),σ=[some (.ref n),some (.tup [.int w,a6 F]),some (.int w),some (a6 F),some (jP T),some (.int (Mx.Pr m λ i=>Mx.g T i i)),v6,some (.tup [.int w,a6 G]),none,none,none,none]/\(∀i c,i<m->c<w->Mx.g P i c=Mx.S m λ j=>Mx.g T i j*Mx.g F j c)/\vX F G (Mx.g T) P m w/\Hd s n (b+180)/\s[0]?=some (dz f1)) (λ nx hnx=>?_) ?_
 . refine cu rfl ?_;rw[O8,lF];refine uI (λ h=>cv ?_) λ h=>?_
   . have hP:∀i c,i<m->c<w->Mx.g (Mx.mulM T F w) i c=Mx.S m λ j=>Mx.g T i j*Mx.g F j c:=λ i c hi _=>Mx.sR hT hF.is hi c
     have bP:∀r∈Mx.mulM T F w,∀x∈r,x.natAbs<=8000000*2^e0:=λ r hr x hx=>by
      unfold Mx.mulM at hr;obtain⟨ws,hws,rfl⟩:=Qa.mp hr;obtain⟨c,hc,rfl⟩:=PK.mp hx;have e:=Mx.mL (M:=2^e0) ws F (List.replicate w 0) c (by simp) hF.is.ff hF.bd;rw[Mx.bY,Mx.aO hc]at e;have h1:Mx.l1 ws<=ws.length*1000000:=Mx.rk (bT ws hws);have h2:=hT.ff ws hws;have e0':(0:Int).natAbs=0:=rfl;rw[e0',QW]at e;exact Pe e (PN _ (by omega))
     refine⟨_,_,w,T,F,rfl,HE,lS,λ z=>by rw[z]at lF;simp at lF;omega,hF.is.ff,by omega,by omega,λ r hr c hc _ _ _ _=>?_,?_⟩
     . have:=bT r hr c hc;exact eh (by omega) (by omega)
     refine⟨n,b+120,Mx.mulM T F w,m,w,8000000*2^e0,rfl,B1,by omega,by omega,Mx.yO hT hF.is,m8,w8,bP,λ Bm N' st2 B2 hBm n8 bB sameB X2=>?_⟩
     obtain⟨e1,he1,hle⟩:∃e1,((w<=4/\e1=240)\/e1=110)/\243*(8000000*2^e0)<=2^e1:=by
      rcases hF.sz with⟨w4,rfl⟩|rfl
      . exact⟨240,.inl ⟨w4,rfl⟩,by decide+kernel⟩
      . exact⟨110,.inr rfl,by decide+kernel⟩
     have bB':∀r∈Bm,∀x∈r,x.natAbs<=2^e1:=λ r hr x hx=>Pe (bB r hr x hx) hle;have l2:=X2.len;have t2:st2[0]?=some (dz f):=(X2.same 0 (O6.mp t1).1 (Pj nz)).trans t1;refine⟨_,Bm,N',w,e1,f,rfl,lS,hBm,by omega,w8,sH hBm (oz hBm bB'),by rcases he1 with⟨_,e⟩|e<;>omega,vS (by omega) w8 he1,t2,λ st3 G k3 Bk3 fo=>?_⟩;obtain⟨i1,i2,i3,i4⟩:=tri.index hF.st fo.st hP (sameB.trans fo.same);subst i1;obtain⟨f3,t3⟩:=Bk3.tb;exact hnx _ _ ⟨G,_,f3,rfl,hP,⟨Fb.same fo hBm w8 bB' he1,fo.red,i2,sameB.trans fo.same,i4⟩,(B2.mono (by omega)).cell (Bk3.fr n (by omega) nz),t3⟩
   . have m0:m=0:=by omega
     subst m0;have z:∀ {i:Nat},i<0->False:=λ h=>Pq _ h;exact hnx _ _ ⟨[],[],f,rfl,λ i c hi _=>(z hi).elim,⟨⟨⟨rfl,λ r hr=>by cases hr⟩,⟨λ i hi=>(z hi).elim,λ i j _ hj=>(z hj).elim⟩,by decide,w8,λ k c hk=>(z hk).elim⟩,λ i j _ hj=>(z hj).elim,λ i hi=>(z hi).elim,⟨λ k hk=>(z hk).elim,λ k hk=>(z hk).elim⟩,rfl⟩,B1.mono (by omega),t1⟩
 rintro σ s ⟨G,P,f1,rfl,hP,M,B2,t2⟩;have lG:=M.wf.is.len;have keep:∀ {s':ae},Ext s s'->Hd s' n (b+180)/\s'[0]?=some (dz f1):=λ X=>⟨B2.cell (X.same n B2.lt),(X.same 0 (O6.mp t2).1).trans t2⟩
 refine⟨_,_,G,F,m,m,w,rfl,Sp.T M.wf,Sp.T hWF,λ b1 hb1 s1 Y1=>?_⟩;have e1:b1=true:=hb1.mpr M.Bx;subst e1;refine LY rfl ?_;refine⟨_,_,G,F,m,m,w,rfl,Sp.T M.wf,Sp.T hWF,λ d1 s2 hd1 Y2=>?_⟩;have e2:=M.times hF.st hd1;subst e2;refine⟨_,_,rfl,.inr ⟨_,rfl⟩,rfl,?_⟩;refine⟨_,G,rfl,by omega,_,_,G,F,m,m,w,rfl,Sp.L M.wf,Sp.T hWF,λ b2 hb2 s3 Y3=>?_⟩;have e3:b2=true:=hb2.mpr M.Bx;subst e3;refine⟨_,G,rfl,by omega,_,F,rfl,by omega,_,_,G,F,m,m,w,rfl,Sp.L M.wf,Sp.L hWF,λ d2 s4 hd2 Y4=>?_⟩;have e4:=M.times hF.st hd2;subst e4;refine KJ rfl ?_;refine cu rfl ?_;rw[O8,lF];refine cC ⟨by omega,by omega⟩ ⟨bU (by rw[cB];omega),?_⟩;rw[Pp];refine ij (λ j=> .int (Mx.g T j j)) m (λ j hj K' t=>⟨_,rfl,ax rfl (xO (by omega)) (ax rfl (dH (by have:=hT.row hj;omega)) t)⟩) ?_;have hd:∀i,i<m->(((Mx.g T i i).toNat:Nat):Int)=Mx.g T i i:=λ i hi=>Int.toNat_of_nonneg (Ra (tri.pos i hi))
 have ed:(List.range m).map (λ j=>D.int (Mx.g T j j))=aj ((List.range m).map λ i=>(((Mx.g T i i).toNat:Nat):Int)):=by
  unfold aj;rw[Qb];refine Qy λ i hi=>?_;show _=D.int (((Mx.g T i i).toNat:Nat):Int);rw[hd i (QD.mp hi)]
 rw[ed];have Y14:Ext s s4:=((Y1.trans Y2).trans Y3).trans Y4;try dsimp only[af]
 refine eZ (A:=cW _ _ _) (λ σ s'=>σ=[some (.ref n),some (.tup [.int w,a6 F]),some (.int w),some (a6 F),some (jP T),some (.int (Mx.Pr m λ i=>Mx.g T i i)),v6,some (.tup [.int w,a6 G]),some (.lst (aj ((List.range m).map λ i=>(((Mx.g T i i).toNat:Nat):Int)))),none,none,none]/\Ext s s') (λ nx hnx=>?_) ?_
 . refine OJ (λ h=>cv ?_) λ h=>hnx _ _ ⟨rfl,Y14⟩
   have bl:∀i,i<=m->((Mx.bW (λ i=>(Mx.g T i i).toNat) i).length:Int)=Mx.Pr i λ i=>Mx.g T i i:=λ i hi=>by
    rw[Mx.Dn];exact Mx.qY λ j hj=>hd j (by omega)
   refine⟨F,G,m,w,λ i=>(Mx.g T i i).toNat,rfl,hWF,M.wf,tri.rests hF.is hF.st M.wf.is M.wf.st hP M.same hd,λ i hi=>?_,λ i hi=>?_,λ s5 Y5=>?_⟩
   . have h1:=bl i hi;have h2:=M5 tri.pos i hi;omega
   . have h1:=Mx.zP tri.pos i hi;have h2:=hd i hi;show(Mx.g T i i).toNat<=64;omega
   . rw[bl m (O9 _)];exact KJ rfl (hnx _ _ ⟨rfl,Y14.trans Y5⟩)
 rintro σ s5 ⟨rfl,Y5⟩
 have fin:∀(s6:ae) (v9 v10:Option D),Ext s s6->(az (aR 11 (fF (ab (aa 2) (ab (fR (ai aH (aa 7) (dC (.int 1))) fb (ix (i9 ft (dC (.int 1))))) af))))
  (bh (A5 (ai dR (ba cR (ab (aa 3) af)) (dC (.int 0))) (jE (ai kP (av dB (ab (aa 11) (ab (aa 1) af))) (dC (.bl true))) (ai kP (av eC (ab (aa 11) (ab (aa 1) af))) (dC .aq)))))) {nx:=λ _ st'=>K .aq st',rt:=K} [some (.ref n),some (.tup [.int w,a6 F]),some (.int w),some (a6 F),some (jP T),some (.int (Mx.Pr m λ i=>Mx.g T i i)),v6,some (.tup [.int w,a6 G]),some (.lst (aj ((List.range m).map λ i=>(((Mx.g T i i).toNat:Nat):Int)))),v9,v10,none] s6:=λ s6 v9 v10 Y6=>by
  refine ax rfl rfl (gI (Dq ⟨Pz rfl,?_⟩));refine cu rfl ?_;rw[O8,lF];rcases TK m with m0|m1
  . obtain⟨B6,t6⟩:=keep Y6;exact eqT (by omega) (cv (k s6 _ (B6.mono (by omega)) t6))
  . obtain⟨q,rfl⟩:∃q,m=q+1:=⟨m-1,by omega⟩
    refine F9 (by omega) ?_;rw[E7 (n:=q) (by rw[O8,lG]),<-T5];have hW':=M.wf.take (t:=q) (by omega);have hin':∀i,i<q->Mx.aP F (q+1) w (Mx.g (G.take q) i):=λ i hi=>(M.Bx i (by omega)).eq λ c _=>eS hi;refine⟨_,_,G.take q,F,q,q+1,w,rfl,Sp.T hW',Sp.T hWF,λ b4 hb4 s7 Y7=>?_⟩;have e5:b4=true:=hb4.mpr hin';subst e5;refine JV rfl (cv ?_);refine⟨_,_,G.take q,F,q,q+1,w,rfl,Sp.T hW',Sp.T hWF,λ d4 s8 hd4 Y8=>?_⟩
    have e6:d4= .aq:=by
     rcases hd4 with⟨_,h⟩|⟨_,h,_⟩
     . exact h
     . omega
    subst e6;obtain⟨B8,t8⟩:=keep ((Y6.trans Y7).trans Y8);exact ma rfl (k s8 _ (B8.mono (by omega)) t8)
 by_cases hdue:(Mx.Pr m λ i=>Mx.g T i i)=1
 . have hin:=(M.in1 hF.st tri hP).mpr hdue;refine⟨Pz rfl,eqT hdue (iS (ax rfl rfl ?_))⟩;refine⟨_,_,F,G,m,m,w,rfl,Sp.T hWF,Sp.T M.wf,λ b5 hb5 s6 Y6=>?_⟩;have e5:b5=true:=hb5.mpr hin;subst e5;refine nZ rfl (by decide) (eqT hdue (Kb rfl ?_));refine⟨_,_,F,G,m,m,w,rfl,Sp.T hWF,Sp.T M.wf,λ d5 s7 hd5 Y7=>?_⟩
   have e6:d5= .int 1:=by
    rcases hd5 with⟨h,_⟩|⟨_,_,h⟩
    . rcases h with h|h
      . exact absurd hin h
      . exact absurd rfl h
    . rw[h,C4 λ i hi=>?_];obtain⟨h1,h2⟩:=M.one hF.st hin i hi;rw[h1,h2];exact Int.ediv_self (Q6 (hF.st.lead i hi).2.1)
   subst e6;exact⟨_,_,rfl,.inr ⟨_,rfl⟩,rfl,fin s7 _ _ ((Y5.trans Y6).trans Y7)⟩
 . have hin:¬ ∀i,i<m->Mx.aP G m w (Mx.g F i):=λ h=>hdue ((M.in1 hF.st tri hP).mp h);refine⟨Pz rfl,F9 hdue (iS (ax rfl rfl ?_))⟩;refine⟨_,_,F,G,m,m,w,rfl,Sp.T hWF,Sp.T M.wf,λ b5 hb5 s6 Y6=>?_⟩
   have e5:b5=false:=by
    cases b5 with
    |false=>rfl
    |true=>exact absurd (hb5.mp rfl) hin
   subst e5;refine nZ rfl (by decide) (F9 hdue (Kb rfl ?_));refine⟨_,_,F,G,m,m,w,rfl,Sp.T hWF,Sp.T M.wf,λ d5 s7 hd5 Y7=>?_⟩
   have e6:d5= .aq:=by
    rcases hd5 with⟨_,h⟩|⟨h,_,_⟩
    . exact h
    . exact absurd h hin
   subst e6;exact⟨_,_,rfl,.inl rfl,rfl,fin s7 _ _ ((Y5.trans Y6).trans Y7)⟩
abbrev Ge:bR:=Bu KZ
def FY:List Str:=["_law_script","_law_hand_here","_law_wide","_law_great","_law_other","_law_third","_law_within","_law_due","_law_found"]
def Mm:DS:=(az (aR 1 (av mX (ab (aa 0) af)))
 (az (Aj (fO 2 3) (av lj (ab (aa 1) af)))
 (az (aR 4 (av l7 (ab (aa 2) (ab (av jI (ab (aa 1) (ab (av jR (ab (aa 1) (ab (aa 2) (ab (aa 3) af)))) (ab (aa 2) af)))) af))))
 (az (cW (kQ (aU (av g5 (ab (aa 1) (ab (aa 4) af))))) (bh (dC (.bl false))) cE)
 (az (aR 5 (av l7 (ab (aa 2) (ab (av jI (ab (aa 1) (ab (ba sQ (ab (dC (.int 8)) (ab (av jR (ab (aa 1) (ab (aa 2) (ab (dC (.bl false)) af)))) af))) (ab (aa 2) af)))) af))))
 (az (aR 6 (ba tM (ab (cy (cY (ai aH (aa 5) (dC (.int 1)))) [none,some 4] (aV 0) bM (av qD (ab (ai aH (aa 1) (dC (.int 1))) (ab (aa 0) af)))) af)))
 (az (aR 7 (dC .aq))
 (az (cW (gL (aU (aa 6)) (aU (ai dR (ba cR (ab (ai aH (aa 5) (dC (.int 1))) af)) (ba cR (ab (ai aH (aa 4) (dC (.int 1))) af))))) (aR 7 (ai gQ (av i6 (ab (ai aH (aa 5) (dC (.int 1))) af)) (av i6 (ab (ai aH (aa 4) (dC (.int 1))) af)))) cE)
 (az (aR 8 (av dB (ab (aa 5) (ab (aa 4) af))))
 (bh (jE (ba nM (ab (aa 8) (ab (dC (.ty "bool")) af))) (jE (ai dR (aa 8) (aa 6)) (av gw (ab (av eC (ab (aa 5) (ab (aa 4) af))) (ab (aa 7) af)))))))))))))))
theorem Fb.of{A F:List (List Int)}{N w m:Nat}(fo:Fo A N w F m)(hA:Mx.bH N w A)(w8:w<=8)(h1:∀r∈A,∀x∈r,x.natAbs<=1000000000000)(h2:5<w->∀r∈A,∀x∈r,x.natAbs<=30)(h:w<=4\/6<=w):∃e0,Fb F m w e0:=by
 have mw:=xB fo.st
 have go:∀M e0,Nb w e0->(∀r∈A,∀x∈r,x.natAbs<=M)->m*(9*M)^m<=2^e0->Fb F m w e0:=λ M e0 hz hM hle=>⟨fo.is,fo.st,fo.red,fo.m8,w8,λ r hr x hx=>by
  obtain⟨i,hi,rfl⟩:=PK.mp hr;obtain⟨c,hc,rfl⟩:=PK.mp hx;have li:i<m:=by rw[<-fo.is.len];exact hi
  have lc:c<w:=by rw[<-fo.is.ff _ hr];exact hc
  have a:=fo.same.abs fo.m8 fo.st fo.red (b:=M) (oz hA hM) i c li lc;unfold Mx.g at a;rw[Mx.aO hi,Mx.aO hc]at a;exact Pe a hle,hz⟩
 rcases h with h|h
 . refine⟨200,go 1000000000000 200 (.inl ⟨h,rfl⟩) h1 ?_⟩;exact Pe (PY (show m<=4 by omega) (PX (by decide) (show m<=4 by omega))) (show 4*(9*1000000000000)^4<=2^200 by decide+kernel)
 . refine⟨72,go 30 72 (.inr rfl) (h2 (by omega)) ?_⟩;exact Pe (PY (show m<=8 by omega) (PX (by decide) (show m<=8 by omega))) (show 8*(9*30)^8<=2^72 by decide+kernel)
theorem Cv{N w:Nat}{A:List (List Int)}(hN:N<=16)(w8:w<=8)(h1:∀r∈A,∀x∈r,x.natAbs<=1000000000000)(h2:5<w->∀r∈A,∀x∈r,x.natAbs<=30)(h:w<=4\/6<=w):∃e0,e0<=240/\(∀r∈A,∀x∈r,x.natAbs<=2^e0)/\Mx.Ry N w e0:=by
 rcases h with h|h
 . exact⟨240,O9 _,λ r hr x hx=>Pe (h1 r hr x hx) (by decide+kernel),vS hN w8 (.inl ⟨h,rfl⟩)⟩
 . exact⟨110,by decide,λ r hr x hx=>Pe (h2 (by omega) r hr x hx) (by decide+kernel),vS hN w8 (.inr rfl)⟩
theorem JR{f h:Nat->Int}{m:Nat}(hp:∀i,i<m->0<h i)(hd:∀i,i<m->h i∣f i):Mx.Pr m f/Mx.Pr m h=Mx.Pr m λ i=>f i/h i:=by
 have e:∀n,n<=m->Mx.Pr n f=Mx.Pr n h*Mx.Pr n λ i=>f i/h i:=λ n=>by
  induction n with
  |zero=>intro _;rfl
  |succ n ih=>
   intro hn;show Mx.Pr n f*f n=Mx.Pr n h*h n*(_*(f n/h n));rw[ih (by omega)];have:=Int.mul_ediv_cancel' (hd n (by omega));conv=>lhs;rw[<-this]
   generalize f n/h n=q;generalize h n=y;generalize Mx.Pr n h=x;generalize(Mx.Pr n λ i=>f i/h i)=z;rw[Qw,Qw];congr 1;rw[<-Qw,<-Qw,QS z y]
 rw[e m (O9 _),Int.mul_ediv_cancel_left _ (Q6 (Mx.ig hp))]
theorem Hg{F:List (List Int)}{m w e0:Nat}(h:Fb F m w e0):(Mx.Pr m λ i=>Mx.g F i (Mx.a9 F i)).natAbs<=2^1600:=by
 have hW:=h.wf;have e2:e0<=200:=by rcases h.sz with⟨_,e⟩|e<;>omega
 have m8:=h.m8
 have go:∀j,j<=m->(Mx.Pr j λ i=>Mx.g F i (Mx.a9 F i)).natAbs<=2^(200*j):=λ j=>by
  induction j with
  |zero=>intro _;exact O9 1
  |succ j ih=>
   intro hj;show(_*_:Int).natAbs<=_;rw[Qm,Vg,Q0];exact PY (ih (by omega)) (Pe (oz h.is h.bd j _ (by omega) (hW.lead (show j<m by omega)).1) (PX (by decide) e2))
 exact Pe (go m (O9 _)) (PX (by decide) (by omega))
theorem Ke:O4 Ge 1 Mm FY:=by
 rintro ds st K ⟨ns,rfl,hl,hst,k⟩;refine⟨rfl,?_⟩;have h0:st[0]?=some (dz false):=by rw[hst];rfl
 have hlen:st.length=1:=by rw[hst];rfl
 refine⟨ns,rfl,hl,λ st1 B1 X1=>?_⟩;have nz:st.length≠0:=by omega
 have t1:st1[0]?=some (dz false):=(X1.same 0 (by omega)).trans h0;refine⟨st.length,0,rfl,B1,by decide,by decide,λ w g st2 w1 w8 hg hg' B2 U2=>?_⟩
 have hw:w<=4\/6<=w:=by
  cases g with
  |true=>exact .inr (hg rfl)
  |false=>exact .inl (hg' rfl)
 have t2:st2[0]?=some (dz false):=(U2.same 0 (Pj nz)).trans t1;refine⟨_,rfl,?_⟩;refine⟨st.length,_,w,g,rfl,B2,by omega,by omega,w1,w8,λ N st3 _ n8 B3 U3=>?_⟩;have n8:=n8 hg';refine⟨st.length,_,N,w,rfl,B3,by omega,by omega,n8,w8,λ A st4 hA bA bA30 B4 U4=>?_⟩;have t4:st4[0]?=some (dz false):=((U3.trans U4).same 0 (Pj nz)).trans t2;obtain⟨e0,he,bE,hR⟩:=Cv (N:=N) (by omega) w8 bA bA30 hw;refine⟨_,A,N,w,e0,false,rfl,lS,hA,by omega,w8,sH hA (oz hA bE),by omega,hR,t4,λ st5 F m Bk5 fo=>?_⟩;obtain⟨eF,hF⟩:=Fb.of fo hA w8 bA bA30 hw;obtain⟨f5,t5⟩:=Bk5.tb;have B5:=B4.cell (Bk5.fr _ B4.lt nz);refine⟨st.length,_,F,m,w,eF,f5,rfl,B5,nz,by omega,by omega,hF,t5,λ st6 f6 B6 t6=>?_⟩;refine⟨st.length,_,w,false,rfl,B6,by omega,by omega,w1,w8,λ N2 st7 n9 _ B7 U7=>BM ?_⟩
 obtain⟨N3,e3,n3⟩:∃N3:Nat,(if((N2:Nat):Int)<8 then((N2:Nat):Int)else 8)=(N3:Int)/\N3<=8:=by
  split
  . exact⟨N2,rfl,by omega⟩
  . exact⟨8,rfl,O9 _⟩
 rw[e3];refine⟨st.length,_,N3,w,rfl,B7,by omega,by omega,n3,w8,λ C st8 hC bC bC30 B8 U8=>?_⟩;have t8:st8[0]?=some (dz f6):=((U7.trans U8).same 0 (Pj nz)).trans t6;obtain⟨e1,he1,bE1,hR1⟩:=Cv (N:=N3) (by omega) w8 bC bC30 hw;refine⟨_,C,N3,w,e1,f6,rfl,lS,hC,by omega,w8,sH hC (oz hC bE1),by omega,hR1,t8,λ st9 G q Bk9 fo9=>?_⟩;obtain⟨eG,hG⟩:=Fb.of fo9 hC w8 bC bC30 hw;have hWF:=hF.wf;have hWG:=hG.wf;have lF:=hF.is.len;have lG:=hG.is.len;have q8:=hG.m8;have m8:=hF.m8;refine ax rfl rfl (gh ⟨bU (by rw[O8];omega),?_⟩);refine cX (λ rest acc s=>∃(i:Nat) (bs:List Bool),i<=q/\rest=(G.map bI).drop i/\acc=bs.map D.bl/\bs.length=i/\∀j,j<i->(bs.getD j false=true↔Mx.aP F m w (Mx.g G j))) ?_ ?_ _ _ _ ⟨0,[],Po _,rfl,rfl,rfl,λ j hj=>absurd hj (Pq _)⟩;rotate_left 1
 . rintro x rest acc s ⟨i,bs,hi,hrest,rfl,hbl,hbs⟩ next
   obtain⟨hiG,rfl,rfl⟩:=drop_cons hrest;have hiq:i<q:=by omega
   refine⟨trivial,_,rfl,ax rfl rfl ⟨_,F,G.getD i [],m,w,5000,rfl,hWF,rfl,hG.is.row hiq,λ c hc=>hWG.sm i c hiq hc,by decide,λ b hb s2 X2=>?_⟩⟩;refine next _ _ ⟨i+1,bs++[b],hiq,rfl,by rw[Qr];rfl,by rw[Py,hbl];rfl,λ j hj=>?_⟩
   rw[Pc];by_cases h:j<i
   . rw[Pd (by omega),<-Pc];exact hbs j h
   . have:j=i:=by omega
     subst this;rw[PH (by omega),hbl,QM];exact hb
 rintro acc s ⟨i,bs,hi,hrest,rfl,hbl,hbs⟩;have eq1:i=q:=Rb hi (by rw[<-lG];exact drop_nil hrest);subst eq1;refine⟨trivial,CY (show il (bs.map D.bl)=some bs from ?_) ?_⟩
 . have:=m5 (f:=λ b:Bool=>b) bs;rw[List.map_id']at this;exact this
 have hall:bs.all id=true↔∀j,j<i->Mx.aP F m w (Mx.g G j):=by
  rw[Qe];refine⟨λ h j hj=>(hbs j hj).mp ?_,λ h b hb=>?_⟩
  . rw[Mx.aO (by omega)];exact h _ (Q8 _)
  . obtain⟨j,hj,rfl⟩:=PK.mp hb;have:=(hbs j (by omega)).mpr (h j (by omega));rwa [Mx.aO hj]at this
 generalize bs.all id=bb at hall;clear hbs hbl hrest;try dsimp only[af]
 refine eZ (A:=aR 7 _) (λ σ s'=>σ=[some (.lst (ns.map D.int)),some (.ref st.length),some (.int w),some (.bl g),some (.tup [.int w,a6 F]),some (.tup [.int w,a6 G]),some (.bl bb),some .aq,none]) (λ nx hnx=>hnx _ _ rfl) ?_;rintro _ s0 rfl;refine eZ (A:=cW _ _ _) (λ σ s'=>∃d7:D,σ=[some (.lst (ns.map D.int)),some (.ref st.length),some (.int w),some (.bl g),some (.tup [.int w,a6 F]),some (.tup [.int w,a6 G]),some (.bl bb),some d7,none]/\JK G F i m w d7) (λ nx hnx=>?_) ?_
 . cases bb with
   |false=>exact hnx _ _ ⟨_,rfl,.inl ⟨.inl λ h=>PV (hall.mpr h),rfl⟩⟩
   |true=>
    have hin:=hall.mp rfl;refine ax rfl rfl (cu rfl (ax rfl rfl (cu rfl ?_)));rw[O8,O8,lF,lG];refine eq2 (λ h=>cv ?_) λ h=>hnx _ _ ⟨_,rfl,.inl ⟨.inr λ z=>h (by rw[z]),rfl⟩⟩;have him:i=m:=by omega
    subst him;refine ax rfl rfl ⟨G,i,w,rfl,hWG,ax rfl rfl ⟨F,i,w,rfl,hWF,?_⟩⟩;have pF:0<Mx.Pr i λ j=>Mx.g F j (Mx.a9 F j):=Mx.ig λ j hj=>(hF.st.lead j hj).2.1;refine iQ (by omega) ?_ ?_
    . exact(UN (by omega)).mpr (Ru (Hg hF) (Tu (by decide) (by decide)))
    rw[QT _ (Ra pF)];refine hnx _ _ ⟨_,rfl,.inr ⟨hin,rfl,?_⟩⟩;have al:=λ j hj=>hG.st.alike hF.st hin j hj;have e:(Mx.Pr i λ j=>Mx.g G j (Mx.a9 G j))=Mx.Pr i λ j=>Mx.g G j (Mx.a9 F j):=Mx.qY λ j hj=>by rw[(al j hj).1]
    rw[e,JR (λ j hj=>(hF.st.lead j hj).2.1) λ j hj=>by have:=(al j hj).2;rw[<-(al j hj).1]at this;exact this]
 rintro σ s' ⟨d7,rfl,hd7⟩;refine⟨_,_,G,F,i,m,w,rfl,Sp.T hWG,Sp.T hWF,λ b8 hb8 s2 X2=>?_⟩
 have e8:b8=bb:=by
  cases b8<;>cases bb
  . rfl
  . exact absurd (hb8.mpr (hall.mp rfl)) PV
  . exact absurd (hall.mpr (hb8.mp rfl)) PV
  . rfl
 subst e8;refine nZ rfl (by decide) (cv (Ah rfl rfl ?_));have er:dm (.bl b8) (.bl b8)=true:=by cases b8<;>rfl
 rw[er];refine cv ?_;refine⟨_,_,G,F,i,m,w,rfl,Sp.T hWG,Sp.T hWF,λ d9 s3 hd9 X3=>?_⟩
 have e9:d7=d9:=by
  rcases hd7 with⟨a1,a2⟩|⟨a1,a2,a3⟩<;>rcases hd9 with⟨c1,c2⟩|⟨c1,c2,c3⟩
  . rw[a2,c2]
  . exact(a1.elim (λ y=>y c1) λ y=>y c2).elim
  . exact(c1.elim (λ y=>y a1) λ y=>y a2).elim
  . rw[a3,c3]
 refine⟨_,_,rfl,?_,e9,k _⟩;rcases hd9 with⟨_,h⟩|⟨_,_,h⟩
 . exact .inl h
 . exact .inr ⟨_,h⟩
end Prog
namespace Row
open PySem L2 L3 Prog
open PySem.Spec hiding items?
open PyProof.Rows hiding St
theorem j_:(("tuple":Str))≠"__name__":=by decide+kernel
theorem ir:(("len":Str))≠"__name__":=by decide+kernel
theorem gg:(("list":Str))≠"__name__":=by decide+kernel
theorem xn:(("abs":Str))≠"__name__":=by decide+kernel
theorem Cp:(("all":Str))≠"__name__":=by decide+kernel
theorem Bs:(("sum":Str))≠"__name__":=by decide+kernel
theorem rh:(("int":Str))≠"__name__":=by decide+kernel
theorem BX:(("max":Str))≠"__name__":=by decide+kernel
theorem BJ:(("min":Str))≠"__name__":=by decide+kernel
theorem Br:(("any":Str))≠"__name__":=by decide+kernel
theorem m9:(("isinstance":Str))≠"__name__":=by decide+kernel
theorem yG:(("bool":Str))≠"__name__":=by decide+kernel
structure Bl(mg:Str->Option Value):Prop where
 lZ:mg "tuple"=none
 u7:mg "zip"=none
 iY:mg "len"=none
 jV:mg "range"=none
 pU:mg "enumerate"=none
 ie:mg "list"=none
 zJ:mg "abs"=none
 EC:mg "sorted"=none
 FO:mg "all"=none
 FA:mg "sum"=none
 vm:mg "int"=none
 FN:mg "max"=none
 FD:mg "min"=none
 Fv:mg "any"=none
 L9:mg "set"=none
 n_:mg "isinstance"=none
 CS:mg "bool"=none
structure Kl(K:PySem.W.Frag)(mg:Str->Option Value):Prop where
 aN:ClsAt K mg "Bench" aw
 bF:eJ K aw "body"
 cZ:eJ K aw "turn"
 bJ:eJ K aw "back_columns"
theorem BU:VF nU uy ["rows"] ["tuple"]:= .of (by decide+kernel)
theorem H0:VF tE zq ["row","times","other"] ["zip"]:= .of (by decide+kernel)
theorem Ez:VF qh vW ["weights","rows","wide"] ["zip","added","tuple"]:= .of (by decide+kernel)
theorem BV:VF oi tV ["one","other"] ["len","tuple"]:= .of (by decide+kernel)
theorem ET:VF p9 vL ["rows","place"] ["tuple"]:= .of (by decide+kernel)
theorem uP:VF jq nc ["rows","wide"] ["range","tuple"]:= .of (by decide+kernel)
theorem Af:VF m6 rW ["n","place"] ["range","tuple"]:= .of (by decide+kernel)
theorem yA:VF lK pH ["n"] ["range","tuple"]:= .of (by decide+kernel)
theorem BI:VF ot uF ["row"] ["enumerate"]:= .of (by decide+kernel)
theorem cU:VF f_ jl ["top","bottom"] []:= .of (by decide+kernel)
theorem xX:VF lH pJ ["rows","k","other"] ["list"]:= .of (by decide+kernel)
theorem Ce:VF nv uw ["row"] []:= .of (by decide+kernel)
theorem a5:VF cz gS ["self","rows"] ["len","unit_rows"]:= .of (by decide+kernel)
theorem aI:VF fS ki ["self","k","times","other"] ["added"]:= .of (by decide+kernel)
theorem aQ:VF dS g6 ["self","k","other"] ["exchanged"]:= .of (by decide+kernel)
theorem aE:VF dy fL ["self","k"] ["negated"]:= .of (by decide+kernel)
theorem bO:VF cH gu ["self","top","place"] ["len","range","sorted"]:= .of (by decide+kernel)
theorem ak:VF eY iP ["self","top","place"] ["len","nearest_quotient"]:= .of (by decide+kernel)
theorem aT:VF dv fI ["self","top","place"] ["range"]:= .of (by decide+kernel)
theorem aF:VF m4 rj ["rows"] ["Bench","len","range","turned_over","as_rows"]:= .of (by decide+kernel)
theorem Bh:VF oF uq ["form","row"] ["list","lead_of","added","tuple"]:= .of (by decide+kernel)
theorem HX:VF tj yM ["form","row"] ["weighed"]:= .of (by decide+kernel)
theorem Im:VF sI yL ["wide","rows"] ["len","standing"]:= .of (by decide+kernel)
theorem yx:VF kY pL ["one","other"] ["all"]:= .of (by decide+kernel)
theorem zN:VF mR sf ["one","other"] ["is_within","len","zip","lead_of"]:= .of (by decide+kernel)
theorem AV:VF mG r_ ["_law_script"] ["sum","abs","int","list"]:= .of (by decide+kernel)
theorem AS:VF mz q_ ["_law_hand_here","_law_many_here"] ["len","abs","max","sum"]:= .of (by decide+kernel)
theorem vx:VF kj ox ["_law_hand_here","_law_wild"] ["_law_draw"]:= .of (by decide+kernel)
theorem zO:VF mF rg ["_law_hand_here","_law_many_here","_law_wide"] ["_law_draw","min","range","tuple"]:= .of (by decide+kernel)
theorem yq:VF kT pR ["_law_hand_here"] ["_law_draw"]:= .of (by decide+kernel)
theorem zR:VF my rV ["_law_hand_here","_law_wide","_law_great"] ["_law_draw"]:= .of (by decide+kernel)
theorem yr:VF lh pA ["_law_form","_law_row"] ["list","len","range","tuple"]:= .of (by decide+kernel)
theorem DU:VF qI xF ["_law_form","_law_row"] ["_law_falls","any"]:= .of (by decide+kernel)
theorem yc:VF k6 pG ["_law_hand_here","_law_rows_here"] ["len","range","_law_draw","int","product"]:= .of (by decide+kernel)
theorem xv:VF kl nI ["_law_hand_here","_law_many_here"] ["_law_draw","range"]:= .of (by decide+kernel)
theorem yj:VF kX pP ["_law_form"] []:= .of (by decide+kernel)
theorem bc:VF gy pq ["_law_one","_law_other","_law_diagonal"] ["zip","range","len","set"]:= .of (by decide+kernel)
theorem yi:VF k9 pV ["_law_found","_law_due"] ["int","isinstance","bool"]:= .of (by decide+kernel)
theorem vN:VF kC nL ["_law_one"] []:= .of (by decide+kernel)
theorem qR:VF gZ j6 ["_law_hand_here","_law_other"] ["len","_law_square","range","product","_law_mixed","space","is_within","times_in","_law_times","_law_listed","_law_rests","int","bool","isinstance"]:= .of (by decide+kernel)
theorem MZ:VF r8 FY ["_law_script"] ["_law_hand","_law_width","_law_many","_law_rows","space","_law_made_right","min","all","len","_law_leads","is_within","bool","isinstance","times_in","_law_times"]:= .of (by decide+kernel)
structure Ev(w:World)(mg:Str->Option Value)(h:Heap):Prop where
 X:(KX w.params).In h
 G:h.Ns mainGlobals mg
section
variable {w:World}{mg:Str->Option Value}{h:Heap}(base:Heap)(e:Ev w mg h)
include e
set_option hygiene false
local macro_rules| `(tactic|nofun)=> `(tactic|repeat' first
 |(show JA _ _ _;first|exact a8|refine aA ?_ ?_)
 |(show JE (a7 _ _ _ _ _ _ _) _ _;first|exact iB|exact d8|refine cO ?_ ?_|first|refine cn c1.1 c1.2 (hr.mono (by decide)) ?_ (by decide+kernel) rfl|refine cn c2.1 c2.2 (hr.mono (by decide)) ?_ (by decide+kernel) rfl|refine cn c3.1 c3.2 (hr.mono (by decide)) ?_ (by decide+kernel) rfl|refine cn c4.1 c4.2 (hr.mono (by decide)) ?_ (by decide+kernel) rfl|refine cn c5.1 c5.2 (hr.mono (by decide)) ?_ (by decide+kernel) rfl|refine cn c6.1 c6.2 (hr.mono (by decide)) ?_ (by decide+kernel) rfl|refine cn c7.1 c7.2 (hr.mono (by decide)) ?_ (by decide+kernel) rfl|refine cn c8.1 c8.2 (hr.mono (by decide)) ?_ (by decide+kernel) rfl|refine cn c9.1 c9.2 (hr.mono (by decide)) ?_ (by decide+kernel) rfl|refine cn c10.1 c10.2 (hr.mono (by decide)) ?_ (by decide+kernel) rfl|refine cn c11.1 c11.2 (hr.mono (by decide)) ?_ (by decide+kernel) rfl|refine js tK ?_ B.lZ rfl j_ (by decide+kernel) rfl|refine dO jH ?_ B.iY rfl ir (by decide+kernel) rfl|refine js oK ?_ B.ie rfl gg (by decide+kernel) rfl|refine js yD ?_ B.ie rfl gg (by decide+kernel) rfl|refine dO Az ?_ B.zJ rfl xn (by decide+kernel) rfl|refine dO (Gk rfl) ?_ B.FO rfl Cp (by decide+kernel) rfl|refine dO (Ft rfl) ?_ B.FA rfl Bs (by decide+kernel) rfl|refine js FQ ?_ B.vm rfl rh (by decide+kernel) rfl|refine dO (F2 rfl) ?_ B.FN rfl BX (by decide+kernel) rfl|refine dO (FX rfl) ?_ B.FD rfl BJ (by decide+kernel) rfl|refine dO (C2 rfl) ?_ B.Fv rfl Br (by decide+kernel) rfl|refine dO FF ?_ B.n_ rfl m9 (by decide+kernel) rfl|refine ue ?_ ?_|refine FK ?_ ?_ ?_|refine lb (by first|exact ve|exact B_|exact FH|exact oV|exact F7|exact FW) ?_ ?_|refine Fi (by first|exact AH hr|exact DN|exact AL|exact EZ|exact xp|exact D5|exact zY|exact zZ) (ib _) ?_ ?_|refine vi ?_|refine F1 ?_|refine vj ?_|refine sM ?_ ?_ ?_|refine oS ?_|refine Ff ?_ ?_ ?_|refine FL ?_ ?_|refine Jm ?_ ?_|refine Gp ?_|refine Gg ?_|exact AR|exact Gw|refine GQ (by decide+kernel) ?_ ?_ ?_ ?_ ?_|refine EY (by decide+kernel) ?_ ?_ ?_ ?_ ?_|exact nE B.lZ rfl j_ (by decide+kernel) rfl|exact nE B.ie rfl gg (by decide+kernel) rfl|exact nE B.vm rfl rh (by decide+kernel) rfl|exact nE B.CS rfl yG (by decide+kernel) rfl)
 |(show JE _ _ _;first|exact v.nm _|exact d8|refine cO ?_ ?_|first|refine cn c1.1 c1.2 (hr.mono (by decide)) ?_ (by decide+kernel) v.gM|refine cn c2.1 c2.2 (hr.mono (by decide)) ?_ (by decide+kernel) v.gM|refine cn c3.1 c3.2 (hr.mono (by decide)) ?_ (by decide+kernel) v.gM|refine cn c4.1 c4.2 (hr.mono (by decide)) ?_ (by decide+kernel) v.gM|refine cn c5.1 c5.2 (hr.mono (by decide)) ?_ (by decide+kernel) v.gM|refine cn c6.1 c6.2 (hr.mono (by decide)) ?_ (by decide+kernel) v.gM|refine cn c7.1 c7.2 (hr.mono (by decide)) ?_ (by decide+kernel) v.gM|refine cn c8.1 c8.2 (hr.mono (by decide)) ?_ (by decide+kernel) v.gM|refine cn c9.1 c9.2 (hr.mono (by decide)) ?_ (by decide+kernel) v.gM|refine cn c10.1 c10.2 (hr.mono (by decide)) ?_ (by decide+kernel) v.gM|refine cn c11.1 c11.2 (hr.mono (by decide)) ?_ (by decide+kernel) v.gM|refine js tK ?_ B.lZ rfl j_ (by decide+kernel) v.gM|refine dO jH ?_ B.iY rfl ir (by decide+kernel) v.gM|refine js oK ?_ B.ie rfl gg (by decide+kernel) v.gM|refine js yD ?_ B.ie rfl gg (by decide+kernel) v.gM|refine dO Az ?_ B.zJ rfl xn (by decide+kernel) v.gM|refine dO (Gk rfl) ?_ B.FO rfl Cp (by decide+kernel) v.gM|refine dO (Ft rfl) ?_ B.FA rfl Bs (by decide+kernel) v.gM|refine js FQ ?_ B.vm rfl rh (by decide+kernel) v.gM|refine dO (F2 rfl) ?_ B.FN rfl BX (by decide+kernel) v.gM|refine dO (FX rfl) ?_ B.FD rfl BJ (by decide+kernel) v.gM|refine dO (C2 rfl) ?_ B.Fv rfl Br (by decide+kernel) v.gM|refine dO FF ?_ B.n_ rfl m9 (by decide+kernel) v.gM|refine ue ?_ ?_|refine FK ?_ ?_ ?_|refine lb (by first|exact ve|exact B_|exact FH|exact oV|exact F7|exact FW) ?_ ?_|refine Fi (by first|exact AH hr|exact DN|exact AL|exact EZ|exact xp|exact D5|exact zY|exact zZ) (ib _) ?_ ?_|refine vi ?_|refine F1 ?_|refine vj ?_|refine sM ?_ ?_ ?_|refine oS ?_|refine Ff ?_ ?_ ?_|refine FL ?_ ?_|refine Jm ?_ ?_|refine Gp ?_|refine Gg ?_|exact AR|exact Gw|refine HK v (by decide+kernel) ?_ ?_ ?_ ?_ ?_|refine EX v (by decide+kernel) ?_ ?_ ?_ ?_ ?_|exact nE B.lZ rfl j_ (by decide+kernel) v.gM|exact nE B.ie rfl gg (by decide+kernel) v.gM|exact nE B.vm rfl rh (by decide+kernel) v.gM|exact nE B.CS rfl yG (by decide+kernel) v.gM)
 |(show JB _ _ _;first|refine bL ?_ ?_|refine di ?_|exact sv)
 |(show JS _ _ _;first|refine f7 nd v.lM ?_|refine vd ?_ ?_ ?_|refine ke ?_|refine nR ?_ ?_ ?_|refine vP ?_ ?_|refine iL ?_|refine gX ?_ ?_ ?_|refine E4 v nd v.lM (by decide+kernel) ?_ ?_ ?_ ?_ ?_|refine BY v nd v.lM (by decide+kernel) ?_ ?_ ?_ ?_ ?_|refine J3 ?_ ?_|refine Iv ?_ ?_ ?_ ?_ ?_|refine xi ?_)
 |(show JT _ _ _;first|refine oC (by first|exact AH hr|exact DN|exact AL|exact EZ|exact xp|exact D5|exact zY|exact zZ) (ib _) ?_ ?_|(show JT _ (.BoolOp _ _ _) _;refine Mv ?_)|refine Ki ?_|refine BD ?_)
 |(show JW _ _ _;first|refine Ly ?_ ?_|refine KS ?_|refine Lg ?_ ?_|refine GJ ?_)
 |(show JI (a7 _ _ _ _ _ _ _) _ _ _;first|refine j8 rfl B.jV ?_|refine u6 rfl B.u7 ?_|refine BH rfl B.pU ?_|refine mI ?_)
 |(show JI _ _ _ _;first|refine j8 v.gM B.jV ?_|refine u6 v.gM B.u7 ?_|refine BH v.gM B.pU ?_|refine mI ?_)
 |(show JG (a7 _ _ _ _ _ _ _) _ _;first|exact Ls|exact Ko)
 |(show JG _ _ _;first|exact kn nd v.lM (by first|exact .inr v.loc|exact .inl rfl)|exact u3 rfl nd v.lM (by first|exact .inr v.loc|exact .inl rfl) v.lM (by first|exact .inr v.loc|exact .inl rfl))
 |(show JO _ _ _;first|exact zp|refine yC ?_)
 |(show JC _ _ _;first|exact iN|refine Cf ?_)
 |exact g7
 |exact zg
 |intro _ _ _ _)
def Fk(w:World)(mg:Str->Option Value)(base:Heap)(n:Str)(s:Stmt)(ps:List Str)(a:Addr)(m:Value)(c:Addr)(k:Nat)(S:bR):Prop:=kH (KX w.params) mg n n s ps a (Hd.fd s n n m c)/\c_ PW w (KX w.params) mg base fP k a (Hd.fd s n n m c) ps (gD S)
omit e in
theorem fk{n:Str}{s:Stmt}{N gl ps:List Str}{a:Addr}{m:Value}{c:Addr}{k:Nat}{S:bR}{t:DS}{base:Heap}(d:kH (KX w.params) mg n n s ps a (Hd.fd s n n m c))(v:VF s N ps gl)(g:VS (aX s) N gl->N.Nodup->∀(cdv:Value) (A:Around) (outer:List Env) (z:Shared) (H:Hp) (E:XK),bV k (A.deeper (envOfC n (aX s) z.heap.objs.size a cdv))->JB (ly fP PW w (KX w.params) mg base N n (aX s) a cdv A outer z H E).pj (dQ s) t)(q:∀ds st K,S ds st K->ds.length=ps.length/\t {nx:=λ _ st2=>K .aq st2,rt:=K} (aS N ds) st):Fk w mg base n s ps a m c (k+1) S:=⟨d,mD d.fn v.sc (g v.v v.sc.nd) q⟩
local macro_rules| `(tactic|ac_rfl)=> `(tactic|first|exact Hd.OI e.X e.G (by kernel_rfl) λ _ _ _ _ _ _ _=>rfl|exact Hd.OK e.X e.G (by kernel_rfl) λ _ _ _ _ _ _ _ _=>rfl|exact Hd.O0 e.X e.G (by kernel_rfl) λ _ _ _ _ _ _ _ _ _=>rfl|exact Hd.df4 e.X e.G (by kernel_rfl) λ _ _ _ _ _ _ _ _ _ _=>rfl)
theorem Bt:Bl mg:=⟨P8 e.X e.G (by kernel_rfl),P8 e.X e.G (by kernel_rfl),P8 e.X e.G (by kernel_rfl),P8 e.X e.G (by kernel_rfl),P8 e.X e.G (by kernel_rfl),P8 e.X e.G (by kernel_rfl),P8 e.X e.G (by kernel_rfl),P8 e.X e.G (by kernel_rfl),P8 e.X e.G (by kernel_rfl),P8 e.X e.G (by kernel_rfl),P8 e.X e.G (by kernel_rfl),P8 e.X e.G (by kernel_rfl),P8 e.X e.G (by kernel_rfl),P8 e.X e.G (by kernel_rfl),P8 e.X e.G (by kernel_rfl),P8 e.X e.G (by kernel_rfl),P8 e.X e.G (by kernel_rfl)⟩
theorem Qt:Kl (KX w.params) mg:=⟨⟨⟨by kernel_rfl,by kernel_rfl,by kernel_rfl,by kernel_rfl⟩,PySem.W.mg_of e.X e.G (by kernel_rfl),by kernel_rfl,by kernel_rfl⟩,Hd.na (by kernel_rfl),Hd.na (by kernel_rfl),Hd.na (by kernel_rfl)⟩
theorem Bj:Fk w mg base "as_rows" nU ["rows"] 19 jz 18 1 kR:=by
 have B:=Bt e;exact fk (by ac_rfl) BU (λ v nd _ _ _ _ _ _ hr=>by nofun) AF
theorem tx:Fk w mg base "added" tE ["row","times","other"] 24 jz 23 1 iJ:=by
 have B:=Bt e;exact fk (by ac_rfl) H0 (λ v nd _ _ _ _ _ _ hr=>by nofun) DY
theorem E5:Fk w mg base "sum_by" qh ["weights","rows","wide"] 31 jz 30 2 qp:=by
 have c1:=tx base e;have B:=Bt e;exact fk (by ac_rfl) Ez (λ v nd _ _ _ _ _ _ hr=>by nofun) Dx
theorem uu:Fk w mg base "product" oi ["one","other"] 36 jz 35 3 hO:=by
 have c1:=E5 base e;have B:=Bt e;exact fk (by ac_rfl) BV (λ v nd _ _ _ _ _ _ hr=>by nofun) A3
theorem DW:Fk w mg base "column" p9 ["rows","place"] 41 jz 40 1 qt:=by
 have B:=Bt e;exact fk (by ac_rfl) ET (λ v nd _ _ _ _ _ _ hr=>by nofun) C_
theorem uR:Fk w mg base "turned_over" jq ["rows","wide"] 46 jz 45 2 jt:=by
 have c1:=DW base e;have B:=Bt e;exact fk (by ac_rfl) uP (λ v nd _ _ _ _ _ _ hr=>by nofun) sE
theorem An:Fk w mg base "unit_row" m6 ["n","place"] 51 jz 50 1 mK:=by
 have B:=Bt e;exact fk (by ac_rfl) Af (λ v nd _ _ _ _ _ _ hr=>by nofun) x4
theorem yl:Fk w mg base "unit_rows" lK ["n"] 56 jz 55 2 i0:=by
 have c1:=An base e;have B:=Bt e;exact fk (by ac_rfl) yA (λ v nd _ _ _ _ _ _ hr=>by nofun) xq
theorem nD:Fk w mg base "lead_of" ot ["row"] 63 dF 62 1 jh:=by
 have B:=Bt e;exact fk (by ac_rfl) BI (λ v nd _ _ _ _ _ _ hr=>by nofun) zD
theorem nN:Fk w mg base "nearest_quotient" f_ ["top","bottom"] 70 dF 69 1 fQ:=by
 exact fk (by ac_rfl) cU (λ v nd cdv A outer s H E hr=>(di (ke (lb (zo hr rfl cU.sc.gen cU.sc.co) (lb ve (lb oV d8 (cU.v.nm 0)) (cU.v.nm 1)) (lb oV d8 (cU.v.nm 1)))))) nq
theorem yf:Fk w mg base "exchanged" lH ["rows","k","other"] 77 dF 76 1 gE:=by
 have B:=Bt e;exact fk (by ac_rfl) xX (λ v nd _ _ _ _ _ _ hr=>by nofun) vC
theorem BC:Fk w mg base "negated" nv ["row"] 82 dF 81 1 jf:=by
 have B:=Bt e;exact fk (by ac_rfl) Ce (λ v nd _ _ _ _ _ _ hr=>by nofun) Al
theorem fw:MethAt (KX w.params) aw "__init__" "Bench.__init__" cz ["self","rows"] 94 (Hd.fd cz "__init__" "Bench.__init__" dF 93):=Hd.Nf (by kernel_rfl) λ _ _ _ _ _ _ _ _=>rfl
theorem qi:c_ PW w (KX w.params) mg base fP 3 94 (Hd.fd cz "__init__" "Bench.__init__" dF 93) ["self","rows"] (gD g0):=by
 have c1:=yl base e;have B:=Bt e;have Q:=Qt e
 exact mD (N:=gS) (fw e).fn a5.sc (λ cdv A outer s H E hr=>(bL (jY Q.aN.cl Q.bF (a5.v.nm 0) (mi (Nc:=["row"]) (bN.look (aX cz) ["self","rows"] (by decide+kernel)) (mI (a5.v.nm 1)) (λ _ _ _ _=>(kn (show(["row"]:List Str).Nodup by decide+kernel))) (λ _ _ _ _=>iN) (λ _ _ _ _=>(js oK (aA iB a8) B.ie rfl gg (by decide+kernel) rfl)) g7))
  (bL (jY Q.aN.cl Q.cZ (a5.v.nm 0) (mi (Nc:=["row"]) (bN.look (aX cz) ["self","rows"] (by decide+kernel)) (mI (cn c1.1 c1.2 (hr.mono (by decide)) (aA (dO jH (aA (a5.v.nm 1) a8) B.iY rfl ir (a5.v.d 0) (a5.v.g 0)) a8) (a5.v.d 1) (a5.v.g 1))) (λ _ _ _ _=>(kn (show(["row"]:List Str).Nodup by decide+kernel))) (λ _ _ _ _=>iN) (λ _ _ _ _=>(js oK (aA iB a8) B.ie rfl gg (by decide+kernel) rfl)) g7))
  (di (jY Q.aN.cl Q.bJ (a5.v.nm 0) (mi (Nc:=["row"]) (bN.look (aX cz) ["self","rows"] (by decide+kernel)) (mI (cn c1.1 c1.2 (hr.mono (by decide)) (aA (dO jH (aA (a5.v.nm 1) a8) B.iY rfl ir (a5.v.d 0) (a5.v.g 0)) a8) (a5.v.d 1) (a5.v.g 1))) (λ _ _ _ _=>(kn (show(["row"]:List Str).Nodup by decide+kernel))) (λ _ _ _ _=>iN) (λ _ _ _ _=>(js oK (aA iB a8) B.ie rfl gg (by decide+kernel) rfl)) g7)))))) pe
theorem fW:MethAt (KX w.params) aw "take" "Bench.take" fS ["self","k","times","other"] 101 (Hd.fd fS "take" "Bench.take" dF 100):=Hd.ON (by kernel_rfl) λ _ _ _ _ _ _ _ _ _ _=>rfl
theorem oG:c_ PW w (KX w.params) mg base fP 2 101 (Hd.fd fS "take" "Bench.take" dF 100) ["self","k","times","other"] (gD iy):=by
 have c1:=tx base e;have Q:=Qt e
 exact mD (N:=ki) (fW e).fn aI.sc (λ cdv A outer s H E hr=>(bL (gX (cn c1.1 c1.2 (hr.mono (by decide)) (aA (cO (cq Q.aN.cl Q.bF (aI.v.nm 0)) (aI.v.nm 1)) (aA (oS (aI.v.nm 2)) (aA (cO (cq Q.aN.cl Q.bF (aI.v.nm 0)) (aI.v.nm 3)) a8))) (aI.v.d 0) (aI.v.g 0)) (cq Q.aN.cl Q.bF (aI.v.nm 0)) (aI.v.nm 1))
  (bL (gX (cn c1.1 c1.2 (hr.mono (by decide)) (aA (cO (cq Q.aN.cl Q.cZ (aI.v.nm 0)) (aI.v.nm 1)) (aA (oS (aI.v.nm 2)) (aA (cO (cq Q.aN.cl Q.cZ (aI.v.nm 0)) (aI.v.nm 3)) a8))) (aI.v.d 0) (aI.v.g 0)) (cq Q.aN.cl Q.cZ (aI.v.nm 0)) (aI.v.nm 1))
  (di (gX (cn c1.1 c1.2 (hr.mono (by decide)) (aA (cO (cq Q.aN.cl Q.bJ (aI.v.nm 0)) (aI.v.nm 3)) (aA (aI.v.nm 2) (aA (cO (cq Q.aN.cl Q.bJ (aI.v.nm 0)) (aI.v.nm 1)) a8))) (aI.v.d 0) (aI.v.g 0)) (cq Q.aN.cl Q.bJ (aI.v.nm 0)) (aI.v.nm 3)))))) uX
theorem gT:MethAt (KX w.params) aw "exchange" "Bench.exchange" dS ["self","k","other"] 108 (Hd.fd dS "exchange" "Bench.exchange" dF 107):=Hd.F_ (by kernel_rfl) λ _ _ _ _ _ _ _ _ _=>rfl
theorem qo:c_ PW w (KX w.params) mg base fP 2 108 (Hd.fd dS "exchange" "Bench.exchange" dF 107) ["self","k","other"] (gD gY):=by
 have c1:=yf base e;have Q:=Qt e
 exact mD (N:=g6) (gT e).fn aQ.sc (λ cdv A outer s H E hr=>(bL (jY Q.aN.cl Q.bF (aQ.v.nm 0) (cn c1.1 c1.2 (hr.mono (by decide)) (aA (cq Q.aN.cl Q.bF (aQ.v.nm 0)) (aA (aQ.v.nm 1) (aA (aQ.v.nm 2) a8))) (aQ.v.d 0) (aQ.v.g 0)))
  (bL (jY Q.aN.cl Q.cZ (aQ.v.nm 0) (cn c1.1 c1.2 (hr.mono (by decide)) (aA (cq Q.aN.cl Q.cZ (aQ.v.nm 0)) (aA (aQ.v.nm 1) (aA (aQ.v.nm 2) a8))) (aQ.v.d 0) (aQ.v.g 0)))
  (di (jY Q.aN.cl Q.bJ (aQ.v.nm 0) (cn c1.1 c1.2 (hr.mono (by decide)) (aA (cq Q.aN.cl Q.bJ (aQ.v.nm 0)) (aA (aQ.v.nm 1) (aA (aQ.v.nm 2) a8))) (aQ.v.d 0) (aQ.v.g 0))))))) pf
theorem fG:MethAt (KX w.params) aw "change_sign" "Bench.change_sign" dy ["self","k"] 115 (Hd.fd dy "change_sign" "Bench.change_sign" dF 114):=Hd.Nf (by kernel_rfl) λ _ _ _ _ _ _ _ _=>rfl
theorem nk:c_ PW w (KX w.params) mg base fP 2 115 (Hd.fd dy "change_sign" "Bench.change_sign" dF 114) ["self","k"] (gD fJ):=by
 have c1:=BC base e;have Q:=Qt e
 exact mD (N:=fL) (fG e).fn aE.sc (λ cdv A outer s H E hr=>(bL (gX (cn c1.1 c1.2 (hr.mono (by decide)) (aA (cO (cq Q.aN.cl Q.bF (aE.v.nm 0)) (aE.v.nm 1)) a8) (aE.v.d 0) (aE.v.g 0)) (cq Q.aN.cl Q.bF (aE.v.nm 0)) (aE.v.nm 1))
  (bL (gX (cn c1.1 c1.2 (hr.mono (by decide)) (aA (cO (cq Q.aN.cl Q.cZ (aE.v.nm 0)) (aE.v.nm 1)) a8) (aE.v.d 0) (aE.v.g 0)) (cq Q.aN.cl Q.cZ (aE.v.nm 0)) (aE.v.nm 1))
  (di (gX (cn c1.1 c1.2 (hr.mono (by decide)) (aA (cO (cq Q.aN.cl Q.bJ (aE.v.nm 0)) (aE.v.nm 1)) a8) (aE.v.d 0) (aE.v.g 0)) (cq Q.aN.cl Q.bJ (aE.v.nm 0)) (aE.v.nm 1)))))) mQ
theorem eO:MethAt (KX w.params) aw "live_rows" "Bench.live_rows" cH ["self","top","place"] 120 (Hd.fd cH "live_rows" "Bench.live_rows" dF 119):=Hd.F_ (by kernel_rfl) λ _ _ _ _ _ _ _ _ _=>rfl
theorem jD:c_ PW w (KX w.params) mg base fP 3 120 (Hd.fd cH "live_rows" "Bench.live_rows" dF 119) ["self","top","place"] (gD eP):=by
 have B:=Bt e;have Q:=Qt e;have hC:PySem.W.codeHdIn (KX w.params) 119 117=true:=by kernel_rfl
 exact Ll (N:=gu) (Hd.fc (by kernel_rfl)) bO.sc (λ A outer s H E hr=>(bL (zB bO.sc.nd (bO.v.l 3) (Nc:=["k","self","place"]) (bN.look (aX cH) ["self","top","place","live"] (by decide+kernel)) (EK (bO.v.g 1) B.jV (aA (bO.v.nm 1) (aA (dO jH (aA (cq Q.aN.cl Q.bF (bO.v.nm 0)) a8) B.iY rfl ir (bO.v.d 0) (bO.v.g 0)) a8))) (λ _ _ _ _=>(kn (show(["k","self","place"]:List Str).Nodup by decide+kernel))) (λ _ _ _ _=>(Cf (oC zZ (ib _) (cO (cO (cq Q.aN.cl Q.bF iB) iB) iB) d8))) (λ _ _ _ _=>iB) g7)
  (di (ke (Iz (c0:=119) (jN.look (Nc:=["k","self","place"]) (fr:=[none,some 0,some 2]) (p:="k") (bN.look (aX cH) ["self","top","place","live"] (by decide+kernel))) rfl hr rfl hC (λ _ _ _ _=>(dO Az (aA (cO (cO (cq Q.aN.cl Q.bF iB) iB) iB) a8) B.zJ rfl xn (by decide+kernel) rfl)) (bO.v.nm 3) (bO.v.g 2) B.EC))))) oN
theorem iR:MethAt (KX w.params) aw "gather" "Bench.gather" eY ["self","top","place"] 127 (Hd.fd eY "gather" "Bench.gather" dF 126):=Hd.F_ (by kernel_rfl) λ _ _ _ _ _ _ _ _ _=>rfl
theorem tG:c_ PW w (KX w.params) mg base fP 4 127 (Hd.fd eY "gather" "Bench.gather" dF 126) ["self","top","place"] (gD iG):=by
 have c1:=nN base e;have B:=Bt e;have Q:=Qt e
 exact mD (N:=iP) (iR e).fn ak.sc (λ cdv A outer s H E hr=>(bL (f7 ak.sc.nd (ak.v.l 3) (jj (ak.v.nm 0) Q.aN.cl (eO e).me (jD base e) (hr.mono (by decide)) (eO e).bd (aA (ak.v.nm 1) (aA (ak.v.nm 2) a8))))
  (bL (vP (oC AL (ib _) (dO jH (aA (ak.v.nm 3) a8) B.iY rfl ir (ak.v.d 0) (ak.v.g 0)) d8) (bL (f7 ak.sc.nd (ak.v.l 4) (cO (ak.v.nm 3) (oS d8)))
  (bL (f7 ak.sc.nd (ak.v.l 5) (cO (ak.v.nm 3) (oS d8)))
  (bL (iL (jj (ak.v.nm 0) Q.aN.cl (fW e).me (oG base e) (hr.mono (by decide)) (fW e).bd (aA (ak.v.nm 4) (aA (cn c1.1 c1.2 (hr.mono (by decide)) (aA (cO (cO (cq Q.aN.cl Q.bF (ak.v.nm 0)) (ak.v.nm 4)) (ak.v.nm 2)) (aA (cO (cO (cq Q.aN.cl Q.bF (ak.v.nm 0)) (ak.v.nm 5)) (ak.v.nm 2)) a8)) (ak.v.d 1) (ak.v.g 1)) (aA (ak.v.nm 5) a8)))))
  (di (f7 ak.sc.nd (ak.v.l 3) (jj (ak.v.nm 0) Q.aN.cl (eO e).me (jD base e) (hr.mono (by decide)) (eO e).bd (aA (ak.v.nm 1) (aA (ak.v.nm 2) a8)))))))))
  (bL (vd (oC (AH hr) (ib _) (dO jH (aA (ak.v.nm 3) a8) B.iY rfl ir (ak.v.d 0) (ak.v.g 0)) d8) (di (ke AR)) sv)
  (bL (iL (jj (ak.v.nm 0) Q.aN.cl (gT e).me (qo base e) (hr.mono (by decide)) (gT e).bd (aA (ak.v.nm 1) (aA (cO (ak.v.nm 3) d8) a8))))
  (bL (vd (oC zY (ib _) (cO (cO (cq Q.aN.cl Q.bF (ak.v.nm 0)) (ak.v.nm 1)) (ak.v.nm 2)) d8) (di (iL (jj (ak.v.nm 0) Q.aN.cl (fG e).me (nk base e) (hr.mono (by decide)) (fG e).bd (aA (ak.v.nm 1) a8)))) sv)
  (di (ke AR)))))))) rm
theorem fK:MethAt (KX w.params) aw "lower_above" "Bench.lower_above" dv ["self","top","place"] 134 (Hd.fd dv "lower_above" "Bench.lower_above" dF 133):=Hd.F_ (by kernel_rfl) λ _ _ _ _ _ _ _ _ _=>rfl
theorem ni:c_ PW w (KX w.params) mg base fP 3 134 (Hd.fd dv "lower_above" "Bench.lower_above" dF 133) ["self","top","place"] (gD fH):=by
 have B:=Bt e;have Q:=Qt e;exact mD (N:=fI) (fK e).fn aT.sc (λ cdv A outer s H E hr=>(di (nR (j8 (aT.v.g 0) B.jV (aA (aT.v.nm 1) a8)) (kn aT.sc.nd) (di (iL (jj (aT.v.nm 0) Q.aN.cl (fW e).me (oG base e) (hr.mono (by decide)) (fW e).bd (aA (aT.v.nm 3) (aA (lb (zo hr rfl aT.sc.gen aT.sc.co) (cO (cO (cq Q.aN.cl Q.bF (aT.v.nm 0)) (aT.v.nm 3)) (aT.v.nm 2)) (cO (cO (cq Q.aN.cl Q.bF (aT.v.nm 0)) (aT.v.nm 1)) (aT.v.nm 2))) (aA (aT.v.nm 1) a8))))))))) mv
theorem Ai:Fk w mg base "standing" m4 ["rows"] 148 dF 147 5 mY:=by
 have c1:=uR base e;have c2:=Bj base e;have B:=Bt e;have Q:=Qt e
 exact fk (by ac_rfl) aF (λ v nd cdv A outer s H E hr=>(bL (f7 aF.sc.nd (aF.v.l 1) (Kf ⟨Q.aN.OY,(fw e).me.at_,(fw e).me.fn,Q.aN.kp⟩ (qi base e) (hr.mono (by decide)) (aF.v.g 0) Q.aN.mg (fw e).bd (aA (aF.v.nm 0) a8) (aF.v.d 0)))
  (bL (f7 aF.sc.nd (aF.v.l 2) d8)
  (bL (nR (j8 (aF.v.g 2) B.jV (aA (dO jH (aA (cO (aF.v.nm 0) d8) a8) B.iY rfl ir (aF.v.d 1) (aF.v.g 1)) a8)) (kn aF.sc.nd) (di (vd (BD (jj (aF.v.nm 1) Q.aN.cl (iR e).me (tG base e) (hr.mono (by decide)) (iR e).bd (aA (aF.v.nm 2) (aA (aF.v.nm 3) a8)))) (bL (iL (jj (aF.v.nm 1) Q.aN.cl (fK e).me (ni base e) (hr.mono (by decide)) (fK e).bd (aA (aF.v.nm 2) (aA (aF.v.nm 3) a8))))
  (di (J6 aF.sc.nd (aF.v.l 2) d8 Jl))) sv)))
  (bL (f7 aF.sc.nd (aF.v.l 4) (cn c1.1 c1.2 (hr.mono (by decide)) (aA (cq Q.aN.cl Q.bJ (aF.v.nm 1)) (aA (dO jH (aA (aF.v.nm 0) a8) B.iY rfl ir (aF.v.d 1) (aF.v.g 1)) a8)) (aF.v.d 3) (aF.v.g 3)))
  (di (ke (vi (aA (cn c2.1 c2.2 (hr.mono (by decide)) (aA (sM (cq Q.aN.cl Q.bF (aF.v.nm 1)) zp (yC (aF.v.nm 2))) a8) (aF.v.d 4) (aF.v.g 4)) (aA (cn c2.1 c2.2 (hr.mono (by decide)) (aA (cq Q.aN.cl Q.cZ (aF.v.nm 1)) a8) (aF.v.d 4) (aF.v.g 4)) (aA (aF.v.nm 4) a8))))))))))) x_
theorem Cj:Fk w mg base "weighed" oF ["form","row"] 155 dF 154 2 nY:=by
 have c1:=nD base e;have c2:=tx base e;have B:=Bt e;exact fk (by ac_rfl) Bh (λ v nd _ _ _ _ _ _ hr=>by nofun) zG
theorem Hv:Fk w mg base "falls" tj ["form","row"] 162 dF 161 3 tS:=by
 have c1:=Cj base e;have B:=Bt e;exact fk (by ac_rfl) HX (λ v nd _ _ _ _ _ _ hr=>by nofun) EW
theorem zc:Fk w mg base "space" sI ["wide","rows"] 169 zh 168 6 l7:=by
 have c1:=Ai base e;have B:=Bt e;exact fk (by ac_rfl) Im (λ v nd _ _ _ _ _ _ hr=>by nofun) EJ
theorem lJ:Fk w mg base "is_within" kY ["one","other"] 174 zh 173 4 dB:=by
 have c1:=Hv base e;have c2:=nD base e;have B:=Bt e;exact fk (by ac_rfl) yx (λ v nd _ _ _ _ _ _ hr=>by nofun) wL
theorem rO:Fk w mg base "times_in" mR ["one","other"] 181 zh 180 5 eC:=by
 have c1:=lJ base e;have c2:=nD base e;have B:=Bt e;exact fk (by ac_rfl) zN (λ v nd _ _ _ _ _ _ hr=>by nofun) yw
theorem Aq:Fk w mg base "_law_hand" mG ["_law_script"] 188 dM 187 1 mX:=by
 have B:=Bt e;exact fk (by ac_rfl) AV (λ v nd _ _ _ _ _ _ hr=>by nofun) xY
theorem gj:Fk w mg base "_law_draw" mz ["_law_hand_here","_law_many_here"] 195 dM 194 1 aL:=by
 have B:=Bt e;exact fk (by ac_rfl) AS (λ v nd _ _ _ _ _ _ hr=>by nofun) yp
theorem wq:Fk w mg base "_law_number" kj ["_law_hand_here","_law_wild"] 202 dM 201 2 ka:=by
 have c1:=gj base e;have B:=Bt e;exact fk (by ac_rfl) vx (λ v nd _ _ _ _ _ _ hr=>by nofun) uS
theorem AG:Fk w mg base "_law_rows" mF ["_law_hand_here","_law_many_here","_law_wide"] 207 dM 206 3 jI:=by
 have c1:=gj base e;have c2:=wq base e;have B:=Bt e;exact fk (by ac_rfl) zO (λ v nd _ _ _ _ _ _ hr=>by nofun) x9
theorem yu:Fk w mg base "_law_width" kT ["_law_hand_here"] 214 dM 213 2 lj:=by
 have c1:=gj base e;have B:=Bt e;exact fk (by ac_rfl) yq (λ v nd _ _ _ _ _ _ hr=>by nofun) wN
theorem zU:Fk w mg base "_law_many" my ["_law_hand_here","_law_wide","_law_great"] 221 dM 220 2 jR:=by
 have c1:=gj base e;have B:=Bt e;exact fk (by ac_rfl) zR (λ v nd _ _ _ _ _ _ hr=>by nofun) xZ
theorem pY:Fk w mg base "_law_falls" lh ["_law_form","_law_row"] 226 dM 225 1 i7:=by
 have B:=Bt e;exact fk (by ac_rfl) yr (λ v nd _ _ _ _ _ _ hr=>by nofun) vM
theorem Ee:Fk w mg base "_law_in" qI ["_law_form","_law_row"] 233 dM 232 2 qD:=by
 have c1:=pY base e;have B:=Bt e;exact fk (by ac_rfl) DU (λ v nd _ _ _ _ _ _ hr=>by nofun) Cz
theorem yg:Fk w mg base "_law_mixed" k6 ["_law_hand_here","_law_rows_here"] 238 dM 237 4 lg:=by
 have c1:=gj base e;have c2:=uu base e;have B:=Bt e;exact fk (by ac_rfl) yc (λ v nd _ _ _ _ _ _ hr=>by nofun) wk
theorem wo:Fk w mg base "_law_square" kl ["_law_hand_here","_law_many_here"] 243 dM 242 2 kB:=by
 have c1:=gj base e;have B:=Bt e;exact fk (by ac_rfl) xv (λ v nd _ _ _ _ _ _ hr=>by nofun) uZ
theorem yn:Fk w mg base "_law_leads" kX ["_law_form"] 248 dM 247 1 i6:=by
 have B:=Bt e;exact fk (by ac_rfl) yj (λ v nd _ _ _ _ _ _ hr=>by nofun) vQ
theorem ym:Fk w mg base "_law_rests" gy ["_law_one","_law_other","_law_diagonal"] 253 dM 252 2 lE:=by
 have c1:=pY base e;have B:=Bt e
 exact fk (by ac_rfl) bc (λ v nd cdv A outer s H E hr=>(bL (f7 bc.sc.nd (bc.v.l 3) (vj (aA (lb oV (vi (aA d8 a8)) (cO (bc.v.nm 0) d8)) a8)))
  (bL (nR (u6 (bc.v.g 0) B.u7 (aA (cO (bc.v.nm 1) d8) (aA (bc.v.nm 2) a8))) (u3 rfl bc.sc.nd) (bL (xi (f7 bc.sc.nd (bc.v.l 6) (bc.v.nm 3)))
  (bL (f7 bc.sc.nd (bc.v.l 3) (vj a8))
  (di (nR (j8 (bc.v.g 1) B.jV (aA (bc.v.nm 5) a8)) (kn bc.sc.nd) (di (iL (MN (bc.v.nm 3) (oA (Nc:=["_law_made","_law_row","_law_weight"]) (bN.look (aX gy) ["_law_one","_law_other","_law_diagonal","_law_sums","_law_row","_law_many_here","_law_ahead","_law_weight"] (by decide+kernel)) (mI (bc.v.nm 6)) (λ _ _ _ _=>(kn (show(["_law_made","_law_row","_law_weight"]:List Str).Nodup by decide+kernel))) (λ _ _ _ _=>iN) (λ _ _ _ _=>(js tK (aA (oA (Nc:=["_law_a","_law_b","_law_weight"]) (bN.A9 (by decide+kernel)) (u6 rfl B.u7 (aA iB (aA iB a8))) (λ _ _ _ _=>(u3 rfl (show(["_law_a","_law_b","_law_weight"]:List Str).Nodup by decide+kernel))) (λ _ _ _ _=>iN) (λ _ _ _ _=>(lb ve iB (lb oV iB iB))) zg) a8) B.lZ rfl j_ (by decide+kernel) rfl)) g7)))))))))
  (di (xi (ke (JX hr (bc.v.g 2) B.iY (bc.v.g 3) B.L9 (aA (oA (Nc:=["_law_made","_law_one"]) (bN.look (aX gy) ["_law_one","_law_other","_law_diagonal","_law_sums","_law_row","_law_many_here","_law_ahead","_law_weight"] (by decide+kernel)) (mI (bc.v.nm 3)) (λ _ _ _ _=>(kn (show(["_law_made","_law_one"]:List Str).Nodup by decide+kernel))) (λ _ _ _ _=>iN) (λ _ _ _ _=>(cn c1.1 c1.2 (hr.mono (by decide)) (aA (cO iB d8) (aA iB a8)) (by decide+kernel) rfl)) g7) a8)))))))) vK
theorem pC:Fk w mg base "_law_times" k9 ["_law_found","_law_due"] 260 dM 259 1 gw:=by
 have B:=Bt e;exact fk (by ac_rfl) yi (λ v nd _ _ _ _ _ _ hr=>by nofun) wW
theorem wZ:Fk w mg base "_law_listed" kC ["_law_one"] 265 dM 264 1 fY:=by
 have B:=Bt e;exact fk (by ac_rfl) vN (λ v nd _ _ _ _ _ _ hr=>by nofun) uT
theorem qA:Fk w mg base "_law_made_right" gZ ["_law_hand_here","_law_other"] 270 dM 269 7 g5:=by
 have c1:=wo base e;have c2:=uu base e;have c3:=yg base e;have c4:=zc base e;have c5:=lJ base e;have c6:=rO base e;have c7:=pC base e;have c8:=wZ base e;have c9:=ym base e;have B:=Bt e;exact fk (by ac_rfl) qR (λ v nd _ _ _ _ _ _ hr=>by nofun) pd
theorem ML:Fk w mg base "law" r8 ["_law_script"] 275 dM 274 8 Ge:=by
 have c1:=Aq base e;have c2:=yu base e;have c3:=zU base e;have c4:=AG base e;have c5:=zc base e;have c6:=qA base e;have c7:=Ee base e;have c8:=yn base e;have c9:=lJ base e;have c10:=rO base e;have c11:=pC base e;have B:=Bt e;exact fk (by ac_rfl) MZ (λ v nd _ _ _ _ _ _ hr=>by nofun) Ke
end
def dL:DefRec:=match r8 with
 | .FunctionDef n a b _ _ _ sc _ _ pos=>⟨n,a,b,sc,pos⟩
 |_=>⟨"",L2.gc (.Pass ⟨0,0,0,0⟩),[],L2.aX (.Pass ⟨0,0,0,0⟩),⟨0,0,0,0⟩⟩
theorem Eg:PySem.Challenge.rw_latticeworks_k68_within_and_how_often.wellSaid=true:=by decide+kernel
end Row
open PySem PySem.W PyProof.Rows
set_option maxRecDepth 100000 in
set_option maxHeartbeats 0 in
theorem PySem.Challenge.cw_latticeworks_k68_within_and_how_often_holds : PySem.Challenge.rw_latticeworks_k68_within_and_how_often.Holds := by
 refine PySem.W.holds_law Row.Eg λ Eg=>?_;refine PySem.W.holds_open (r:=PySem.Challenge.rw_latticeworks_k68_within_and_how_often.row) (q:=PySem.W.view Row.PW [1,2,3,4,5,6,7,8,10,11,12,13,14,15,16,17,19,20,21,23,24,25,26,27,28,29,30,31,32,33,34,35,36,37,38]) (loose:=[]) (Xt:=λ _=>true) (XP:=λ _ _=>True) (YP:=(PySem.W.kmHook Row.KX Row.KA (λ _=>rfl) [117]).says) (d:=Row.dL) (kwd:=[]) Row.left ((PySem.W.kmHook Row.KX Row.KA (λ _=>rfl) [117]).of) ((PySem.W.kmHook Row.KX Row.KA (λ _=>rfl) [117]).keeps) (λ _ _=>trivial) (λ _ _ _ _ _=>trivial) (by kernel_rfl) (by kernel_rfl) (by kernel_rfl) (λ s _=>PySem.W.recFacts_of (R:=[]) rfl) (by kernel_rfl) Eg (by decide+kernel) ⟨rfl,rfl,rfl,rfl,rfl,by decide+kernel⟩ ?hw ?hc;case hw=>w_witness2
 refine L2.Mb (n:=63) (k:=8) (x:="_law_script") (ts:=[(119,117)]) (K:=Row.KX) (sp:=λ w=>L3.Bd (Row.KX w.params) [(119,117)]) rfl (by decide) (by kernel_rfl) ⟨rfl,by decide,by decide⟩ (by kernel_rfl) rfl (λ w h Y=>⟨PySem.W.km_in_of Y,⟨(λ q hq=>by rcases Px.mp hq with rfl|hq;kernel_rfl;cases hq),(λ q hq=>by rcases Px.mp hq with rfl|hq;kernel_rfl;cases hq),λ q hq=>PySem.W.km_tabs_of Y _ (Tx (f:=Prod.snd) hq)⟩⟩) ?F λ _ _ a ns hl hE=>⟨a,ns,rfl,hE,hl,λ _=>rfl⟩
 intro w mg fa h X G hmg;have e2:=hmg.symm.trans (PySem.W.mg_of (v:= .ref 275) X G (by kernel_rfl));cases e2;exact⟨Hd.fd Row.r8 "law" "law" Row.dM 274,λ s v=> .of_eq rfl,λ base _ _=>(Row.ML base ⟨X,G⟩).2.imp λ vs H Q E h=>L3.Cm (tl:=[(117,⟨61,32,61,66⟩,"Bench.live_rows.<locals>.<lambda>")]) (by kernel_rfl) rfl (by decide) h⟩
