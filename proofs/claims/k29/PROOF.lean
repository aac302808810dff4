import PyProof.Rows.All
import Wide.All
import OpenK.AllK
import Wide.FinOn
import Lean
import PyProof.EqAt
import PyProof.EqKinds
import PyProof.TupleCall
import PyProof.NeKinds
import KE.KUnpack
import PySem.Challenge.RW_latticeworks_k29_whole_rests_of_each_ord
set_option Elab.async false
set_option linter.all false
set_option maxRecDepth 100000
def Rv:=@Nat.le_refl
def Rw:=@PySem.wpAny_bind
def Rx:=@if_neg
def Rz:=@List.length_map
def RB:=@List.getElem?_eq_some_iff
def RC:=@if_pos
def RD:=@List.getElem?_set_ne
def RE:=@PySem.Heap.get?_push_of_some
def RG:=@List.getElem?_append_left
def RH:=@Nat.le_trans
def RI:=@List.getD_eq_getElem?_getD
def RJ:=@List.getElem?_eq_getElem
def RK:=@Ne.symm
def RL:=@List.getElem?_set_self
def RM:=@List.size_toArray
def RN:=@Int.mul_zero
def RO:=@PySem.wpAny_pure
def RP:=@List.getElem?_map
def RQ:=@Nat.lt_of_lt_of_le
def RT:=@Nat.le_of_ble_eq_true
def RU:=@List.mem_cons_of_mem
def RV:=@List.length_set
def RW:=@PySem.Heap.lt_size
def RX:=@Nat.zero_le
def RY:=@List.getElem?_append_right
def RZ:=@List.mem_append_right
def R0:=@List.map_cons
def R6:=@List.mem_cons_self
def R7:=@List.mem_cons
def R8:=@Int.toNat_natCast
def R9:=@Nat.mul_le_mul_right
def R_:=@PySem.Heap.get?_push_size
def Sa:=@Nat.pow_le_pow_right
def Sb:=@Bool.false_ne_true
def Se:=@Nat.ne_of_lt
def Sg:=@List.mem_of_getElem?
def Sh:=@Nat.not_lt_zero
def Sj:=@Nat.mul_le_mul_left
def Sl:=@List.mem_map
def Sn:=@List.map_map
def So:=@List.length_cons
def Sq:=@Nat.lt_succ_self
def Ss:=@Nat.mul_assoc
def Su:=@List.range_succ_eq_map
def Sv:=@decide_eq_false
def Sw:=@Int.mul_assoc
def Sy:=@List.length_append
def Sz:=@List.not_mem_nil
def SA:=@List.drop_eq_getElem_cons
def SD:=@Nat.lt_succ_of_lt
def SE:=@PySem.mem_of_lookup
def SF:=@Int.mul_comm
def SG:=@List.mem_or_eq_of_mem_set
def SH:=@List.mem_append
def SI:=@Nat.le_of_not_lt
def SJ:=@List.mem_iff_getElem
def SM:=@Int.natAbs_mul
def SN:=@Nat.mul_le_mul
def SO:=@PySem.W.mg_none_of
def SQ:=@List.map_congr_left
def SS:=@Option.some.inj
def SV:=@Bool.and_eq_true
def SW:=@List.lookup_cons
def SX:=@List.append_nil
def SY:=@List.replicate_succ
def S0:=@PyProof.Rows.wpS_bind
def S7:=@Nat.le_mul_of_pos_right
def S8:=@List.drop_eq_nil_of_le
def S9:=@Int.fmod_nonneg_of_pos
def S_:=@decide_eq_true
def Ta:=@List.cons.injEq
def Tc:=@Nat.sub_self
def Td:=@Int.le_trans
def Te:=@List.getElem_map
def Tf:=@Int.eq_zero_of_dvd_of_natAbs_lt_natAbs
def Tg:=@Classical.choose_spec
def Th:=@not_false_eq_true
def Ti:=@PyProof.Rows.slot_tuple_getitem
def Tj:=@List.length_eq_zero_iff
def To:=@Int.eq_ofNat_of_zero_le
def Tp:=@List.mem_filter
def Tq:=@Nat.le_of_lt
def Tr:=@List.mem_append_left
def Ts:=@Bool.false_eq_true
def Tt:=@Nat.lt_or_ge
def Tu:=@congrArg
def Tv:=@Int.mul_one
def Tw:=@PySem.wpAny_field
def Tx:=@List.all_eq_true
def Tz:=@List.getElem_mem
def TB:=@Array.length_toList
def TC:=@List.mem_range
def TF:=@Int.dvd_refl
def TH:=@Int.fmod_lt_of_pos
def TJ:=@PySem.wpAny_callSpecial?_slot
def TK:=@List.length_take
def TL:=@Nat.ne_of_gt
def TM:=@PySem.Heap.size_push
def TN:=@List.take_of_length_le
def TQ:=@Int.toNat_of_nonneg
def TR:=@List.mem_singleton
def TU:=@Int.zero_mul
def TV:=@Int.add_zero
def TX:=@Int.le_of_lt
def TY:=@Nat.lt_irrefl
def TZ:=@List.filter_cons_of_pos
def T3:=@List.flatten_cons
def T4:=@PyProof.Rows.wpS_pure
def T5:=@PyProof.Rows.callWith_type1
def T6:=@PySem.Heap.SameBut.update
def T7:=@Nat.pow_succ
def T8:=@PySem.wpAny_mono
def T9:=@Int.dvd_trans
def T_:=@List.nodup_iff_pairwise_ne
def Ua:=@List.cons.inj
def Ub:=@List.take_succ_eq_append_getElem
def Uc:=@List.getElem?_eq_none
def Ud:=@List.getElem_range
def Ue:=@List.filter_append
def Ug:=@Nat.pow_add
def Uh:=@Nat.add_mul
def Ui:=@List.nodup_cons
def Uj:=@Nat.mul_comm
def Uk:=@Nat.lt_trans
def Ul:=@Int.ne_of_gt
def Um:=@List.map_append
def Uo:=@PySem.wpAny_newObj_type
def Up:=@Nat.mul_left_comm
def Uq:=@if_false
def Ur:=@PySem.wpAny_call_entry
def Ut:=@PySem.wpAny_seqItems
def Uu:=@PySem.W.cellsFrom_some
def Uv:=@PySem.wpAny_setField_rec
def Uw:=@Nat.zero_add
def Ux:=@Int.sub_eq_add_neg
def UA:=@PySem.wpAny_passesOwn
def UB:=@if_true
def UC:=@Nat.le_antisymm
def UD:=@List.length_nil
def UE:=@List.all_cons
def UG:=@List.any_cons
def UH:=@PySem.F.slot_tuple_iterator_next
def UI:=@List.pairwise_map
def UJ:=@Classical.byContradiction
def UK:=@Int.one_mul
def UL:=@Nat.add_le_add
def UM:=@Option.isSome_iff_exists
def UN:=@List.length_drop
def UO:=@Int.dvd_antisymm
def UP:=@Nat.gcd_dvd_left
def UQ:=@beq_eq_false_iff_ne
def US:=@List.filter_cons_of_neg
def UT:=@PySem.wpAny_holding
def UU:=@beq_iff_eq
def UW:=@PySem.wpAny_Call_Name_kw
def UX:=@Option.map_some
def UY:=@PySem.wpAny_pyIter_tuple
def UZ:=@Nat.one_le_two_pow
def U8:=@Int.natCast_mul
def U9:=@PySem.sizeLine_eq
def U_:=@Nat.le_succ
def Va:=@and_true
def Vb:=@Int.neg_mul
def Vc:=@Nat.le_mul_of_pos_left
def Vd:=@Nat.mul_add
def Ve:=@PySem.wpAny_truthy_bool
def Vf:=@List.append_assoc
def Vg:=@Nat.lt_trichotomy
def Vh:=@Int.zero_add
def Vi:=@Int.natAbs_neg
def Vj:=@Int.sub_self
def Vk:=@PySem.wpAny_rule
def Vl:=@PySem.call_meets
def Vm:=@PySem.F.slot_tuple_mul
def Vn:=@Int.fmod_eq_emod_of_nonneg
def Vo:=@Nat.one_mul
def Vp:=@List.filterMap_cons
def Vq:=@List.getElem?_range
def Vr:=@List.foldl_cons
def Vs:=@PyProof.Rows.get?_update_seq
def Vt:=@List.mem_filterMap
def Vu:=@List.getElem?_take_of_lt
def Vv:=@PySem.F.args_tuple_add_2
def Vw:=@not_or
def Vx:=@Int.sub_zero
def Vy:=@Nat.lt_of_le_of_lt
def Vz:=@Int.natCast_nonneg
def VA:=@PySem.F.entry_tuple_add
def VB:=@List.getElem?_cons_succ
def VC:=@Nat.gcd_pos_of_pos_left
def VD:=@PySem.wpAny_pyIter_list
def VE:=@PySem.F.slot_tuple_add
def VF:=@Int.le_refl
def VG:=@List.filter_eq_nil_iff
def VH:=@PySem.wpAny_standAt
def VI:=@Int.le_of_dvd
def VJ:=@decide_eq_decide
def VL:=@List.ext_getElem
def VM:=@Nat.lt_of_not_le
def VN:=@Int.dvd_mul_left
def VO:=@List.length_replicate
def VP:=@List.length_singleton
def VQ:=@Int.mul_fdiv_add_fmod
def VR:=@PySem.wpAny_execs_nil
def VT:=@Bool.eq_iff_iff
def VU:=@Nat.le_of_eq
def VV:=@List.of_mem_zip
def VW:=@PySem.F.slot_int_rmul
def VX:=@PySem.wpAny_ite_false
def VY:=@PySem.wpAny_updateSeq_pair
def VZ:=@PySem.F.slot_zip_next
def V0:=@PyProof.Rows.wpS_forRange
def V1:=@Int.mul_le_mul_of_nonneg_right
def V2:=@Nat.gcd_comm
def V3:=@List.range_succ
def V4:=@Int.mul_le_mul_of_nonneg_left
def V5:=@PySem.W.plainGet_of
def V6:=@List.mem_map_of_mem
def V7:=@List.map_eq_nil_iff
def V8:=@PySem.F.args_tuple_iterator_next_1
def V9:=@or_false
def V_:=@Int.mul_le_mul
def Wa:=@PyProof.Rows.assignInOrder_cons
def Wb:=@PySem.W.callWith_K
def Wc:=@PySem.F.args_tuple_mul_2
def Wd:=@PySem.F.entry_tuple_iterator_next
def We:=@Nat.lt_or_gt_of_ne
def Wf:=@Nat.coprime_div_gcd_div_gcd
def Wg:=@Nat.div_mul_cancel
def Wh:=@Nat.mul_right_comm
def Wi:=@List.pairwise_cons
def Wj:=@PySem.Calls.Name_function_global
def Wk:=@PySem.wpAny_onRaise
def Wl:=@PySem.wpAny_attempt
def Wm:=@PyProof.Rows.listUpdate_at
def Wn:=@Int.fdiv_eq_ediv_of_nonneg
def Wo:=@PySem.W.mg_of
def Wq:=@Nat.le_of_succ_le
def Wr:=@PySem.F.entry_tuple_mul
def Ws:=@Int.natAbs_add_le
def Wt:=@Int.gcd_dvd_right
def Wu:=@List.foldl_append
def Wv:=@PySem.typeIs_int
def Ww:=@PySem.wpAny_binaryOp_repeat_ref
def Wx:=@List.getElem?_eq_none_iff
def Wy:=@List.pairwise_iff_getElem
def Wz:=@Nat.lt_of_mul_lt_mul_left
def WA:=@PySem.codeAny_mono
def WB:=@PySem.noFill_tuple_add
def WC:=@Nat.min_le_right
def WD:=@Nat.succ_mul
def WE:=@beq_self_eq_true
def WG:=@PySem.wpAny_comprehension_free
def WH:=@decide_false
def WI:=@List.mem_flatMap
def WJ:=@List.map_set
def WK:=@List.getElem?_replicate
def WL:=@PySem.F.plainAttrs_list
def WM:=@List.forIn_cons
def WN:=@List.length_zip
def WO:=@beq_false_of_ne
def WQ:=@Int.mul_eq_zero
def WR:=@Int.emod_nonneg
def WS:=@PySem.Heap.get?_update_other
def WT:=@Prod.mk.inj
def WU:=@PySem.wpAny_letGo
def WV:=@decide_true
def WW:=@PyProof.Rows.wpS_reverse
def WX:=@PyProof.Rows.mirror_perm
def WY:=@Int.mul_sub
def WZ:=@Nat.mul_pos
def W0:=@Nat.log2_lt
def W2:=@PySem.W.methodCall_KW
def W3:=@List.forIn_nil
def W4:=@List.getElem?_toArray
def W5:=@Array.getElem?_toList
def W6:=@Int.eq_of_sub_eq_zero
def W7:=@List.set_append_right
def W8:=@List.filterMap_append
def W9:=@List.take_append_drop
def W_:=@List.getElem_set_self
def Xa:=@PySem.seq_tuple_add
def Xb:=@PySem.wpAny_newList
def Xd:=@Prod.mk.injEq
def Xe:=@Nat.le_of_dvd
def Xf:=@PySem.concat_meets
def Xg:=@PySem.wpAny_typeOf
def Xh:=@Nat.add_comm
def Xi:=@Nat.min_self
def Xj:=@Nat.add_zero
namespace L2
open PySem PySem.Spec PyProof.Rows
abbrev Key:=Sum Int Str
def Ib:Key->Value->Bool
 | .inl k,v=>Value.isInt k v
 | .inr x,v=>Value.isStrOf x v
def QH(w:World):Key->Int
 | .inl k=>hashInt k
 | .inr x=>hashStr w x
def fE:∀ {k:Key} {v:Value},Ib k v=true->(∃i t,k=Sum.inl i/\v=Value.int i t)\/(∃x t,k=Sum.inr x/\v=Value.str x t)
 | .inl i,v,h=>by
   obtain⟨t,e⟩:=Value.isInt_shape (k:=i) (v:=v) h;exact .inl ⟨i,t,rfl,e⟩
 | .inr x,v,h=>by
   obtain⟨t,e⟩:=Value.isStrOf_shape (x:=x) (v:=v) h;exact .inr ⟨x,t,rfl,e⟩
def LV(a b:Int):decide ((Sum.inl a:Key)=Sum.inl b)=(a==b):=by
 by_cases e:a=b
 . subst e;simp
 . have h:¬(Sum.inl a:Key)=Sum.inl b:=λ q=>e (Sum.inl.inj q);rw[Sv h];exact(UQ.mpr e).symm
def Nw(a b:Str):decide ((Sum.inr a:Key)=Sum.inr b)=decide (a=b):=by
 by_cases e:a=b
 . subst e;simp
 . have h:¬(Sum.inr a:Key)=Sum.inr b:=λ q=>e (Sum.inr.inj q);rw[Sv h,Sv e]
def L9(a:Int)(b:Str):decide ((Sum.inl a:Key)=Sum.inr b)=false:=Sv (λ q=>nomatch q)
def Lz(a:Str)(b:Int):decide ((Sum.inr a:Key)=Sum.inl b)=false:=Sv (λ q=>nomatch q)
def Cc(prog:Program)(w:World):PySem.KeyKind prog w Key where
 is:=Ib
 hash:=QH w
 inj:=λ v a b ha hb=>by
  rcases fE ha with⟨i,t,rfl,rfl⟩|⟨x,t,rfl,rfl⟩
  . rcases fE hb with⟨j,u,rfl,e⟩|⟨y,u,rfl,e⟩
    . injection e with e1 _;rw[e1]
    . exact nomatch e
  . rcases fE hb with⟨j,u,rfl,e⟩|⟨y,u,rfl,e⟩
    . exact nomatch e
    . injection e with e1 _;rw[e1]
 byValue:=λ k v h=>by
  rcases fE h with⟨i,t,rfl,rfl⟩|⟨x,t,rfl,rfl⟩<;>rfl
 pyHash:=λ hv h=>by
  rcases fE hv with⟨i,t,rfl,rfl⟩|⟨x,t,rfl,rfl⟩
  . exact wpAny_pyHash_int h
  . exact wpAny_pyHash_str h
 eqBool:=λ hu hv h=>by
  rcases fE hu with⟨i,t,rfl,rfl⟩|⟨x,t,rfl,rfl⟩
  . rcases fE hv with⟨j,u,rfl,rfl⟩|⟨y,u,rfl,rfl⟩
    . rw[LV]at h;exact wpAny_eqBool_int h
    . rw[L9]at h;exact SeqAt.EqAt.int_str i t y u _ _ _ _ h
  . rcases fE hv with⟨j,u,rfl,rfl⟩|⟨y,u,rfl,rfl⟩
    . rw[Lz]at h;exact SeqAt.EqAt.str_int x t j u _ _ _ _ h
    . rw[Nw]at h;exact wpAny_eqBool_str h
 «strs» :=λ k x t v h=>by
  rcases fE h with⟨i,u,rfl,e⟩|⟨y,u,rfl,e⟩
  . exact nomatch e
  . injection e with e1 _;subst e1;cases v<;>rfl
inductive V where
 |aB|bl (b:Bool)|int (i:Int)|str (x:Str)|vn (b:Array UInt8)|Je (b:UInt64)|ref (a:Addr)|ty (n:String)
 deriving DecidableEq
def RelV:V->Value->Prop
 | .aB,u=>u=Value.none
 | .bl b,u=>u=Value.bool b
 | .int i,u=>∃t,u=Value.int i t
 | .str x,u=>∃t,u=Value.str x t
 | .vn b,u=>∃t,u=Value.bytes b t
 | .Je b,u=>∃t,u=Value.float b t
 | .ref a,u=>u=Value.ref a
 | .ty n,u=>u=Value.type n
abbrev Vals:List V->List Value->Prop:=Paired RelV
def Vals.length{xs:List V}{us:List Value}(r:Vals xs us):xs.length=us.length:=Paired.length r
def Vals.get:∀ {xs:List V} {us:List Value} {i:Nat} {x:V},Vals xs us->xs[i]?=some x->∃u,us[i]?=some u/\RelV x u
 |_,_,_,_,.nil,e=>by simp at e
 |_,_,0,_,.cons r _,e=>by simp at e;subst e;exact⟨_,rfl,r⟩
 |_,_,i+1,x,.cons _ t,e=>by
  obtain⟨u,h1,h2⟩:=Vals.get (i:=i) (x:=x) t (by simpa using e);exact⟨u,by simpa using h1,h2⟩
def Vals.set{x:V}{u:Value}(r:RelV x u):∀ {xs:List V} {us:List Value} (i:Nat),Vals xs us->Vals (xs.set i x) (us.set i u)
 |_,_,_,.nil=> .nil
 |_,_,0,.cons _ t=> .cons r t
 |_,_,i+1,.cons q t=> .cons q (Vals.set r i t)
def Vals.append:∀ {xs ys:List V} {us ws:List Value},Vals xs us->Vals ys ws->Vals (xs++ys) (us++ws)
 |_,_,_,_,.nil,s=>s
 |_,_,_,_,.cons r t,s=> .cons r (Vals.append t s)
def Vals.take:∀ {xs:List V} {us:List Value} (n:Nat),Vals xs us->Vals (xs.take n) (us.take n)
 |_,_,0,_=> .nil
 |_,_,_+1,.nil=> .nil
 |_,_,n+1,.cons r t=> .cons r (Vals.take n t)
def Vals.drop:∀ {xs:List V} {us:List Value} (n:Nat),Vals xs us->Vals (xs.drop n) (us.drop n)
 |_,_,0,r=>r
 |_,_,_+1,.nil=> .nil
 |_,_,n+1,.cons _ t=>Vals.drop n t
def qh:Option V->Option Value->Prop
 |some v,some u=>RelV v u
 |none,none=>True
 |_,_=>False
def KV{κ:Type}:List (κ×V)->List (κ×Value)->Prop:=Paired λ(p:κ×V) (q:κ×Value)=>p.1=q.1/\RelV p.2 q.2
def kV:Key->V
 | .inl i=> .int i
 | .inr x=> .str x
inductive HO where
 |lst (xs:List V)
 |tup (xs:List V)
 |dK (kvs:List (Key×V))|dT (kvs:List (List Key×V))
 |set (S:Int->Bool) (n:Nat)
 |ins (C dx:Addr) (fs:List (Str×V))
 |own (x:Addr)
 |xd (fs:List (Str×V))
 |met (f x:Addr)
 |Mj (lo hi:Int)
 |mz (o:Obj) (u:HO)
 |ll (ps:Array Value)
 |ext (φ:Heap->Prop)
abbrev Hp:=Addr->Option HO
def upd(H:Hp)(a:Addr)(o:HO):Hp:=λ b=>if b=a then some o else H b
def a6{H:Hp}{a:Addr}{o:HO}:upd H a o a=some o:=by unfold upd;rw[RC rfl]
def ay{H:Hp}{a b:Addr}{o:HO}(h:b≠a):upd H a o b=H b:=by unfold upd;rw[Rx h]
def Jr{H:Hp}{a:Addr}{o u:HO}:upd (upd H a o) a u=upd H a u:=by
 funext b;unfold upd;split<;>rfl
def dP{H:Hp}{a b:Addr}{o:HO}(h:H a=some o)(h':H b=none):a≠b:=by
 intro e;subst e;rw[h]at h';cases h'
section
variable (P:Program)(w:World)
def g_(H:Hp)(h:Heap)(a:Addr):HO->Prop
 | .lst xs=>xs.length<=sizeLine/\∃(its:List Value) (n:Nat),Vals xs its/\h.get? a=some {cls:= .type "list",data:= .seq its.toArray n}
 | .tup xs=>xs.length<=sizeLine/\∃its:List Value,Vals xs its/\IsTup h a its.toArray
 | .dK kvs=>kvs.length<=sizeLine/\(a==sysModules)=false/\∃vs,KV kvs vs/\h.DictOf (Cc P w) a vs
 | .dT kvs=>kvs.length<=sizeLine/\(a==sysModules)=false/\∃xs:List (List Key×Addr×Value),
    Paired (λ(p:List Key×V) (q:List Key×Addr×Value)=>p.1=q.1/\H q.2.1=some (.tup (p.1.map kV))/\RelV p.2 q.2.2) kvs xs/\
    ∃o es ep,h.get? a=some o/\o.ExactDict/\o.data= .dict es ep/\es.toList=xs.map (entryOfKey (tupleKind (Cc P w)))/\(xs.map (·.1)).Nodup
 | .set S n=>h.SetOf (intKind P w) a S n
 | .ins C dx fs=>H dx=some (.own a)/\fs.length<=1000/\dx≠a/\h.get? a=some (PySem.W.instObj C dx)/\
    ∃mA,h.Ns1 dx mA/\(∀f,qh (fs.lookup f) (mA f))/\PySem.Within mA (fs.map (·.1))
 | .own _=>∃o,h.get? a=some o
 | .xd fs=>∃mA,h.Ns1 a mA/\∀f,qh (fs.lookup f) (mA f)
 | .Mj lo hi=>∃t u v,h.get? a=some {cls:= .type "range",data:= .fields #[.int lo t,.int hi u,.int 1 v]}
 | .mz o u=>h.get? a=some o/\g_ H h a u
 | .ll ps=>h.get? a=some {cls:= .none,data:= .fields ps}
 | .met f x=>h.get? a=some (PySem.W.methodObj (.ref f) (.ref x))
 | .ext φ=>φ h/\(∃o,h.get? a=some o)/\∀h1 h2:Heap,φ h1->(∀o,h1.get? a=some o->h2.get? a=some o)->φ h2
def je(H:Hp)(h:Heap):Prop:=∀a o,H a=some o->g_ P w H h a o
end
section
variable {P:Program}{w:World}{H H':Hp}{h h':Heap}{a:Addr}{o:HO}
def g_.lt(x:g_ P w H h a o):a<h.objs.size:=by
 cases o with
 |lst xs=>obtain⟨_,_,_,_,e⟩:=x;exact RW e
 |tup xs=>obtain⟨_,_,_,p⟩:=x;exact p.lt
 |dK kvs=>obtain⟨_,_,_,_,o,_,_,e,_⟩:=x;exact RW e
 |dT kvs=>obtain⟨_,_,_,_,o,_,_,e,_⟩:=x;exact RW e
 |set S n=>obtain⟨o,_,_,_,e,_⟩:=x;exact RW e
 |ins C dx fs=>obtain⟨_,_,_,e,_⟩:=x;exact RW e
 |own y=>obtain⟨_,e⟩:=x;exact RW e
 |xd fs=>obtain⟨_,⟨_,_,_,e,_⟩,_⟩:=x;exact RW e
 |Mj lo hi=>obtain⟨_,_,_,e⟩:=x;exact RW e
 |mz ob u=>obtain⟨e,_⟩:=x;exact RW e
 |ll ps=>exact RW (show h.get? a=some _ from x)
 |met f y=>exact RW (show h.get? a=some _ from x)
 |ext φ=>obtain⟨_,⟨_,e⟩,_⟩:=x;exact RW e
def Paired.G_{α β:Type}{F G:α->β->Prop}:∀ {l₁:List α} {l₂:List β},Paired F l₁ l₂->(∀a b,F a b->G a b)->Paired G l₁ l₂
 |_,_,.nil,_=> .nil
 |_,_,.cons r t,f=> .cons (f _ _ r) (Paired.G_ t f)
def g_.qo(x:g_ P w H h a o)(k:∀b u,(b=a\/H b=some (.own a))->h.get? b=some u->h'.get? b=some u)
 (ho:∀b,H b=some (.own a)->H' b=some (.own a)) (ht:∀b xs,H b=some (.tup xs)->H' b=some (.tup xs)):g_ P w H' h' a o:=by
 induction o with
 |lst xs=>obtain⟨z,its,n,r,e⟩:=x;exact⟨z,its,n,r,k _ _ (.inl rfl) e⟩
 |tup xs=>obtain⟨z,its,r,ob,e,c⟩:=x;exact⟨z,its,r,ob,k _ _ (.inl rfl) e,c⟩
 |dK kvs=>obtain⟨z,y,vs,r,ob,es,ep,e,c⟩:=x;exact⟨z,y,vs,r,ob,es,ep,k _ _ (.inl rfl) e,c⟩
 |dT kvs=>
  obtain⟨z,y,xs,r,ob,es,ep,e,c⟩:=x;exact⟨z,y,xs,Paired.G_ r λ p q z=>⟨z.1,ht _ _ z.2.1,z.2.2⟩,ob,es,ep,k _ _ (.inl rfl) e,c⟩
 |set S n=>obtain⟨ob,es,ep,t,e,c⟩:=x;exact⟨ob,es,ep,t,k _ _ (.inl rfl) e,c⟩
 |ins C dx fs=>
  obtain⟨d,z,ne,e,mA,⟨od,es,ep,e2,c⟩,r⟩:=x;exact⟨ho _ d,z,ne,k _ _ (.inl rfl) e,mA,⟨od,es,ep,k _ _ (.inr d) e2,c⟩,r⟩
 |own y=>obtain⟨ob,e⟩:=x;exact⟨ob,k _ _ (.inl rfl) e⟩
 |xd fs=>obtain⟨mA,⟨od,es,ep,e,c⟩,r⟩:=x;exact⟨mA,⟨od,es,ep,k _ _ (.inl rfl) e,c⟩,r⟩
 |Mj lo hi=>obtain⟨t,u,v,e⟩:=x;exact⟨t,u,v,k _ _ (.inl rfl) e⟩
 |mz ob u ih=>obtain⟨e,q⟩:=x;exact⟨k _ _ (.inl rfl) e,ih q⟩
 |ll ps=>
  have e:h.get? a=some {cls:= .none,data:= .fields ps}:=x;show h'.get? a=some {cls:= .none,data:= .fields ps};exact k a _ (.inl rfl) e
 |met f y=>
  have e:h.get? a=some (PySem.W.methodObj (.ref f) (.ref y)):=x;show h'.get? a=some (PySem.W.methodObj (.ref f) (.ref y));exact k a _ (.inl rfl) e
 |ext φ=>obtain⟨p,⟨o,e⟩,st⟩:=x;exact⟨st _ _ p λ o q=>k _ _ (.inl rfl) q,⟨o,k _ _ (.inl rfl) e⟩,st⟩
def je.lt(x:je P w H h)(e:H a=some o):a<h.objs.size:=(x a o e).lt
def je.fresh(x:je P w H h)(e:h.objs.size<=a):H a=none:=by
 cases q:H a with
 |none=>rfl
 |some u=>exact absurd (RQ (x.lt q) e) (TY _)
def je.kept(x:je P w H h)(k:∀b u,h.get? b=some u->h'.get? b=some u):je P w H h':=λ a o e=>
 (x a o e).qo (λ b u _ q=>k b u q) (λ _ q=>q) λ _ _ q=>q
def je.laid(x:je P w H h)(k:∀b u,h.get? b=some u->h'.get? b=some u)(hp:h.objs.size<=a)(new:g_ P w (upd H a o) h' a o):je P w (upd H a o) h':=λ b u e=>by
 have hn:=x.fresh hp;by_cases hb:b=a
 . subst hb;rw[a6]at e;cases e;exact new
 . rw[ay hb]at e;exact(x b u e).qo (λ c v _ q=>k c v q) (λ c q=>by rw[ay (dP q hn)];exact q) λ c xs q=>by rw[ay (dP q hn)];exact q
end
def Rd(H:Hp)(a:Addr)(u:HO):Prop:=H a=some u\/∃o,H a=some (.mz o u)
def Rd.of{H:Hp}{a:Addr}{u:HO}(h:H a=some u):Rd H a u:= .inl h
def Rd.ok{P:Program}{w:World}{H:Hp}{h:Heap}{a:Addr}{u:HO}(r:Rd H a u)(x:je P w H h):g_ P w H h a u:=by
 rcases r with r|⟨o,r⟩
 . exact x a u r
 . obtain⟨_,q⟩:=x a _ r;exact q
def H0:Option HO->Prop
 |some (.lst _)=>True
 |some (.dK _)=>True
 |some (.dT _)=>True
 |some (.set _ _)=>True
 |some (.ins _ _ _)=>True
 |some (.ext _)=>True
 |_=>False
section
variable {P:Program}{w:World}{H:Hp}{h h':Heap}{x e:Addr}{o':HO}
def je.write(ok:je P w H h)(mu:H0 (H x))(he:e=x\/H e=some (.own x))(k:∀b u,b≠e->h.get? b=some u->h'.get? b=some u)(heo:∃u,h'.get? e=some u)
 (new:g_ P w (upd H x o') h' x o'):je P w (upd H x o') h':=λ b u q=>by
 have nown:∀c y,H c=some (.own y)->c≠x:=λ c y r z=>by subst z;rw[r]at mu;exact mu
 have ntup:∀c xs,H c=some (.tup xs)->c≠x:=λ c xs r z=>by subst z;rw[r]at mu;exact mu
 by_cases hb:b=x
 . subst hb;rw[a6]at q;cases q;exact new
 . rw[ay hb]at q;by_cases hbe:b=e
   . have q':H b=some (.own x):=by
      rcases he with z|z
      . exact absurd (hbe.trans z) hb
      . rw[hbe];exact z
     rw[q]at q';cases q';obtain⟨v,hv⟩:=heo;exact⟨v,by rw[hbe];exact hv⟩
   . refine(ok b u q).qo (λ c v hc r=>k c v ?_ r) (λ c r=>by rw[ay (nown c b r)];exact r) λ c xs r=>by rw[ay (ntup c xs r)];exact r
     rcases hc with rfl|hc
     . exact hbe
     . rintro rfl;rcases he with z|z
       . exact nown c b hc z
       . rw[hc]at z;cases z;exact hb rfl
end
structure Un(fs ex:List Addr)(H H':Hp)(h h':Heap):Prop where
 keep:∀b o,h.get? b=some o->H b=none->b∉fs->b∉ex->h'.get? b=some o
 slot:∀b o,h.get? b=some o->H b=none->b∈fs->b∉ex->∃sl,h'.get? b=some {o with slots:=sl}
 free:∀b o,h.get? b=some o->H b=none->b∉ex->H' b=none
 there:∀b o,h.get? b=some o->b∉ex->∃o',h'.get? b=some o'
 qp:∀b xs,H b=some (.tup xs)->H' b=some (.tup xs)
 o5:∀b o u,H b=some (.mz o u)->H' b=some (.mz o u)
 oV:∀b ps,H b=some (.ll ps)->∃more,H' b=some (.ll (ps++more))
section
variable {fs fs' ex ex':List Addr}{H H1 H2:Hp}{h h1 h2 h':Heap}{a x e:Addr}{o:HO}
def Un.any(u:Un fs ex H H1 h h1){b:Addr}{ob:Obj}(q:h.get? b=some ob)(n:H b=none)(hx:b∉ex):∃sl,h1.get? b=some {ob with slots:=sl}:=by
 by_cases hb:b∈fs
 . exact u.slot b ob q n hb hx
 . exact⟨ob.slots,u.keep b ob q n hb hx⟩
def Un.kept(k:∀b u,h.get? b=some u->h'.get? b=some u):Un fs ex H H h h':=
 ⟨λ b ob q _ _ _=>k b ob q,λ b ob q _ _ _=>⟨ob.slots,k b ob q⟩,λ _ _ _ n _=>n,λ b ob q _=>⟨ob,k b ob q⟩,λ _ _ q=>q,λ _ _ _ q=>q,λ _ ps q=>⟨#[],by rw[q];simp⟩⟩
def Un.refl:Un fs ex H H h h:=Un.kept λ _ _ q=>q
def Un.laid(k:∀b u,h.get? b=some u->h'.get? b=some u)(hp:h.objs.size<=a)(hn:H a=none):Un fs ex H (upd H a o) h h' where
 keep:=λ b u q _ _ _=>k b u q
 slot:=λ b u q _ _ _=>⟨u.slots,k b u q⟩
 free:=λ b u q n _=>by rw[ay (Se (RQ (RW q) hp))];exact n
 there:=λ b u q _=>⟨u,k b u q⟩
 qp:=λ b xs q=>by rw[ay (dP q hn)];exact q
 o5:=λ b u xs q=>by rw[ay (dP q hn)];exact q
 oV:=λ b ps q=>⟨#[],by rw[ay (dP q hn),q];simp⟩
def Un.write(mu:H0 (H x))(he:e=x\/H e=some (.own x))(k:∀b u,b≠e->h.get? b=some u->h'.get? b=some u)(heo:∃u,h'.get? e=some u):Un fs ex H (upd H x o) h h':=by
 have hx:∀b,H b=none->b≠x:=λ b n z=>by subst z;rw[n]at mu;exact mu
 have hb:∀b,H b=none->b≠e:=λ b n z=>by
  subst z;rcases he with r|r
  . exact hx b n r
  . rw[n]at r;cases r
 have hm:∀b u,H b=some u->¬H0 (some u)->b≠x:=λ b u q nm z=>by subst z;rw[q]at mu;exact nm mu
 refine⟨λ b u q n _ _=>k b u (hb b n) q,λ b u q n _ _=>⟨u.slots,k b u (hb b n) q⟩,λ b u q n _=>by rw[ay (hx b n)];exact n,λ b u q _=>?_,
  λ b xs q=>by rw[ay (hm b _ q λ z=>z)];exact q,λ b u xs q=>by rw[ay (hm b _ q λ z=>z)];exact q,λ b ps q=>⟨#[],by rw[ay (hm b _ q λ z=>z),q];simp⟩⟩
 by_cases hbe:b=e
 . subst hbe;exact heo
 . exact⟨u,k b u hbe q⟩
end
def IW(h:Heap)(H:Hp):List Addr:=(List.range h.objs.size).filter λ a=>(H a).isSome
def qr(h:Heap)(H:Hp):Heap:=PySem.W.hideAll h (IW h H)
def EV(h:Heap)(H:Hp):(qr h H).objs.size=h.objs.size:=PySem.W.hideAll_size _ _
def rE{h:Heap}{H:Hp}{b:Addr}{o:Obj}(e:h.get? b=some o)(n:H b=none):(qr h H).get? b=some o:=
 PySem.W.hideAll_get _ e λ hm=>by
  have q:(H b).isSome=true:=(Tp.mp hm).2;rw[n]at q;simp at q
def KN{h:Heap}{H:Hp}{b:Addr}{o:Obj}(e:(qr h H).get? b=some o):h.get? b=some o/\H b=none:=by
 have e':h.get? b=some o:=PySem.W.of_hideAll (IW h H) e;refine⟨e',?_⟩;cases q:H b with
 |none=>rfl
 |some x=>
  have hm:b∈IW h H:=Tp.mpr ⟨TC.mpr (RW e'),by simp[q]⟩;have z:(qr h H).get? b=none:=PySem.W.hideAll_none (IW h H) hm;rw[z]at e;cases e
def KU(g h:Heap)(L:Addr):List (Addr×Obj):=(List.range h.objs.size).filterMap λ a=>if a=L\/(g.get? a).isSome=true then none else(h.get? a).map λ o=>(a,o)
def rest(g h:Heap)(L d:Addr):List (Addr×Obj):=(KU g h L).filter λ p=>decide (p.1≠d)
structure Mod(K:PySem.W.Frag)(mg:Str->Option Value)(base:Heap):Prop where
 F2:K.In base
 glob:base.Ns mainGlobals mg
 blt:∃mb,base.Ns builtinsNs mb/\∀x:Str,x≠"__name__"->mb x=bootBuiltins x
 nolimit:base.NoLimit
 seer:base.NoSeer
 bmain:∃bm ob,mg "__builtins__"=some (.ref bm)/\bm≠builtinsNs/\base.get? bm=some ob/\ob.cls= .type "module"/\ob.dict=some builtinsNs/\ob.data= .plain
structure Cx where
 prog:Program
 w:World
 K:PySem.W.Frag
 mg:Str->Option Value
 base:Heap
 A:Around
 N:List Str
 s₀:Shared
 H₀:Hp
 env:Env
 outer:List Env
 stack:List Env
 ex:List Addr
 fn:Str->Bool
 calm:Bool
 pn:List (Addr×Obj)
 xe:Value->Shared->Prop
def qP(l:List Env):List Addr:=l.filterMap (·.frame)
abbrev Cx.fs(X:Cx):List Addr:=qP X.outer
def Bu(sc:Scope)(x:Str):Prop:=sc.names.lookup x=some .local\/sc.names.lookup x=some .cell\/sc.names.lookup x=some .free
def Loc(sc:Scope)(x:Str):Prop:=sc.names.lookup x=some .local\/sc.names.lookup x=some .cell
def Look(env:Env)(h:Heap)(m:Str->Option Value)(x:Str)(u:Value):Prop:=
 (env.kindOf x=some .local/\m x=some u)\/((env.kindOf x=some .cell\/env.kindOf x=some .free)/\∃c,env.cells.lookup x=some c/\h.IsCell c (some u))
structure Cx.Ok(X:Cx):Prop where
 mod:Mod X.K X.mg X.base
 kind:X.env.scope.kind= .function
 glob:X.env.globals=mainGlobals
 blt:X.env.builtins=builtinsNs
 above:X.s₀.heap.objs.size<=X.env.locals
 inj:∀x y c,X.env.cells.lookup x=some c->X.env.cells.lookup y=some c->x=y
 has:∀x,(X.env.kindOf x=some .cell\/X.env.kindOf x=some .free)->∃c,X.env.cells.lookup x=some c
 A9:∀x c,X.fn x=true->X.env.cells.lookup x=some c->X.s₀.heap.objs.size<=c
 hd:X.calm=true->X.A.handled=none
 frames:X.A.frames=some X.stack
 BU:X.stack=X.outer\/(X.stack=X.env::X.outer/\X.env.frame=some X.env.locals)
 EN:∀b∈X.ex,b≠X.env.locals/\∀x c,X.env.cells.lookup x=some c->c≠b
 bs:∀b o,X.base.get? b=some o->X.s₀.heap.get? b=some o/\X.H₀ b=none
 uo:X.base.objs.size<=X.s₀.heap.objs.size
 vT:∀b o,X.base.get? b=some o->b∉X.ex
 vA:∀b∈X.ex,b∉X.fs
 lP:X.s₀.heap.FunFrames X.base X.outer
 w9:∀b∈X.fs,X.H₀ b=none
 gt:X.prog.given.tree=none
structure Inv(X:Cx)(pins:List (Addr×Obj))(σ:List (Option V))(H:Hp)(s:Shared):Prop where
 ok:X.Ok
 os:s.os=X.s₀.os
 bare:AllBare s.gens
 base:Un X.fs X.ex X.H₀ H X.s₀.heap s.heap
 loc:∃m,s.heap.Ns X.env.locals m/\∀(i:Nat) (x:Str) (v:V),X.N[i]?=some x->σ[i]?=some (some v)->Bu X.env.scope x->∃u,RelV v u/\Look X.env s.heap m x u
 cell:∀x c,X.env.cells.lookup x=some c->∃v,s.heap.IsCell c v
 free:H X.env.locals=none
 jD:∀x c,X.env.cells.lookup x=some c->H c=none
 pin:∀p∈X.pn++pins,s.heap.get? p.1=some p.2/\H p.1=none/\p.1≠X.env.locals/\p.1∉X.fs/\∀v,p.2.data≠ .cell v
 aM:je X.prog X.w H s.heap
 len:σ.length=X.N.length
section
variable {X:Cx}{pins:List (Addr×Obj)}{σ:List (Option V)}{H H':Hp}{s:Shared}{h':Heap}
def Cx.Ok.QI(ok:X.Ok){b:Addr}{o:Obj}(e:X.base.get? b=some o):b∉X.fs:=λ hb=>by
 have:=(ok.lP.mem hb).1;rw[e]at this;cases this
def Inv.bs(I:Inv X pins σ H s):∀b o,X.base.get? b=some o->s.heap.get? b=some o/\H b=none:=λ b o e=>
 ⟨I.base.keep b o (I.ok.bs b o e).1 (I.ok.bs b o e).2 (I.ok.QI e) (I.ok.vT b o e),I.base.free b o (I.ok.bs b o e).1 (I.ok.bs b o e).2 (I.ok.vT b o e)⟩
def Inv.bk(I:Inv X pins σ H s):∀b o,X.base.get? b=some o->s.heap.get? b=some o:=λ b o e=>(I.bs b o e).1
def Inv.mod(I:Inv X pins σ H s):Mod X.K X.mg X.base:=I.ok.mod
def Inv.pf(I:Inv X pins σ H s):X.K.In s.heap:=I.ok.mod.F2.keeps I.bk
def Inv.nolimit(I:Inv X pins σ H s):s.heap.NoLimit:=I.ok.mod.nolimit.keeps I.bk
def Inv.lt(I:Inv X pins σ H s):X.env.locals<s.heap.objs.size:=let⟨_,hn,_⟩:=I.loc;hn.lt
def Inv.sz(I:Inv X pins σ H s):X.s₀.heap.objs.size<=s.heap.objs.size:=RH I.ok.above (Tq I.lt)
def Inv.Mo(I:Inv X pins σ H s){a:Addr}(h:s.heap.objs.size<=a):a∉X.fs:=λ hb=>by
 obtain⟨_,o,ho,_⟩:=I.ok.lP.mem hb;exact absurd (RQ (RW ho) (RH I.sz h)) (TY _)
def Inv.Af(I:Inv X pins σ H s):∀x c,X.env.cells.lookup x=some c->c≠X.env.locals:=λ x c e z=>by
 obtain⟨v,o,ho,hd⟩:=I.cell x c e;obtain⟨m,⟨o',es,ep,ho',hd',_⟩,_⟩:=I.loc;rw[z,ho']at ho;cases ho;rw[hd']at hd;cases hd
def Inv.lP(I:Inv X pins σ H s):s.heap.FunFrames X.base X.outer:=by
 have all:∀(l:List Env),(∀b∈qP l,b∈X.fs)->X.s₀.heap.FunFrames X.base l->s.heap.FunFrames X.base l:=by
  intro l;induction l with
  |nil=>intro _ _;trivial
  |cons env r ih=>
   intro hs hl;obtain⟨hk,⟨L,o,hf,hn,ho,hd⟩,hr⟩:=hl;have hL:L∈X.fs:=hs L (by unfold qP;rw[Vp,hf];exact R6);obtain⟨sl,e⟩:=I.base.slot L o ho (I.ok.w9 L hL) hL λ z=>I.ok.vA L z hL;exact⟨hk,⟨L,_,hf,hn,e,hd⟩,ih (λ b hb=>hs b (by unfold qP;rw[Vp,hf];exact RU _ hb)) hr⟩
 exact all X.outer (λ _ hb=>hb) I.ok.lP
def Inv.stack(I:Inv X pins σ H s):s.heap.FunFrames X.base X.stack:=by
 rcases I.ok.BU with e|⟨e,hf⟩
 . rw[e];exact I.lP
 . rw[e];obtain⟨m,hn,_⟩:=I.loc;refine .cons (by rw[I.ok.kind];decide) hf hn ?_ I.lP;exact Heap.get?_none_of_le (RH I.ok.uo I.ok.above)
def Inv.Ax(I:Inv X pins σ H s):∀b∈qP X.stack,b∈X.env.locals::X.fs:=λ b hb=>by
 rcases I.ok.BU with e|⟨e,hf⟩
 . rw[e]at hb;exact RU _ hb
 . rw[e]at hb;unfold qP at hb;rw[Vp,hf]at hb;exact hb
def Inv.xG(I:Inv X pins σ H s):∀b∈qP X.stack,H b=none:=λ b hb=>by
 rcases R7.mp (I.Ax b hb)with e|hb
 . rw[e];exact I.free
 . obtain⟨_,o,ho,_⟩:=I.ok.lP.mem hb;exact I.base.free b o ho (I.ok.w9 b hb) λ z=>I.ok.vA b z hb
def Inv.step{g':Array GenState}{t':Nat}{d':Drawn}{ch:List Addr}(I:Inv X pins σ H s)
 (hch:∀b∈ch,(b∈X.ex\/X.s₀.heap.objs.size<=b)/\b≠X.env.locals/\(∀x c,X.env.cells.lookup x=some c->c≠b)/\∀p∈X.pn++pins,p.1≠b)
 (keep:∀b o,b≠X.env.locals->b∉X.fs->b∉ch->s.heap.get? b=some o->H b=none->h'.get? b=some o)
 (slot:∀b o,b≠X.env.locals->b∈X.fs->b∉ch->s.heap.get? b=some o->H b=none->∃sl,h'.get? b=some {o with slots:=sl}) (free:∀b o,b∉ch->s.heap.get? b=some o->H b=none->H' b=none)
 (there:∀b o,b∉ch->s.heap.get? b=some o->∃o',h'.get? b=some o')
 (qp:∀b xs,H b=some (.tup xs)->H' b=some (.tup xs)) (o5:∀b o u,H b=some (.mz o u)->H' b=some (.mz o u)) (oV:∀b ps,H b=some (.ll ps)->∃more,H' b=some (.ll (ps++more)))
 (ns:∀m,s.heap.Ns X.env.locals m->h'.Ns X.env.locals m) (aM:je X.prog X.w H' h') (hg:AllBare g'):
 Inv X pins σ H' {s with heap:=h',gens:=g',drawn:=d',toks:=t'}:=by
 have neL:∀b o,X.s₀.heap.get? b=some o->b≠X.env.locals:=λ b o e=>Se (RQ (RW e) I.ok.above)
 have neC:∀b o,X.s₀.heap.get? b=some o->b∉X.ex->b∉ch:=λ b o e hx hb=>by
  rcases(hch b hb).1 with z|z
  . exact hx z
  . exact absurd (RQ (RW e) z) (TY _)
 have cellK:∀x c,X.env.cells.lookup x=some c->∀v,s.heap.IsCell c v->h'.IsCell c v:=λ x c e v ⟨o,ho,hd⟩=>by
  have nch:c∉ch:=λ z=>(hch c z).2.2.1 x c e rfl;by_cases hc:c∈X.fs
  . obtain⟨sl,q⟩:=slot c o (I.Af x c e) hc nch ho (I.jD x c e);exact⟨_,q,hd⟩
  . exact⟨o,keep c o (I.Af x c e) hc nch ho (I.jD x c e),hd⟩
 refine⟨I.ok,I.os,hg,⟨λ b o e n hb hx=>?_,λ b o e n hb hx=>?_,λ b o e n hx=>?_,λ b o e hx=>?_,λ b xs e=>qp b xs (I.base.qp b xs e),λ b o xs e=>o5 b o xs (I.base.o5 b o xs e),λ b ps e=>?_⟩,?_,λ x c e=>?_,?_,λ x c e=>?_,λ p hp=>?_,aM,I.len⟩
 . exact keep b o (neL b o e) hb (neC b o e hx) (I.base.keep b o e n hb hx) (I.base.free b o e n hx)
 . obtain⟨sl,e1⟩:=I.base.slot b o e n hb hx;obtain⟨sl',e2⟩:=slot b _ (neL b o e) hb (neC b o e hx) e1 (I.base.free b o e n hx);exact⟨sl',e2⟩
 . obtain⟨o',e1⟩:=I.base.there b o e hx;exact free b o' (neC b o e hx) e1 (I.base.free b o e n hx)
 . obtain⟨o',e1⟩:=I.base.there b o e hx;exact there b o' (neC b o e hx) e1
 . obtain⟨m1,e1⟩:=I.base.oV b ps e;obtain⟨m2,e2⟩:=oV b _ e1;exact⟨m1++m2,by rw[e2,Array.append_assoc]⟩
 . obtain⟨m,hn,hl⟩:=I.loc;refine⟨m,ns m hn,λ i x v e1 e2 e3=>?_⟩;obtain⟨u,r,l⟩:=hl i x v e1 e2 e3;refine⟨u,r,?_⟩;rcases l with l|⟨k,c,e,z⟩
   . exact .inl l
   . exact .inr ⟨k,c,e,cellK x c e _ z⟩
 . obtain⟨v,z⟩:=I.cell x c e;exact⟨v,cellK x c e v z⟩
 . obtain⟨m,⟨o,_,_,ho,_⟩,_⟩:=I.loc;exact free _ o (λ z=>(hch _ z).2.1 rfl) ho I.free
 . obtain⟨v,o,ho,hd⟩:=I.cell x c e;exact free c o (λ z=>(hch c z).2.2.1 x c e rfl) ho (I.jD x c e)
 . obtain⟨e,n,ne,nf,d⟩:=I.pin p hp;have nch:p.1∉ch:=λ z=>(hch p.1 z).2.2.2 p hp rfl;exact⟨keep p.1 p.2 ne nf nch e n,free p.1 p.2 nch e n,ne,nf,d⟩
def Inv.un{t':Nat}(I:Inv X pins σ H s)(u:Un X.fs [] H H' s.heap h')(aM:je X.prog X.w H' h'):Inv X pins σ H' {s with heap:=h',toks:=t'}:=by
 obtain⟨m,⟨o,es,ep,ho,r⟩,_⟩:=id I.loc;obtain⟨sl,hL⟩:=u.any ho I.free (by simp)
 exact I.step (g':=s.gens) (d':=s.drawn) (ch:=[]) (λ _ z=>nomatch z) (λ b o _ hb _ e n=>u.keep b o e n hb (by simp)) (λ b o _ hb _ e n=>u.slot b o e n hb (by simp)) (λ b o _ e n=>u.free b o e n (by simp)) (λ b o _ e=>u.there b o e (by simp)) u.qp u.o5 u.oV (λ m' hm=>by
  obtain⟨o',es',ep',ho',r'⟩:=hm;rw[ho]at ho';cases ho';exact⟨_,es',ep',hL,r'⟩) aM I.bare
def Inv.call{g':Array GenState}{t':Nat}{d':Drawn}{ch:List Addr}(I:Inv X pins σ H s)(u:Un (qP X.stack) ch H H' s.heap h')(aM:je X.prog X.w H' h')(hg:AllBare g')
 (hch:∀b∈ch,(b∈X.ex\/X.s₀.heap.objs.size<=b)/\b≠X.env.locals/\(∀x c,X.env.cells.lookup x=some c->c≠b)/\∀p∈X.pn++pins,p.1≠b):
 Inv X pins σ H' {s with heap:=h',gens:=g',drawn:=d',toks:=t'}:=by
 obtain⟨m,⟨o,es,ep,ho,r⟩,_⟩:=id I.loc;obtain⟨sl,hL⟩:=u.any ho I.free λ z=>(hch _ z).2.1 rfl
 exact I.step (ch:=ch) hch (λ b o hL hb hc e n=>u.keep b o e n (λ z=>(R7.mp (I.Ax b z)).elim hL hb) hc) (λ b o _ _ hc e n=>u.any e n hc) (λ b o hc e n=>u.free b o e n hc) (λ b o hc e=>u.there b o e hc) u.qp u.o5 u.oV (λ m' hm=>by
  obtain⟨o',es',ep',ho',r'⟩:=hm;rw[ho]at ho';cases ho';exact⟨_,es',ep',hL,r'⟩) aM hg
def Inv.turned{t':Nat}{it:Addr}(I:Inv X pins σ H s)(k:∀b o,b≠it->s.heap.get? b=some o->h'.get? b=some o)(hn:H it=none)(hL:it≠X.env.locals)
 (h1:it∈X.ex\/X.s₀.heap.objs.size<=it) (h2:∀x c,X.env.cells.lookup x=some c->c≠it) (h3:∀p∈X.pn++pins,p.1≠it):Inv X pins σ H {s with heap:=h',toks:=t'}:=by
 have nit:∀b u,H b=some u->b≠it:=λ b u e z=>by rw[z,hn]at e;cases e
 refine I.step (g':=s.gens) (d':=s.drawn) (ch:=[it]) (λ b hb=>?_) (λ b o _ _ hc e _=>k b o (λ z=>hc (by simp[z])) e) (λ b o _ _ hc e _=>⟨o.slots,k b o (λ z=>hc (by simp[z])) e⟩) (λ _ _ _ _ n=>n)
  (λ b o hc e=>⟨o,k b o (λ z=>hc (by simp[z])) e⟩) (λ _ _ e=>e) (λ _ _ _ e=>e) (λ b ps e=>⟨#[],by rw[e];simp⟩) (λ m hm=>?_) (λ b u e=>?_) I.bare
 . have e:b=it:=by simpa using hb
   subst e;exact⟨h1,hL,h2,h3⟩
 . obtain⟨o,es,ep,ho,r⟩:=hm;exact⟨o,es,ep,k _ o (RK hL) ho,r⟩
 . refine(I.aM b u e).qo (λ c v hc q=>k c v ?_ q) (λ _ q=>q) λ _ _ q=>q;rcases hc with z|z
   . rw[z];exact nit b u e
   . exact nit c _ z
def Inv.tok(I:Inv X pins σ H s)(t:Nat):Inv X pins σ H {s with toks:=t}:=I.un (h':=s.heap) (t':=t) Un.refl I.aM
def Inv.kept{t':Nat}(I:Inv X pins σ H s)(k:∀b u,s.heap.get? b=some u->h'.get? b=some u):Inv X pins σ H {s with heap:=h',toks:=t'}:=I.un (Un.kept k) (I.aM.kept k)
def Inv.laid{a:Addr}{o:HO}{t':Nat}(I:Inv X pins σ H s)(k:∀b u,s.heap.get? b=some u->h'.get? b=some u)(hp:s.heap.objs.size<=a)(new:g_ X.prog X.w (upd H a o) h' a o):
 Inv X pins σ (upd H a o) {s with heap:=h',toks:=t'}:=I.un (Un.laid k hp (I.aM.fresh hp)) (I.aM.laid k hp new)
def Inv.write{x e:Addr}{o:HO}{t':Nat}(I:Inv X pins σ H s)(mu:H0 (H x))(he:e=x\/H e=some (.own x))(k:∀b u,b≠e->s.heap.get? b=some u->h'.get? b=some u)(heo:∃u,h'.get? e=some u)
 (new:g_ X.prog X.w (upd H x o) h' x o):Inv X pins σ (upd H x o) {s with heap:=h',toks:=t'}:=I.un (Un.write mu he k heo) (I.aM.write mu he k heo new)
def Inv.ux{pins':List (Addr×Obj)}(I:Inv X pins σ H s)(h:∀p∈pins',s.heap.get? p.1=some p.2/\H p.1=none/\p.1≠X.env.locals/\p.1∉X.fs/\∀v,p.2.data≠ .cell v):Inv X pins' σ H s:=
 ⟨I.ok,I.os,I.bare,I.base,I.loc,I.cell,I.free,I.jD,λ p hp=>(SH.mp hp).elim (λ z=>I.pin p (Tr _ z)) (h p),I.aM,I.len⟩
def Ay{N:List Str}(hN:N.Nodup){i j:Nat}{x:Str}(a:N[i]?=some x)(b:N[j]?=some x):i=j:=by
 obtain⟨h1,e1⟩:=RB.mp a;obtain⟨h2,e2⟩:=RB.mp b;exact(List.getElem_inj hN).mp (e1.trans e2.symm)
def yN{M:Model}{A:Around}{E:Value->Shared->Prop}{i:Nat}{x:Str}{v:V}{u:Value}{Q:Unit->Shared->Prop}(I:Inv X pins σ H s)(hN:X.N.Nodup)(hi:X.N[i]?=some x)(hx:Loc X.env.scope x)(r:RelV v u)
 (h:∀s',Inv X pins (σ.set i (some v)) H s'->(∃a,Heap.SameBut a s.heap s'.heap/\(a=X.env.locals\/X.env.cells.lookup x=some a))->Q () s') (hf:X.fn x=true\/X.env.scope.names.lookup x=some .local:=by first|exact .inl rfl|exact .inr rfl|assumption):wpAny M A (storeName X.env x u) Q E s:=by
 obtain⟨m,hn,hl⟩:=id I.loc;have hcls:(X.env.scope.kind== .class||(X.env.scope.kind== .module&&X.env.locals != X.env.globals))=false:=by rw[I.ok.kind];rfl
 have hiσ:i<σ.length:=by rw[I.len];exact(RB.mp hi).1
 have Af:=I.Af
 have tracked:∀ {a:Addr} {h':Heap},(∃o,s.heap.get? a=some o/\H a=none)->Heap.SameBut a s.heap h'->je X.prog X.w H h':=λ{a h'} ha hs b ob e=>by
  obtain⟨_,_,hfree⟩:=ha;refine(I.aM b ob e).qo (λ c w' hc q=>(hs.2 c ?_).trans q) (λ _ q=>q) λ _ _ q=>q;rintro rfl;rcases hc with rfl|hc
  . rw[hfree]at e;cases e
  . rw[hfree]at hc;cases hc
 rcases hx with hk|hk
 . refine wpAny_storeName_local hk hn (λ h' hn' hs=>?_) hcls;obtain⟨oL,_,_,hoL,_⟩:=id hn;refine h _ ⟨I.ok,I.os,I.bare,⟨λ b o e n hb hx=>?_,λ b o e n hb hx=>?_,I.base.free,λ b o e hx=>?_,I.base.qp,I.base.o5,I.base.oV⟩,⟨_,hn',λ j y v' e1 e2 e3=>?_⟩,λ y c e=>?_,I.free,I.jD,λ p hp=>?_,tracked ⟨oL,hoL,I.free⟩ hs,by simpa using I.len⟩ ⟨_,hs,.inl rfl⟩
   . exact(hs.2 b (Se (RQ (RW e) I.ok.above))).trans (I.base.keep b o e n hb hx)
   . obtain⟨sl,e1⟩:=I.base.slot b o e n hb hx;exact⟨sl,(hs.2 b (Se (RQ (RW e) I.ok.above))).trans e1⟩
   . obtain⟨o',e1⟩:=I.base.there b o e hx;exact⟨o',(hs.2 b (Se (RQ (RW e) I.ok.above))).trans e1⟩
   . by_cases hj:j=i
     . subst hj;rw[hi]at e1;cases e1;rw[RL hiσ]at e2;cases e2;exact⟨u,r,.inl ⟨hk,by simp⟩⟩
     . rw[RD (RK hj)]at e2;obtain⟨u',r',q⟩:=hl j y v' e1 e2 e3;refine⟨u',r',?_⟩;rcases q with⟨k,e⟩|⟨k,c,e,z⟩
       . refine .inl ⟨k,?_⟩;have:y≠x:=λ e=>hj (Ay hN e1 (e▸hi));simp[this,e]
       . exact .inr ⟨k,c,e,z.sameBut hs (Af y c e)⟩
   . obtain⟨w',z⟩:=I.cell y c e;exact⟨w',z.sameBut hs (Af y c e)⟩
   . obtain⟨e,n,ne,nf,d⟩:=I.pin p hp;exact⟨(hs.2 p.1 ne).trans e,n,ne,nf,d⟩
 . have hfn:X.fn x=true:=by
    rcases hf with z|z
    . exact z
    . rw[z]at hk;cases hk
   obtain⟨c,hc⟩:=I.ok.has x (.inl hk);obtain⟨w',z⟩:=I.cell x c hc;refine wpAny_storeName_cell I.ok.kind hk hc z (λ h' hc' hs=>?_);obtain⟨oc,hoc,hocd⟩:=id z;refine h {s with heap:=h'} ⟨I.ok,I.os,I.bare,⟨λ b o e n hb hx=>?_,λ b o e n hb hx=>?_,I.base.free,λ b o e hx=>?_,I.base.qp,I.base.o5,I.base.oV⟩,⟨m,hn.sameBut hs (RK (Af x c hc)),λ j y v' e1 e2 e3=>?_⟩,λ y c' e=>?_,I.free,I.jD,λ p hp=>?_,tracked ⟨oc,hoc,I.jD x c hc⟩ hs,by simpa using I.len⟩ ⟨c,hs,.inr hc⟩
   . exact(hs.2 b (Se (RQ (RW e) (I.ok.A9 x c hfn hc)))).trans (I.base.keep b o e n hb hx)
   . obtain⟨sl,e1⟩:=I.base.slot b o e n hb hx;exact⟨sl,(hs.2 b (Se (RQ (RW e) (I.ok.A9 x c hfn hc)))).trans e1⟩
   . obtain⟨o',e1⟩:=I.base.there b o e hx;exact⟨o',(hs.2 b (Se (RQ (RW e) (I.ok.A9 x c hfn hc)))).trans e1⟩
   . by_cases hj:j=i
     . subst hj;rw[hi]at e1;cases e1;rw[RL hiσ]at e2;cases e2;exact⟨u,r,.inr ⟨.inl hk,c,hc,hc'⟩⟩
     . rw[RD (RK hj)]at e2;obtain⟨u',r',q⟩:=hl j y v' e1 e2 e3;refine⟨u',r',?_⟩;rcases q with q|⟨k,c',e,z'⟩
       . exact .inl q
       . refine .inr ⟨k,c',e,z'.sameBut hs ?_⟩;rintro rfl;exact hj (Ay hN e1 (I.ok.inj _ _ _ e hc▸hi))
   . by_cases hcc:c'=c
     . subst hcc;exact⟨_,hc'⟩
     . obtain⟨w2,z2⟩:=I.cell y c' e;exact⟨w2,z2.sameBut hs hcc⟩
   . obtain⟨e,n,ne,nf,d⟩:=I.pin p hp;refine⟨(hs.2 p.1 ?_).trans e,n,ne,nf,d⟩;intro q;rw[q,hoc]at e;have q':oc=p.2:=SS e;exact d w' (by rw[<-q'];exact hocd)
def o7{M:Model}{A:Around}{E:Value->Shared->Prop}{i:Nat}{x:Str}{v:V}{u:Value}{Q:Unit->Shared->Prop}(I:Inv X pins σ H s)(hN:X.N.Nodup)(hi:X.N[i]?=some x)(hx:Loc X.env.scope x)(r:RelV v u)
 (h:∀s',Inv X pins (σ.set i (some v)) H s'->Q () s') (hf:X.fn x=true\/X.env.scope.names.lookup x=some .local:=by first|exact .inl rfl|exact .inr rfl|assumption):wpAny M A (storeName X.env x u) Q E s:=
 yN I hN hi hx r (λ s' I' _=>h s' I') hf
def Inv.DB{s':Shared}{ch:List Addr}(I:Inv X pins σ H s)(ho:s'.os=s.os)(u:Un (qP X.stack) ch H H' s.heap s'.heap)(aM:je X.prog X.w H' s'.heap)(hg:AllBare s'.gens)
 (hch:∀b∈ch,(b∈X.ex\/X.s₀.heap.objs.size<=b)/\b≠X.env.locals/\(∀x c,X.env.cells.lookup x=some c->c≠b)/\∀p∈X.pn++pins,p.1≠b):Inv X pins σ H' s':=by
 obtain⟨h',g',d',t',o'⟩:=s';have e:o'=s.os:=ho;subst e;exact I.call (g':=g') (t':=t') (d':=d') u aM hg hch
end
abbrev XK:=Value->Option Addr->Hp->Prop
abbrev St:=List (Option V)
abbrev VK:=V->Hp->Prop
abbrev TE:=St->Hp->VK->Prop
abbrev TT:=St->Hp->(Bool->Hp->Prop)->Prop
abbrev TA:=St->Hp->(List V->Hp->Prop)->Prop
structure Ends where
 nx:St->Hp->Prop
 rt:VK
 bk:St->Hp->Prop:=λ _ _=>False
 ct:St->Hp->Prop:=λ _ _=>False
abbrev TS:=Ends->St->Hp->Prop
def EP(X:Cx)(pins:List (Addr×Obj))(σ:St)(Q:VK)(u:Value)(s':Shared):Prop:=∃v H',Inv X pins σ H' s'/\RelV v u/\Q v H'
def TP(X:Cx)(pins:List (Addr×Obj))(σ:St)(Q:Bool->Hp->Prop)(b:Bool)(s':Shared):Prop:=∃H',Inv X pins σ H' s'/\Q b H'
def AP(X:Cx)(pins:List (Addr×Obj))(σ:St)(Q:List V->Hp->Prop)(us:List Value)(s':Shared):Prop:=∃vs H',Inv X pins σ H' s'/\Vals vs us/\Q vs H'
def SP(X:Cx)(pins:List (Addr×Obj))(D:Ends)(f:Flow)(s':Shared):Prop:=
 match f with
 | .next=>∃σ' H',Inv X pins σ' H' s'/\D.nx σ' H'
 | .brk=>∃σ' H',Inv X pins σ' H' s'/\D.bk σ' H'
 | .cont=>∃σ' H',Inv X pins σ' H' s'/\D.ct σ' H'
 | .ret u=>∃v σ' H',Inv X pins σ' H' s'/\RelV v u/\D.rt v H'
def PE(X:Cx)(e:Expr)(t:TE):Prop:=
 ∀(pins:List (Addr×Obj)) (s:Shared) (σ:St) (H:Hp) (Q:VK),Inv X pins σ H s->t σ H Q->wpAny (model X.prog X.w) X.A (eval e X.env) (EP X pins σ Q) X.xe s
def PT(X:Cx)(e:Expr)(t:TT):Prop:=
 ∀(pins:List (Addr×Obj)) (s:Shared) (σ:St) (H:Hp) (Q:Bool->Hp->Prop),Inv X pins σ H s->t σ H Q->wpAny (model X.prog X.w) X.A (isTrue e X.env (eval e X.env)) (TP X pins σ Q) X.xe s
def PW(X:Cx)(e:Expr)(t:TT):Prop:=
 ∀(whole:Sem Value) (pins:List (Addr×Obj)) (s:Shared) (σ:St) (H:Hp) (Q:Bool->Hp->Prop),Inv X pins σ H s->t σ H Q->wpAny (model X.prog X.w) X.A (isTrue e X.env whole) (TP X pins σ Q) X.xe s
def PW.pt{X:Cx}{e:Expr}{t:TT}(h:PW X e t):PT X e t:=h _
def PA(X:Cx)(es:List Expr)(t:TA):Prop:=
 ∀(pos:Pos) (pins:List (Addr×Obj)) (s:Shared) (σ:St) (H:Hp) (Q:List V->Hp->Prop),Inv X pins σ H s->t σ H Q->wpAny (model X.prog X.w) X.A (spliced (backTo pos (starEach es X.env))) (AP X pins σ Q) X.xe s
def PS(X:Cx)(st:Stmt)(t:TS):Prop:=
 ∀(pins:List (Addr×Obj)) (s:Shared) (σ:St) (H:Hp) (D:Ends),Inv X pins σ H s->t D σ H->wpAny (model X.prog X.w) X.A (exec st X.env) (SP X pins D) X.xe s
def iS(X:Cx)(st:List Stmt)(t:TS):Prop:=
 ∀(pins:List (Addr×Obj)) (s:Shared) (σ:St) (H:Hp) (D:Ends),Inv X pins σ H s->t D σ H->wpAny (model X.prog X.w) X.A (execs st X.env) (SP X pins D) X.xe s
def cu{α:Type}{t:Sem α}{Q Q':α->Shared->Prop}{M:Model}{A:Around}{E:Value->Shared->Prop}{s:Shared}(h:wpAny M A t Q E s)(hQ:∀a s,Q a s->Q' a s):wpAny M A t Q' E s:=T8 h hQ λ _ _ x=>x
section
variable {X:Cx}
def Lx(i:Nat):TE:=λ σ H Q=>∃v,σ[i]?=some (some v)/\Q v H
def tC(v:V):TE:=λ _ H Q=>Q v H
def NQ{i:Nat}{x:Str}{pos:Pos}(hN:X.N[i]?=some x)(hv:Bu X.env.scope x)(hd:(x==("__debug__":Str))=false:=by decide)(hcd:(x==("__classdict__":Str))=false:=by decide):PE X (.Name x pos) (Lx i):=by
 intro pins s σ H Q I h;obtain⟨v,e,h⟩:=h;obtain⟨m,hn,hl⟩:=I.loc;obtain⟨u,r,l⟩:=hl i x v hN e hv;have fin:EP X pins σ Q u s:=⟨v,H,I,r,h⟩
 rcases l with⟨hk,hm⟩|⟨hk,c,hc,hcell⟩
 . exact wpAny_Name (wpAny_loadName_local I.ok.kind hk hn hm fin) hd
 . rcases hk with hk|hk
   . exact wpAny_Name (wpAny_loadName_cell I.ok.kind hk hc hcell fin) hd
   . exact wpAny_Name (wpAny_loadName_free I.ok.kind hk hc hcell fin hcd) hd
def LN{i j pos}:PE X (.Constant (.int i) j pos) (tC (.int i)):=λ _ _ _ H _ I h=>wpAny_Constant_int ⟨.int i,H,I.tok _,⟨_,rfl⟩,h⟩
def OL{b j pos}:PE X (.Constant (.bool b) j pos) (tC (.bl b)):=λ _ _ _ H _ I h=>Constant_bool ⟨.bl b,H,I,rfl,h⟩
def Ls{j pos}:PE X (.Constant .none j pos) (tC .aB):=λ _ _ _ H _ I h=>Constant_none ⟨.aB,H,I,rfl,h⟩
def Gl(X:Cx)(x:Str):Prop:=X.env.kindOf x=some .globalImplicit
def x8{E:Value->Shared->Prop}{pins:List (Addr×Obj)}{s:Shared}{σ:St}{H:Hp}{x:Str}{u:Value}{pos:Pos}{Q:Value->Shared->Prop}(I:Inv X pins σ H s)(hg:Gl X x)(hm:X.mg x=some u)(h:Q u s)
 (hd:(x==("__debug__":Str))=false:=by decide):wpAny (model X.prog X.w) X.A (eval (.Name x pos) X.env) Q E s:=
 Wj I.ok.kind hg (Calls.loadGlobal_global (by rw[I.ok.glob];exact I.mod.glob.keeps I.bk) hm h) hd
def o_{E:Value->Shared->Prop}{pins:List (Addr×Obj)}{s:Shared}{σ:St}{H:Hp}{x:Str}{u:Value}{pos:Pos}{Q:Value->Shared->Prop}(I:Inv X pins σ H s)(hg:Gl X x)(hm:X.mg x=none)(hv:bootBuiltins x=some u)(h:Q u s)
 (hn:x≠"__name__":=by decide) (hd:(x==("__debug__":Str))=false:=by decide):wpAny (model X.prog X.w) X.A (eval (.Name x pos) X.env) Q E s:=by
 obtain⟨mb,h1,h2⟩:=I.mod.blt;exact Wj I.ok.kind hg (Calls.loadGlobal_builtin (by rw[I.ok.glob];exact I.mod.glob.keeps I.bk) hm (by rw[I.ok.blt];exact h1.keeps I.bk) ((h2 x hn).trans hv) h) hd
def JR{x:Str}{v:V}{u:Value}{pos:Pos}(hg:Gl X x)(hm:X.mg x=some u)(r:RelV v u)(hd:(x==("__debug__":Str))=false:=by decide):PE X (.Name x pos) (tC v):=
 λ _ _ _ H _ I h=>x8 I hg hm ⟨v,H,I,r,h⟩ hd
variable {a b:Expr}{ta tb:TE}{pos:Pos}
def tB(t:TE):TT:=λ σ H Q=>t σ H λ x H1=>∃c,x= .bl c/\Q c H1
def NF{e:Expr}{t:TE}(h:PE X e t)(he:∀whole,isTrue e X.env whole=(do let v <-whole;standAt e.pos;holding [v] (truthy v)):=by intro _;rfl):PT X e (tB t):=by
 intro pins s σ H Q I hw;refine isTrue_plain (cu (h pins s σ H _ I hw) λ v s1 ⟨x,H1,I1,r1,q1⟩=>?_) (he _);obtain⟨d,rfl,q⟩:=q1;cases r1;exact Ve ⟨H1,I1,q⟩
variable {tA tB':TT}{rest:List Expr}
def PM(t u:TT):TT:=λ σ H Q=>t σ H λ c H1=>if c=true then Q true H1 else u σ H1 Q
def QD(t:TT):TT:=λ σ H Q=>t σ H λ c H1=>Q (!c) H1
def pw_or1(ha:PT X a tA):PW X (.BoolOp .Or [a] pos) tA:=by
 intro wh pins s σ H Q I h;refine isTrue_or (cu (ha pins s σ H Q I h) λ c s1 e=>?_);cases c with
 |false=>exact isTrue_or_nil e
 |true=>exact e
def pw_or(ha:PT X a tA)(hb:PW X (.BoolOp .Or (b::rest) pos) tB'):PW X (.BoolOp .Or (a::b::rest) pos) (PM tA tB'):=by
 intro wh pins s σ H Q I h;refine isTrue_or (cu (ha pins s σ H _ I h) λ c s1 ⟨H1,I1,q1⟩=>?_);cases c with
 |true=>exact⟨H1,I1,q1⟩
 |false=>exact hb wh pins s1 σ H1 Q I1 q1
def LF(ha:PT X a tA):PT X (.UnaryOp .Not a pos) (QD tA):=by
 intro pins s σ H Q I h;exact isTrue_not (ha pins s σ H (λ c H1=>Q (!c) H1) I h)
def QT(ta tb:TE):TE:=λ σ H Q=>ta σ H λ x H1=>∃c,x= .bl c/\if c=true then Q (.bl true) H1 else tb σ H1 Q
def Nv{op}{t:TE}(h:PE X a t):PE X (.BoolOp op [a] pos) t:=λ pins s σ H Q I hw=>BoolOp_one (h pins s σ H Q I hw)
def O6(ha:PE X a ta)(hb:PE X (.BoolOp .Or (b::rest) pos) tb):PE X (.BoolOp .Or (a::b::rest) pos) (QT ta tb):=by
 intro pins s σ H Q I h;refine BoolOp_or (cu (ha pins s σ H _ I h) λ v s1 ⟨x,H1,I1,r1,q1⟩=>?_);obtain⟨c,rfl,q1⟩:=q1;cases r1;refine Ve ?_;cases c with
 |false=>exact hb pins s1 σ H1 Q I1 q1
 |true=>exact⟨.bl true,H1,I1,rfl,q1⟩
def Q7(t:TT)(ta tb:TE):TE:=λ σ H Q=>t σ H λ c H1=>if c=true then ta σ H1 Q else tb σ H1 Q
def Hh{c:Expr}(hc:PT X c tA)(ha:PE X a ta)(hb:PE X b tb):PE X (.IfExp c a b pos) (Q7 tA ta tb):=by
 intro pins s σ H Q I h;refine wpAny_IfExp (cu (hc pins s σ H _ I h) λ d s1 ⟨H1,I1,q1⟩=>?_);cases d with
 |true=>exact ha pins s1 σ H1 Q I1 q1
 |false=>exact hb pins s1 σ H1 Q I1 q1
end
def mF(K:PySem.W.Frag)(H:Hp)(a:Addr)(xs:List V):Prop:=
 Rd H a (.lst xs)\/
  ∃(o:Obj) (its:Array Value) (n:Nat),K.lookup a=some o/\o.cls= .type "list"/\o.dict=none/\o.data= .seq its n/\its.size<=sizeLine/\Vals xs its.toList
def jO(K:PySem.W.Frag)(H:Hp)(a:Addr)(xs:List V):Prop:=
 Rd H a (.tup xs)\/
  ∃(o:Obj) (its:Array Value) (n:Nat),K.lookup a=some o/\o.cls= .type "tuple"/\o.data= .seq its n/\its.size<=sizeLine/\Vals xs its.toList
def QK:Value->Option V
 | .none=>some .aB
 | .bool b=>some (.bl b)
 | .int i _=>some (.int i)
 | .str x _=>some (.str x)
 | .bytes b _=>some (.vn b)
 | .float b _=>some (.Je b)
 | .ref a=>some (.ref a)
 | .type n=>some (.ty n)
 |_=>none
def RelV.abs{x:V}{u:Value}(r:RelV x u):QK u=some x:=by
 cases x with
 |aB=>cases r;rfl
 |bl _=>cases r;rfl
 |int _=>obtain⟨t,rfl⟩:=r;rfl
 |str _=>obtain⟨t,rfl⟩:=r;rfl
 |vn _=>obtain⟨t,rfl⟩:=r;rfl
 |Je _=>obtain⟨t,rfl⟩:=r;rfl
 |ref _=>cases r;rfl
 |ty _=>cases r;rfl
def RelV.inj{x y:V}{u:Value}(r:RelV x u)(q:RelV y u):x=y:=SS (r.abs.symm.trans q.abs)
def Vals.inj:∀ {xs ys:List V} {us:List Value},Vals xs us->Vals ys us->xs=ys
 |_,_,_,.nil,.nil=>rfl
 |_,_,_,.cons r t,.cons r' t'=>by rw[r.inj r',Vals.inj t t']
section
variable {X:Cx}{pins:List (Addr×Obj)}{σ:St}{H:Hp}{s:Shared}{a:Addr}{xs ys:List V}
def mF.of{K:PySem.W.Frag}(h:H a=some (.lst xs)):mF K H a xs:= .inl (.inl h)
def jO.of{K:PySem.W.Frag}(h:H a=some (.tup xs)):jO K H a xs:= .inl (.inl h)
def Inv.list(I:Inv X pins σ H s)(h:mF X.K H a xs):∃its:List Value,Vals xs its/\PlainL s.heap a its.toArray/\xs.length<=sizeLine:=by
 rcases h with h|⟨o,its,n,hk,hc,hd,hs,hz,r⟩
 . obtain⟨z,its,n,r,e⟩:=h.ok I.aM;exact⟨its,r,⟨_,n,e,rfl,rfl,rfl⟩,z⟩
 . refine⟨its.toList,r,⟨o,n,I.pf a o hk,hc,hd,by simpa using hs⟩,?_⟩;have e:=r.length;simp only[TB]at e;omega
def Inv.tuple(I:Inv X pins σ H s)(h:jO X.K H a xs):∃its:List Value,Vals xs its/\IsTup s.heap a its.toArray/\xs.length<=sizeLine:=by
 rcases h with h|⟨o,its,n,hk,hc,hs,hz,r⟩
 . obtain⟨z,its,r,p⟩:=h.ok I.aM;exact⟨its,r,p,z⟩
 . refine⟨its.toList,r,⟨o,I.pf a o hk,hc,n,by simpa using hs⟩,?_⟩;have e:=r.length;simp only[TB]at e;omega
def Inv.A6(I:Inv X pins σ H s)(h:mF X.K H a xs)(h':mF X.K H a ys):xs=ys:=by
 obtain⟨its,r,⟨o,n,e,_,_,d⟩,_⟩:=I.list h;obtain⟨its',r',⟨o',n',e',_,_,d'⟩,_⟩:=I.list h';rw[e]at e';cases e';rw[d]at d';injection d' with d1 _;have:its=its':=by simpa using Tu Array.toList d1
 subst this;exact r.inj r'
def Inv.yL(I:Inv X pins σ H s)(h:jO X.K H a xs)(h':jO X.K H a ys):xs=ys:=by
 obtain⟨its,r,⟨o,e,_,n,d⟩,_⟩:=I.tuple h;obtain⟨its',r',⟨o',e',_,n',d'⟩,_⟩:=I.tuple h';rw[e]at e';cases e';rw[d]at d';injection d' with d1 _;have:its=its':=by simpa using Tu Array.toList d1
 subst this;exact r.inj r'
end
abbrev Cx.qu(X:Cx)(E:Value->Shared->Prop):Cx:={X with xe:=E}
abbrev Cx.xi(X:Cx):Cx:=X.qu λ _ _=>False
def Cx.Ok.qu{X:Cx}(ok:X.Ok)(E:Value->Shared->Prop):(X.qu E).Ok:=
 ⟨ok.mod,ok.kind,ok.glob,ok.blt,ok.above,ok.inj,ok.has,ok.A9,ok.hd,ok.frames,ok.BU,ok.EN,ok.bs,ok.uo,ok.vT,ok.vA,ok.lP,ok.w9,ok.gt⟩
def Cx.Ok.nE{X:Cx}{E:Value->Shared->Prop}(ok:(X.qu E).Ok):X.Ok:=
 ⟨ok.mod,ok.kind,ok.glob,ok.blt,ok.above,ok.inj,ok.has,ok.A9,ok.hd,ok.frames,ok.BU,ok.EN,ok.bs,ok.uo,ok.vT,ok.vA,ok.lP,ok.w9,ok.gt⟩
section
variable {X:Cx}{pins:List (Addr×Obj)}{σ:St}{H:Hp}{s:Shared}{E:Value->Shared->Prop}
def Inv.qu(I:Inv X pins σ H s)(E:Value->Shared->Prop):Inv (X.qu E) pins σ H s:=⟨I.ok.qu E,I.os,I.bare,I.base,I.loc,I.cell,I.free,I.jD,I.pin,I.aM,I.len⟩
def Inv.nE(I:Inv (X.qu E) pins σ H s):Inv X pins σ H s:=⟨I.ok.nE,I.os,I.bare,I.base,I.loc,I.cell,I.free,I.jD,I.pin,I.aM,I.len⟩
def SP.nE{D:Ends}{f:Flow}{s':Shared}(h:SP (X.qu E) pins D f s'):SP X pins D f s':=by
 cases f with
 |next=>obtain⟨σ',H',I,q⟩:=h;exact⟨σ',H',I.nE,q⟩
 |brk=>obtain⟨σ',H',I,q⟩:=h;exact⟨σ',H',I.nE,q⟩
 |cont=>obtain⟨σ',H',I,q⟩:=h;exact⟨σ',H',I.nE,q⟩
 |ret u=>obtain⟨v,σ',H',I,r,q⟩:=h;exact⟨v,σ',H',I.nE,r,q⟩
def iS.xi{st:List Stmt}{t:TS}(h:iS X.xi st t):iS X st t:=λ pins s σ H D I hw=>
 T8 (h pins s σ H D (I.qu _) hw) (λ _ _ q=>q.nE) λ _ _ z=>False.elim z
end
section
variable {X:Cx}{st:Stmt}{rest:List Stmt}{t u:TS}{e:Expr}{te:TE}{pos:Pos}
def N8:TS:=λ D σ H=>D.nx σ H
def Qi(t u:TS):TS:=λ D σ H=>t {D with nx:=u D} σ H
def Kr:iS X [] N8:=λ _ _ σ H _ I h=>VR ⟨σ,H,I,h⟩
def GS(h1:PS X st t)(h2:iS X rest u):iS X (st::rest) (Qi t u):=by
 intro pins s σ H D I h;refine wpAny_execs_cons (cu (h1 pins s σ H {D with nx:=u D} I h) λ f s1 q=>?_);cases f with
 |next=>
  obtain⟨σ',H',I',q⟩:=q;exact h2 pins s1 σ' H' D I' q
 |ret v=>exact q
 |brk=>exact q
 |cont=>exact q
def Kg(h1:PS X st t):iS X [st] t:=by
 intro pins s σ H D I h;refine wpAny_execs_cons (cu (h1 pins s σ H D I h) λ f s1 q=>?_);cases f with
 |next=>exact VR q
 |ret v=>exact q
 |brk=>exact q
 |cont=>exact q
def Inv.quiet{pins:List (Addr×Obj)}{σ:St}{H:Hp}{s:Shared}(I:Inv X pins σ H s):interactive X.env=false:=by simp[interactive,I.ok.kind]
def O_(te:TE):TS:=λ D σ H=>te σ H λ _ H1=>D.nx σ H1
def Ks(he:PE X e te)(hs:swapsWith e none pos.line X.env=pure false:=by rfl):PS X (.Expr e pos) (O_ te):=by
 intro pins s σ H D I h;exact wpAny_Expr_any (cu (he pins s σ H _ I h) λ v s1 ⟨x,H1,I1,r1,q1⟩=>⟨σ,H1,I1,q1⟩) I.quiet hs
def QN(te:TE):TS:=λ D σ H=>te σ H D.rt
def L8(he:PE X e te):PS X (.Return (some e) pos) (QN te):=by
 intro pins s σ H D I h;exact wpAny_Return_some (cu (he pins s σ H _ I h) λ v s1 ⟨x,H1,I1,r1,q1⟩=>⟨x,σ,H1,I1,r1,q1⟩)
def Qf(c:TT)(t u:TS):TS:=λ D σ H=>c σ H λ b H1=>if b=true then t D σ H1 else u D σ H1
def Oa{c:Expr}{a b:List Stmt}{tc:TT}(hc:PT X c tc)(ha:iS X a t)(hb:iS X b u):PS X (.If c a b pos) (Qf tc t u):=by
 intro pins s σ H D I h;refine wpAny_If (cu (hc pins s σ H _ I h) λ d s1 ⟨H1,I1,q1⟩=>?_);cases d with
 |true=>exact ha pins s1 σ H1 D I1 q1
 |false=>exact hb pins s1 σ H1 D I1 q1
end
abbrev TG:=V->St->Hp->(St->Hp->Prop)->Prop
abbrev zY:=List V->St->Hp->(St->Hp->Prop)->Prop
def PG(X:Cx)(target:Expr)(t:TG):Prop:=
 ∀(pins:List (Addr×Obj)) (s:Shared) (σ:St) (H:Hp) (v:V) (u:Value) (Q:St->Hp->Prop),Inv X pins σ H s->RelV v u->t v σ H Q->
  wpAny (model X.prog X.w) X.A (assign target X.env u) (λ _ s'=>∃σ' H',Inv X pins σ' H' s'/\Q σ' H') X.xe s
def Fu(X:Cx)(ts:List Expr)(t:zY):Prop:=
 ∀(pins:List (Addr×Obj)) (s:Shared) (σ:St) (H:Hp) (vs:List V) (us:List Value) (Q:St->Hp->Prop),Inv X pins σ H s->Vals vs us->t vs σ H Q->
  wpAny (model X.prog X.w) X.A (assignInOrder ((assignEach ts X.env).map (·.2)) us) (λ _ s'=>∃σ' H',Inv X pins σ' H' s'/\Q σ' H') X.xe s
abbrev HP:=V->V->V->Hp->(Hp->Prop)->Prop
def Lu(X:Cx)(t:HP):Prop:=
 ∀(pins:List (Addr×Obj)) (s:Shared) (σ:St) (H:Hp) (o i v:V) (ov iv u:Value) (Q:Hp->Prop),Inv X pins σ H s->RelV o ov->RelV i iv->RelV v u->t o i v H Q->
  wpAny (model X.prog X.w) X.A (setItem ov iv u) (λ _ s'=>∃H',Inv X pins σ H' s'/\Q H') X.xe s
abbrev Ip:=V->V->Hp->VK->Prop
def Nf(X:Cx)(op:Operator)(t:Ip):Prop:=
 ∀(pins:List (Addr×Obj)) (s:Shared) (σ:St) (H:Hp) (x y:V) (v u:Value) (Q:VK),Inv X pins σ H s->RelV x v->RelV y u->t x y H Q->
  wpAny (model X.prog X.w) X.A (inplaceOp op v u) (EP X pins σ Q) X.xe s
section
variable {X:Cx}{pos:Pos}
def nc(i:Nat):TG:=λ v σ H Q=>Q (σ.set i (some v)) H
def xy{i:Nat}{x:Str}(hN:X.N.Nodup)(hi:X.N[i]?=some x)(hx:Loc X.env.scope x)(hf:X.fn x=true\/X.env.scope.names.lookup x=some .local:=by first|exact .inl rfl|exact .inr rfl|assumption):PG X (.Name x pos) (nc i):=by
 intro pins s σ H v u Q I r h;exact wpAny_assign_Name (o7 I hN hi hx r (λ s' I'=>⟨_,H,I',h⟩) hf)
def HW:zY:=λ vs σ H Q=>vs=[]/\Q σ H
def wQ(t:TG)(u:zY):zY:=λ vs σ H Q=>∃v r,vs=v::r/\t v σ H λ σ' H'=>u r σ' H' Q
def Ca:Fu X [] HW:=by
 intro pins s σ H vs us Q I r h;obtain⟨e,h⟩:=h;subst e;cases r;exact assignInOrder_nil ⟨σ,H,I,h⟩
def rJ{e:Expr}{es:List Expr}{t:TG}{u:zY}(h1:PG X e t)(h2:Fu X es u)
 (hs:(assignEach (e::es) X.env).map (·.2)=assign e X.env::(assignEach es X.env).map (·.2):=by rfl):Fu X (e::es) (wQ t u):=by
 intro pins s σ H vs us Q I r h;obtain⟨v,vr,e1,h⟩:=h;subst e1;cases r with
 |cons r rr=>
  rw[hs];refine Wa (cu (h1 pins s σ H _ _ _ I r h) λ _ s1 ⟨σ1,H1,I1,q1⟩=>?_);exact h2 pins s1 σ1 H1 _ _ Q I1 rr q1
def Ly(K:PySem.W.Frag)(n:Nat)(t:zY):TG:=λ v σ H Q=>∃a xs,v= .ref a/\jO K H a xs/\xs.length=n/\t xs σ H Q
def F7{es:List Expr}{k:Nat}{t:zY}{n:Nat}(hc:X.calm=true)(h:Fu X es t)
 (hn:(assignEach es X.env).length=n:=by rfl) (hst:(assignEach es X.env).findIdx? (·.1)=none:=by rfl):PG X (.Tuple es k pos) (Ly X.K n t):=by
 intro pins s σ H v u Q I r hw;obtain⟨a,xs,e1,hq,hl,hw⟩:=hw;subst e1;cases r;obtain⟨its,rv,ht,hz⟩:=I.tuple hq;refine assign_Tuple_tuple (I.ok.hd hc) ht (by simp[hn,<-hl,rv.length]) hst λ h' hx=>?_;have I1:Inv X pins σ H {s with heap:=h'}:=I.kept (t':=s.toks) λ b o e=>hx b o (Se (RW e)) e;exact h pins _ σ H xs _ Q I1 (by simpa using rv) hw
def xT(to ti:TE)(t:HP):TG:=λ v σ H Q=>to σ H λ o H1=>ti σ H1 λ i H2=>t o i v H2 λ H3=>Q σ H3
def xn{o i:Expr}{to ti:TE}{t:HP}(ho:PE X o to)(hi:PE X i ti)(hs:Lu X t)
 (ha:∀v,assign (.Subscript o i pos) X.env v=(do
   let ov <-holding [v] (eval o X.env)
   let iv <-holding [v,ov] (eval i X.env)
   standAt pos
   holding [v,ov,iv] (setItem ov iv v)
   release [v,ov,iv] []):=by intro _;rfl):PG X (.Subscript o i pos) (xT to ti t):=by
 intro pins s σ H v u Q I r h;rw[ha];refine Rw (UT (cu (ho pins s σ H _ I h) λ ov s1 ⟨x,H1,I1,r1,q1⟩=>?_));refine Rw (UT (cu (hi pins s1 σ H1 _ I1 q1) λ iv s2 ⟨y,H2,I2,r2,q2⟩=>?_));refine Rw (VH (Rw (UT (cu (hs pins s2 σ H2 x y v ov iv u _ I2 r1 r2 r q2) λ _ s3 ⟨H3,I3,q3⟩=>?_))));exact wpAny_release ⟨σ,H3,I3,q3⟩
def mR(te:TE)(g:TG):TS:=λ D σ H=>te σ H λ x H1=>g x σ H1 D.nx
def wM{tg e:Expr}{te:TE}{g:TG}(he:PE X e te)(hg:PG X tg g)(hs:swapsWithSole [tg] e pos.line X.env=pure false:=by rfl)(hw:swappedStores [tg] e X.env=pure none:=by rfl)
 (h1:(assignEach [tg] X.env).map (·.2)=[assign tg X.env]:=by rfl):PS X (.Assign [tg] e pos) (mR te g):=by
 intro pins s σ H D I h;refine wpAny_Assign_stores (cu (he pins s σ H _ I h) λ v s1 ⟨x,H1,I1,r1,q1⟩=>?_) hs hw;rw[h1];exact cu (hg pins s1 σ H1 x v _ I1 r1 q1) λ _ s2 q=>q
def NH{i:Nat}{x:Str}{e:Expr}{te:TE}{pos':Pos}(hN:X.N.Nodup)(hi:X.N[i]?=some x)(hx:Loc X.env.scope x)(he:PE X e te)(hs:swapsWith e (some (.Name x pos')) pos.line X.env=pure false:=by rfl)(hf:X.fn x=true\/X.env.scope.names.lookup x=some .local:=by first|exact .inl rfl|exact .inr rfl|assumption):
 PS X (.Assign [.Name x pos'] e pos) (mR te (nc i)):=by
 intro pins s σ H D I h;refine wpAny_Assign_Name (cu (he pins s σ H _ I h) λ v s1 ⟨y,H1,I1,r1,q1⟩=>?_) hs;exact o7 I1 hN hi hx r1 (λ s2 I2=>⟨_,H1,I2,q1⟩) hf
def MT(i j:Nat)(ta:TA):TS:=λ D σ H=>ta σ H λ vs H1=>∃v w,vs=[v,w]/\D.nx ((σ.set i (some v)).set j (some w)) H1
def NM{i j:Nat}{x y:Str}{a b:Expr}{ta:TA}{px py pt:Pos}{kt k2 pt2}(hc:X.calm=true)(hN:X.N.Nodup)(hi:X.N[i]?=some x)(hj:X.N[j]?=some y)(hij:i≠j)
 (hx:X.env.scope.names.lookup x=some .local) (hy:X.env.scope.names.lookup y=some .local) (ha:PA X [a,b] ta)
 (hw:swappedStores [.Tuple [.Name x px,.Name y py] kt pt] (.Tuple [a,b] k2 pt2) X.env=pure (some [x,y]))
 (hs:swapsWithSole [.Tuple [.Name x px,.Name y py] kt pt] (.Tuple [a,b] k2 pt2) pos.line X.env=pure false:=by rfl):
 PS X (.Assign [.Tuple [.Name x px,.Name y py] kt pt] (.Tuple [a,b] k2 pt2) pos) (MT i j ta):=by
 intro pins s σ H D I h;rw[exec_Assign_arm];refine Rw (VH ?_);rw[hs];refine Rw (RO ?_);rw[Rx (by decide)];refine Rw (Tuple_ (cu (ha _ pins s σ H _ I h) λ us s1 ⟨vs,H1,I1,r1,q1⟩=>?_));obtain⟨v,w,e1,q1⟩:=q1;subst e1
 obtain⟨u1,u2,rfl,rv,rw'⟩:∃u1 u2,us=[u1,u2]/\RelV v u1/\RelV w u2:=by
  cases r1 with
  |cons p q=>
   cases q with
   |cons p' q'=>
    cases q';exact⟨_,_,rfl,p,p'⟩
 refine Uo ?_ (by show 2<=sizeLine;decide);have I2:Inv X pins σ H1 {s1 with heap:=s1.heap.push {cls:= .type "tuple",data:= .seq [u1,u2].toArray}}:=I1.kept (t':=s1.toks) λ b o e=>RE _ e;rw[hw];refine Rw (RO ?_);show wpAny (model X.prog X.w) X.A (do rule "assign.swapped-stores";let items <-unpackItems (.ref s1.heap.objs.size) 2 none;assignInOrder [λ v=>bindName X.env y v,λ v=>bindName X.env x v] items.reverse;pure Flow.next) _ _ _;refine Rw (Vk (Rw (unpackItems_tuple (items:= #[u1,u2]) (I.ok.hd hc) (IsTup.new s1.heap _) λ h' hx'=>?_)));have I3:=I2.kept (h':=h') (t':=s1.toks) λ b o e=>hx' b o (Se (RW e)) e;show wpAny _ _ (assignInOrder [λ v=>bindName X.env y v,λ v=>bindName X.env x v] [u2,u1] >>= λ _=>pure Flow.next) _ _ _;refine Rw (Wa (wpAny_bindName (o7 I3 hN hj (.inl hy) rw' (λ s2 I4=>?_) (.inr hy))));refine Wa (wpAny_bindName (o7 I4 hN hi (.inl hx) rv (λ s3 I5=>assignInOrder_nil (RO ?_)) (.inr hx)));rw[List.set_comm _ _ (RK hij)]at I5;exact⟨_,H1,I5,q1⟩
def Nj(i:Nat)(te:TE)(ti:Ip):TS:=λ D σ H=>∃x,σ[i]?=some (some x)/\te σ H λ y H1=>ti x y H1 λ z H2=>D.nx (σ.set i (some z)) H2
def NW{i:Nat}{x:Str}{e:Expr}{te:TE}{op:Operator}{ti:Ip}{pos':Pos}(hN:X.N.Nodup)(hi:X.N[i]?=some x)(hx:Loc X.env.scope x)(he:PE X e te)(ho:Nf X op ti)(hf:X.fn x=true\/X.env.scope.names.lookup x=some .local:=by first|exact .inl rfl|exact .inr rfl|assumption):
 PS X (.AugAssign (.Name x pos') op e pos) (Nj i te ti):=by
 intro pins s σ H D I h;obtain⟨v,e1,h⟩:=h;obtain⟨m,hn,hl⟩:=I.loc;have vis:Bu X.env.scope x:=by rcases hx with k|k;exact .inl k;exact .inr (.inl k)
 obtain⟨u,r,l⟩:=hl i x v hi e1 vis;refine wpAny_AugAssign_Name ?_
 have go:wpAny (model X.prog X.w) X.A (eval e X.env) (λ w s₂=>wpAny (model X.prog X.w) X.A (inplaceOp op u w) (λ r s₃=>wpAny (model X.prog X.w) X.A (storeName X.env x r) (λ _=>SP X pins D .next) X.xe s₃) X.xe s₂) X.xe s:=by
  refine cu (he pins s σ H _ I h) λ w s1 ⟨y,H1,I1,r1,q1⟩=>?_;refine cu (ho pins s1 σ H1 v y u w _ I1 r r1 q1) λ z s2 ⟨zv,H2,I2,r2,q2⟩=>?_;exact o7 I2 hN hi hx r2 (λ s3 I3=>⟨_,H2,I3,q2⟩) hf
 rcases l with⟨hk,hm⟩|⟨hk,c,hc,hcell⟩
 . exact wpAny_loadName_local I.ok.kind hk hn hm go
 . rcases hk with hk|hk
   . exact wpAny_loadName_cell I.ok.kind hk hc hcell go
   . rcases hx with k|k
     . have:X.env.scope.names.lookup x=some .free:=hk;rw[k]at this;cases this
     . have:X.env.scope.names.lookup x=some .free:=hk;rw[k]at this;cases this
def NL(f:Int->Int->Int):Ip:=λ x y H Q=>∃i j,x= .int i/\y= .int j/\Q (.int (f i j)) H
def Nq:Nf X .Add (NL λ i j=>i+j):=by
 intro pins s σ H x y v u Q I r1 r2 h;obtain⟨i,j,e1,e2,q⟩:=h;subst e1;subst e2;obtain⟨t,rfl⟩:=r1;obtain⟨t',rfl⟩:=r2;exact iadd_int ⟨.int _,H,I.tok _,⟨_,rfl⟩,q⟩
def F3(c:TT)(tb:TS):TS:=λ D σ H=>∃W:Nat->St->Hp->Prop,(∃m,W m σ H)/\∀m σ H,W m σ H->
 c σ H λ b H1=>if b=true then∃N:St->Hp->Prop,(∀σ' H',N σ' H'->∃m',m'<m/\W m' σ' H')/\tb {D with nx:=N,ct:=N,bk:=D.nx} σ H1 else D.nx σ H1
def HF{c:Expr}{body:List Stmt}{tc:TT}{tb:TS}(hp:PassesOwn (model X.prog X.w) X.A X.env X.xe)(hc:PT X c tc)(hb:iS X body tb):PS X (.While c body [] pos) (F3 tc tb):=by
 intro pins s σ H D I h;obtain⟨W,⟨m0,w0⟩,turn⟩:=h;refine wpAny_While (codeAny_whileLoop (λ n s'=>∃σ' H',Inv X pins σ' H' s'/\W n σ' H') ?_ m0 ⟨σ,H,I,w0⟩);rintro n s1 ⟨σ1,H1,I1,w1⟩;refine UA hp (cu (hc pins s1 σ1 H1 _ I1 (turn n σ1 H1 w1)) λ b s2 ⟨H2,I2,q2⟩=>?_);cases b with
 |true=>
  obtain⟨N,hN,q2⟩:=q2;rw[RC rfl];refine UA hp (cu (hb pins s2 σ1 H2 _ I2 q2) λ f s3 q3=>?_);cases f with
  |next=>
   obtain⟨σ3,H3,I3,n3⟩:=q3;obtain⟨m',hm,w3⟩:=hN σ3 H3 n3;exact⟨m',hm,σ3,H3,I3,w3⟩
  |cont=>
   obtain⟨σ3,H3,I3,n3⟩:=q3;obtain⟨m',hm,w3⟩:=hN σ3 H3 n3;exact⟨m',hm,σ3,H3,I3,w3⟩
  |brk=>exact q3
  |ret v=>exact q3
 |false=>
  rw[Rx Sb];exact VR ⟨σ1,H2,I2,q2⟩
end
structure It where
 go:Nat->Hp->Prop
 qI:Nat->Hp->V->Hp->Prop
 stop:Nat->Hp->Prop
def m6(X:Cx)(pins:List (Addr×Obj))(H:Hp)(b:Addr):Prop:=
 H b=none/\b≠X.env.locals/\b∉X.fs/\(b∈X.ex\/X.s₀.heap.objs.size<=b)/\(∀x c,X.env.cells.lookup x=some c->c≠b)/\∀p∈X.pn++pins,p.1≠b
def Inv.yi{X:Cx}{pins:List (Addr×Obj)}{σ:St}{H H':Hp}{s:Shared}{b:Addr}(I:Inv X pins σ H s)(hb:s.heap.objs.size<=b)(hn:H' b=none):m6 X pins H' b:=by
 refine⟨hn,TL (RQ I.lt hb),I.Mo hb,.inr (RH I.sz hb),λ x c e z=>?_,λ p hp z=>?_⟩
 . obtain⟨v,q⟩:=I.cell x c e;exact absurd (RQ q.lt (by rw[z];exact hb)) (TY _)
 . exact absurd (RQ (RW (I.pin p hp).1) (by rw[z];exact hb)) (TY _)
structure Turn(P:Program)(w:World)(K:PySem.W.Frag)(tg:Expr)(J:It)(fp:List Addr)(it:Addr)(tn:Nat->Heap->Prop):Prop where
 mem:it∈fp
 obj:∀i h,tn i h->∀b∈fp,∃o,h.get? b=some o/\∀v,o.data≠ .cell v
 keep:∀i h h',tn i h->(∀b∈fp,∀o,h.get? b=some o->h'.get? b=some o)->tn i h'
 item:∀(X:Cx),X.prog=P->X.w=w->X.K=K->X.calm=true->∀(i:Nat) (pins:List (Addr×Obj)) (s:Shared) (σ:St) (H:Hp) (E:Value->Shared->Prop),Inv X pins σ H s->(∀b∈fp,m6 X pins H b)->tn i s.heap->J.go i H->
  wpAny (model P w) X.A (pyNext (.ref it)) (λ r s1=>∃u,r=some u/\
   wpAny (model P w) X.A (letOwnedTupleGo tg (.ref it) u) (λ _ s2=>∃x H',Inv X pins σ H' s2/\RelV x u/\J.qI i H x H'/\tn (i+1) s2.heap/\∀b∈fp,H' b=none) E s1) E s
 done:∀(X:Cx),X.prog=P->X.w=w->X.K=K->X.calm=true->∀(i:Nat) (pins:List (Addr×Obj)) (s:Shared) (σ:St) (H:Hp) (E:Value->Shared->Prop),Inv X pins σ H s->(∀b∈fp,m6 X pins H b)->tn i s.heap->J.stop i H->
  wpAny (model P w) X.A (pyNext (.ref it)) (λ r s1=>r=none/\Inv X pins σ H s1) E s
 self:∀(A:Around) (i:Nat) (s:Shared) (Q:Value->Shared->Prop) (E:Value->Shared->Prop),tn i s.heap->Q (.ref it) s->wpAny (model P w) A (pyIter (.ref it)) Q E s
abbrev TI:=St->Hp->(It->Hp->Prop)->Prop
def Jo(X:Cx)(pins:List (Addr×Obj))(σ:St)(tg:Expr)(R:It->Hp->Prop)(itv:Value)(s2:Shared):Prop:=
 ∃(it:Addr) (fp:List Addr) (tn:Nat->Heap->Prop) (J:It) (H':Hp),itv= .ref it/\Inv X pins σ H' s2/\Turn X.prog X.w X.K tg J fp it tn/\tn 0 s2.heap/\(∀b∈fp,m6 X pins H' b)/\R J H'
def PI(X:Cx)(tg iter:Expr)(wi:TI):Prop:=
 ∀(pins:List (Addr×Obj)) (s:Shared) (σ:St) (H:Hp) (R:It->Hp->Prop),Inv X pins σ H s->wi σ H R->
  wpAny (model X.prog X.w) X.A (eval iter X.env) (λ v s1=>wpAny (model X.prog X.w) X.A (pyIter v) (Jo X pins σ tg R) X.xe s1) X.xe s
def CT{M:Model}{A:Around}{E:Value->Shared->Prop}{s:Shared}{tg:Expr}{it:Addr}{u:Value}{o:Obj}{n:String}{vs:Array Value}{Q:Unit->Shared->Prop}(ho:s.heap.get? it=some o)(hc:o.cls= .type n)(hd:o.data= .fields vs)
 (hn: ["enumerate","zip","dict_itemiterator","dict_reverseitemiterator","odict_iterator","itertools.zip_longest","itertools.pairwise"].contains n=false) (hQ:Q () s):wpAny M A (letOwnedTupleGo tg (.ref it) u) Q E s:=by
 unfold letOwnedTupleGo
 cases tg<;>first
  |exact RO hQ
  |(cases u<;>first
     |exact RO hQ
     |(refine Rw (wpAny_load ho ?_)
       rw[hc,hd];show wpAny M A (if(["enumerate","zip","dict_itemiterator","dict_reverseitemiterator","odict_iterator","itertools.zip_longest","itertools.pairwise"].contains n&&vs[0]?==some (rawInt _))=true then _ else _) Q E s;rw[Rx (by intro h;rw[hn,Bool.false_and]at h;cases h)];exact RO hQ))
def Nm(K:PySem.W.Frag)(a:Addr):It:=
 ⟨λ i H=>∃xs x,mF K H a xs/\xs[i]?=some x,λ i H x H'=>H'=H/\∀xs,mF K H a xs->xs[i]?=some x,λ i H=>∃xs,mF K H a xs/\xs.length<=i⟩
def M0(K:PySem.W.Frag)(a:Addr):It:=
 ⟨λ i H=>∃xs x,jO K H a xs/\xs[i]?=some x,λ i H x H'=>H'=H/\∀xs,jO K H a xs->xs[i]?=some x,λ i H=>∃xs,jO K H a xs/\xs.length<=i⟩
def yC(lo:Int)(n:Nat):It:=⟨λ i _=>i<n,λ i H x H'=>H'=H/\x= .int (lo+i),λ i _=>n<=i⟩
def Ex{P:Program}{w:World}{K:PySem.W.Frag}{tg:Expr}(a it:Addr):Turn P w K tg (Nm K a) [it] it (λ i h=>h.IsListIter it a i) where
 mem:=by simp
 obj:=λ i h st b hb=>by
  have e:b=it:=by simpa using hb
  subst e;obtain⟨o,e,c,d⟩:=st;exact⟨o,e,λ v z=>by rw[d]at z;cases z⟩
 keep:=λ i h h' st k=>st.at λ o e=>k it (by simp) o e
 item:=by
  intro X hP hw hK hc i pins s σ H E I hf st hg;subst hP hw hK;obtain⟨xs,x,hq,hx⟩:=hg;obtain⟨its,rv,p,hz⟩:=I.list hq;obtain⟨u,hu,ru⟩:=rv.get hx;obtain⟨f0,f1,f2,f3,f4,f5⟩:=hf it (by simp);refine wpAny_pyNext_list_item st p.isList (x:=u) (by simpa using hu) λ h' st' sb=>?_;have I1:Inv X pins σ H {s with heap:=h'}:=I.turned (t':=s.toks) (λ b o hb e=>(sb.2 b hb).trans e) f0 f1 f3 f4 f5;obtain⟨o,e,c,d⟩:=id st';exact⟨u,rfl,CT (s:={s with heap:=h'}) e c d (by decide) ⟨x,H,I1,ru,⟨rfl,λ ys hy=>by rw[I.A6 hy hq];exact hx⟩,st',λ b hb=>(hf b hb).1⟩⟩
 done:=by
  intro X hP hw hK hc i pins s σ H E I hf st hg;subst hP hw hK;obtain⟨xs,hq,hx⟩:=hg;obtain⟨its,rv,p,hz⟩:=I.list hq;obtain⟨f0,f1,f2,f3,f4,f5⟩:=hf it (by simp);have hl:=rv.length;exact wpAny_pyNext_list_end (I.ok.hd hc) st p.isList (by simp;omega) λ h' eb=>⟨rfl,I.turned (t':=s.toks) (λ b o hb e=>eb b o hb e) f0 f1 f3 f4 f5⟩
 self:=λ _ _ _ _ _ st h=>wpAny_pyIter_listiter st h
def Dw{P:Program}{w:World}{K:PySem.W.Frag}{tg:Expr}(a it:Addr):Turn P w K tg (M0 K a) [it] it (λ i h=>h.IsTupleIter it a i) where
 mem:=by simp
 obj:=λ i h st b hb=>by
  have e:b=it:=by simpa using hb
  subst e;obtain⟨o,e,c,d⟩:=st;exact⟨o,e,λ v z=>by rw[d]at z;cases z⟩
 keep:=λ i h h' st k=>st.at λ o e=>k it (by simp) o e
 item:=by
  intro X hP hw hK hc i pins s σ H E I hf st hg;subst hP hw hK;obtain⟨xs,x,hq,hx⟩:=hg;obtain⟨its,rv,p,hz⟩:=I.tuple hq;obtain⟨u,hu,ru⟩:=rv.get hx;obtain⟨f0,f1,f2,f3,f4,f5⟩:=hf it (by simp);refine wpAny_pyNext_tuple_item st (show s.heap.IsTuple a its.toArray from p) (x:=u) (by simpa using hu) λ h' st' sb=>?_;have I1:Inv X pins σ H {s with heap:=h'}:=I.turned (t':=s.toks) (λ b o hb e=>(sb.2 b hb).trans e) f0 f1 f3 f4 f5;obtain⟨o,e,c,d⟩:=id st';exact⟨u,rfl,CT (s:={s with heap:=h'}) e c d (by decide) ⟨x,H,I1,ru,⟨rfl,λ ys hy=>by rw[I.yL hy hq];exact hx⟩,st',λ b hb=>(hf b hb).1⟩⟩
 done:=by
  intro X hP hw hK hc i pins s σ H E I hf st hg;subst hP hw hK;obtain⟨xs,hq,hx⟩:=hg;obtain⟨its,rv,p,hz⟩:=I.tuple hq;obtain⟨f0,f1,f2,f3,f4,f5⟩:=hf it (by simp);have hl:=rv.length;exact wpAny_pyNext_tuple_end (I.ok.hd hc) st (show s.heap.IsTuple a its.toArray from p) (by simp;omega) λ h' eb=>⟨rfl,I.turned (t':=s.toks) (λ b o hb e=>eb b o hb e) f0 f1 f3 f4 f5⟩
 self:=λ _ _ _ _ _ st h=>wpAny_pyIter_tupleiter st h
def Dq{P:Program}{w:World}{K:PySem.W.Frag}{tg:Expr}(it:Addr)(lo:Int)(n:Nat):Turn P w K tg (yC lo n) [it] it (λ i h=>IsRangeIter h it (lo+(i:Nat)*1) ((n:Int)-(i:Nat)) 1) where
 mem:=by simp
 obj:=λ i h st b hb=>by
  have e:b=it:=by simpa using hb
  subst e
  exact⟨_,st,λ v z=>by
   have z':Data.fields _=Data.cell v:=z;cases z'⟩
 keep:=λ i h h' st k=>k it (by simp) _ st
 item:=by
  intro X hP hw hK hc i pins s σ H E I hf st hg;subst hP hw hK;obtain⟨f0,f1,f2,f3,f4,f5⟩:=hf it (by simp);have W:=Walks.range (prog:=X.prog) (w:=X.w) (I.ok.hd hc) it lo 1 n;refine W.item i s _ _ hg st λ v h' tk hv st' kk=>?_;obtain⟨t,rfl⟩:=hv;have I1:Inv X pins σ H {s with heap:=h',toks:=tk}:=I.turned (λ b o hb e=>kk b o (by simpa using hb) e) f0 f1 f3 f4 f5;refine⟨_,rfl,CT (s:={s with heap:=h',toks:=tk}) (n:="range_iterator") st' rfl rfl (by decide) ⟨.int (lo+i),H,I1,⟨t,?_⟩,⟨rfl,rfl⟩,st',λ b hb=>(hf b hb).1⟩⟩;rw[Tv]
 done:=by
  intro X hP hw hK hc i pins s σ H E I hf st hg;subst hP hw hK;obtain⟨f0,f1,f2,f3,f4,f5⟩:=hf it (by simp);exact wpAny_pyNext_range_end (I.ok.hd hc) st (by have:n<=i:=hg;omega) λ h' eb=>⟨rfl,I.turned (t':=s.toks) (λ b o hb e=>eb b o hb e) f0 f1 f3 f4 f5⟩
 self:=λ _ _ _ _ _ st h=>wpAny_pyIter_rangeiter st h
section
variable {X:Cx}{tg:Expr}
def Aj{pins:List (Addr×Obj)}{σ:St}{H:Hp}{s:Shared}{R:It->Hp->Prop}{E:Value->Shared->Prop}{lo hi:Int}{t u v:Tok}{tk:Nat}(I:Inv X pins σ H s)(h1: -(2^62)<=lo)(h2:lo<2^62)(h3: -(2^62)<=hi)(h4:hi<2^62)
 (q:R (yC lo (hi-lo).toNat) H):wpAny (model X.prog X.w) X.A (pyIter (.ref s.heap.objs.size)) (Jo X pins σ tg R) E {s with heap:=s.heap.push {cls:= .type "range",data:= .fields #[.int lo t,.int hi u,.int 1 v]},toks:=tk}:=by
 refine wpAny_pyIter_range (IsRange.new ..) (small_one h1 h2 h3 h4) ?_;have I1:Inv X pins σ H {s with heap:=s.heap.push {cls:= .type "range",data:= .fields #[.int lo t,.int hi u,.int 1 v]},toks:=tk}:=I.kept λ b o e=>RE _ e
 refine⟨(s.heap.push {cls:= .type "range",data:= .fields #[.int lo t,.int hi u,.int 1 v]}).objs.size,[(s.heap.push {cls:= .type "range",data:= .fields #[.int lo t,.int hi u,.int 1 v]}).objs.size],_,_,H,rfl,
  I1.kept (t':=tk) λ b o e=>RE _ e,Dq _ lo (hi-lo).toNat,?_,λ b hb=>?_,q⟩
 . have e1:lo+((0:Nat):Int)*1=lo:=by simp
   have e2:(((hi-lo).toNat:Nat):Int)-((0:Nat):Int)=Builtin.Range.rangeSize lo hi 1:=by rw[rangeSize_one];split<;>omega
   show IsRangeIter _ _ (lo+((0:Nat):Int)*1) ((((hi-lo).toNat:Nat):Int)-((0:Nat):Int)) 1;rw[e1,e2];exact R_ _ rfl
 . have e:b=(s.heap.push {cls:= .type "range",data:= .fields #[.int lo t,.int hi u,.int 1 v]}).objs.size:=by simpa using hb
   subst e;exact I1.yi (Rv _) (I1.aM.fresh (Rv _))
def D8(ta:TA):TI:=λ σ H R=>ta σ H λ vs H1=>∃j:Int,vs=[.int j]/\ -(2^62)<=j/\j<2^62/\R (yC 0 j.toNat) H1
def DN(ta:TA):TI:=λ σ H R=>ta σ H λ vs H1=>∃i j:Int,vs=[.int i,.int j]/\(-(2^62)<=i/\i<2^62/\ -(2^62)<=j/\j<2^62)/\R (yC i (j-i).toNat) H1
def Ge{a:Expr}{ta:TA}{p pos:Pos}(hg:Gl X "range")(hm:X.mg "range"=none)(ha:PA X [a] ta)(hs:starEach [a] X.env=[(false,eval a X.env)]:=by rfl):PI X tg (.Call (.Name "range" p) [a] [] pos) (D8 ta):=by
 intro pins s σ H R I h;refine Call_ (o_ I hg hm boot_range (T5 (cu (ha pos pins s σ H _ I h) λ us s1 ⟨vs,H1,I1,r1,q1⟩=>?_) hs rfl));obtain⟨j,e,q1,q2,q⟩:=q1;subst e;cases r1 with
 |cons r rr=>
  cases rr;obtain⟨t,rfl⟩:=r;exact call_range_1 (Aj I1 (by omega) (by omega) q1 q2 (by simpa using q))
def EJ{a b:Expr}{ta:TA}{p pos:Pos}(hg:Gl X "range")(hm:X.mg "range"=none)(ha:PA X [a,b] ta)(hs:starEach [a,b] X.env=[(false,eval a X.env),(false,eval b X.env)]:=by rfl)(hs2:starEach [b] X.env=[(false,eval b X.env)]:=by rfl):
 PI X tg (.Call (.Name "range" p) [a,b] [] pos) (DN ta):=by
 intro pins s σ H R I h;refine Call_ (o_ I hg hm boot_range (T5 (cu (ha pos pins s σ H _ I h) λ us s1 ⟨vs,H1,I1,r1,q1⟩=>?_) (by rw[hs,hs2]) (by rw[hs2];rfl)));obtain⟨i,j,e,⟨q1,q2,q3,q4⟩,q⟩:=q1;subst e;cases r1 with
 |cons r rr=>
  cases rr with
  |cons r' rr=>
   cases rr;obtain⟨t,rfl⟩:=r;obtain⟨t',rfl⟩:=r';exact call_range_2 (Aj I1 q1 q2 q3 q4 q)
def Mf(wi:TI)(g:TG)(tb:TS):TS:=λ D σ H=>wi σ H λ J H1=>∃W:Nat->Nat->St->Hp->Prop,(∃m,W 0 m σ H1)/\∀i m σ H,W i m σ H->
 (J.stop i H/\D.nx σ H)\/(J.go i H/\∃N:St->Hp->Prop,(∀σ' H',N σ' H'->∃m',m'<m/\W (i+1) m' σ' H')/\∀x H',J.qI i H x H'->g x σ H' λ σ2 H2=>tb {D with nx:=N,ct:=N,bk:=D.nx} σ2 H2)
def tZ(fp:List Addr)(h:Heap):List (Addr×Obj):=fp.filterMap λ b=>(h.get? b).map λ o=>(b,o)
def oB{fp:List Addr}{h:Heap}{b:Addr}{o:Obj}(hb:b∈fp)(e:h.get? b=some o):(b,o)∈tZ fp h:=Vt.mpr ⟨b,hb,by rw[e];rfl⟩
def FD{fp:List Addr}{h:Heap}{p:Addr×Obj}(hp:p∈tZ fp h):p.1∈fp/\h.get? p.1=some p.2:=by
 obtain⟨b,hb,e⟩:=Vt.mp hp;cases q:h.get? b with
 |none=>rw[q]at e;cases e
 |some o=>
  rw[q]at e;have e':(b,o)=p:=SS e;subst e';exact⟨hb,q⟩
def Inv.pinned{pins:List (Addr×Obj)}{σ:St}{H:Hp}{s:Shared}{fp:List Addr}(I:Inv X pins σ H s)(hf:∀b∈fp,m6 X pins H b)(ho:∀b∈fp,∃o,s.heap.get? b=some o/\∀v,o.data≠ .cell v):Inv X (pins++tZ fp s.heap) σ H s:=
 I.ux λ p hp=>(SH.mp hp).elim (λ z=>I.pin p (RZ _ z)) λ z=>by
  obtain⟨hb,e⟩:=FD z;obtain⟨f0,f1,f2,_⟩:=hf p.1 hb;obtain⟨o,e',d⟩:=ho p.1 hb;rw[e]at e';cases e';exact⟨e,f0,f1,f2,d⟩
def Inv.i4{pins pl:List (Addr×Obj)}{σ:St}{H:Hp}{s:Shared}(I:Inv X (pins++pl) σ H s):Inv X pins σ H s:=I.ux λ p hp=>I.pin p (RZ _ (Tr _ hp))
def Nu{iter:Expr}{body:List Stmt}{wi:TI}{g:TG}{tb:TS}{pos:Pos}(hp:PassesOwn (model X.prog X.w) X.A X.env X.xe)(hc:X.calm=true)(hi:PI X tg iter wi)(hg:PG X tg g)(hb:iS X body tb)
 (hs:∀x,foldedSetIterable iter X.env x=pure x:=by intro _;rfl):PS X (.For tg iter body [] pos) (Mf wi g tb):=by
 intro pins s σ H D I h;refine wpAny_For (cu (hi pins s σ H _ I h) λ v s1 h1=>cu h1 λ itv s2 h2=>?_) hs;obtain⟨it,fp,tn,J,H2,e,I2,T,st2,f2,W,⟨m0,w0⟩,turn⟩:=h2;subst e;have stat:∀ {H':Hp},(∀b∈fp,H' b=none)->∀b∈fp,m6 X pins H' b:=λ hn b hb=>⟨hn b hb,(f2 b hb).2⟩
 refine codeAny_forLoop_any (λ n s'=>∃i σ' H',Inv X pins σ' H' s'/\tn i s'.heap/\(∀b∈fp,H' b=none)/\W i n σ' H') ?_ m0 ⟨0,σ,H2,I2,st2,λ b hb=>(f2 b hb).1,w0⟩;rintro n s3 ⟨i,σ3,H3,I3,st3,fr3,w3⟩;rcases turn i n σ3 H3 w3 with⟨stop,qn⟩|⟨go,N,hN,step⟩
 . refine UA hp (cu (T.done X rfl rfl rfl hc i pins s3 σ3 H3 X.xe I3 (stat fr3) st3 stop) λ r s4 ⟨hr,I4⟩=>?_);subst hr;exact VR ⟨σ3,H3,I4,qn⟩
 . refine UA hp (cu (T.item X rfl rfl rfl hc i pins s3 σ3 H3 X.xe I3 (stat fr3) st3 go) λ r s4 ⟨u,hr,h4⟩=>?_);subst hr;refine UA hp (cu h4 λ _ s5 ⟨x,H5,I5,r5,y5,st5,fr5⟩=>?_);have I5':=I5.pinned (stat fr5) (T.obj _ _ st5);refine UA hp (cu (hg _ s5 σ3 H5 x u _ I5' r5 (step x H5 y5)) λ _ s6 ⟨σ6,H6,I6,q6⟩=>?_);refine UA hp (cu (hb _ s6 σ6 H6 _ I6 q6) λ f s7 q7=>?_)
   have again:∀ {σ7:St} {H7:Hp},Inv X (pins++tZ fp s5.heap) σ7 H7 s7->N σ7 H7->∃m,m<n/\∃i σ' H',Inv X pins σ' H' s7/\tn i s7.heap/\(∀b∈fp,H' b=none)/\W i m σ' H':=λ{σ7 H7} I7 n7=>by
    obtain⟨m',hm,w7⟩:=hN σ7 H7 n7;refine⟨m',hm,i+1,σ7,H7,I7.i4,T.keep _ _ _ st5 λ b hb o e=>(I7.pin (b,o) (RZ _ (RZ _ (oB hb e)))).1,λ b hb=>?_,w7⟩;obtain⟨o,e,d⟩:=T.obj _ _ st5 b hb;exact(I7.pin (b,o) (RZ _ (RZ _ (oB hb e)))).2.1
   cases f with
   |next=>obtain⟨σ7,H7,I7,n7⟩:=q7;exact again I7 n7
   |cont=>obtain⟨σ7,H7,I7,n7⟩:=q7;exact again I7 n7
   |brk=>obtain⟨σ7,H7,I7,q7⟩:=q7;exact⟨σ7,H7,I7.i4,q7⟩
   |ret v=>obtain⟨x7,σ7,H7,I7,r7,q7⟩:=q7;exact⟨x7,σ7,H7,I7.i4,r7,q7⟩
end
def jT{lo:Int}{n:Nat}{g:TG}{tb:TS}{D:Ends}{σ:St}{H:Hp}(Pv:Nat->St->Hp->Prop)(h0:Pv 0 σ H)
 (hs:∀i σ H,i<n->Pv i σ H->g (.int (lo+i)) σ H λ σ2 H2=>tb {D with nx:=Pv (i+1),ct:=Pv (i+1),bk:=D.nx} σ2 H2) (hd:∀σ H,Pv n σ H->D.nx σ H):
 ∃W:Nat->Nat->St->Hp->Prop,(∃m,W 0 m σ H)/\∀i m σ H,W i m σ H->
  ((yC lo n).stop i H/\D.nx σ H)\/((yC lo n).go i H/\∃N:St->Hp->Prop,(∀σ' H',N σ' H'->∃m',m'<m/\W (i+1) m' σ' H')/\∀x H',(yC lo n).qI i H x H'->g x σ H' λ σ2 H2=>tb {D with nx:=N,ct:=N,bk:=D.nx} σ2 H2):=by
 refine⟨λ i m σ H=>m=n-i/\i<=n/\Pv i σ H,⟨n,by simp,RX _,h0⟩,?_⟩;rintro i m σ H ⟨rfl,hi,p⟩;by_cases hlt:i<n
 . refine .inr ⟨hlt,Pv (i+1),λ σ' H' p'=>⟨n-(i+1),by omega,rfl,hlt,p'⟩,λ x H' y=>?_⟩;obtain⟨e,y⟩:=y;subst e y;exact hs i σ _ hlt p
 . have e:i=n:=by omega
   subst e;exact .inl ⟨Rv _,hd σ H p⟩
abbrev R2:=V->V->Hp->VK->Prop
def cf(X:Cx)(f:Value->Value->Sem Value)(r:R2):Prop:=
 ∀(pins:List (Addr×Obj)) (s:Shared) (σ:St) (H:Hp) (x y:V) (v u:Value) (Q:VK),Inv X pins σ H s->RelV x v->RelV y u->r x y H Q->
  wpAny (model X.prog X.w) X.A (f v u) (EP X pins σ Q) X.xe s
def Cu(X:Cx)(f:Value->Sem Value)(r:V->Hp->VK->Prop):Prop:=
 ∀(pins:List (Addr×Obj)) (s:Shared) (σ:St) (H:Hp) (x:V) (v:Value) (Q:VK),Inv X pins σ H s->RelV x v->r x H Q->
  wpAny (model X.prog X.w) X.A (f v) (EP X pins σ Q) X.xe s
def bR(X:Cx)(f:Value)(r:List V->Hp->VK->Prop):Prop:=
 ∀(pins:List (Addr×Obj)) (s:Shared) (σ:St) (H:Hp) (xs:List V) (us:List Value) (Q:VK),Inv X pins σ H s->Vals xs us->r xs H Q->
  wpAny (model X.prog X.w) X.A (call f us) (EP X pins σ Q) X.xe s
def En(r:R2)(ta tb:TE):TE:=λ σ H Q=>ta σ H λ x H1=>tb σ H1 λ y H2=>r x y H2 Q
def PD(r:V->Hp->VK->Prop)(ta:TE):TE:=λ σ H Q=>ta σ H λ x H1=>r x H1 Q
def rI(C:Int->Int->Prop)(g:Int->Int->V):R2:=λ x y H Q=>∃i j,x= .int i/\y= .int j/\C i j/\Q (g i j) H
def yy(g:Int->Int->V):R2:=λ x y H Q=>∃i j,x= .int i/\y= .int j/\Q (g i j) H
def rU(g:Int->V):V->Hp->VK->Prop:=λ x H Q=>∃i,x= .int i/\Q (g i) H
section
variable {X:Cx}{a b c:Expr}{ta tb tc:TE}{pos:Pos}
def Gu(ha:PE X a ta)(hb:PE X b tb){pins:List (Addr×Obj)}{s:Shared}{σ:St}{H:Hp}{R:V->V->Hp->Prop}(I:Inv X pins σ H s)
 (h:ta σ H λ x H1=>tb σ H1 λ y H2=>R x y H2) {Q:Value->Shared->Prop} {f:Value->Value->Sem Value}
 (hf:∀v u s2 x y H2,Inv X pins σ H2 s2->RelV x v->RelV y u->R x y H2->wpAny (model X.prog X.w) X.A (f v u) Q X.xe s2):
 wpAny (model X.prog X.w) X.A (eval a X.env) (λ v s₁=>wpAny (model X.prog X.w) X.A (eval b X.env) (λ u s₂=>wpAny (model X.prog X.w) X.A (f v u) Q X.xe s₂) X.xe s₁) X.xe s:=by
 refine cu (ha pins s σ H _ I h) λ v s1 ⟨x,H1,I1,r1,q1⟩=>?_;refine cu (hb pins s1 σ H1 _ I1 q1) λ u s2 ⟨y,H2,I2,r2,q2⟩=>?_;exact hf v u s2 x y H2 I2 r1 r2 q2
def OW{op:Operator}{r:R2}(ho:cf X (binaryOp op) r)(ha:PE X a ta)(hb:PE X b tb):PE X (.BinOp a op b pos) (En r ta tb):=by
 intro pins s σ H Q I h;exact wpAny_BinOp (Gu ha hb I h λ v u s2 x y H2 I2 rx ry q=>ho pins s2 σ H2 x y v u Q I2 rx ry q)
def OV{op:UnaryOp}{r:V->Hp->VK->Prop}(ho:Cu X (unaryOp op) r)(ha:PE X a ta):PE X (.UnaryOp op a pos) (PD r ta):=by
 intro pins s σ H Q I h;exact UnaryOp_ (cu (ha pins s σ H _ I h) λ v s1 ⟨x,H1,I1,r1,q1⟩=>ho pins s1 σ H1 x v Q I1 r1 q1)
def Ii{f:Value->Value->Sem Value}{C:Int->Int->Prop}{g:Int->Int->Int}
 (rule:∀(i j:Int) (t u:Tok) (s:Shared) (Q:Value->Shared->Prop) (E:Value->Shared->Prop),C i j->Q (.int (g i j) s.toks) {s with toks:=s.toks+1}->wpAny (model X.prog X.w) X.A (f (.int i t) (.int j u)) Q E s):
 cf X f (rI C λ i j=> .int (g i j)):=by
 intro pins s σ H x y v u Q I rx ry h;obtain⟨i,j,rfl,rfl,hc,q⟩:=h;obtain⟨t,rfl⟩:=rx;obtain⟨t',rfl⟩:=ry;exact rule i j t t' s _ _ hc ⟨.int (g i j),H,I.tok _,⟨_,rfl⟩,q⟩
def MC{f:Value->Value->Sem Value}{g:Int->Int->Int}
 (rule:∀(i j:Int) (t u:Tok) (s:Shared) (Q:Value->Shared->Prop) (E:Value->Shared->Prop),Q (.int (g i j) s.toks) {s with toks:=s.toks+1}->wpAny (model X.prog X.w) X.A (f (.int i t) (.int j u)) Q E s):
 cf X f (yy λ i j=> .int (g i j)):=by
 intro pins s σ H x y v u Q I rx ry h;obtain⟨i,j,rfl,rfl,q⟩:=h;obtain⟨t,rfl⟩:=rx;obtain⟨t',rfl⟩:=ry;exact rule i j t t' s _ _ ⟨.int (g i j),H,I.tok _,⟨_,rfl⟩,q⟩
def GP{f:Value->Value->Sem Value}{g:Int->Int->Bool}
 (rule:∀(i j:Int) (t u:Tok) (s:Shared) (Q:Value->Shared->Prop) (E:Value->Shared->Prop),Q (.bool (g i j)) s->wpAny (model X.prog X.w) X.A (f (.int i t) (.int j u)) Q E s):
 cf X f (yy λ i j=> .bl (g i j)):=by
 intro pins s σ H x y v u Q I rx ry h;obtain⟨i,j,rfl,rfl,q⟩:=h;obtain⟨t,rfl⟩:=rx;obtain⟨t',rfl⟩:=ry;exact rule i j t t' s _ _ ⟨.bl (g i j),H,I,rfl,q⟩
def Gq(i j:Int):Prop:=0<=j/\j<=1000000/\i.natAbs<2^64
def M6:cf X (binaryOp .Add) (yy λ i j=> .int (i+j)):=MC λ _ _ _ _ _ _ _ q=>add_int q
def LP:cf X (binaryOp .Sub) (yy λ i j=> .int (i-j)):=MC λ _ _ _ _ _ _ _ q=>sub_int q
def KP:cf X (binaryOp .Mod) (rI (λ _ j=>j≠0) λ i j=> .int (i.fmod j)):=Ii λ _ _ _ _ _ _ _ hc q=>mod_int' hc q
def Lp:cf X (binaryOp .Pow) (rI Gq λ i j=> .int (i^j.toNat)):=Ii λ _ _ _ _ _ _ _ hc q=>pow_int_small hc.1 hc.2.1 hc.2.2 q
def Ra{f:Value->Sem Value}{g:Int->Int}
 (rule:∀(i:Int) (t:Tok) (s:Shared) (Q:Value->Shared->Prop) (E:Value->Shared->Prop),Q (.int (g i) s.toks) {s with toks:=s.toks+1}->wpAny (model X.prog X.w) X.A (f (.int i t)) Q E s):
 Cu X f (rU λ i=> .int (g i)):=by
 intro pins s σ H x v Q I rx h;obtain⟨i,rfl,q⟩:=h;obtain⟨t,rfl⟩:=rx;exact rule i t s _ _ ⟨.int (g i),H,I.tok _,⟨_,rfl⟩,q⟩
def NV:Cu X (unaryOp .USub) (rU λ i=> .int (-i)):=Ra λ _ _ _ _ _ q=>neg_int q
end
def QU:V->V->Bool
 | .aB,.aB=>true| .aB,.int _=>true| .int _,.aB=>true| .aB,.bl _=>true| .bl _,.aB=>true| .aB,.str _=>true| .str _,.aB=>true
 | .int _,.int _=>true| .bl _,.bl _=>true| .str _,.str _=>true| .vn _,.vn _=>true
 | .int _,.str _=>true| .str _,.int _=>true| .bl _,.str _=>true| .str _,.bl _=>true
 |_,_=>false
def Q8:R2:=λ x y H Q=>QU x y=true/\Q (.bl (!decide (x=y))) H
def Kz{i j:Int}:decide (V.int i=V.int j)=(i==j):=by
 rw[VT];simp
def Lv{i j:Bool}:decide (V.bl i=V.bl j)=(i==j):=by
 rw[VT];simp
def K8{i j:Str}:decide (V.str i=V.str j)=(i==j):=by
 rw[VT];simp
def K0{i j:Array UInt8}:decide (V.vn i=V.vn j)=(i.toList==j.toList):=by
 rw[VT];cases i;cases j;simp
section
variable {X:Cx}{a b c:Expr}{ta tb tc:TE}{pos:Pos}
def gg{pins:List (Addr×Obj)}{σ:St}{H:Hp}{s:Shared}{Q:VK}{k k':Bool}(I:Inv X pins σ H s)(q:Q (.bl k) H)(e:k=k'):EP X pins σ Q (.bool k') s:=by
 subst e;exact⟨.bl k,H,I,rfl,q⟩
def OQ:cf X (compareOp .NotEq) Q8:=by
 intro pins s σ H x y v u Q I rx ry h;obtain⟨hs,q⟩:=h;cases x with
 |aB=>
  cases rx;cases y with
  |aB=>cases ry;exact PySem.EqNone.ne_none_none (gg I q (by simp))
  |bl j=>cases ry;exact PySem.EqNone.ne_none_bool (gg I q (by simp))
  |int j=>obtain⟨t',rfl⟩:=ry;exact PySem.EqNone.ne_none_int (gg I q (by simp))
  |str j=>obtain⟨t',rfl⟩:=ry;exact PySem.EqNone.ne_none_str (gg I q (by simp))
  |_=>exact absurd (show false=true from hs) Sb
 |bl i=>
  cases rx;cases y with
  |aB=>cases ry;exact PySem.EqNone.ne_bool_none (gg I q (by simp))
  |bl j=>cases ry;exact ne_bool (gg I q (Tu not Lv))
  |str j=>obtain⟨t',rfl⟩:=ry;exact PySem.EqMixed.ne_bool_str (gg I q (by simp))
  |_=>exact absurd (show false=true from hs) Sb
 |int i=>
  obtain⟨t,rfl⟩:=rx;cases y with
  |aB=>cases ry;exact PySem.EqNone.ne_int_none (gg I q (by simp))
  |int j=>obtain⟨t',rfl⟩:=ry;exact ne_int (gg I q (Tu not Kz))
  |str j=>obtain⟨t',rfl⟩:=ry;exact PySem.EqMixed.ne_int_str (gg I q (by simp))
  |_=>exact absurd (show false=true from hs) Sb
 |str i=>
  obtain⟨t,rfl⟩:=rx;cases y with
  |aB=>cases ry;exact PySem.EqNone.ne_str_none (gg I q (by simp))
  |bl j=>cases ry;exact PySem.EqMixed.ne_str_bool (gg I q (by simp))
  |int j=>obtain⟨t',rfl⟩:=ry;exact PySem.EqMixed.ne_str_int (gg I q (by simp))
  |str j=>obtain⟨t',rfl⟩:=ry;exact ne_str (gg I q (Tu not K8))
  |_=>exact absurd (show false=true from hs) Sb
 |vn i=>
  obtain⟨t,rfl⟩:=rx;cases y with
  |vn j=>obtain⟨t',rfl⟩:=ry;exact PySem.W.ne_bytes (gg I q (Tu not K0))
  |_=>exact absurd (show false=true from hs) Sb
 |_=>cases y<;>exact absurd (show false=true from hs) Sb
def Oq:cf X (compareOp .Lt) (yy λ i j=> .bl (decide (i<j))):=GP λ _ _ _ _ _ _ _ q=>lt_int q
def Oe:cf X (compareOp .Gt) (yy λ i j=> .bl (decide (j<i))):=GP λ _ _ _ _ _ _ _ q=>gt_int q
def OI:cf X (compareOp .GtE) (yy λ i j=> .bl (decide (j<=i))):=GP λ _ _ _ _ _ _ _ q=>ge_int q
def NR:cf X (compareOp .Is) (λ x y H Q=>y= .aB/\Q (.bl (decide (x= .aB))) H):=by
 intro pins s σ H x y v u Q I rx ry h;obtain⟨rfl,q⟩:=h;cases ry;refine is_none_gen (gg I q ?_)
 cases x<;>first
  |(cases rx;rfl)
  |(obtain⟨t,rfl⟩:=rx;rfl)
def cH(b:Expr){op:CmpOp}(h:op≠ .In:=by decide)(h2:op≠ .NotIn:=by decide):behindInMarks op b=false:=by
 have e1:(op==CmpOp.In)=false:=by cases op<;>first|rfl|exact absurd rfl h
 have e2:(op==CmpOp.NotIn)=false:=by cases op<;>first|rfl|exact absurd rfl h2
 cases b<;>simp[behindInMarks,e1,e2]
def La{op:CmpOp}{r:R2}(ho:cf X (compareOp op) r)(ha:PE X a ta)(hb:PE X b tb)(hm:behindInMarks op b=false):PE X (.Compare a [op] [b] pos) (En r ta tb):=by
 intro pins s σ H Q I h;exact wpAny_Compare1 (Gu ha hb I h λ v u s2 x y H2 I2 rx ry q=>ho pins s2 σ H2 x y v u Q I2 rx ry q) hm
def Pw(t:TE):TT:=λ σ H Q=>t σ H λ x H'=>∃k,x= .bl k/\Q k H'
def Kv{op:CmpOp}{r:R2}(ho:cf X (compareOp op) r)(ha:PE X a ta)(hb:PE X b tb)(hm:behindInMarks op b=false):PT X (.Compare a [op] [b] pos) (Pw (En r ta tb)):=by
 intro pins s σ H Q I h
 refine wpAny_isTrue_Compare1 (cu (ha pins s σ H _ I h) λ v s1 ⟨x,H1,I1,r1,q1⟩=>cu (hb pins s1 σ H1 _ I1 q1) λ u s2 ⟨y,H2,I2,r2,q2⟩=>
  cu (ho pins s2 σ H2 x y v u _ I2 r1 r2 q2) λ c s3 ⟨z,H3,I3,r3,k,e,q3⟩=>?_) hm
 subst e;cases r3;exact Ve ⟨H3,I3,q3⟩
def tJ:(sizeLine:Nat)<2^63:=by rw[U9];decide
def Dc:cf X (binaryOp .Add) (λ x y H Q=>∃i j,x= .str i/\y= .str j/\i.length+j.length<=sizeLine/\Q (.str (i++j)) H):=by
 intro pins s σ H x y v u Q I rx ry h;obtain⟨i,j,rfl,rfl,hz,q⟩:=h;obtain⟨t,rfl⟩:=rx;obtain⟨t',rfl⟩:=ry;exact add_str (λ t' tk=>⟨.str (i++j),H,I.tok _,⟨_,rfl⟩,q⟩) hz
def vals1{x:V}{us:List Value}(r:Vals [x] us):∃u,us=[u]/\RelV x u:=by
 cases r with
 |cons r1 r2=>cases r2;exact⟨_,rfl,r1⟩
def vals2{x y:V}{us:List Value}(r:Vals [x,y] us):∃u w',us=[u,w']/\RelV x u/\RelV y w':=by
 cases r with
 |cons r1 r2=>
  cases r2 with
  |cons r3 r4=>cases r4;exact⟨_,_,rfl,r1,r3⟩
def HE:bR X (.builtin "abs") (λ xs H Q=>∃i,xs=[.int i]/\Q (.int (if i<0 then-i else i)) H):=by
 intro pins s σ H xs us Q I r h;obtain⟨i,rfl,q⟩:=h;obtain⟨u,rfl,t,rfl⟩:=vals1 r;exact call_abs_int λ u tk=>⟨.int (if i<0 then-i else i),H,I.tok _,⟨_,rfl⟩,q⟩
def Ea(hc:X.calm=true):bR X (.builtin "max") (λ xs H Q=>∃i j,xs=[.int i,.int j]/\Q (.int (if j>i then j else i)) H):=by
 intro pins s σ H xs us Q I r h;obtain⟨i,j,rfl,q⟩:=h;obtain⟨u,w',rfl,⟨t,rfl⟩,⟨t',rfl⟩⟩:=vals2 r;refine max_two_ints (I.ok.hd hc) λ h' tk k=>⟨_,H,I.kept k,?_,q⟩
 by_cases hj:j>i
 . rw[RC hj,RC hj];exact⟨_,rfl⟩
 . rw[Rx hj,Rx hj];exact⟨_,rfl⟩
def EE(hc:X.calm=true):bR X (.builtin "min") (λ xs H Q=>∃i j,xs=[.int i,.int j]/\Q (.int (if j<i then j else i)) H):=by
 intro pins s σ H xs us Q I r h;obtain⟨i,j,rfl,q⟩:=h;obtain⟨u,w',rfl,⟨t,rfl⟩,⟨t',rfl⟩⟩:=vals2 r;refine min_two_ints (I.ok.hd hc) λ h' tk k=>⟨_,H,I.kept k,?_,q⟩
 by_cases hj:j<i
 . rw[RC hj,RC hj];exact⟨_,rfl⟩
 . rw[Rx hj,Rx hj];exact⟨_,rfl⟩
def FW:bR X (.type "int") (λ xs H Q=>(∃i,xs=[.int i]/\Q (.int i) H)\/∃k,xs=[.bl k]/\Q (.int (if k then 1 else 0)) H):=by
 intro pins s σ H xs us Q I r h;rcases h with⟨i,rfl,q⟩|⟨k,rfl,q⟩
 . obtain⟨u,rfl,t,rfl⟩:=vals1 r;exact call_int_int ⟨.int i,H,I,⟨_,rfl⟩,q⟩
 . obtain⟨u,rfl,r1⟩:=vals1 r;cases r1;exact call_int_bool ⟨.int (if k then 1 else 0),H,I.tok _,⟨_,rfl⟩,q⟩
end
structure vZ(h:Heap)(x dx C:Addr)(mA:Str->Option Value):Prop where
 obj:h.get? x=some (PySem.W.instObj C dx)
 ns:h.Ns1 dx mA
 ne:dx≠x
def F9{h:Heap}{dx:Addr}{mA:Str->Option Value}(n:h.Ns1 dx mA):∃od,h.get? dx=some od/\∀name,PySem.W.lookIn name od=some (mA name):=by
 obtain⟨o,es,ep,ho,hd,hk,_,hm⟩:=n;refine⟨o,ho,λ name=>?_⟩;have e:=hm name;unfold nsFind findBy at e;rw[<-Array.find?_toList]at e;unfold PySem.W.lookIn;rw[hd];dsimp only;split
 . rename_i y q;rw[q]at e;exact Tu some e
 . rename_i q;rw[q]at e
   have a:es.toList.any (·.refKey)=false:=by
    rw[List.any_eq_false];intro y hy;obtain⟨z,t,hkey⟩:=hk y (Array.mem_toList_iff.mp hy);simp[DictEntry.refKey,hkey]
   have a':¬es.toList.any (·.refKey)=true:=by rw[a];exact Sb
   rw[Rx a'];exact Tu some e
def vZ.look{h:Heap}{x dx C:Addr}{mA:Str->Option Value}(I:vZ h x dx C mA):∃od,PySem.W.InstAt h x (PySem.W.instObj C dx) C (some od)/\∀name,PySem.W.lookIn name od=some (mA name):=
 let⟨od,ho,hl⟩:=F9 I.ns
 ⟨od,⟨I.obj,rfl,rfl,ho⟩,hl⟩
section
variable {prog:Program}{w:World}{A:Around}{E:Value->Shared->Prop}{s:Shared}{K:PySem.W.Frag}{x dx C f:Addr}{mA:Str->Option Value}{name:Str}{v:Value}
def get_map{expr:Bool}{Q:Value->Shared->Prop}(X:K.In s.heap)(I:vZ s.heap x dx C mA)(hg:PySem.W.plainGet K C name=true)(hh:PySem.W.hasDictIn K C=true)
 (ha:PySem.W.findIn K (.ref C) name=some none) (hv:mA name=some v) (hv':PySem.W.handedIn v=true) (h:Q v {s with toks:=s.toks+1}):
 wpAny (model prog w) A (getAttr (.ref x) name expr) Q E s:=by
 obtain⟨od,J,hl⟩:=I.look;exact PySem.W.get_value X J (V5 hg).1 (PySem.W.findObj_own hh ha rfl (by rw[hl,hv])) hv' h
def Hn{pl:Sem Bool}{Q:Value×List Value->Shared->Prop}(X:K.In s.heap)(I:vZ s.heap x dx C mA)(hg:PySem.W.plainGet K C name=true)
 (hf:PySem.W.findIn K (.ref C) name=some (some (.ref f))) (ht:PySem.W.isFn K (.ref f)=true) (hv:mA name=none) (h:Q (.ref f,[.ref x]) s):
 wpAny (model prog w) A (getMethod (.ref x) name pl) Q E s:=by
 obtain⟨od,J,hl⟩:=I.look;exact PySem.W.method_fn X J (V5 hg).1 (V5 hg).2 hf (UU.mp ht) (by show(PySem.W.lookIn name od).map (·.isSome)=some false;rw[hl,hv];rfl) h
def jj{ns:List Str}{Q:Unit->Shared->Prop}(X:K.In s.heap)(I:vZ s.heap x dx C mA)
 (hs:PySem.W.findIn K (.ref C) "__setattr__"=some (some (.builtin "object.__setattr__"))) (hp:PySem.W.plainOver K C=true) (ht:PySem.W.takerIn K C name=some none) (hh:PySem.W.hasDictIn K C=true)
 (hw:PySem.Within mA ns) (hsz:ns.length<=sizeLine)
 (h:∀h',vZ h' x dx C (λ y=>if y=name then some v else mA y)->Heap.SameBut dx s.heap h'->Q () {s with heap:=h',toks:=s.toks+2}):
 wpAny (model prog w) A (setAttr (.ref x) name v) Q E s:=by
 obtain⟨od,J,hl⟩:=I.look;refine PySem.W.set_plain X J hs (PySem.W.osa_open (s:={s with toks:=s.toks+1}) (r:=none) X J hp ht λ b=>?_);obtain⟨cd,hc,hd'⟩:=PySem.W.any_some hh;have hx:s.heap.get? x=some ⟨.ref C,some dx,.plain,#[]⟩:=I.obj;refine Rw (RO (Rw (Rw (wpAny_loadPart hx (Rw (PySem.W.Looks.here (s:={s with toks:=s.toks+1}) (PySem.W.looks_clsIn X hc) ?_))))));rw[hd'];refine RO (a:=some dx) (Rw (RO (Rw ?_)));refine wpAny_nsSet1 (s:={s with toks:=s.toks+1}) I.ns λ h' hn2 hs2=>?_;obtain⟨oD,esD,epD,hoD,hdD,hcD⟩:=hn2.count (PySem.Within.cons name v hw);refine Rw (wpAny_lookBehind hoD (by rw[hdD];exact pastItsLine_dict (RH hcD (by rw[So];omega))) ?_);exact RO (h _ ⟨(hs2.2 _ (RK I.ne)).trans I.obj,hn2,I.ne⟩ hs2)
def GQ{R:Result->Shared->Prop}{vs:List Value}{kw:List (Str×Value)}(X:K.In s.heap)(hm:PySem.W.makesIn K C=true)
 (hi:PySem.W.findIn K (.ref C) "__init__"=some (some (.ref f))) (hf:PySem.W.typeIn K (.ref f)=some (.type "function"))
 (h:codeAny (model prog w) (A.under (.builtin "type.__call__" ⟨.ref C::vs,kw⟩)) (.call (.ref f) ⟨.ref (s.heap.objs.size+1)::vs,kw⟩) (PySem.W.InitBack (s.heap.objs.size+1) R)
   {s with heap:=(s.heap.push PySem.W.emptyDict).push (PySem.W.instObj C s.heap.objs.size)}):
 codeAny (model prog w) A (.call (.ref C) ⟨vs,kw⟩) R s:=by
 obtain⟨hh,g,d,t,os⟩:=s;exact PySem.W.make_core (PySem.W.makes_of X hm) (PySem.W.looks_findIn X hi) (λ self=>PySem.W.bind_fn X self hf) (.inl rfl) h
end
def iO(f:Str)(v:V):List (Str×V)->List (Str×V)
 | []=>[(f,v)]
 |(g,x)::r=>if g=f then(g,v)::r else(g,x)::iO f v r
def vc(f g:Str)(v:V):∀fs:List (Str×V),(iO f v fs).lookup g=if g=f then some v else fs.lookup g
 | []=>by
   show List.lookup g [(f,v)]=_;by_cases h:g=f
   . have hb:(g==f)=true:=UU.mpr h;simp only[List.lookup,hb,RC h]
   . have hb:(g==f)=false:=UQ.mpr h;simp only[List.lookup,hb,Rx h]
 |(k,x)::r=>by
  have ih:=vc f g v r;rw[show iO f v ((k,x)::r)=(if k=f then(k,v)::r else(k,x)::iO f v r)from rfl];by_cases hk:k=f
  . rw[RC hk];by_cases h:g=k
    . have hb:(g==k)=true:=UU.mpr h;simp only[List.lookup,hb,RC (h.trans hk)]
    . have hb:(g==k)=false:=UQ.mpr h;simp only[List.lookup,hb,Rx (λ e:g=f=>h (e.trans hk.symm))]
  . rw[Rx hk];by_cases h:g=k
    . have hb:(g==k)=true:=UU.mpr h;simp only[List.lookup,hb,Rx (λ e:g=f=>hk (h.symm.trans e))]
    . have hb:(g==k)=false:=UQ.mpr h;simp only[List.lookup,hb];exact ih
def uu(f:Str)(v:V):∀fs:List (Str×V),f∈(iO f v fs).map (·.1)/\∀g,g∈fs.map (·.1)->g∈(iO f v fs).map (·.1)
 | []=>⟨by simp[iO],λ g h=>by simp at h⟩
 |(k,x)::r=>by
  obtain⟨i1,i2⟩:=uu f v r;rw[show iO f v ((k,x)::r)=(if k=f then(k,v)::r else(k,x)::iO f v r)from rfl];by_cases hk:k=f
  . rw[RC hk];subst hk;exact⟨by simp,λ g h=>by simpa using h⟩
  . rw[Rx hk];refine⟨?_,λ g h=>?_⟩
    . rw[R0];exact RU _ i1
    . rw[R0]at h⊢;rcases R7.mp h with e|e
      . exact R7.mpr (.inl e)
      . exact RU _ (i2 g e)
def vj(f:Str)(v:V):∀fs:List (Str×V),(iO f v fs).length<=fs.length+1
 | []=>by simp[iO]
 |(k,x)::r=>by
  have ih:=vj f v r;rw[show iO f v ((k,x)::r)=(if k=f then(k,v)::r else(k,x)::iO f v r)from rfl];by_cases hk:k=f
  . rw[RC hk,So,So];omega
  . rw[Rx hk,So,So];omega
def qh.some_of{v:V}{o:Option Value}(r:qh (some v) o):∃u,o=some u/\RelV v u:=by
 cases o with
 |none=>exact(show False from r).elim
 |some u=>exact⟨u,rfl,r⟩
def qh.none_of{o:Option Value}(r:qh none o):o=none:=by
 cases o with
 |none=>rfl
 |some u=>exact(show False from r).elim
def EF{v:V}{u:Value}(r:RelV v u):PySem.W.handedIn u=true:=by
 cases v with
 |aB=>cases (show u=Value.none from r);rfl
 |bl b=>cases (show u=Value.bool b from r);rfl
 |int i=>obtain⟨t,e⟩:=(show∃t,u=Value.int i t from r);cases e;rfl
 |str x=>obtain⟨t,e⟩:=(show∃t,u=Value.str x t from r);cases e;rfl
 |vn b=>obtain⟨t,e⟩:=(show∃t,u=Value.bytes b t from r);cases e;rfl
 |Je b=>obtain⟨t,e⟩:=(show∃t,u=Value.float b t from r);cases e;rfl
 |ref a=>cases (show u=Value.ref a from r);rfl
 |ty n=>cases (show u=Value.type n from r);rfl
section
variable {P:Program}{w:World}{H H':Hp}{h h':Heap}{a C dx:Addr}{fs fs':List (Str×V)}
def uL(aM:je P w H h)(e:H a=some (.ins C dx fs)):∃mA,vZ h a dx C mA/\(∀f,qh (fs.lookup f) (mA f))/\PySem.Within mA (fs.map (·.1))/\fs.length<=1000/\H dx=some (.own a):=by
 obtain⟨d,z,ne,ob,mA,n,r,q⟩:=(show g_ P w H h a (.ins C dx fs)from aM a _ e)
 exact⟨mA,⟨ob,n,ne⟩,r,q,z,d⟩
end
structure om(K:PySem.W.Frag)(C:Addr):Prop where
 pg:PySem.W.plainGet K C Str.empty=true
 hd:PySem.W.hasDictIn K C=true
 po:PySem.W.plainOver K C=true
 sa:PySem.W.findIn K (.ref C) "__setattr__"=some (some (.builtin "object.__setattr__"))
def om.get{K:PySem.W.Frag}{C:Addr}(c:om K C)(f:Str):PySem.W.plainGet K C f=true:=c.pg
def d_(K:PySem.W.Frag)(C:Addr)(f:Str):Prop:=PySem.W.findIn K (.ref C) f=some none
def d_.ON{K:PySem.W.Frag}{C:Addr}{f:Str}(n:d_ K C f):PySem.W.takerIn K C f=some none:=by
 unfold PySem.W.takerIn;rw[show PySem.W.findIn K (.ref C) f=some none from n];rfl
structure Meth(K:PySem.W.Frag)(C:Addr)(m:Str)(f:Addr):Prop where
 at_:PySem.W.findIn K (.ref C) m=some (some (.ref f))
 fn:PySem.W.isFn K (.ref f)=true
 kp:PySem.W.keepIn K (.ref f)=true
section
variable {X:Cx}{pins:List (Addr×Obj)}{σ:St}{H:Hp}{s:Shared}{a C dx:Addr}{fs:List (Str×V)}{f:Str}{v:V}{A:Around}{E:Value->Shared->Prop}
def CI{b:Bool}{Q:Value->Shared->Prop}(I:Inv X pins σ H s)(e:H a=some (.ins C dx fs))(c:om X.K C)(n:d_ X.K C f)(l:fs.lookup f=some v)
 (h:∀u s',Inv X pins σ H s'->RelV v u->Q u s'):wpAny (model X.prog X.w) A (getAttr (.ref a) f b) Q E s:=by
 obtain⟨mA,O,r,_,_,_⟩:=uL I.aM e;obtain⟨u,hu,ru⟩:=qh.some_of (v:=v) (o:=mA f) (by rw[<-l];exact r f);exact get_map I.pf O (c.get f) c.hd n hu (EF ru) (h u _ (I.tok _) ru)
def wW{m:Str}{g:Addr}{pl:Sem Bool}{Q:Value×List Value->Shared->Prop}(I:Inv X pins σ H s)(e:H a=some (.ins C dx fs))(c:om X.K C)(k:Meth X.K C m g)(l:fs.lookup m=none)
 (h:Q (.ref g,[.ref a]) s):wpAny (model X.prog X.w) A (getMethod (.ref a) m pl) Q E s:=by
 obtain⟨mA,O,r,_,_,_⟩:=uL I.aM e;have hn:mA m=none:=qh.none_of (by rw[<-l];exact r m);exact Hn I.pf O (c.get m) k.at_ k.fn hn h
def DP{y:V}{u:Value}{Q:Unit->Shared->Prop}(I:Inv X pins σ H s)(e:H a=some (.ins C dx fs))(c:om X.K C)(n:d_ X.K C f)(hl:fs.length<1000)(ry:RelV y u)
 (h:∀s',Inv X pins σ (upd H a (.ins C dx (iO f y fs))) s'->Q () s'):wpAny (model X.prog X.w) A (setAttr (.ref a) f u) Q E s:=by
 obtain⟨mA,O,r,wi,_,ho⟩:=uL I.aM e;have hz:(fs.map (·.1)).length<=sizeLine:=by rw[Rz,U9];omega
 refine jj I.pf O c.sa c.po n.ON c.hd wi hz λ h' O' sb=>h _ ?_;have hd:∃o,h'.get? dx=some o:=let⟨o,_,_,e',_⟩:=O'.ns;⟨o,e'⟩
 refine I.write (x:=a) (e:=dx) (by rw[e];exact True.intro) (.inr ho) (λ b q hb z=>(sb.2 b hb).trans z) hd ?_;refine⟨by rw[ay O.ne];exact ho,?_,O.ne,O'.obj,_,O'.ns,λ g=>?_,λ g hg=>?_⟩
 . have:=vj f y fs;omega
 . show qh ((iO f y fs).lookup g) (if g=f then some u else mA g);rw[vc];by_cases q:g=f
   . rw[RC q,RC q];exact ry
   . rw[Rx q,Rx q];exact r g
 . by_cases q:g=f
   . rw[q];exact(uu f y fs).1
   . refine(uu f y fs).2 g (wi g λ z=>hg ?_);show(if g=f then some u else mA g)=none;rw[Rx q];exact z
def Inv.made(I:Inv X pins σ H s):Inv X pins σ (upd (upd H s.heap.objs.size (.own (s.heap.objs.size+1))) (s.heap.objs.size+1) (.ins C s.heap.objs.size []))
 {s with heap:=(s.heap.push PySem.W.emptyDict).push (PySem.W.instObj C s.heap.objs.size)}:=by
 have e1:(s.heap.push PySem.W.emptyDict).get? s.heap.objs.size=some PySem.W.emptyDict:=R_ s.heap rfl
 have e2:((s.heap.push PySem.W.emptyDict).push (PySem.W.instObj C s.heap.objs.size)).get? (s.heap.objs.size+1)=some (PySem.W.instObj C s.heap.objs.size):=by
  have:=R_ (s.heap.push PySem.W.emptyDict) (o:=PySem.W.instObj C s.heap.objs.size) rfl;rwa [TM]at this
 have e3:(s.heap.push PySem.W.emptyDict).Ns s.heap.objs.size (λ _=>none):=⟨PySem.W.emptyDict,#[],_,e1,rfl,(λ e he=>absurd he (by simp)),λ _=>rfl⟩
 have I1:=I.laid (a:=s.heap.objs.size) (o:= .own (s.heap.objs.size+1)) (h':=s.heap.push PySem.W.emptyDict) (t':=s.toks) (λ b u q=>RE _ q) (Rv _) ⟨_,e1⟩;refine I1.laid (a:=s.heap.objs.size+1) (o:= .ins C s.heap.objs.size []) (t':=s.toks) (λ b u q=>RE _ q) (VU (TM _ _)) ?_;have ne:s.heap.objs.size≠s.heap.objs.size+1:=Se (Sq _);refine⟨by rw[ay ne,a6],RX _,ne,e2,λ _=>none,(Heap.Ns1.of_empty e3).at λ o q=>RE _ q,λ _=>True.intro,λ y hy=>absurd rfl hy⟩
def J5{prog:Program}{w:World}{env:Env}{e:Expr}{f:Str}{pos:Pos}{s:Shared}{Q:Value->Shared->Prop}(hb:attributeBase e f env (eval e env)=eval e env)
 (h:wpAny (model prog w) A (eval e env) (λ o s₁=>wpAny (model prog w) A (getAttr o f true) Q E s₁) E s):wpAny (model prog w) A (eval (.Attribute e f pos) env) Q E s:=
 Attribute_any_ h (by rw[arm_eval_Attribute,hb])
end
def QR(K:PySem.W.Frag)(ta:TE)(f:Str):TE:=λ σ H Q=>ta σ H λ x H1=>∃a C dx fs v,x= .ref a/\H1 a=some (.ins C dx fs)/\om K C/\d_ K C f/\fs.lookup f=some v/\Q v H1
def QW(K:PySem.W.Frag)(ta tv:TE)(f:Str):TS:=λ D σ H=>tv σ H λ y H1=>ta σ H1 λ x H2=>∃a C dx fs,x= .ref a/\H2 a=some (.ins C dx fs)/\om K C/\d_ K C f/\fs.length<1000/\
 D.nx σ (upd H2 a (.ins C dx (iO f y fs)))
section
variable {X:Cx}{o e value:Expr}{f:Str}{pos pos' tpos:Pos}{ta tv:TE}
def MH(he:PE X e ta)(hb:attributeBase e f X.env (eval e X.env)=eval e X.env):PE X (.Attribute e f pos) (QR X.K ta f):=by
 intro pins s σ H Q I h;refine J5 hb (cu (he pins s σ H _ I h) λ u s1 ⟨x,H1,I1,rx,a,C,dx,fs,v,ex,ea,c,n,l,q⟩=>?_);subst ex;obtain rfl:u=Value.ref a:=rx;exact CI I1 ea c n l λ u' s2 I2 ru=>⟨v,H1,I2,ru,q⟩
def NG(ha:PE X o ta)(hv:PE X value tv)(hs:swapsWith value (some (.Attribute o f pos')) pos.line X.env=pure false):PS X (.Assign [.Attribute o f pos'] value pos) (QW X.K ta tv f):=by
 intro pins s σ H D I h;refine plainObj_wpAny_Assign_Attribute (cu (hv pins s σ H _ I h) λ u s1 ⟨y,H1,I1,ry,q⟩=>cu (ha pins s1 σ H1 _ I1 q) λ ov s2 ⟨x,H2,I2,rx,a,C,dx,fs,ex,ea,c,n,l,q2⟩=>?_) hs;subst ex;obtain rfl:ov=Value.ref a:=rx;exact DP I2 ea c n l ry λ s3 I3=>⟨σ,_,I3,q2⟩
end
section
variable {X:Cx}{pins:List (Addr×Obj)}{σ:St}{H:Hp}{s:Shared}{A:Around}{E:Value->Shared->Prop}{Q:Value->Shared->Prop}{c:Value}{b:Bool}
end
structure c8(k:Nat)(A:Around):Prop where
 hd:A.handled=none
 dp:A.depth+3*k+105<recursionLimit
 un:A.units+16*k+200<cLine
def c8.mono{j k:Nat}{A:Around}(r:c8 k A)(h:j<=k):c8 j A:=⟨r.hd,by have:=r.dp;omega,by have:=r.un;omega⟩
def c8.deeper{k:Nat}{A:Around}(r:c8 (k+1) A)(env:Env):c8 k (A.deeper env):=
 ⟨r.hd,by have:=r.dp;show A.depth+1+3*k+105<_;omega,by have:=r.un;show A.units+3+16*k+200<_;omega⟩
def D9{A:Around}{C:Addr}{us:List Value}{kw:List (Str×Value)}:(A.under (.builtin "type.__call__" ⟨.ref C::us,kw⟩)).depth=A.depth+1:=by
 first|rfl|simp[Around.under,Code.weight,Code.isCreation,Code.isGuard,Code.isCaller,Code.frames,Code.isFrame,guardIds]
def DR{A:Around}{C:Addr}{us:List Value}{kw:List (Str×Value)}:(A.under (.builtin "type.__call__" ⟨.ref C::us,kw⟩)).units=A.units+1:=by
 first|rfl|simp[Around.under,Code.cUnits,Code.frames,Code.isFrame]
def c8.make{k:Nat}{A:Around}(r:c8 (k+1) A)(C:Addr)(us:List Value)(kw:List (Str×Value)):c8 k (A.under (.builtin "type.__call__" ⟨.ref C::us,kw⟩)):=
 ⟨r.hd,by have:=r.dp;rw[D9];omega,by have:=r.un;rw[DR];omega⟩
def c8.depth{k:Nat}{A:Around}(r:c8 k A):A.depth<recursionLimit:=by have:=r.dp;omega
def c8.units{k:Nat}{A:Around}(r:c8 k A):A.units+64<cLine:=by have:=r.un;omega
def MV:TA:=λ _ H Q=>Q [] H
def Pe(ta:TE)(tr:TA):TA:=λ σ H Q=>ta σ H λ x H1=>tr σ H1 λ xs H2=>Q (x::xs) H2
section
variable {X:Cx}{e:Expr}{es:List Expr}{te:TE}{t:TA}{pos:Pos}
def LY:PA X [] MV:=λ _ _ _ _ H Q I h=>Calls.spliced_nil ⟨[],H,I,.nil,h⟩
def Kb(ha:PE X e te)(hr:PA X es t)(hs:starEach (e::es) X.env=(false,eval e X.env)::starEach es X.env:=by rfl):PA X (e::es) (Pe te t):=by
 intro pos pins s σ H Q I h;rw[hs];show wpAny _ _ (spliced ((false,eval e X.env)::backTo pos (starEach es X.env))) _ _ s;refine Calls.spliced_cons (cu (ha pins s σ H _ I h) λ u s1 ⟨x,H1,I1,r1,q1⟩=>?_);exact cu (hr pos pins s1 σ H1 _ I1 q1) λ us s2 ⟨xs,H2,I2,r2,q2⟩=>⟨x::xs,H2,I2,.cons r1 r2,q2⟩
def QS(t:TA):TE:=λ σ H Q=>t σ H λ xs H1=>xs.length<=sizeLine/\∀p,H1 p=none->Q (.ref p) (upd H1 p (.tup xs))
def QQ(t:TA):TE:=λ σ H Q=>t σ H λ xs H1=>xs.length<=sizeLine/\∀p,H1 p=none->Q (.ref p) (upd H1 p (.lst xs))
def Nt{x1}(h:PA X es t):PE X (.Tuple es x1 pos) (QS t):=by
 intro pins s σ H Q I hq;refine wpAny_Tuple_spliced (cu (h pos pins s σ H _ I hq) λ us s1 ⟨xs,H1,I1,r,z,q⟩=>⟨by rw[<-r.length];exact z,?_⟩);have hf:H1 s1.heap.objs.size=none:=I1.aM.fresh (Rv _);refine⟨.ref s1.heap.objs.size,upd H1 s1.heap.objs.size (.tup xs),I1.laid (t':=s1.toks) (λ b u e=>RE _ e) (Rv _) ?_,rfl,q _ hf⟩;exact⟨z,us,r,⟨_,R_ _ rfl,rfl,_,rfl⟩⟩
def FX(h:PA X es t):PE X (.List es pos) (QQ t):=by
 intro pins s σ H Q I hq;refine wpAny_List_spliced (cu (h pos pins s σ H _ I hq) λ us s1 ⟨xs,H1,I1,r,z,q⟩=>⟨by rw[<-r.length];exact z,?_⟩);have hf:H1 s1.heap.objs.size=none:=I1.aM.fresh (Rv _);refine⟨.ref s1.heap.objs.size,upd H1 s1.heap.objs.size (.lst xs),I1.laid (t':=s1.toks) (λ b u e=>RE _ e) (Rv _) ?_,rfl,q _ hf⟩;exact⟨z,us,0,r,R_ _ rfl⟩
end
abbrev Sp:=List V->Hp->VK->XK->Prop
abbrev vi:=List Env->Hp->Shared->XK->Value->Shared->Prop
structure vx(P:Program)(w:World)(K:PySem.W.Frag)(mg:Str->Option Value)(base:Heap)(A:Around)(outer:List Env)(s:Shared)(H:Hp):Prop where
 frames:A.frames=some outer
 mod:Mod K mg base
 bs:∀b o,base.get? b=some o->s.heap.get? b=some o/\H b=none
 uo:base.objs.size<=s.heap.objs.size
 lP:s.heap.FunFrames base outer
 w9:∀b∈qP outer,H b=none
 aM:je P w H s.heap
 bare:AllBare s.gens
 gt:P.given.tree=none
def CE(outer:List Env)(P:Program)(w:World)(H:Hp)(s:Shared)(Q:VK)(u:Value)(s':Shared):Prop:=
 ∃v H',s'.os=s.os/\AllBare s'.gens/\Un (qP outer) [] H H' s.heap s'.heap/\je P w H' s'.heap/\RelV v u/\Q v H'
def CR(CX:vi)(outer:List Env)(P:Program)(w:World)(H:Hp)(s:Shared)(Q:VK)(E:XK)(r:Result)(s':Shared):Prop:=
 match r with
 | .ok (.ret u)=>CE outer P w H s Q u s'
 | .ok _=>False
 | .error e=>CX outer H s E e s'
structure bE(P:Program)(w:World)(K:PySem.W.Frag)(mg:Str->Option Value)(base:Heap)(CX:vi)(k:Nat)(f:Addr)(fd:FuncData)(ps:List Str)(sp:Sp):Prop where
 len:∀vs H Q E,sp vs H Q E->vs.length=ps.length
 run:∀(A:Around) (outer:List Env) (s:Shared) (H:Hp) (args:Args) (us:List Value) (vs:List V) (Q:VK) (E:XK),c8 k A->vx P w K mg base A outer s H->BindsTo s fd args (ps.zip us)->Vals vs us->sp vs H Q E->
  codeAny (model P w) A (.call (.ref f) args) (CR CX outer P w H s Q E) s
def bE.imp{P:Program}{w:World}{K:PySem.W.Frag}{mg:Str->Option Value}{base:Heap}{CX:vi}{k:Nat}{f:Addr}{fd:FuncData}{ps:List Str}{sp sp':Sp}(F:bE P w K mg base CX k f fd ps sp)
 (h:∀vs H Q E,sp' vs H Q E->sp vs H Q E):bE P w K mg base CX k f fd ps sp':=
 ⟨λ vs H Q E q=>F.len vs H Q E (h _ _ _ _ q),λ A outer s H args us vs Q E hr he hb hv hs=>F.run A outer s H args us vs Q E hr he hb hv (h _ _ _ _ hs)⟩
def vx.make{P:Program}{w:World}{K:PySem.W.Frag}{mg:Str->Option Value}{base:Heap}{A:Around}{outer:List Env}{s:Shared}{H:Hp}(e:vx P w K mg base A outer s H)(C:Addr)(us:List Value)(kw:List (Str×Value)):
 vx P w K mg base (A.under (.builtin "type.__call__" ⟨.ref C::us,kw⟩)) outer s H:=⟨by first|exact e.frames|(simpa[Around.under,Code.envs,Code.isFrame,pushEnvs]using e.frames),e.mod,e.bs,e.uo,e.lP,e.w9,e.aM,e.bare,e.gt⟩
section
variable {X:Cx}{pins:List (Addr×Obj)}{σ:St}{H:Hp}{s s':Shared}
def Inv.MJ(I:Inv X pins σ H s):vx X.prog X.w X.K X.mg X.base X.A X.stack s H:=
 ⟨I.ok.frames,I.ok.mod,I.bs,RH I.ok.uo I.sz,I.stack,I.xG,I.aM,I.bare,I.ok.gt⟩
def Inv.after{Q:VK}{u:Value}(I:Inv X pins σ H s)(h:CE X.stack X.prog X.w H s Q u s'):EP X pins σ Q u s':=by
 obtain⟨v,H',os,bare,un,aM,r,q⟩:=h;obtain⟨hh,g,d,t,os'⟩:=s';obtain rfl:os'=s.os:=os;exact⟨v,H',I.call (h':=hh) (g':=g) (d':=d) (t':=t) (ch:=[]) un aM bare (λ b z=>absurd z (by simp)),r,q⟩
end
def IA(sp:Sp)(dvs:List V)(E:XK)(t:TA):TE:=λ σ H Q=>t σ H λ vs H1=>sp (vs++dvs) H1 Q E
def D4(C:Addr)(m:Str)(sp:Sp)(dvs:List V)(E:XK)(ta:TE)(t:TA):TE:=λ σ H Q=>ta σ H λ x H1=>∃a dx fs,x= .ref a/\H1 a=some (.ins C dx fs)/\fs.lookup m=none/\
 t σ H1 λ vs H2=>sp (x::(vs++dvs)) H2 Q E
def Ir(C:Addr)(sp:Sp)(dvs:List V)(E:XK)(t:TA):TE:=λ σ H Q=>t σ H λ vs H1=>∀x dx,H1 x=none->H1 dx=none->dx≠x->
 sp (.ref x::(vs++dvs)) (upd (upd H1 dx (.own x)) x (.ins C dx [])) (λ v H2=>v= .aB/\Q (.ref x) H2) E
def Binds(K:PySem.W.Frag)(fd:FuncData)(ps:List Str)(ds:List Value):Prop:=
 ∀(s:Shared) (us:List Value),K.In s.heap->(us++ds).length=ps.length->BindsTo s fd ⟨us,[]⟩ (ps.zip (us++ds))
def Binds.all{K:PySem.W.Frag}{fd:FuncData}{ps:List Str}(h:∀us:List Value,us.length=ps.length->bindArgs fd ⟨us,[]⟩=pure (ps.zip us)):Binds K fd ps []:=λ s us _ hl=>by
 rw[SX]at hl⊢;exact .of_eq (h us hl)
def Passes(CX:vi)(X:Cx)(E:XK):Prop:=∀(pins:List (Addr×Obj)) (σ:St) (H:Hp) (s:Shared) (e:Value) (s':Shared),Inv X pins σ H s->CX X.stack H s E e s'->X.xe e s'
section
variable {X:Cx}{CX:vi}{k:Nat}{f C:Addr}{fd:FuncData}{ps:List Str}{sp:Sp}{dvs:List V}{ds:List Value}{E:XK}{x m:Str}{p pos apos:Pos}{e o:Expr}{es:List Expr}{ta:TE}{t:TA}
def zT{pins:List (Addr×Obj)}{σ:St}{H:Hp}{s:Shared}{Q:VK}{us:List Value}{vs:List V}(F:bE X.prog X.w X.K X.mg X.base CX k f fd ps sp)(hr:c8 k X.A)(hb:Binds X.K fd ps ds)(hd:Vals dvs ds)(hx:Passes CX X E)
 (I:Inv X pins σ H s) (r:Vals vs us) (h:sp (vs++dvs) H Q E):wpAny (model X.prog X.w) X.A (call (.ref f) us) (EP X pins σ Q) X.xe s:=by
 have r2:Vals (vs++dvs) (us++ds):=r.append hd;have hl:(us++ds).length=ps.length:=by rw[<-r2.length];exact F.len _ _ _ _ h
 refine wpAny_call (WA (F.run X.A X.stack s H ⟨us,[]⟩ (us++ds) (vs++dvs) Q E hr I.MJ (hb s us I.pf hl) r2 h) λ r s' hq=>?_);cases r with
 |error e=>exact hx pins σ H s e s' I hq
 |ok fl=>
  cases fl with
  |ret u=>exact I.after hq
  |next=>exact False.elim hq
  |brk=>exact False.elim hq
  |cont=>exact False.elim hq
def KL(F:bE X.prog X.w X.K X.mg X.base CX k f fd ps sp)(hr:c8 k X.A)(hg:Gl X x)(hm:X.mg x=some (.ref f))(hk:PySem.W.keepIn X.K (.ref f)=true)(hb:Binds X.K fd ps ds)(hd:Vals dvs ds)(hx:Passes CX X E)
 (ha:PA X (e::es) t) (hdb:(x==("__debug__":Str))=false:=by decide) (he:starEach (e::es) X.env=(false,eval e X.env)::starEach es X.env:=by rfl) (hpl:(backTo pos (starEach es X.env)).any (·.1)=false:=by rfl):
 PE X (.Call (.Name x p) (e::es) [] pos) (IA sp dvs E t):=by
 intro pins s σ H Q I h;refine UW (x8 I hg hm ?_ hdb);refine Wb (h₀:=X.base) I.ok.mod.F2 hk (cu (ha pos pins s σ H _ I h) λ us s1 ⟨vs,H1,I1,r,q⟩=>⟨I1.pf,?_⟩) he hpl;exact zT F hr hb hd hx I1 r q
def Jx{pl:Sem Bool}(he:PE X o ta)(c:om X.K C)(hm:Meth X.K C m f)(F:bE X.prog X.w X.K X.mg X.base CX k f fd ps sp)(hr:c8 k X.A)(hb:Binds X.K fd ps ds)(hd:Vals dvs ds)(hx:Passes CX X E)(ha:PA X (e::es) t)
 (hst:starEach (e::es) X.env=(false,eval e X.env)::starEach es X.env:=by rfl) (hpl:(backTo pos (starEach es X.env)).any (·.1)=false:=by rfl)
 (ht:eval (.Call (.Attribute o m apos) (e::es) [] pos) X.env=(do
   let ov <-eval o X.env
   standAt apos.atName
   let(f,first) <-holding [ov] (getMethod ov m pl)
   callWith pos f first (backTo pos (starEach (e::es) X.env)) (backToKw pos (keywordEach [] X.env))):=by rfl):
 PE X (.Call (.Attribute o m apos) (e::es) [] pos) (D4 C m sp dvs E ta t):=by
 intro pins s σ H Q I h;refine W2 (pl:=pl) (cu (he pins s σ H _ I h) λ u s1 ⟨x,H1,I1,rx,a,dx,fs,ex,ea,l,q⟩=>?_) ht;subst ex;obtain rfl:u=Value.ref a:=rx;refine wW I1 ea c hm l ?_;refine Wb (first:=[.ref a]) (h₀:=X.base) I.ok.mod.F2 hm.kp (cu (ha pos pins s1 σ H1 _ I1 q) λ us s2 ⟨vs,H2,I2,r,q2⟩=>⟨I2.pf,?_⟩) hst hpl;exact zT (us:= .ref a::us) (vs:= .ref a::vs) F hr hb hd hx I2 (.cons rfl r) q2
def HA{pl:Sem Bool}(he:PE X o ta)(c:om X.K C)(hm:Meth X.K C m f)(F:bE X.prog X.w X.K X.mg X.base CX k f fd ps sp)(hr:c8 k X.A)(hb:Binds X.K fd ps ds)(hd:Vals dvs ds)(hx:Passes CX X E)
 (ht:eval (.Call (.Attribute o m apos) [] [] pos) X.env=(do
   let ov <-eval o X.env
   standAt apos.atName
   let(f,first) <-holding [ov] (getMethod ov m pl)
   callWith pos f first (backTo pos (starEach [] X.env)) (backToKw pos (keywordEach [] X.env))):=by rfl):
 PE X (.Call (.Attribute o m apos) [] [] pos) (D4 C m sp dvs E ta MV):=by
 intro pins s σ H Q I h;refine W2 (pl:=pl) (cu (he pins s σ H _ I h) λ u s1 ⟨x,H1,I1,rx,a,dx,fs,ex,ea,l,q⟩=>?_) ht;subst ex;obtain rfl:u=Value.ref a:=rx;refine wW I1 ea c hm l ?_;exact PySem.W.callWith_K0 (first:=[.ref a]) I1.pf hm.kp (zT (us:=[.ref a]) (vs:=[.ref a]) F hr hb hd hx I1 (.cons rfl .nil) q)
structure Mk(K:PySem.W.Frag)(C f:Addr):Prop where
 makes:PySem.W.makesIn K C=true
 init:PySem.W.findIn K (.ref C) "__init__"=some (some (.ref f))
 fn:PySem.W.isFn K (.ref f)=true
 kp:PySem.W.keepIn K (.ref C)=true
def GW{pins:List (Addr×Obj)}{σ:St}{H:Hp}{s:Shared}{Q:VK}{us:List Value}{vs:List V}(M:Mk X.K C f)(F:bE X.prog X.w X.K X.mg X.base CX k f fd ps sp)(hr:c8 (k+1) X.A)(hb:Binds X.K fd ps ds)(hd:Vals dvs ds)
 (hx:Passes CX X E) (I:Inv X pins σ H s) (r:Vals vs us)
 (h:∀x dx,H x=none->H dx=none->dx≠x->sp (.ref x::(vs++dvs)) (upd (upd H dx (.own x)) x (.ins C dx [])) (λ v H2=>v= .aB/\Q (.ref x) H2) E):
 wpAny (model X.prog X.w) X.A (call (.ref C) us) (EP X pins σ Q) X.xe s:=by
 have hq:=h (s.heap.objs.size+1) s.heap.objs.size (I.aM.fresh (U_ _)) (I.aM.fresh (Rv _)) (Se (Sq _));have I2:=Inv.made (C:=C) I;have r2:Vals (V.ref (s.heap.objs.size+1)::(vs++dvs)) (Value.ref (s.heap.objs.size+1)::(us++ds)):= .cons rfl (r.append hd)
 have hl:(Value.ref (s.heap.objs.size+1)::us++ds).length=ps.length:=by
  have e:=r2.length;rw[F.len _ _ _ _ hq]at e;exact e.symm
 refine wpAny_call (GQ (f:=f) I.pf M.makes M.init (UU.mp M.fn) (WA (F.run _ X.stack _ _ ⟨Value.ref (s.heap.objs.size+1)::us,[]⟩ (Value.ref (s.heap.objs.size+1)::(us++ds)) _ _ E (hr.make C us [])
  (I2.MJ.make C us []) (hb _ (Value.ref (s.heap.objs.size+1)::us) I2.pf hl) r2 hq) λ r s' hq'=>?_))
 cases r with
 |error e=>exact hx pins σ _ _ e s' I2 hq'
 |ok fl=>
  cases fl with
  |ret u=>
   obtain⟨v,H',I3,rv,ev,q3⟩:=I2.after hq';subst ev;exact⟨rv,⟨V.ref (s.heap.objs.size+1),H',I3,rfl,q3⟩⟩
  |next=>exact False.elim hq'
  |brk=>exact False.elim hq'
  |cont=>exact False.elim hq'
def JL(M:Mk X.K C f)(F:bE X.prog X.w X.K X.mg X.base CX k f fd ps sp)(hr:c8 (k+1) X.A)(hg:Gl X x)(hm:X.mg x=some (.ref C))(hb:Binds X.K fd ps ds)(hd:Vals dvs ds)(hx:Passes CX X E)
 (ha:PA X (e::es) t) (hdb:(x==("__debug__":Str))=false:=by decide) (he:starEach (e::es) X.env=(false,eval e X.env)::starEach es X.env:=by rfl) (hpl:(backTo pos (starEach es X.env)).any (·.1)=false:=by rfl):
 PE X (.Call (.Name x p) (e::es) [] pos) (Ir C sp dvs E t):=by
 intro pins s σ H Q I h;refine UW (x8 I hg hm ?_ hdb);refine Wb (h₀:=X.base) I.ok.mod.F2 M.kp (cu (ha pos pins s σ H _ I h) λ us s1 ⟨vs,H1,I1,r,q⟩=>⟨I1.pf,?_⟩) he hpl;exact GW M F hr hb hd hx I1 r q
end
section
variable {X:Cx}{CX:vi}{k:Nat}{f C:Addr}{fd:FuncData}{ps ks:List Str}{sp:Sp}{E:XK}{x m:Str}{p pos apos kpos:Pos}{e o:Expr}{es:List Expr}{kws:List Keyword}{te ta:TE}{t tk:TA}{nm:Option Str}
variable {g:List Value->List Value->List Value}{gV:List V->List V->List V}
end
structure aX(N P:List Str)(sc:Scope):Prop where
 kind:sc.kind= .function
 co:sc.isCoroutine=false
 gen:sc.isGenerator=false
 nd:N.Nodup
 pre:N.take P.length=P
 par:∀x∈P,sc.names.lookup x=some .local\/sc.names.lookup x=some .cell
 Mi:∀y∈sc.names,y.2≠ .free
def yT{kindOf:Str->Option NameKind}{x:Str}:∀ {binds:List (Str×Value)} {m:Str->Option Value},(∀v,(x,v)∉binds)->bindL kindOf binds m x=m x
 | [],_,_=>rfl
 |(n,v)::r,m,h=>by
  unfold bindL;rw[yT λ w hw=>h w (RU _ hw)];split
  . have:x≠n:=by rintro rfl;exact h v R6
    simp[this]
  . rfl
def yV{kindOf:Str->Option NameKind}{x:Str}:∀ {binds:List (Str×Value)} {m:Str->Option Value},(∀v,(x,v)∉binds)->bindC kindOf binds m x=m x
 | [],_,_=>rfl
 |(n,v)::r,m,h=>by
  unfold bindC;rw[yV λ w hw=>h w (RU _ hw)];split
  . rfl
  . have:x≠n:=by rintro rfl;exact h v R6
    simp[this]
def yW{kindOf:Str->Option NameKind}{x:Str}{v:Value}:∀ {P:List Str} {vs:List Value} {i:Nat} {m:Str->Option Value},P.Nodup->P[i]?=some x->vs[i]?=some v->kindOf x=some .local->
 bindL kindOf (P.zip vs) m x=some v
 | [],_,_,_,_,h,_,_=>by simp at h
 |_::_,[],_,_,_,_,h,_=>by simp at h
 |p::P,w::vs,0,m,nd,h1,h2,hk=>by
  simp at h1 h2;subst h1;subst h2;show bindL kindOf ((p,w)::P.zip vs) m p=_;unfold bindL;rw[yT λ v hv=>(Ui.mp nd).1 (VV hv).1,RC hk];simp
 |p::P,w::vs,i+1,m,nd,h1,h2,hk=>by
  show bindL kindOf ((p,w)::P.zip vs) m x=_;unfold bindL;exact yW (i:=i) (Ui.mp nd).2 (by simpa using h1) (by simpa using h2) hk
def yA{kindOf:Str->Option NameKind}{x:Str}{v:Value}:∀ {P:List Str} {vs:List Value} {i:Nat} {m:Str->Option Value},P.Nodup->P[i]?=some x->vs[i]?=some v->kindOf x≠some .local->
 bindC kindOf (P.zip vs) m x=some v
 | [],_,_,_,_,h,_,_=>by simp at h
 |_::_,[],_,_,_,_,h,_=>by simp at h
 |p::P,w::vs,0,m,nd,h1,h2,hk=>by
  simp at h1 h2;subst h1;subst h2;show bindC kindOf ((p,w)::P.zip vs) m p=_;unfold bindC;rw[yV λ v hv=>(Ui.mp nd).1 (VV hv).1,Rx hk];simp
 |p::P,w::vs,i+1,m,nd,h1,h2,hk=>by
  show bindC kindOf ((p,w)::P.zip vs) m x=_;unfold bindC;exact yA (i:=i) (Ui.mp nd).2 (by simpa using h1) (by simpa using h2) hk
def start(N:List Str)(vs:List V):St:=vs.map some++List.replicate (N.length-vs.length) none
def rT(CX:vi)(P:Program)(w:World)(K:PySem.W.Frag)(mg:Str->Option Value)(base:Heap)(N:List Str)(qual:Str)(scope:Scope)(f:Addr)(cd:Value)(A:Around)(outer:List Env)(s:Shared)(H:Hp)(E:XK):Cx where
 prog:=P
 w:=w
 K:=K
 mg:=mg
 base:=base
 A:=A.deeper (envOfC qual scope s.heap.objs.size f cd)
 N:=N
 s₀:=s
 H₀:=H
 env:=envOfC qual scope s.heap.objs.size f cd
 outer:=outer
 stack:=envOfC qual scope s.heap.objs.size f cd::outer
 ex:=[]
 calm:=true
 fn:=λ _=>true
 pn:=[]
 xe:=λ e s'=>wpAny (model P w) (A.deeper (envOfC qual scope s.heap.objs.size f cd)) (leaving (envOfC qual scope s.heap.objs.size f cd) e) (λ _ s''=>CX outer H s E e s'') (λ e' s''=>CX outer H s E e' s'') s'
def Bz{sc:Scope}{n:Nat}{x:Str}(h:sc.names.lookup x=some .cell):∃c,(cellsFrom n sc.names []).lookup x=some c:=by
 have q:=Uu sc.names n [] (.inl h);exact UM.mp q
def Ff{CX:vi}{P:Program}{w:World}{K:PySem.W.Frag}{mg:Str->Option Value}{base:Heap}{N ps:List Str}{qual:Str}{scope:Scope}{f:Addr}{cd:Value}{A:Around}{outer:List Env}{s s1:Shared}{H:Hp}{E:XK}{us:List Value}{vs:List V}
 (S:aX N ps scope) (hd:A.handled=none) (e0:vx P w K mg base A outer s H) (hl:vs.length=ps.length) (r:Vals vs us)
 (x:InCallC s s.heap.objs.size (bindL (envOfC qual scope s.heap.objs.size f cd).kindOf (ps.zip us) λ _=>none) (cellsFrom (s.heap.objs.size+1) scope.names []) (bindC (envOfC qual scope s.heap.objs.size f cd).kindOf (ps.zip us) λ _=>none) s1):
 Inv (rT CX P w K mg base N qual scope f cd A outer s H E) [] (start N vs) H s1:=by
 have hpl:ps.length<=N.length:=by have:=Tu List.length S.pre;rw[TK]at this;omega
 obtain⟨h1,tk,rfl,hk⟩:=x.done;have noA:∀b:Addr,b∉(rT CX P w K mg base N qual scope f cd A outer s H E).ex:=λ b z=>absurd (show b∈([]:List Addr)from z) (by simp)
 refine⟨⟨e0.mod,S.kind,rfl,rfl,Rv _,λ y z c h1 h2=>?_,λ y hy=>?_,λ y c _ h=>?_,λ _=>hd,Around.frames_deeper e0.frames,.inr ⟨rfl,rfl⟩,λ b z=>absurd z (noA b),e0.bs,e0.uo,λ b _ _=>noA b,λ b z=>absurd z (noA b),e0.lP,e0.w9,e0.gt⟩,
  rfl,e0.bare,Un.kept hk,⟨_,x.toInCall.ns,λ i y v h1 h2 h3=>?_⟩,λ y c h=>⟨_,x.cell y c h⟩,e0.aM.fresh (Rv _),λ y c h=>?_,λ p hp=>absurd (show p∈([]:List (Addr×Obj))from hp) (by simp),e0.aM.kept hk,?_⟩
 . exact name_of_addr x.apart (SE h1) (SE h2)
 . have hy:scope.names.lookup y=some .cell\/scope.names.lookup y=some .free:=hy;rcases hy with hy|hy
   . exact Bz hy
   . exact absurd rfl (S.Mi _ (SE hy))
 . exact Tq (x.above y c (SE h))
 . have hi:i<vs.length:=by
    unfold start at h2;by_cases hi:i<vs.length
    . exact hi
    . rw[RY (by simpa using hi)]at h2;rw[WK]at h2;split at h2<;>cases h2
   have ha:vs[i]?=some v:=by
    unfold start at h2;rw[RG (by simpa using hi),RP]at h2;cases e:vs[i]? with
    |none=>rw[e]at h2;cases h2
    |some a=>rw[e]at h2;cases h2;rfl
   obtain⟨u,hu,rv⟩:=r.get ha
   have hp:ps[i]?=some y:=by
    rw[<-S.pre,Vu (by omega)];exact h1
   have ndP:ps.Nodup:=by rw[<-S.pre];exact S.nd.sublist (List.take_sublist _ _)
   refine⟨u,rv,?_⟩;rcases S.par y (Sg hp)with k|k
   . exact .inl ⟨k,yW ndP hp hu k⟩
   . obtain⟨c,e⟩:=Bz (n:=s.heap.objs.size+1) k;refine .inr ⟨.inl k,c,e,?_⟩;have q:=x.cell y c e;rw[yA ndP hp hu (by show scope.names.lookup y≠_;rw[k];decide)]at q;exact q
 . exact e0.aM.fresh (Tq (x.above y c (SE h)))
 . unfold start;show _=N.length;rw[Sy,Rz,VO];omega
def Jd{CX:vi}{P:Program}{w:World}{K:PySem.W.Frag}{mg:Str->Option Value}{base:Heap}{k:Nat}{f:Addr}{name qual:Str}{params:Arguments}{body:List Stmt}{scope:Scope}{dV kV doc pm cdv ct oc:Value}{an od:Option Addr}
 {osl:Array (Option Value)} {N ps:List Str} {sp:Sp} (lk:K.lookup f=some ⟨oc,od,.func (PySem.W.fnOf name qual params body scope dV kV doc pm an cdv ct),osl⟩) (hcd:PySem.W.codeIn K cdv qual=true) (S:aX N ps scope)
 (len:∀vs H Q E,sp vs H Q E->vs.length=ps.length)
 (hbody:∀(A:Around) (outer:List Env) (s:Shared) (H:Hp) (vs:List V) (Q:VK) (E:XK),c8 k (A.deeper (envOfC qual scope s.heap.objs.size f cdv))->sp vs H Q E->
   ∃t,iS (rT CX P w K mg base N qual scope f cdv A outer s H E) body t/\t {nx:=λ _ H'=>Q .aB H',rt:=Q} (start N vs) H):
 bE P w K mg base CX (k+1) f (PySem.W.fnOf name qual params body scope dV kV doc pm an cdv ct) ps sp:=by
 refine⟨len,λ A outer s H args us vs Q E hr e0 hb r hsp=>?_⟩;have hl:=len _ _ _ _ hsp;have KX:K.In s.heap:=e0.mod.F2.keeps λ b o e=>(e0.bs b o e).1;have lim:s.heap.NoLimit:=e0.mod.nolimit.keeps λ b o e=>(e0.bs b o e).1
 have hkind:∀y∈ps.zip us,scope.names.lookup y.1=some .local\/(scope.names.lookup y.1=some .cell/\((cellsFrom (s.heap.objs.size+1) scope.names []).lookup y.1).isSome=true):=λ⟨n,v⟩ hy=>by
  rcases S.par n (VV hy).1 with q|q
  . exact .inl q
  . exact .inr ⟨q,Uu _ _ _ (.inl q)⟩
 refine codeAny_call_function hr.depth (KX _ _ lk) rfl S.co S.gen rfl (PySem.W.codeRec_of KX hcd) (hb _ _ _ _ ?_);refine wpAny_newFunctionEnv_cells S.kind hkind λ env he s1 x=>?_;subst he;refine⟨lim.keeps x.toInCall.keep,codeAny_func ?_⟩;obtain⟨t,ht,hq⟩:=hbody A outer s H vs Q E (hr.deeper _) hsp;have I:Inv (rT CX P w K mg base N qual scope f cdv A outer s H E) [] (start N vs) H s1:=Ff S hr.hd e0 hl r x;refine T8 (ht [] s1 (start N vs) H _ I hq) (λ fl s' hs=>?_) λ e s' hs=>hs
 have fin:∀ {σ':St} {H':Hp} {v:V} {u:Value},Inv (rT CX P w K mg base N qual scope f cdv A outer s H E) [] σ' H' s'->RelV v u->Q v H'->CE outer P w H s Q u s':=
  λ{σ' H' v u} J rv q=>⟨v,H',J.os,J.bare,J.base,J.aM,rv,q⟩
 cases fl with
 |ret u=>
  obtain⟨v,σ',H',J,rv,q⟩:=hs;exact fin J rv q
 |next=>
  obtain⟨σ',H',J,q⟩:=hs;exact fin (v:=V.aB) (u:=Value.none) J rfl q
 |brk=>
  obtain⟨_,_,_,q⟩:=hs;exact False.elim q
 |cont=>
  obtain⟨_,_,_,q⟩:=hs;exact False.elim q
section
variable {X:Cx}{x:Str}{p pos:Pos}{e:Expr}{es:List Expr}{t:TA}{id T:String}{r:List V->Hp->VK->Prop}
def LD(r:List V->Hp->VK->Prop)(t:TA):TE:=λ σ H Q=>t σ H λ vs H1=>r vs H1 Q
def He(hc:bR X (.builtin id) r)(hg:Gl X x)(hm:X.mg x=none)(hv:bootBuiltins x=some (.builtin id))(ha:PA X (e::es) t)(hn:x≠"__name__":=by decide)(hdb:(x==("__debug__":Str))=false:=by decide)
 (he:starEach (e::es) X.env=(false,eval e X.env)::starEach es X.env:=by rfl) (hpl:(backTo pos (starEach es X.env)).any (·.1)=false:=by rfl):PE X (.Call (.Name x p) (e::es) [] pos) (LD r t):=by
 intro pins s σ H Q I h;refine UW (o_ I hg hm hv ?_ hn hdb);exact PyProof.Rows.callWith_builtin1 (cu (ha pos pins s σ H _ I h) λ us s1 ⟨vs,H1,I1,r1,q1⟩=>hc pins s1 σ H1 vs us Q I1 r1 q1) he hpl
def Fw(hc:bR X (.type T) r)(hg:Gl X x)(hm:X.mg x=none)(hv:bootBuiltins x=some (.type T))(ha:PA X (e::es) t)(hn:x≠"__name__":=by decide)(hdb:(x==("__debug__":Str))=false:=by decide)
 (he:starEach (e::es) X.env=(false,eval e X.env)::starEach es X.env:=by rfl) (hpl:(backTo pos (starEach es X.env)).any (·.1)=false:=by rfl):PE X (.Call (.Name x p) (e::es) [] pos) (LD r t):=by
 intro pins s σ H Q I h;refine UW (o_ I hg hm hv ?_ hn hdb);exact T5 (cu (ha pos pins s σ H _ I h) λ us s1 ⟨vs,H1,I1,r1,q1⟩=>hc pins s1 σ H1 vs us Q I1 r1 q1) he hpl
end
end L2
namespace HT
open PySem PyProof.Rows
section
open PySem.SeqAt
open PySem.AutoSeq1 (wpAny_loadPart')
open PySem.MeetsSeq PySem.MeetsSeq2 PySem.MeetsSeq3
end
section
variable {prog:Program}{w:World}{A:Around}{E:Value->Shared->Prop}{s:Shared}
def Ka{t b:Addr}{vs ws:List Value}{Q:Value->Shared->Prop}(ht:IsTup s.heap t vs.toArray)(hb:IsTup s.heap b ws.toArray)(hv:vs≠ [])
 (h1:ws=[]->Q (.ref t) s) (h2:ws≠ []->Q (.ref s.heap.objs.size) {s with heap:=s.heap.push {cls:= .type "tuple",data:= .seq (vs++ws).toArray}})
 (hsz:vs.length+ws.length<=sizeLine):wpAny (model prog w) A (binaryOp .Add (.ref t) (.ref b)) Q E s:=by
 obtain⟨⟨cls,dd,data,sl⟩,ho,hc,n,hd⟩:=id ht;obtain⟨⟨cls2,dd2,data2,sl2⟩,ho2,hc2,n2,hd2⟩:=id hb;simp only at hc hd hc2 hd2;subst hc hd hc2 hd2;have e:vs.toArray++ws.toArray=(vs++ws).toArray:=by simp
 by_cases hw:ws=[]
 . exact Xf ⟨_,ho,rfl⟩ ⟨_,ho2,rfl⟩ WB Xa VE VA (Vv _ _)
    (tuple_addW1 t b vs.toArray ws.toArray n n2 dd dd2 sl sl2 (by simpa using hv) (by simp[hw])) ⟨ho,ho2,h1 hw⟩
 . refine Xf ⟨_,ho,rfl⟩ ⟨_,ho2,rfl⟩ WB Xa VE VA (Vv _ _)
    (tuple_addW2 t b vs.toArray ws.toArray n n2 dd dd2 sl sl2 (by simpa using hv) (by simpa using hw) (by rw[RM,RM];exact hsz)) ⟨ho,ho2,?_⟩
   rw[e];exact h2 hw
def cm(n d:Nat):Option Int->Nat
 |none=>d
 |some v=>if v<0 then(v+(n:Int)).toNat else min v.toNat n
def Hw(n d:Nat):cm n d none=d:=rfl
def J9(n d k:Nat):cm n d (some (k:Int))=min k n:=by
 show(if(k:Int)<0 then((k:Int)+(n:Int)).toNat else min (k:Int).toNat n)=min k n;rw[Rx (by omega),R8]
def M4(n d:Nat)(hd:d<=n)(o:Option Int):cm n d o<=n:=by
 cases o with
 |none=>exact hd
 |some v=>
  show(if v<0 then(v+(n:Int)).toNat else min v.toNat n)<=n;by_cases hv:v<0
  . rw[RC hv];omega
  . rw[Rx hv];exact WC _ _
def Cm(v:Int)(n d:Nat):(if v<0 then max (v+(n:Int)) 0 else min v (n:Int))=((cm n d (some v):Nat):Int):=by
 show(if v<0 then max (v+(n:Int)) 0 else min v (n:Int))=(((if v<0 then(v+(n:Int)).toNat else min v.toNat n):Nat):Int)
 by_cases hv:v<0
 . simp only[RC hv];omega
 . simp only[Rx hv];omega
def C7(lo hi:Option Int)(n:Nat):Builtin.Slice.sliceAdjust lo hi 1 (n:Int)=(((cm n 0 lo:Nat):Int),((cm n n hi:Nat):Int)):=by
 have h1:¬((1:Int)<0):=by omega
 unfold Builtin.Slice.sliceAdjust;simp only[h1,Uq];refine Prod.ext ?_ ?_
 . cases lo with
   |none=>rfl
   |some v=>exact Cm v n 0
 . cases hi with
   |none=>rfl
   |some v=>exact Cm v n n
def C_(i j:Nat):Builtin.Slice.slicePlaces (i:Int) (j:Int) 1=j-i:=by
 unfold Builtin.Slice.slicePlaces;have h1:(1:Int)>0:=by omega
 simp only[h1,UB,Int.ediv_one];split<;>omega
def xm{v:Value}{o:Option Int}{Q:Option Int->Shared->Prop}(p:IsPart v o)(h:Q o s):wpAny (model prog w) A (Builtin.Slice.slicePartIndex v) Q E s:=by
 cases p with
 |none=>exact slicePart_none h
 |int i t=>exact slicePart_int h
def o9{sl:Addr}{vl vu:Value}{lo hi:Option Int}{n:Nat}{Q:Int×Int×Nat->Shared->Prop}(hs:s.heap.IsSliceOf sl vl vu .none)(pl:IsPart vl lo)(pu:IsPart vu hi)
 (h:Q (((cm n 0 lo:Nat):Int),1,cm n n hi-cm n 0 lo) s):wpAny (model prog w) A (Builtin.Slice.sliceApplied (.ref sl) (pure (n:Int))) Q E s:=by
 obtain⟨os,hos,hcs,hds⟩:=id hs;unfold Builtin.Slice.sliceApplied Builtin.Slice.sliceFields;refine Rw (Rw (Tw hos hds (x:=vl) rfl (Rw (Tw hos hds (x:=vu) rfl (Rw (Tw hos hds (x:= .none) rfl (RO ?_)))))));refine Rw (slicePart_none ?_);show wpAny _ _ (if((1:Int)==0)=true then _ else _) _ _ s;rw[Rx (by decide)];refine Rw (xm pl (Rw (xm pu (Rw (RO ?_)))));show wpAny _ _ (match Builtin.Slice.sliceAdjust lo hi 1 (n:Int)with|(lo,hi)=>pure (lo,(1:Int),Builtin.Slice.slicePlaces lo hi 1)) _ _ s;rw[C7 lo hi n];show wpAny _ _ (pure (((cm n 0 lo:Nat):Int),(1:Int),Builtin.Slice.slicePlaces ((cm n 0 lo:Nat):Int) ((cm n n hi:Nat):Int) 1)) _ _ s;rw[C_];exact RO h
def Hm(xs:Array Value)(i k:Nat):((List.range k).filterMap λ(m:Nat)=>xs[((i:Int)+(m:Int)*1).toNat]?).toArray=((xs.toList.drop i).take k).toArray:=by
 have e:(λ(m:Nat)=>xs[((i:Int)+(m:Int)*1).toNat]?)=λ m=>xs[i+m]?:=by
  funext m;have:((i:Int)+(m:Int)*1).toNat=i+m:=by omega
  rw[this]
 rw[e];have:=pick_run xs i k;rw[List.filterMap_map]at this;have e2:((λ x=>xs[x]?)∘λ x=>i+x)=λ m=>xs[i+m]?:=rfl;rw[e2]at this;rw[this]
def vb{t sl:Addr}{items:Array Value}{vl vu:Value}{lo hi:Option Int}{Q:Value->Shared->Prop}(ht:IsTup s.heap t items)(hs:s.heap.IsSliceOf sl vl vu .none)(pl:IsPart vl lo)(pu:IsPart vu hi)
 (hw:¬(cm items.size 0 lo=0/\cm items.size items.size hi=items.size))
 (h:Q (.ref s.heap.objs.size) {s with heap:=s.heap.push {cls:= .type "tuple",data:= .seq ((items.toList.drop (cm items.size 0 lo)).take (cm items.size items.size hi-cm items.size 0 lo)).toArray}})
 (hsz:items.size<=sizeLine):wpAny (model prog w) A (getItem (.ref t) (.ref sl)) Q E s:=by
 have htake:sizeOk (.seq ((items.toList.drop (cm items.size 0 lo)).take (cm items.size items.size hi-cm items.size 0 lo)).toArray):=by
  show((items.toList.drop (cm items.size 0 lo)).take (cm items.size items.size hi-cm items.size 0 lo)).toArray.size<=sizeLine;rw[RM,TK,UN,TB];omega
 have hj:cm items.size items.size hi<=items.size:=M4 _ _ (Rv _) hi;obtain⟨os,hos,hcs,hds⟩:=id hs;have hTs:s.TypeIs (.ref sl) "slice":=⟨os,hos,hcs⟩
 unfold getItem;try with_reducible refine UT ?_
 first|refine Rw (RO ?_)|skip
 refine Rw (wpAny_sequenceKey ht.typeIs (by decide) ?_)
 refine Rw (TJ (name:=Str.ofString "__getitem__") ht.typeIs Ti
  (Ur Ti ht.typeIs entry_tuple_getitem ?_ (args_tuple_getitem _ _)))
 show wpAny _ _ (Builtin.Tuple.tupleItemsOf (.ref t) >>= _) _ _ s;refine Rw (tupleItemsOf_ ht ?_);refine Rw (Xg hTs ?_);rw[RC (by decide)];refine Rw (o9 hs pl pu ?_)
 have hno:¬((((cm items.size 0 lo:Nat):Int)==0&&(1:Int)==1&&(cm items.size items.size hi-cm items.size 0 lo)==items.size)=true):=by
  intro q;rw[SV,SV]at q;have q1:((cm items.size 0 lo:Nat):Int)=0:=eq_of_beq q.1.1;have q2:cm items.size items.size hi-cm items.size 0 lo=items.size:=eq_of_beq q.2;exact hw ⟨by omega,by omega⟩
 show wpAny _ _ (if(((cm items.size 0 lo:Nat):Int)==0&&(1:Int)==1&&(cm items.size items.size hi-cm items.size 0 lo)==items.size)=true then _ else _) _ _ s;rw[Rx hno,Hm]
 first
  |exact Rw (m:=Builtin.Tuple.tupleExact _) (Uo (RO ⟨_,rfl,RO h⟩) htake)
  |exact Rw (m:=Builtin.Tuple.tupleExact _) (Uo (Rw (RO (RO ⟨_,rfl,RO h⟩))) htake)
  |exact Rw (Rw (m:=Builtin.Tuple.tupleExact _) (Uo (RO (RO ⟨_,rfl,RO h⟩)) htake))
  |exact Rw (Rw (m:=Builtin.Tuple.tupleExact _) (Uo (RO ⟨_,rfl,RO h⟩) htake))
end
end HT
namespace L2
open PySem PySem.Spec PyProof.Rows
abbrev TO:=St->Hp->(Option Int->Hp->Prop)->Prop
def PO(X:Cx)(e:Option Expr)(t:TO):Prop:=
 ∀(pins:List (Addr×Obj)) (s:Shared) (σ:St) (H:Hp) (Q:Option Int->Hp->Prop),Inv X pins σ H s->t σ H Q->
  wpAny (model X.prog X.w) X.A (evalPart e X.env) (λ u s'=>∃o H',Inv X pins σ H' s'/\IsPart u o/\Q o H') X.xe s
def Kp:TO:=λ _ H Q=>Q none H
def OK(t:TE):TO:=λ σ H Q=>t σ H λ x H1=>∃i,x= .int i/\Q (some i) H1
section
variable {X:Cx}{e:Expr}{te:TE}{lo hi:Option Expr}{tl th:TO}{pos p2:Pos}
def Kk:PO X none Kp:=by
 intro pins s σ H Q I h;rw[evalPart_none];exact RO ⟨none,H,I,.none,h⟩
def Kx(h:PE X e te):PO X (some e) (OK te):=by
 intro pins s σ H Q I hw;rw[evalPart_some];refine cu (h pins s σ H _ I hw) λ u s1 ⟨x,H1,I1,r1,q1⟩=>?_;obtain⟨i,rfl,q⟩:=q1;obtain⟨t,rfl⟩:=r1;exact⟨some i,H1,I1,.int i t,q⟩
def EU(X:Cx)(r:V->Option Int->Option Int->Hp->VK->Prop):Prop:=
 ∀(pins:List (Addr×Obj)) (s:Shared) (σ:St) (H:Hp) (x:V) (v vl vu:Value) (lo hi:Option Int) (sl:Addr) (Q:VK),Inv X pins σ H s->RelV x v->s.heap.IsSliceOf sl vl vu .none->IsPart vl lo->IsPart vu hi->r x lo hi H Q->
  ∃T id,typeLookup (.type T) "__getitem__"=pure (some (.builtin id))/\s.TypeIs v T/\wpAny (model X.prog X.w) X.A (getItem v (.ref sl)) (EP X pins σ Q) X.xe s
def Q9(r:V->Option Int->Option Int->Hp->VK->Prop)(te:TE)(tl th:TO):TE:=λ σ H Q=>te σ H λ x H1=>tl σ H1 λ l H2=>th σ H2 λ u H3=>r x l u H3 Q
def GX{r:V->Option Int->Option Int->Hp->VK->Prop}(hr:EU X r)(he:PE X e te)(hl:PO X lo tl)(hu:PO X hi th):PE X (.Subscript e (.Slice lo hi none p2) pos) (Q9 r te tl th):=by
 intro pins s σ H Q I h;refine Subscript_ (cu (he pins s σ H _ I h) λ v s1 ⟨x,H1,I1,r1,q1⟩=>?_);refine wpAny_Slice (cu (hl pins s1 σ H1 _ I1 q1) λ vl s2 ⟨l,H2,I2,pl,q2⟩=>cu (hu pins s2 σ H2 _ I2 q2) λ vu s3 ⟨u,H3,I3,pu,q3⟩=>?_);rw[evalPart_none];refine RO ?_;have I4:Inv X pins σ H3 {s3 with heap:=s3.heap.push {cls:= .type "slice",data:= .fields #[vl,vu,.none]}}:=I3.kept (t':=s3.toks) λ b ob q=>RE _ q;obtain⟨T,id,hT,ht,hg⟩:=hr pins {s3 with heap:=s3.heap.push {cls:= .type "slice",data:= .fields #[vl,vu,.none]}} σ H3 x v vl vu l u s3.heap.objs.size Q I4 r1 (Heap.IsSliceOf.new ..) pl pu q3;show wpAny (model X.prog X.w) X.A (subscriptTail e (.Slice lo hi none p2) v (.ref s3.heap.objs.size)) (EP X pins σ Q) X.xe {s3 with heap:=s3.heap.push {cls:= .type "slice",data:= .fields #[vl,vu,.none]}};exact tail_any (ops:=[.ref s3.heap.objs.size,v]) ht hT hg (by with_unfolding_all rfl)
def rR(xs:List V)(lo hi:Option Int):List V:=(xs.drop (HT.cm xs.length 0 lo)).take (HT.cm xs.length xs.length hi-HT.cm xs.length 0 lo)
def vh(xs:List V)(lo hi:Option Int):(rR xs lo hi).length<=xs.length:=by
 unfold rR;rw[TK,UN];omega
def QJ(K:PySem.W.Frag):V->Option Int->Option Int->Hp->VK->Prop:=λ x lo hi H Q=>∃a xs,x= .ref a/\jO K H a xs/\
 ¬(HT.cm xs.length 0 lo=0/\HT.cm xs.length xs.length hi=xs.length)/\∀p,H p=none->Q (.ref p) (upd H p (.tup (rR xs lo hi)))
def L7:EU X (QJ X.K):=by
 intro pins s σ H x v vl vu lo hi sl Q I rx hs pl pu h;obtain⟨a,xs,rfl,hx,hw,q⟩:=h;cases rx;obtain⟨its,r,ht,hz⟩:=I.tuple hx;have hlen:its.toArray.size=xs.length:=by rw[RM];exact r.length.symm
 refine⟨"tuple",_,Ti.lookup,ht.typeIs,?_⟩;refine HT.vb ht hs pl pu (by rw[hlen];exact hw) ?_ (by rw[hlen];exact hz);rw[hlen];refine⟨.ref s.heap.objs.size,_,I.laid (t':=s.toks) (o:= .tup (rR xs lo hi)) (λ b ob q=>RE _ q) (Rv _) ?_,rfl,q _ (I.aM.fresh (Rv _))⟩;exact⟨RH (vh xs lo hi) hz,_,(r.drop (HT.cm xs.length 0 lo)).take (HT.cm xs.length xs.length hi-HT.cm xs.length 0 lo),IsTup.new _ _⟩
def Oi(K:PySem.W.Frag):R2:=λ x y H Q=>∃a b xs ys,x= .ref a/\y= .ref b/\jO K H a xs/\jO K H b ys/\xs≠ []/\xs.length+ys.length<=sizeLine/\
 (ys=[]->Q (.ref a) H)/\(ys≠ []->∀p,H p=none->Q (.ref p) (upd H p (.tup (xs++ys))))
def Vals.uO{xs:List V}{us:List Value}(r:Vals xs us):us=[]↔xs=[]:=by
 cases r with
 |nil=>simp
 |cons _ _=>simp
def Jz:cf X (binaryOp .Add) (Oi X.K):=by
 intro pins s σ H x y v u Q I rx ry h;obtain⟨a,b,xs,ys,rfl,rfl,ha,hb,hx,hz,q1,q2⟩:=h;cases rx;cases ry;obtain⟨its,r1,p1,_⟩:=I.tuple ha;obtain⟨its2,r2,p2,_⟩:=I.tuple hb;refine HT.Ka p1 p2 (λ z=>hx (r1.uO.mp z)) (λ z=>⟨.ref a,H,I,rfl,q1 (r2.uO.mp z)⟩) (λ z=>?_) (by rw[<-r1.length,<-r2.length];exact hz);refine⟨.ref s.heap.objs.size,_,I.laid (t':=s.toks) (o:= .tup (xs++ys)) (λ b ob q=>RE _ q) (Rv _) ?_,rfl,q2 (λ w=>z (r2.uO.mpr w)) _ (I.aM.fresh (Rv _))⟩;exact⟨by rw[Sy];exact hz,_,r1.append r2,IsTup.new _ _⟩
end
def o4(n:Nat)(i:Int):Option Nat:=if 0<=i then(if i<n then some i.toNat else none)else if-(n:Int)<=i then some (i+n).toNat else none
def eF{α:Type}(xs:List α)(i:Int):Option α:=(o4 xs.length i).bind λ j=>xs[j]?
def CH{n:Nat}{i:Int}{j:Nat}(h:o4 n i=some j):seqIndex? i n=some j/\j<n/\ -(n:Int)<=i/\i<n:=by
 unfold o4 at h;by_cases h0:0<=i
 . rw[RC h0]at h;by_cases h1:i<n
   . rw[RC h1]at h;have e:i.toNat=j:=SS h;exact⟨by rw[seqIndex_of h0 h1,e],by omega,by omega,h1⟩
   . rw[Rx h1]at h;cases h
 . rw[Rx h0]at h;by_cases h1: -(n:Int)<=i
   . rw[RC h1]at h;have e:(i+n).toNat=j:=SS h;exact⟨by rw[seqIndex_neg (by omega) h1,e],by omega,h1,by omega⟩
   . rw[Rx h1]at h;cases h
def yc{α:Type}{xs:List α}{i:Int}{v:α}(h:eF xs i=some v):∃j,seqIndex? i xs.length=some j/\xs[j]?=some v/\j<xs.length/\ -(xs.length:Int)<=i/\i<xs.length:=by
 unfold eF at h;cases e:o4 xs.length i with
 |none=>rw[e]at h;cases h
 |some j=>
  rw[e]at h;obtain⟨h1,h2,h3,h4⟩:=CH e;exact⟨j,h1,h,h2,h3,h4⟩
def jq{α:Type}{xs:List α}{j:Nat}{v:α}(h:xs[j]?=some v):eF xs (j:Int)=some v:=by
 have hj:j<xs.length:=(RB.mp h).1
 have e:o4 xs.length (j:Int)=some j:=by
  unfold o4;rw[RC (by omega),RC (by omega)];simp
 unfold eF;rw[e];exact h
def uA(b:Expr):Prop:=∀o i,subscripted b false o i=operate [o,i] (getItem o i)
def IG(X:Cx)(r:R2):Prop:=
 ∀(value slice:Expr) (pins:List (Addr×Obj)) (s:Shared) (σ:St) (H:Hp) (x y:V) (v u:Value) (Q:VK),Inv X pins σ H s->RelV x v->RelV y u->r x y H Q->
  subscripted slice false v u=operate [v,u] (getItem v u)->wpAny (model X.prog X.w) X.A (subscriptTail value slice v u) (EP X pins σ Q) X.xe s
def Nz(X:Cx)(id:String)(r:V->List V->Hp->VK->Prop):Prop:=
 ∀(pins:List (Addr×Obj)) (s:Shared) (σ:St) (H:Hp) (x:V) (xs:List V) (v:Value) (us:List Value) (Q:VK),Inv X pins σ H s->RelV x v->Vals xs us->r x xs H Q->
  wpAny (model X.prog X.w) X.A (call (.builtin id) (v::us)) (EP X pins σ Q) X.xe s
section
variable {X:Cx}{a b:Expr}{ta tb:TE}{pos:Pos}
def Ov{r:R2}(hr:IG X r)(ha:PE X a ta)(hb:PE X b tb)(hs:uA b):PE X (.Subscript a b pos) (En r ta tb):=by
 intro pins s σ H Q I h;exact Subscript_ (Gu ha hb I h λ v u s2 x y H2 I2 rx ry q=>hr a b pins s2 σ H2 x y v u Q I2 rx ry q (hs _ _))
def Qr(K:PySem.W.Frag):R2:=λ x y H Q=>∃p xs i v,x= .ref p/\y= .int i/\mF K H p xs/\eF xs i=some v/\Q v H
def QO(K:PySem.W.Frag):R2:=λ x y H Q=>∃p xs i v,x= .ref p/\y= .int i/\jO K H p xs/\eF xs i=some v/\Q v H
def CD:IG X (Qr X.K):=by
 intro value slice pins s σ H x y v u Q I rx ry h hs;obtain⟨p,xs,i,z,rfl,rfl,hq,he,q⟩:=h;cases rx;obtain⟨t,rfl⟩:=ry;obtain⟨its,r,pl,hz⟩:=I.list hq;obtain⟨j,h1,h2,h3,h4,h5⟩:=yc he;obtain⟨w,ew,rw'⟩:=r.get h2;have hl:=r.length;have hn:=tJ;have fin:EP X pins σ Q w s:=⟨z,H,I,rw',q⟩
 by_cases h0:0<=i
 . have hj:i.toNat=j:=by
    rw[seqIndex_of h0 h5]at h1;exact SS h1
   exact item_listR pl.isList h0 (by omega) (by rw[hj];simpa using ew) fin hs
 . have hj:(i+(its.toArray.size:Int)).toNat=j:=by
    rw[seqIndex_neg (by omega) h4]at h1;rw[RM,<-hl];exact SS h1
   exact subscriptTail_builtinR (x:=w) pl.isList.typeIs slot_list_getitem.lookup
    (wpAny_getItem_list_neg (Q:=λ r s'=>r=w/\EP X pins σ Q r s') pl.isList (by omega) (by rw[RM]<;>omega) (by omega) (by rw[hj];simpa using ew) ⟨rfl,fin⟩) hs
def LJ:IG X (QO X.K):=by
 intro value slice pins s σ H x y v u Q I rx ry h hs;obtain⟨p,xs,i,z,rfl,rfl,hq,he,q⟩:=h;cases rx;obtain⟨t,rfl⟩:=ry;obtain⟨its,r,pl,hz⟩:=I.tuple hq;obtain⟨j,h1,h2,h3,h4,h5⟩:=yc he;obtain⟨w,ew,rw'⟩:=r.get h2;have hl:=r.length;have hn:=tJ;have fin:EP X pins σ Q w s:=⟨z,H,I,rw',q⟩
 exact subscriptTail_builtinR (x:=w) pl.typeIs slot_tuple_getitem.lookup
  (getItem_tuple (j:=j) (Q:=λ r s'=>r=w/\EP X pins σ Q r s') pl (by omega) (by omega) (by rw[RM,<-hl];exact h1) (by simpa using ew) ⟨rfl,fin⟩) hs
def C0(its:List Value)(n j:Nat)(u:Value):Obj.mapSeq (·.setIfInBounds j u) {cls:= .type "list",data:= .seq its.toArray n}= {cls:= .type "list",data:= .seq (its.set j u).toArray n}:=by
 simp[Obj.mapSeq]
def Inv.lst{pins:List (Addr×Obj)}{σ:St}{H:Hp}{s:Shared}{p:Addr}{xs:List V}(I:Inv X pins σ H s)(h:H p=some (.lst xs)):
 ∃(its:List Value) (n:Nat),Vals xs its/\s.heap.get? p=some {cls:= .type "list",data:= .seq its.toArray n}/\xs.length<=sizeLine:=by
 obtain⟨z,its,n,r,e⟩:=I.aM p _ h;exact⟨its,n,r,e,z⟩
def Inv.Ms{pins:List (Addr×Obj)}{σ:St}{H:Hp}{s:Shared}{p:Addr}{xs ys:List V}{its its':List Value}{n n':Nat}{f:Obj->Obj}(I:Inv X pins σ H s)(h:H p=some (.lst xs))
 (ho:s.heap.get? p=some {cls:= .type "list",data:= .seq its.toArray n}) (hf:f {cls:= .type "list",data:= .seq its.toArray n}= {cls:= .type "list",data:= .seq its'.toArray n'}) (r:Vals ys its') (hz:ys.length<=sizeLine) (t:Nat):
 Inv X pins σ (upd H p (.lst ys)) {s with heap:=s.heap.update p f,toks:=t}:=by
 have e:(s.heap.update p f).get? p=some {cls:= .type "list",data:= .seq its'.toArray n'}:=by
  rw[Heap.get?_update_self f ho (by rw[hf]<;>rfl),hf]
 refine I.write (x:=p) (e:=p) (by rw[h];trivial) (.inl rfl) (λ b u hb q=>(WS _ _ (RK hb)).trans q) ⟨_,e⟩ ?_;exact⟨hz,its',n',r,e⟩
def uM:V->V->V->Hp->(Hp->Prop)->Prop:=λ o i v H Q=>∃p xs k j,o= .ref p/\i= .int k/\H p=some (.lst xs)/\o4 xs.length k=some j/\Q (upd H p (.lst (xs.set j v)))
def set_list:Lu X uM:=by
 intro pins s σ H o i v ov iv u Q I ro ri rv h;obtain⟨p,xs,k,j,rfl,rfl,hp,hj,q⟩:=h;cases ro;obtain⟨t,rfl⟩:=ri;obtain⟨its,n,r,ho,hz⟩:=I.lst hp;obtain⟨h1,h2,h3,h4⟩:=CH hj;have hl:=r.length;have hn:=tJ
 have I':Inv X pins σ (upd H p (.lst (xs.set j v))) {s with heap:=s.heap.update p (Obj.mapSeq (·.setIfInBounds j u))}:=
  I.Ms hp ho (C0 its n j u) (r.set rv j) (by rw[RV];exact hz) s.toks
 by_cases h0:0<=k
 . have hk:k.toNat=j:=by
    rw[seqIndex_of h0 h4]at h1;exact SS h1
   exact PySem.W.ki_setAt ho h0 (by omega) (by rw[RM,<-hl];exact h4) (by rw[hk];exact⟨_,I',q⟩)
 . have hk:(k+(its.toArray.size:Int)).toNat=j:=by
    rw[seqIndex_neg (by omega) h3]at h1;rw[RM,<-hl];exact SS h1
   exact PySem.W.ki_setBack ho (by omega) (by rw[RM,<-hl];exact h3) (by omega) (by rw[hk];exact⟨_,I',q⟩)
def AA(lo hi:Option Int)(n:Nat):(sliceBounds lo hi none n).1=((HT.cm n 0 lo:Nat):Int)/\(sliceBounds lo hi none n).2.1=((HT.cm n n hi:Nat):Int)/\(sliceBounds lo hi none n).2.2=1:=by
 refine⟨?_,?_,rfl⟩
 . cases lo with
   |none=>simp[sliceBounds,HT.cm]
   |some i=>
    simp only[sliceBounds,HT.cm,Option.getD_none,show(1:Int)>0 by decide,UB];by_cases h:i<0
    . simp only[h,UB]<;>omega
    . simp only[h,Uq]<;>omega
 . cases hi with
   |none=>simp[sliceBounds,HT.cm]
   |some i=>
    simp only[sliceBounds,HT.cm,Option.getD_none,show(1:Int)>0 by decide,UB];by_cases h:i<0
    . simp only[h,UB]<;>omega
    . simp only[h,Uq]<;>omega
def y_(its:List Value)(lo hi:Option Int):slicePick its.toArray lo hi none=((its.drop (HT.cm its.length 0 lo)).take (HT.cm its.length its.length hi-HT.cm its.length 0 lo)).toArray:=by
 obtain⟨h1,h2,h3⟩:=AA lo hi its.toArray.size;unfold slicePick;rw[h1,h2,h3];simp only[sliceRange_one,pick_run,RM]<;>rfl
def Qg(K:PySem.W.Frag):V->Option Int->Option Int->Hp->VK->Prop:=λ x lo hi H Q=>∃a xs,x= .ref a/\mF K H a xs/\∀p,H p=none->Q (.ref p) (upd H p (.lst (rR xs lo hi)))
def BR:EU X (Qg X.K):=by
 intro pins s σ H x v vl vu lo hi sl Q I rx hs pl pu h;obtain⟨a,xs,rfl,hx,q⟩:=h;cases rx;obtain⟨its,r,ht,hz⟩:=I.list hx;have hlen:=r.length;refine⟨"list",_,slot_list_getitem.lookup,ht.isList.typeIs,?_⟩;refine wpAny_getItem_list_slice ht.isList hs pl pu .none (by simp) ?_ (by rw[RM]<;>omega);rw[y_,<-hlen];refine⟨.ref s.heap.objs.size,_,I.laid (t':=s.toks) (o:= .lst (rR xs lo hi)) (λ b ob q=>RE _ q) (Rv _) ?_,rfl,q _ (I.aM.fresh (Rv _))⟩;exact⟨RH (vh xs lo hi) hz,_,0,(r.drop (HT.cm xs.length 0 lo)).take (HT.cm xs.length xs.length hi-HT.cm xs.length 0 lo),R_ _ rfl⟩
def oA:V->Bool
 | .aB=>true
 | .bl _=>true
 | .int _=>true
 | .str _=>true
 |_=>false
def yr:V->V->Bool
 | .aB,.aB=>true
 | .bl a,.bl b=>a==b
 | .bl a,.int b=>(if a then 1 else 0)==b
 | .int a,.bl b=>a==(if b then 1 else 0)
 | .int a,.int b=>a==b
 | .str a,.str b=>a==b
 |_,_=>false
def L6{A:Around}{s:Shared}{y x:V}{u v:Value}(ry:RelV y u)(rx:RelV x v)(fy:oA y=true)(fx:oA x=true):SeqAt.EqAt A s u v (yr y x):=by
 cases y with
 |aB=>
  cases ry;cases x with
  |aB=>cases rx;exact SeqAt.EqAt.same _
  |bl b=>cases rx;exact SeqAt.EqAt.none_bool b
  |int b=>obtain⟨t,rfl⟩:=rx;exact SeqAt.EqAt.none_int b t
  |str b=>obtain⟨t,rfl⟩:=rx;exact SeqAt.EqAt.none_str b t
  |_=>exact absurd (show false=true from fx) Sb
 |bl a=>
  cases ry;cases x with
  |aB=>cases rx;exact SeqAt.EqAt.bool_none a
  |bl b=>cases rx;exact SeqAt.EqAt.bool_bool a b
  |int b=>obtain⟨t,rfl⟩:=rx;exact SeqAt.EqAt.bool_int a b t
  |str b=>obtain⟨t,rfl⟩:=rx;exact SeqAt.EqAt.bool_str a b t
  |_=>exact absurd (show false=true from fx) Sb
 |int a=>
  obtain⟨t',rfl⟩:=ry;cases x with
  |aB=>cases rx;exact SeqAt.EqAt.int_none a t'
  |bl b=>cases rx;exact SeqAt.EqAt.int_bool a t' b
  |int b=>obtain⟨t,rfl⟩:=rx;exact SeqAt.EqAt.int_int a t' b t
  |str b=>obtain⟨t,rfl⟩:=rx;exact SeqAt.EqAt.int_str a t' b t
  |_=>exact absurd (show false=true from fx) Sb
 |str a=>
  obtain⟨t',rfl⟩:=ry;cases x with
  |aB=>cases rx;exact SeqAt.EqAt.str_none a t'
  |bl b=>cases rx;exact SeqAt.EqAt.str_bool a t' b
  |int b=>obtain⟨t,rfl⟩:=rx;exact SeqAt.EqAt.str_int a t' b t
  |str b=>obtain⟨t,rfl⟩:=rx;exact SeqAt.EqAt.str_str a t' b t
  |_=>exact absurd (show false=true from fx) Sb
 |_=>exact absurd (show false=true from fy) Sb
def oX(x:V)(u:Value):Bool:=match u with
 | .none=>yr .aB x
 | .bool b=>yr (.bl b) x
 | .int i _=>yr (.int i) x
 | .str z _=>yr (.str z) x
 |_=>false
def FH{x y:V}{u:Value}(r:RelV y u)(f:oA y=true):oX x u=yr y x:=by
 cases y with
 |aB=>cases r;rfl
 |bl b=>cases r;rfl
 |int i=>obtain⟨t,rfl⟩:=r;rfl
 |str z=>obtain⟨t,rfl⟩:=r;rfl
 |_=>exact absurd (show false=true from f) Sb
def qO{x:V}:∀ {xs:List V} {us:List Value},Vals xs us->xs.all oA=true->us.any (oX x)=xs.any λ y=>yr y x
 |_,_,.nil,_=>rfl
 |y::xs,u::us,.cons r t,f=>by
  rw[UE,SV]at f;rw[UG,UG,FH r f.1,qO t f.2]
def pD{A:Around}{s:Shared}{x:V}{v:Value}(rx:RelV x v)(fx:oA x=true):∀ {xs:List V} {us:List Value},Vals xs us->xs.all oA=true->∀u∈us,SeqAt.EqAt A s u v (oX x u)
 |_,_,.nil,_=>λ u hu=>by cases hu
 |y::xs,u::us,.cons r t,f=>λ u' hu=>by
  rw[UE,SV]at f;rcases R7.mp hu with rfl|hu
  . rw[FH r f.1];exact L6 r rx f.1 fx
  . exact pD rx fx t f.2 u' hu
def Cb(x:V)(xs:List V):Bool:=xs.any λ y=>yr y x
def PB(K:PySem.W.Frag)(neg:Bool):R2:=λ x y H Q=>∃p xs,y= .ref p/\(mF K H p xs\/jO K H p xs)/\oA x=true/\xs.all oA=true/\Q (.bl (if neg then !Cb x xs else Cb x xs)) H
def E6:cf X (compareOp .In) (PB X.K false):=by
 intro pins s σ H x y v u Q I rx ry h;obtain⟨p,xs,rfl,hq,fx,fs,q⟩:=h;cases ry;rcases hq with hq|hq
 . obtain⟨its,r,pl,hz⟩:=I.list hq;refine SeqAt.in_listAt (oX x) pl.isList (λ w hw=>pD rx fx r fs w (by simpa using hw)) ⟨.bl _,H,I,rfl,?_⟩;rw[show its.toArray.any (oX x)=its.any (oX x) by simp,qO r fs];exact q
 . obtain⟨its,r,pl,hz⟩:=I.tuple hq;refine SeqAt.in_tupleAt (oX x) pl (λ w hw=>pD rx fx r fs w (by simpa using hw)) ⟨.bl _,H,I,rfl,?_⟩;rw[show its.toArray.any (oX x)=its.any (oX x) by simp,qO r fs];exact q
def Bd:cf X (compareOp .NotIn) (PB X.K true):=by
 intro pins s σ H x y v u Q I rx ry h;obtain⟨p,xs,rfl,hq,fx,fs,q⟩:=h;cases ry;rcases hq with hq|hq
 . obtain⟨its,r,pl,hz⟩:=I.list hq;refine SeqAt.notIn_listAt (oX x) pl.isList (λ w hw=>pD rx fx r fs w (by simpa using hw)) ⟨.bl _,H,I,rfl,?_⟩;rw[show its.toArray.any (oX x)=its.any (oX x) by simp,qO r fs];exact q
 . obtain⟨its,r,pl,hz⟩:=I.tuple hq;refine SeqAt.notIn_tupleAt (oX x) pl (λ w hw=>pD rx fx r fs w (by simpa using hw)) ⟨.bl _,H,I,rfl,?_⟩;rw[show its.toArray.any (oX x)=its.any (oX x) by simp,qO r fs];exact q
def zN:bR X (.builtin "len") (λ xs H Q=>∃p ys,xs=[.ref p]/\(mF X.K H p ys\/jO X.K H p ys)/\Q (.int ys.length) H):=by
 intro pins s σ H xs us Q I r h;obtain⟨p,ys,rfl,hq,q⟩:=h;obtain⟨u,rfl,rx⟩:=vals1 r;cases rx;have hn:=tJ;rcases hq with hq|hq
 . obtain⟨its,r',pl,hz⟩:=I.list hq;have hlen:=r'.length;exact Calls.call_len_list pl.isList (by simp only[RM]<;>omega) ⟨.int ys.length,H,I.tok _,⟨s.toks+1,by rw[RM,hlen]⟩,q⟩
 . obtain⟨its,r',pl,hz⟩:=I.tuple hq;have hlen:=r'.length;exact len_tuple pl (by simp only[RM]<;>omega) ⟨.int ys.length,H,I.tok _,⟨s.toks+1,by rw[RM,hlen]⟩,q⟩
def AR:bR X (.builtin "len") (λ xs H Q=>∃z,xs=[.str z]/\z.length<=sizeLine/\Q (.int z.length) H):=by
 intro pins s σ H xs us Q I r h;obtain⟨z,rfl,hz,q⟩:=h;obtain⟨u,rfl,t,rfl⟩:=vals1 r;have hn:=tJ;exact len_str (by omega) ⟨.int z.length,H,I.tok _,⟨_,rfl⟩,q⟩
def t_:bR X (.type "list") (λ xs H Q=>∃p ys,xs=[.ref p]/\(mF X.K H p ys\/jO X.K H p ys)/\∀l,H l=none->Q (.ref l) (upd H l (.lst ys))):=by
 intro pins s σ H xs us Q I r h;obtain⟨p,ys,rfl,hq,q⟩:=h;obtain⟨u,rfl,rx⟩:=vals1 r;cases rx
 have fin:∀(its:List Value),Vals ys its->ys.length<=sizeLine->∀(h':Heap) (c':Nat),(∀b o',s.heap.get? b=some o'->h'.get? b=some o')->
  h'.get? s.heap.objs.size=some {cls:= .type "list",dict:=none,data:= .seq its.toArray c',slots:= #[]}->EP X pins σ Q (.ref s.heap.objs.size) {s with heap:=h'}:=λ its r' hz h' c' kp e=>
  ⟨.ref s.heap.objs.size,_,I.laid (t':=s.toks) kp (Rv _) (show g_ X.prog X.w _ h' _ (.lst ys)from⟨hz,its,c',r',e⟩),rfl,q _ (I.aM.fresh (Rv _))⟩
 rcases hq with hq|hq
 . obtain⟨its,r',pl,hz⟩:=I.list hq;have hlen:=r'.length;obtain⟨o,ho,hc,n,hd⟩:=pl.isList;exact call_list_seq p (.inl rfl) ho hc hd (λ h' c' kp e=>fin its r' hz h' c' kp e) (by simp only[RM]<;>omega)
 . obtain⟨its,r',pl,hz⟩:=I.tuple hq;have hlen:=r'.length;obtain⟨o,ho,hc,n,hd⟩:=pl;exact call_list_seq p (.inr rfl) ho hc hd (λ h' c' kp e=>fin its r' hz h' c' kp e) (by simp only[RM]<;>omega)
def y0:bR X (.type "tuple") (λ xs H Q=>∃p ys,xs=[.ref p]/\((mF X.K H p ys/\∀l,H l=none->Q (.ref l) (upd H l (.tup ys)))\/(jO X.K H p ys/\Q (.ref p) H))):=by
 intro pins s σ H xs us Q I r h;obtain⟨p,ys,rfl,h⟩:=h;obtain⟨u,rfl,rx⟩:=vals1 r;cases rx;rcases h with⟨hq,q⟩|⟨hq,q⟩
 . obtain⟨its,r',pl,hz⟩:=I.list hq;have hlen:=r'.length;refine call_tuple_list pl.isList (λ h' kp=>?_) (by simp only[RM]<;>omega);have I1:Inv X pins σ H {s with heap:=h'}:=I.kept (t':=s.toks) kp
   have I2:Inv X pins σ (upd H h'.objs.size (.tup ys)) {s with heap:=h'.push {cls:= .type "tuple",data:= .seq its.toArray}}:=
    I1.laid (t':=s.toks) (λ b o e=>RE _ e) (Rv _) (show g_ X.prog X.w _ _ _ (.tup ys)from⟨hz,its,r',IsTup.new _ _⟩)
   exact⟨.ref h'.objs.size,_,I2,rfl,q _ (I1.aM.fresh (Rv _))⟩
 . obtain⟨its,r',pl,hz⟩:=I.tuple hq;exact call_tuple_same pl ⟨.ref p,H,I,rfl,q⟩
def P_(K:PySem.W.Frag)(T:String)(x:V)(H:Hp):Prop:=match x with
 | .str _=>T="str"
 | .int _=>T="int"
 | .ref p=>(T="list"/\∃xs,mF K H p xs)\/(T="tuple"/\∃o,K.lookup p=some o/\o.cls= .type "tuple"/\o.dict=none)\/
    (T="dict"/\((∃kvs,H p=some (.dK kvs))\/∃kvs,H p=some (.dT kvs)))\/(T="set"/\∃S n,H p=some (.set S n))
 |_=>False
def NJ{pins:List (Addr×Obj)}{σ:St}{H:Hp}{s:Shared}{T:String}{x:V}{v:Value}(I:Inv X pins σ H s)(r:RelV x v)(ty:P_ X.K T x H):
 s.TypeIs v T/\∀a,v= .ref a->∃ob,s.heap.get? a=some ob/\ob.dict=none:=by
 cases x with
 |str z=>
  obtain⟨t,rfl⟩:=r;cases (show T="str" from ty);exact⟨typeIs_str s z t,λ _ e=>nomatch e⟩
 |int i=>
  obtain⟨t,rfl⟩:=r;cases (show T="int" from ty);exact⟨Wv s i t,λ _ e=>nomatch e⟩
 |ref p=>
  cases r;rcases ty with⟨rfl,xs,hq⟩|⟨rfl,o,hk,hc,hd⟩|⟨rfl,hk⟩|⟨rfl,S,n,hk⟩
  . obtain⟨its,_,pl,_⟩:=I.list hq;refine⟨pl.isList.typeIs,λ a e=>?_⟩;cases e;obtain⟨o,n,e,c,hd,_⟩:=pl;exact⟨o,e,hd⟩
  . refine⟨⟨o,I.pf p o hk,hc⟩,λ a e=>?_⟩;cases e;exact⟨o,I.pf _ o hk,hd⟩
  . have z:∃o,s.heap.get? p=some o/\o.ExactDict:=by
     rcases hk with⟨kvs,hk⟩|⟨kvs,hk⟩
     . obtain⟨_,_,_,_,o,_,_,e,ex,_⟩:=I.aM p _ hk;exact⟨o,e,ex⟩
     . obtain⟨_,_,_,_,o,_,_,e,ex,_⟩:=I.aM p _ hk;exact⟨o,e,ex⟩
    obtain⟨o,e,ex⟩:=z;refine⟨⟨o,e,ex.1⟩,λ a e2=>?_⟩;cases e2;exact⟨o,e,ex.2.1⟩
  . obtain⟨o,_,_,_,e,ex,_⟩:=I.aM p _ hk;refine⟨⟨o,e,ex.1⟩,λ a e2=>?_⟩;cases e2;exact⟨o,e,ex.2.1⟩
 |_=>exact False.elim ty
def MW(K:PySem.W.Frag)(T:String)(r:V->List V->Hp->VK->Prop)(to:TE)(t:TA):TE:=λ σ H Q=>to σ H λ x H1=>P_ K T x H1/\t σ H1 λ xs H2=>r x xs H2 Q
variable {o e:Expr}{es:List Expr}{to:TE}{t:TA}{name:Str}{apos cpos:Pos}{T id:String}{r:V->List V->Hp->VK->Prop}
def I_(pa:PlainAttrs T)(slot:Slot T name id)(hty:typeOf (.builtin id)=pure (.type "method_descriptor"))(hm:Nz X id r)(ho:PE X o to)(ha:PA X (e::es) t)
 (hbase:attributeBase o name X.env (eval o X.env)=eval o X.env:=by rfl)
 (hfew:((backTo cpos (starEach (e::es) X.env)).all (λ x=> !x.1)&&(backToKw cpos (keywordEach [] X.env)).all (λ x=>x.1.isSome)
   &&decide ((e::es).length+([]:List Keyword).length+(if([]:List Keyword).isEmpty then 0 else 1)<30))=true:=by rfl)
 (hline:(apos.endLine==cpos.line)=true:=by rfl) (hs:starEach (e::es) X.env=(false,eval e X.env)::starEach es X.env:=by rfl) (hplain:(backTo cpos (starEach es X.env)).any (·.1)=false:=by rfl):
 PE X (.Call (.Attribute o name apos) (e::es) [] cpos) (MW X.K T r to t):=by
 intro pins s σ H Q I h;refine wpAny_Call_method_late hbase hfew hline rfl (cu (ho pins s σ H _ I h) λ v s1 ⟨x,H1,I1,r1,ty,q1⟩=>?_);obtain⟨h1,h2⟩:=NJ I1 r1 ty;refine⟨T,id,pa,slot,hty,h1,h2,?_⟩;have hA:=ha cpos pins s1 σ H1 _ I1 q1;rw[hs]at hA⊢;refine Calls.callWith_builtin (by show(false||(backTo cpos (starEach es X.env)).any (·.1))=false;rw[hplain]<;>rfl) (Calls.evalArgs_plain ?_);exact cu hA λ us s2 ⟨vs,H2,I2,r2,q2⟩=>hm pins s2 σ H2 x vs v us Q I2 r1 r2 q2
/-xs.append(e),list.index on a module's tuple .. are Nz facts of 06m-/
end
def Qc(X:Cx)(id:String)(r:V->List V->Hp->VK->Prop):Prop:=
 ∀(pins:List (Addr×Obj)) (s:Shared) (σ:St) (H:Hp) (x:V) (xs:List V) (v:Value) (us:List Value) (Q:VK),Inv X pins σ H s->RelV x v->Vals xs us->r x xs H Q->
  wpAny (model X.prog X.w) X.A (call (.builtin id) (v::us)) (EP X pins σ Q) X.xe s
def Vals.one:∀ {x:V} {us:List Value},Vals [x] us->∃u,us=[u]/\RelV x u
 |_,_,.cons r .nil=>⟨_,rfl,r⟩
def Vals.rep{xs:List V}{us:List Value}(h:Vals xs us):∀k:Nat,Vals (List.replicate k xs).flatten (List.replicate k us).flatten
 |0=> .nil
 |k+1=>by
  rw[SY,SY,T3,T3];exact Vals.append h (Vals.rep h k)
def foldl_rep(its:List Value):∀(k:Nat) (acc:List Value),
 List.foldl (λ x1 x2=>x1++x2) acc.toArray (List.replicate k its.toArray)=(acc++(List.replicate k its).flatten).toArray
 |0,acc=>by simp
 |k+1,acc=>by
  have e:acc.toArray++its.toArray=(acc++its).toArray:=by simp
  have e2:(acc++its)++(List.replicate k its).flatten=acc++(List.replicate (k+1) its).flatten:=by
   rw[SY,T3,Vf]
  rw[<-e2,<-foldl_rep its k (acc++its),<-e,SY,Vr]
section
variable {X:Cx}{pins:List (Addr×Obj)}{σ:St}{H:Hp}{s:Shared}{l b:Addr}{xs ys zs:List V}
def Inv.L_{its its':List Value}{n:Nat}{f:Array Value->Array Value}{t':Nat}(I:Inv X pins σ H s)(hH:H l=some (.lst xs))
 (e:s.heap.get? l=some {cls:= .type "list",data:= .seq its.toArray n}) (hf:f its.toArray=its'.toArray) (hv:Vals ys its') (hz:ys.length<=sizeLine):
 Inv X pins σ (upd H l (.lst ys)) {s with heap:=s.heap.update l (Obj.mapSeq f),toks:=t'}:=by
 have q:=PySem.IsL.update e f;rw[hf]at q;refine I.write (x:=l) (e:=l) (by rw[hH];exact trivial) (.inl rfl) (λ b' u hb hu=>(WS s.heap (Obj.mapSeq f) (RK hb)).trans hu) ⟨_,q⟩ ?_;exact⟨hz,its',_,hv,q⟩
def Inv.Gv{its:List Value}{t':Nat}(I:Inv X pins σ H s)(hv:Vals ys its)(hz:ys.length<=sizeLine):
 Inv X pins σ (upd H s.heap.objs.size (.lst ys)) {s with heap:=s.heap.push {cls:= .type "list",data:= .seq its.toArray},toks:=t'}:=
 I.laid (λ _ _ q=>RE _ q) (Rv _) ⟨hz,its,0,hv,R_ _ rfl⟩
def Inv.fresh(I:Inv X pins σ H s):H s.heap.objs.size=none:=I.aM.fresh (Rv _)
def Inv.MB(I:Inv X pins σ H s)(hH:H l=some (.lst xs)):xs.length<=sizeLine/\∃(its:List Value) (n:Nat),Vals xs its/\xs.length=its.length/\s.heap.get? l=some {cls:= .type "list",data:= .seq its.toArray n}:=by
 obtain⟨z,its,n,r,e⟩:=I.aM l _ hH;exact⟨z,its,n,r,r.length,e⟩
def Gx{n:Nat}(h:n<=sizeLine):Builtin.List.listTooLong n=false:=by
 unfold Builtin.List.listTooLong;exact Sv (by omega)
end
section
variable {X:Cx}
def BZ:V->List V->Hp->VK->Prop:=λ x vs H Q=>∃l xs y,x= .ref l/\vs=[y]/\H l=some (.lst xs)/\xs.length<sizeLine/\Q .aB (upd H l (.lst (xs++[y])))
def yS:Qc X "list.append" BZ:=by
 intro pins s σ H x vs v us Q I rx rv h;obtain⟨l,xs,y,rfl,rfl,hH,hz,q⟩:=h;cases rx;obtain⟨u,rfl,ru⟩:=rv.one;obtain⟨z,its,n,r,hl,e⟩:=I.MB hH;refine Vl F.slot_list_append ⟨_,e,rfl⟩ F.entry_list_append (F.args_list_append_2 _ _) (PySem.list_append l its.toArray n u (by rw[RM];omega)) ⟨e,?_⟩;refine⟨.aB,_,I.L_ (its':=its++[u]) hH e (by simp) (r.append (.cons ru .nil)) ?_,rfl,q⟩;rw[Sy,VP];omega
def len_rep{α:Type}(xs:List α)(k:Nat):(List.replicate k xs).flatten.length=k*xs.length:=by
 induction k with
 |zero=>simp
 |succ k ih=>rw[SY,T3,Sy,ih,WD,Xh]
end
section
variable {prog:Program}{w:World}{A:Around}{E:Value->Shared->Prop}{s:Shared}
set_option maxRecDepth 100000 in
end
section
variable {X:Cx}
end
end L2
namespace Att
open PySem PySem.W PySem.Calls PyProof.Rows
def xv{P:Params}{h:Heap}:∀(ns:List Int) (vs:List Value),WellAll P h vs (ns.map WData.int)->IntsAre vs ns:=by
 intro ns;induction ns with
 |nil=>
  intro vs w;rw[List.map_nil]at w;cases w;exact .nil
 |cons n ns ih=>
  intro vs w;rw[R0]at w;cases w with
  |cons a b=>
   cases a;exact .cons _ _ (ih _ b)
def Fo{l:OpenLaw}{n:Nat}(hn:l.most=some n){P:Params}{h:Heap}{args:List WData}{vals:List Value}
 (hpre:l.row.toRowW.claim.pre args=true) (hwl:WellAll P h vals args):
 ∃a vs ns,vals=[Value.ref a]/\args=[WData.list (ns.map WData.int)]/\h.get? a=some {cls:= .type "list",data:= .seq vs.toArray}/\IntsAre vs ns/\ns.length<=n:=by
 have hsh:WShape.hasAll [] args [.list .int]=true:=(pre_splitW hpre).1;have hc:l.pre.holds [] {args:=args}=true:=(pre_splitW hpre).2;obtain⟨d,r,rfl,h1,h2⟩:=hasAllW_cons hsh;obtain rfl:=hasAllW_nil h2;obtain⟨xs,rfl,h3⟩:=hasW_list h1;obtain⟨ns,rfl⟩:=items_int h3
 have hlen:ns.length<=n:=by
  unfold OpenLaw.pre at hc
  have h4:(WTm.not (.lt (.lit (.int (n:Int))) (.len (.arg 0)))).holds [] {args:=[.list (ns.map .int)]}=true:=by
   have h4:=(holds_andW hc).1;rw[hn]at h4;exact h4
  have h5:=condW_of h4 (w_not (w_lt w_lit (w_len_list (w_arg rfl))));rw[Rz]at h5;refine SI λ q=>?_;have q':(n:Int)<((ns.length:Nat):Int):=by omega
  first
   |(rw[S_ q']at h5;exact absurd h5 (by decide))
   |(simp at h5;omega)
 cases hwl with
 |cons w1 w2=>
  cases w2;cases w1 with
  |list ho hall=>exact⟨_,_,ns,rfl,rfl,ho,xv ns _ hall,hlen⟩
def E_(l:OpenLaw)(args:List WData):l.row.toRowW.claim.post args (.bool true) args=true:=
 postW_of (r:=l.row.toRowW) (X:=(true==true))
  (show WShape.has [] (.bool true) .bool=true by first|rfl|decide|simp[WShape.has,WShape.arms,WShape.armsAll])
  (show(WTm.eq .res (.lit (.bool true))).value [] {args:=args,res:=some (.bool true),after:=args}=some (.bool (true==true))from w_eq_bool (w_res rfl) w_lit) rfl
def BK{l:OpenLaw}{n:Nat}{q:Program}{loose:List Str}{XP:(Str->Option Value)->Heap->Prop}{YP:World->Heap->Prop}{d:DefRec}
 (hn:l.most=some n) (hdf:d.params.defaults=[])
 (call:∀(w:World) (s₀ s₁:Shared) (mg mb:Str->Option Value) (fa:Addr) (o:Obj) (pm cd doc:Value) (a:Addr) (vs:List Value) (ns:List Int),
   Ground q loose [] XP w s₀ mg mb s₁.heap->YP w s₁.heap->
   s₁.heap.get? fa=some o->o.data= .func (docDef d.name d.params d.body d.scope pm cd doc)->s₁.heap.CodeRec cd d.name->mg d.name=some (.ref fa)->
   s₁.heap.get? a=some {cls:= .type "list",data:= .seq vs.toArray}->IntsAre vs ns->ns.length<=n->s₁.gens= #[]->
   codeAny (model l.prog w) callerA (.call (.ref fa) ⟨[.ref a],[]⟩) (λ r s'=>r= .ok (.ret (.bool true))/\OldK s₁.heap s'.heap/\s'.os=s₁.os/\AllBare s'.gens) s₁):
 WalkO q loose XP YP l.row.toRowW d [] (λ f vs=>PySem.call f vs):=by
 intro w s₀ s₁ mg mb G Y fa o pm cd doc dV kV ho hd hcd hD hmg hg args vals as hpre hlay hrd hwl hlo;obtain rfl:dV= .none:=Dflts.none hD hdf;obtain rfl:kV= .none:=Dflts.noKw hD;obtain⟨a,vs,ns,rfl,rfl,hobj,hints,hlen⟩:=Fo hn hpre hwl;refine enter_call (WA (call w s₀ s₁ mg mb fa o pm cd doc a vs ns G Y ho (fd_plain hd) hcd hmg hobj hints hlen hg) λ r s' hq=>?_);obtain⟨rfl,h2,h3,h4⟩:=hq;exact⟨.inl ⟨.bool true,.bool true,[],rfl,λ _=>rfl,.bool true,E_ l _,λ _=>⟨List.Pairwise.nil,λ _ hm=>(nomatch hm)⟩⟩,h2,h3,h4⟩
section
variable {prog:Program}{w:World}{A:Around}{E:Value->Shared->Prop}{s:Shared}{K:Frag}
end
end Att
namespace L2
open PySem PySem.Spec PyProof.Rows
end L2
/-THE LAST THEOREM (shape;LID,My.*are yours):
 My.Adr:a structure of the addresses that your layer names (classes,functions);My.Txt K t:a structure (Prop) of the equations over K;
 My.txt_mk:{K} {implicit addresses ..} (e1:nsIn K mainGlobals "law"=some (some (.ref f))) (e2:K.lookup f=some ⟨oc,od,.func (fnOf "law" "law" params body scope dV kV doc pm an cdv ct),sl⟩) (e3:codeIn K cdv "law"=true) .. :∃t,My.Txt K t
set_option maxRecDepth 100000 in
set_option maxHeartbeats 0 in
(the tactic k_is has no namespace:write k_is)-/
namespace L2
open PySem PySem.Spec PyProof.Rows
def inClass(s:Stmt)(j:Nat):Stmt:=match s with
 | .ClassDef _ _ _ body _ _ _ _ _ _ _=>body.getD j (.Pass ⟨0,0,0,0⟩)
 |_=> .Pass ⟨0,0,0,0⟩
def lK(s:Stmt):Arguments:=match s with
 | .FunctionDef _ a _ _ _ _ _ _ _ _=>a
 |_=>{posonlyargs:=[],args:=[],vararg:=none,kwonlyargs:=[],kw_defaults:=[],kwarg:=none,defaults:=[]}
def iI(s:Stmt):List Stmt:=match s with
 | .FunctionDef _ _ b _ _ _ _ _ _ _=>b
 |_=>[]
def ai(s:Stmt):Scope:=match s with
 | .FunctionDef _ _ _ _ _ _ sc _ _ _=>sc
 |_=>{kind:= .function,names:=[],isGenerator:=false,isCoroutine:=false}
abbrev cM:vi:=λ _ _ _ _ _ _=>False
abbrev E0:XK:=λ _ _ _=>False
def zt{X:Cx}:Passes cM X E0:=λ _ _ _ _ _ _ _ h=>h.elim
structure o8(K:PySem.W.Frag)(x qual:Str)(st:Stmt)(f:Addr)(fd:FuncData):Prop where
 ex:∃(oc:Value) (od:Option Addr) (kV doc pm:Value) (an:Option Addr) (cdv ct:Value) (osl:Array (Option Value)),
  fd=PySem.W.fnOf x qual (lK st) (iI st) (ai st) .none kV doc pm an cdv ct/\K.lookup f=some ⟨oc,od,.func fd,osl⟩/\PySem.W.codeIn K cdv qual=true
 kp:PySem.W.keepIn K (.ref f)=true
section
variable {P:Program}{w:World}{K:PySem.W.Frag}{mg:Str->Option Value}{base:Heap}
def o8.ok{x qual:Str}{st:Stmt}{f:Addr}{fd:FuncData}{N ps:List Str}{k:Nat}{sp:Sp}(F:o8 K x qual st f fd)(S:aX N ps (ai st))(len:∀vs H Q E,sp vs H Q E->vs.length=ps.length)
 (hbody:∀(cdv:Value) (A:Around) (outer:List Env) (s:Shared) (H:Hp) (vs:List V) (Q:VK) (E:XK),c8 k (A.deeper (envOfC qual (ai st) s.heap.objs.size f cdv))->sp vs H Q E->
   ∃t,iS (rT cM P w K mg base N qual (ai st) f cdv A outer s H E).xi (iI st) t/\t {nx:=λ _ H'=>Q .aB H',rt:=Q} (start N vs) H):bE P w K mg base cM (k+1) f fd ps sp:=by
 obtain⟨oc,od,kV,doc,pm,an,cdv,ct,osl,rfl,lk,hcd⟩:=F.ex;refine Jd lk hcd S len λ A outer s H vs Q E hr hsp=>?_;obtain⟨t,h,q⟩:=hbody cdv A outer s H vs Q E hr hsp;exact⟨t,h.xi,q⟩
def o8.binds{x qual:Str}{st:Stmt}{f:Addr}{fd:FuncData}{ps:List Str}(F:o8 K x qual st f fd)
 (h:∀(kV doc pm:Value) (an:Option Addr) (cdv ct:Value) (us:List Value),us.length=ps.length->bindArgs (PySem.W.fnOf x qual (lK st) (iI st) (ai st) .none kV doc pm an cdv ct) ⟨us,[]⟩=pure (ps.zip us)):Binds K fd ps []:=by
 obtain⟨oc,od,kV,doc,pm,an,cdv,ct,osl,rfl,lk,hcd⟩:=F.ex;exact .all (h kV doc pm an cdv ct)
def Gf{x qual:Str}{st:Stmt}{f:Addr}{oc:Value}{od an:Option Addr}{osl:Array (Option Value)}{kV doc pm cdv ct:Value}(l:K.lookup f=some ⟨oc,od,.func (PySem.W.fnOf x qual (lK st) (iI st) (ai st) .none kV doc pm an cdv ct),osl⟩)
 (c:PySem.W.codeIn K cdv qual=true) (k:PySem.W.keepIn K (.ref f)=true):o8 K x qual st f (PySem.W.fnOf x qual (lK st) (iI st) (ai st) .none kV doc pm an cdv ct):=⟨⟨oc,od,kV,doc,pm,an,cdv,ct,osl,rfl,l,c⟩,k⟩
end
section
variable {X:Cx}
end
def gS{A B:Prop}(h:A):if true=true then A else B:=by
 rw[RC rfl];exact h
def HQ(H H':Hp):Prop:=∀b o,H b=some o->H' b=some o
end L2
set_option maxHeartbeats 4000000
namespace Hd
open PySem PySem.W PySem.Calls PyProof.Rows
noncomputable def bt (P:Params):BT:=(.node (boot_o_0 P) (.node (boot_o_1 P) (.node (boot_o_3 P) (.node (boot_o_7 P) .nil .nil) .nil) (.node (boot_o_5 P) (.node (boot_o_9 P) .nil .nil) .nil)) (.node (boot_o_2 P) (.node (boot_o_4 P) (.node (boot_o_8 P) .nil .nil) .nil) (.node (boot_o_6 P) (.node (boot_o_10 P) .nil .nil) .nil)))
def Mc(P:Params):absHeap (bt P) 11 (boot_heap P).life=boot_heap P:=by kernel_rfl
noncomputable def run (p:Program) (w:World) (n:Nat) (ann:Option Value):Nat->SharedT->Thread->Option SharedT
 |0,_,_=>none
 |k+1,s,t=>match through t with
  |true=>some s
  |false=>match Fast.tw6613529449190102663 n ann t with
   |false=>none
   |true=>match Fast.tw10156331382660048174 (Fast.tw11892475500146522536 Fast.tw14364793385576792824) p w s t with
    |some (s',t')=>run p w n ann k s' t'
    |none=>none
def Ee{p:Program}{w:World}{n:Nat}{ann:Option Value}:∀ {k:Nat} {s s':SharedT} {t:Thread},run p w n ann k s t=some s'->topRun treeTable p w n ann k s.abs t=some s'.abs
 |0,_,_,_,h=>by cases h
 |k+1,s,s',t,h=>by
  unfold run at h;unfold topRun;cases he:through t with
  |true=>rw[he]at h;cases h;rfl
  |false=>
   rw[he]at h;rw[<-Fast.te6613529449190102663,<-Fast.te10156331382660048174,<-Fast.te11892475500146522536,<-Fast.te14364793385576792824]at h;cases hk:stepOk n ann t with
   |false=>simp only[hk]at h;cases h
   |true=>
    simp only[hk]at h;cases hs:stepT (denote treeTable) p w s t with
    |none=>rw[hs]at h;cases h
    |some r=>obtain⟨s2,t2⟩:=r;rw[hs]at h;rw[stepT_spec hs];exact Ee h
noncomputable def b0 (w:World) (os:OsState):SharedT:=⟨bt w.params,11,(boot_heap w.params).life,⟨[]⟩,boot_drawn,boot_toks,os⟩
def Ny(w:World)(os:OsState):(b0 w os).abs=⟨boot_heap w.params,⟨[]⟩,boot_drawn,boot_toks,os⟩:=by
 unfold b0 SharedT.abs;dsimp only;rw[Mc]
def left{p q:Program}{loose:List Str}{α:Type}{Yf:Shared->α}{Ya:World->α}{N:Nat}
 (e:opening p=plainProg p.main.scope.names) (f:∀s,fenceModules? p s=some s) (hN:Nat.ble 600 N=true)
 (h:∀(w:World) (os:OsState),(run p w 11 (some (.ref 6)) N (b0 w os) (topStub p)).bind (λ s=>match staticsOk (importedModules p.main.body) (boot_heap w.params) s.abs.heap&&namesBound p s.abs.heap&&gensDone s.abs&&laidKept (boot_heap w.params) s.abs.heap with
   |true=>some (Fast.tw4187177175401517315 q loose (importedModules p.main.body) (λ _=>true) true s.abs,Yf s.abs)
   |false=>none)=some (openGood q loose,Ya w)):LeftO p q loose (λ _=>true) Yf Ya N:=λ w=>by
 obtain⟨⟨hp,gs,d,k,os⟩,e1,e2⟩:=Option.map_eq_some_iff.mp (boot_open e hN f w);obtain⟨rfl,rfl,rfl,rfl⟩:hp=boot_heap w.params/\gs=⟨[]⟩/\d=boot_drawn/\k=boot_toks:=by simpa using e2
 obtain⟨s,r1,r2⟩:=Option.bind_eq_some_iff.mp (h w os);have r3:=Ee r1;rw[Ny]at r3;rw[<-Fast.te4187177175401517315]at r2;unfold openEnds;rw[e1];show(topFrom treeTable p w N _).map _=_;unfold topFrom;rw[show((boot_heap w.params).isNs mainGlobals&&(⟨[]⟩:Array GenState).size==0)=true from by kernel_rfl];dsimp only;rw[show(boot_heap w.params).objs.size=11 from by kernel_rfl,show(boot_heap w.params).nsMap mainGlobals "__annotations__"=some (.ref 6)from by kernel_rfl,r3];show((match staticsOk (importedModules p.main.body) (boot_heap w.params) s.abs.heap&&namesBound p s.abs.heap&&gensDone s.abs&&laidKept (boot_heap w.params) s.abs.heap with|true=>some s.abs|false=>none):Option Shared).map _=_;cases z:(staticsOk (importedModules p.main.body) (boot_heap w.params) s.abs.heap&&namesBound p s.abs.heap&&gensDone s.abs&&laidKept (boot_heap w.params) s.abs.heap)with
 |false=>rw[z]at r2;cases r2
 |true=>rw[z]at r2;exact r2
abbrev e(x:Str)(t:Nat)(v:Value):Str×Nat×Value:=(x,t,v)
abbrev k(a:Addr)(o:Obj):Addr×Obj:=(a,o)
def no(P:Params)(n:Nat)(l:List (Str×Nat×Value)):Obj:=⟨.type "dict",none,.dict (l.map λ e=>⟨PyData.keyHash P e.1,.str e.1 e.2.1,e.2.2⟩).toArray n,#[]⟩
def fd(st:Stmt)(x q:Str)(pm:Value)(c:Addr):FuncData:=fnOf x q (L2.lK st) (L2.iI st) (L2.ai st) .none .none .none pm none (.ref c) .none
def fq(st:Stmt)(x q:Str)(pm:Value)(c:Addr):Obj:=⟨.type "function",none,.func (fd st x q pm c),#[]⟩
def co(x q:Str)(t:Nat)(line argc:Int)(a b:Addr)(u v:Value)(d:Addr)(i:Int)(z:Nat):Obj:=⟨.type "code",none,.fields #[.str x t,.str q (t+1),.str "/claim/cut.py" (t+2),.int line 0,.int argc 0,.int 0 0,.int 0 0,.int 3 0,.ref a,.bool true,.int 181 0,.ref b,.none,u,v,.ref d,.int i 0,.int line 0,.str "/claim/cut.py" z],#[]⟩
end Hd
namespace Row
open PySem L2
open PySem.Spec hiding items?
open PyProof.Rows hiding St
def top(i:Nat):Stmt:=PySem.Challenge.pw_latticeworks_k29_whole_rests_of_each_ord.main.body.getD i (.Pass ⟨0,0,0,0⟩)
abbrev PW:Program:=PySem.Challenge.pw_latticeworks_k29_whole_rests_of_each_ord
abbrev jP:Stmt:=top 1
abbrev mX:Stmt:=top 2
abbrev mI:Stmt:=top 3
abbrev jL:Stmt:=top 4
abbrev kX:Stmt:=top 5
abbrev f_:Stmt:=top 6
abbrev iZ:Stmt:=top 7
abbrev ip:Stmt:=top 8
abbrev lj:Stmt:=top 10
abbrev eM:Stmt:=top 11
abbrev jn:Stmt:=top 12
abbrev jW:Stmt:=top 13
abbrev c9:Stmt:=inClass (top 14) 0
abbrev iK:Stmt:=inClass (top 14) 1
abbrev fz:Stmt:=inClass (top 14) 2
abbrev dX:Stmt:=inClass (top 14) 3
abbrev du:Stmt:=inClass (top 14) 4
abbrev gD:Stmt:=inClass (top 14) 5
abbrev d6:Stmt:=inClass (top 14) 6
abbrev j9:Stmt:=top 15
abbrev fB:Stmt:=inClass (top 17) 0
abbrev fi:Stmt:=inClass (top 17) 1
abbrev eK:Stmt:=inClass (top 17) 2
abbrev eJ:Stmt:=inClass (top 17) 3
abbrev dw:Stmt:=inClass (top 17) 4
abbrev fW:Stmt:=top 19
abbrev gB:Stmt:=inClass (top 17) 5
abbrev e_:Stmt:=top 18
abbrev gX:Stmt:=inClass (top 17) 6
abbrev gE:Stmt:=top 20
abbrev j8:Stmt:=top 21
abbrev mS:Stmt:=top 26
abbrev lE:Stmt:=top 29
abbrev eG:Stmt:=top 30
abbrev eW:Stmt:=top 31
abbrev ij:Stmt:=top 32
abbrev gI:Stmt:=top 33
abbrev iQ:Stmt:=top 35
abbrev kg:Stmt:=top 36
abbrev d7:Stmt:=top 37
abbrev eh:Stmt:=top 38
abbrev j5:Stmt:=top 39
abbrev js:Stmt:=top 40
abbrev kK:Stmt:=top 41
def jF:Value:=(.str "latticeworks.rows" 187)
def fD:Value:=(.str "latticeworks.standing" 243)
def gf:Value:=(.str "latticeworks.dividing" 373)
def MN:Value:=(.str "latticeworks.fractions" 525)
def pH:Value:=(.str "latticeworks.rests" 538)
def kn:Value:=(.str "law_latticeworks_k29_whole_rests_of_each_ord" 573)
def KX(P:Params):PySem.W.Frag:=[Hd.k 3 (Hd.no P 44 [Hd.e "__name__" 165 (.str "law_latticeworks_k29_whole_rests_of_each_ord" 573),Hd.e "__doc__" 166 .none,Hd.e "__package__" 167 .none,Hd.e "__loader__" 168 (.builtin "__main__.__loader__#opaque"),Hd.e "__spec__" 169 .none,Hd.e "__annotations__" 170 (.ref 6),Hd.e "__builtins__" 171 (.ref 4),Hd.e "__file__" 173 (.str "/claim/cut.py" 172),Hd.e "__cached__" 174 .none,Hd.e "as_rows" 194 (.ref 19),Hd.e "added" 200 (.ref 24),Hd.e "sum_by" 212 (.ref 31),Hd.e "product" 218 (.ref 36),Hd.e "column" 224 (.ref 41),Hd.e "turned_over" 230 (.ref 46),Hd.e "unit_row" 236 (.ref 51),Hd.e "unit_rows" 242 (.ref 56),Hd.e "lead_of" 253 (.ref 63),Hd.e "nearest_quotient" 261 (.ref 70),Hd.e "exchanged" 271 (.ref 77),Hd.e "negated" 277 (.ref 82),Hd.e "Bench" 361 (.ref 137),Hd.e "standing" 372 (.ref 148),Hd.e "Sides" 459 (.ref 207),Hd.e "unit_rows_but" 465 (.ref 216),Hd.e "is_diagonal" 471 (.ref 221),Hd.e "numbers_of" 477 (.ref 226),Hd.e "dividing" 488 (.ref 233),Hd.e "LatticeError" 508 (.ref 243),Hd.e "TooMany" 524 (.ref 256),Hd.e "common" 537 (.ref 265),Hd.e "MOST_RESTS" 541 (.int (300) 540),Hd.e "form_of" 548 (.ref 272),Hd.e "kinds_of_rests" 554 (.ref 277),Hd.e "longer_by_one" 560 (.ref 282),Hd.e "all_rests" 566 (.ref 287),Hd.e "rest_order" 572 (.ref 292),Hd.e "_law_source" 583 (.ref 299),Hd.e "_law_take" 593 (.ref 306),Hd.e "_law_common" 601 (.ref 313),Hd.e "_law_turned" 607 (.ref 318),Hd.e "_law_form" 619 (.ref 325),Hd.e "_law_leads" 634 (.ref 332),Hd.e "law" 640 (.ref 337)]),
 Hd.k 18 (Hd.co "as_rows" "as_rows" 189 2 1 15 16 .none .none 17 192 193),
 Hd.k 19 (Hd.fq jP "as_rows" "as_rows" jF 18),
 Hd.k 23 (Hd.co "added" "added" 195 4 3 20 21 .none .none 22 198 199),
 Hd.k 24 (Hd.fq mX "added" "added" jF 23),
 Hd.k 30 (Hd.co "sum_by" "sum_by" 201 6 3 25 26 (.ref 27) (.ref 28) 29 210 211),
 Hd.k 31 (Hd.fq mI "sum_by" "sum_by" jF 30),
 Hd.k 35 (Hd.co "product" "product" 213 11 2 32 33 .none .none 34 216 217),
 Hd.k 36 (Hd.fq jL "product" "product" jF 35),
 Hd.k 40 (Hd.co "column" "column" 219 14 2 37 38 .none .none 39 222 223),
 Hd.k 41 (Hd.fq kX "column" "column" jF 40),
 Hd.k 45 (Hd.co "turned_over" "turned_over" 225 16 2 42 43 .none .none 44 228 229),
 Hd.k 46 (Hd.fq f_ "turned_over" "turned_over" jF 45),
 Hd.k 50 (Hd.co "unit_row" "unit_row" 231 18 2 47 48 .none .none 49 234 235),
 Hd.k 51 (Hd.fq iZ "unit_row" "unit_row" jF 50),
 Hd.k 55 (Hd.co "unit_rows" "unit_rows" 237 20 1 52 53 .none .none 54 240 241),
 Hd.k 56 (Hd.fq ip "unit_rows" "unit_rows" jF 55),
 Hd.k 62 (Hd.co "lead_of" "lead_of" 245 23 1 57 58 (.ref 59) (.ref 60) 61 251 252),
 Hd.k 63 (Hd.fq lj "lead_of" "lead_of" fD 62),
 Hd.k 69 (Hd.co "nearest_quotient" "nearest_quotient" 254 28 2 64 65 (.ref 66) (.ref 67) 68 259 260),
 Hd.k 70 (Hd.fq eM "nearest_quotient" "nearest_quotient" fD 69),
 Hd.k 76 (Hd.co "exchanged" "exchanged" 262 30 3 71 72 (.ref 73) (.ref 74) 75 269 270),
 Hd.k 77 (Hd.fq jn "exchanged" "exchanged" fD 76),
 Hd.k 81 (Hd.co "negated" "negated" 272 35 1 78 79 .none .none 80 275 276),
 Hd.k 82 (Hd.fq jW "negated" "negated" fD 81),
 Hd.k 93 (Hd.co "__init__" "Bench.__init__" 290 39 2 90 91 .none .none 92 293 294),
 Hd.k 94 (Hd.fq c9 "__init__" "Bench.__init__" fD 93),
 Hd.k 100 (Hd.co "take" "Bench.take" 296 44 4 95 96 (.ref 97) (.ref 98) 99 303 304),
 Hd.k 101 (Hd.fq iK "take" "Bench.take" fD 100),
 Hd.k 107 (Hd.co "exchange" "Bench.exchange" 306 49 3 102 103 (.ref 104) (.ref 105) 106 312 313),
 Hd.k 108 (Hd.fq fz "exchange" "Bench.exchange" fD 107),
 Hd.k 114 (Hd.co "change_sign" "Bench.change_sign" 315 54 2 109 110 (.ref 111) (.ref 112) 113 320 321),
 Hd.k 115 (Hd.fq dX "change_sign" "Bench.change_sign" fD 114),
 Hd.k 119 (Hd.co "live_rows" "Bench.live_rows" 323 59 3 116 117 .none .none 118 326 327),
 Hd.k 120 (Hd.fq du "live_rows" "Bench.live_rows" fD 119),
 Hd.k 126 (Hd.co "gather" "Bench.gather" 329 63 3 121 122 (.ref 123) (.ref 124) 125 338 339),
 Hd.k 127 (Hd.fq gD "gather" "Bench.gather" fD 126),
 Hd.k 133 (Hd.co "lower_above" "Bench.lower_above" 341 77 3 128 129 (.ref 130) (.ref 131) 132 348 349),
 Hd.k 134 (Hd.fq d6 "lower_above" "Bench.lower_above" fD 133),
 Hd.k 136 (Hd.no P 4 [Hd.e "__module__" 285 (.str "latticeworks.standing" 243),Hd.e "__firstlineno__" 289 (.int (37) 288),Hd.e "__init__" 295 (.ref 94),Hd.e "take" 305 (.ref 101),Hd.e "exchange" 314 (.ref 108),Hd.e "change_sign" 322 (.ref 115),Hd.e "live_rows" 328 (.ref 120),Hd.e "gather" 340 (.ref 127),Hd.e "lower_above" 350 (.ref 134),Hd.e "__static_attributes__" 354 (.ref 135),Hd.e "__dict__" 356 (.ref 138),Hd.e "__weakref__" 358 (.ref 139),Hd.e "__doc__" 359 .none]),
 Hd.k 137 (⟨(.type "type"),none,.cls {name:="Bench",bases:=[(.type "object")],mro:=[(.ref 137),(.type "object")],ns:=136,qualname:="Bench",hasDict:=true,subclasses:=[],abstract:=false,hasDel:=false},#[none,none,(some (.str "Bench" 278)),(some (.str "Bench" 286)),(some (.builtin "object.__new__")),(some (.bool true))]⟩),
 Hd.k 147 (Hd.co "standing" "standing" 362 80 1 142 143 (.ref 144) (.ref 145) 146 370 371),
 Hd.k 148 (Hd.fq j9 "standing" "standing" fD 147),
 Hd.k 161 (Hd.co "__init__" "Sides.__init__" 387 92 2 156 157 (.ref 158) (.ref 159) 160 392 393),
 Hd.k 162 (Hd.fq fB "__init__" "Sides.__init__" gf 161),
 Hd.k 168 (Hd.co "turn_left" "Sides.turn_left" 395 101 3 163 164 (.ref 165) (.ref 166) 167 401 402),
 Hd.k 169 (Hd.fq fi "turn_left" "Sides.turn_left" gf 168),
 Hd.k 175 (Hd.co "turn_right" "Sides.turn_right" 404 106 3 170 171 (.ref 172) (.ref 173) 174 410 411),
 Hd.k 176 (Hd.fq eK "turn_right" "Sides.turn_right" gf 175),
 Hd.k 182 (Hd.co "stand_rows" "Sides.stand_rows" 413 111 1 177 178 (.ref 179) (.ref 180) 181 418 419),
 Hd.k 183 (Hd.fq eJ "stand_rows" "Sides.stand_rows" gf 182),
 Hd.k 189 (Hd.co "stand_columns" "Sides.stand_columns" 421 115 1 184 185 (.ref 186) (.ref 187) 188 426 427),
 Hd.k 190 (Hd.fq dw "stand_columns" "Sides.stand_columns" gf 189),
 Hd.k 196 (Hd.co "settle" "Sides.settle" 429 119 1 191 192 (.ref 193) (.ref 194) 195 433 434),
 Hd.k 197 (Hd.fq gB "settle" "Sides.settle" gf 196),
 Hd.k 203 (Hd.co "merge" "Sides.merge" 436 126 3 198 199 (.ref 200) (.ref 201) 202 442 443),
 Hd.k 204 (Hd.fq gX "merge" "Sides.merge" gf 203),
 Hd.k 206 (Hd.no P 4 [Hd.e "__module__" 382 (.str "latticeworks.dividing" 373),Hd.e "__firstlineno__" 386 (.int (90) 385),Hd.e "__init__" 394 (.ref 162),Hd.e "turn_left" 403 (.ref 169),Hd.e "turn_right" 412 (.ref 176),Hd.e "stand_rows" 420 (.ref 183),Hd.e "stand_columns" 428 (.ref 190),Hd.e "settle" 435 (.ref 197),Hd.e "merge" 444 (.ref 204),Hd.e "__static_attributes__" 452 (.ref 205),Hd.e "__dict__" 454 (.ref 208),Hd.e "__weakref__" 456 (.ref 209),Hd.e "__doc__" 457 .none]),
 Hd.k 207 (⟨(.type "type"),none,.cls {name:="Sides",bases:=[(.type "object")],mro:=[(.ref 207),(.type "object")],ns:=206,qualname:="Sides",hasDict:=true,subclasses:=[],abstract:=false,hasDel:=false},#[none,none,(some (.str "Sides" 375)),(some (.str "Sides" 383)),(some (.builtin "object.__new__")),(some (.bool true))]⟩),
 Hd.k 215 (Hd.co "unit_rows_but" "unit_rows_but" 460 129 4 212 213 .none .none 214 463 464),
 Hd.k 216 (Hd.fq e_ "unit_rows_but" "unit_rows_but" gf 215),
 Hd.k 220 (Hd.co "is_diagonal" "is_diagonal" 466 133 1 217 218 .none .none 219 469 470),
 Hd.k 221 (Hd.fq fW "is_diagonal" "is_diagonal" gf 220),
 Hd.k 225 (Hd.co "numbers_of" "numbers_of" 472 138 1 222 223 .none .none 224 475 476),
 Hd.k 226 (Hd.fq gE "numbers_of" "numbers_of" gf 225),
 Hd.k 232 (Hd.co "dividing" "dividing" 478 141 1 227 228 (.ref 229) (.ref 230) 231 486 487),
 Hd.k 233 (Hd.fq j8 "dividing" "dividing" gf 232),
 Hd.k 264 (Hd.co "common" "common" 527 156 2 259 260 (.ref 261) (.ref 262) 263 535 536),
 Hd.k 265 (Hd.fq mS "common" "common" MN 264),
 Hd.k 271 (Hd.co "form_of" "form_of" 542 166 1 266 267 (.ref 268) (.ref 269) 270 546 547),
 Hd.k 272 (Hd.fq lE "form_of" "form_of" pH 271),
 Hd.k 276 (Hd.co "kinds_of_rests" "kinds_of_rests" 549 168 1 273 274 .none .none 275 552 553),
 Hd.k 277 (Hd.fq eG "kinds_of_rests" "kinds_of_rests" pH 276),
 Hd.k 281 (Hd.co "longer_by_one" "longer_by_one" 555 171 2 278 279 .none .none 280 558 559),
 Hd.k 282 (Hd.fq eW "longer_by_one" "longer_by_one" pH 281),
 Hd.k 286 (Hd.co "all_rests" "all_rests" 561 176 1 283 284 .none .none 285 564 565),
 Hd.k 287 (Hd.fq ij "all_rests" "all_rests" pH 286),
 Hd.k 291 (Hd.co "rest_order" "rest_order" 567 190 2 288 289 .none .none 290 570 571),
 Hd.k 292 (Hd.fq gI "rest_order" "rest_order" pH 291),
 Hd.k 298 (Hd.co "_law_source" "_law_source" 575 201 2 293 294 (.ref 295) (.ref 296) 297 581 582),
 Hd.k 299 (Hd.fq iQ "_law_source" "_law_source" kn 298),
 Hd.k 305 (Hd.co "_law_take" "_law_take" 584 206 2 300 301 (.ref 302) (.ref 303) 304 591 592),
 Hd.k 306 (Hd.fq kg "_law_take" "_law_take" kn 305),
 Hd.k 312 (Hd.co "_law_common" "_law_common" 594 215 2 307 308 (.ref 309) (.ref 310) 311 599 600),
 Hd.k 313 (Hd.fq d7 "_law_common" "_law_common" kn 312),
 Hd.k 317 (Hd.co "_law_turned" "_law_turned" 602 220 2 314 315 .none .none 316 605 606),
 Hd.k 318 (Hd.fq eh "_law_turned" "_law_turned" kn 317),
 Hd.k 324 (Hd.co "_law_form" "_law_form" 608 234 2 319 320 (.ref 321) (.ref 322) 323 617 618),
 Hd.k 325 (Hd.fq j5 "_law_form" "_law_form" kn 324),
 Hd.k 331 (Hd.co "_law_leads" "_law_leads" 620 242 2 326 327 (.ref 328) (.ref 329) 330 632 633),
 Hd.k 332 (Hd.fq js "_law_leads" "_law_leads" kn 331),
 Hd.k 336 (Hd.co "law" "law" 635 255 1 333 334 .none .none 335 638 639),
 Hd.k 337 (Hd.fq kK "law" "law" kn 336)]
def KA:List Addr:=[3,18,19,23,24,30,31,35,36,40,41,45,46,50,51,55,56,62,63,69,70,76,77,81,82,93,94,100,101,107,108,114,115,119,120,126,127,133,134,136,137,147,148,161,162,168,169,175,176,182,183,189,190,196,197,203,204,206,207,215,216,220,221,225,226,232,233,264,265,271,272,276,277,281,282,286,287,291,292,298,299,305,306,312,313,317,318,324,325,331,332,336,337]
set_option maxHeartbeats 0 in
def left:PySem.W.LeftO PW (PySem.W.view PW [1,2,3,4,5,6,7,8,10,11,12,13,14,15,17,18,19,20,21,23,24,26,28,29,30,31,32,33,35,36,37,38,39,40,41]) [] (λ _=>true) (PySem.W.kmHook Row.KX Row.KA (λ _=>rfl) [117]).obs (PySem.W.kmHook Row.KX Row.KA (λ _=>rfl) [117]).val 4468:=
 Hd.left (by kernel_rfl) (λ s=>by kernel_rfl) rfl λ w os=>by kernel_rfl
end Row
namespace L3
open PySem PySem.Spec PyProof.Rows L2
section
variable {prog:Program}{w:World}{A:Around}{R:Result->Shared->Prop}{s:Shared}
def BN{elt target iter:Expr}{ifs:List Expr}{scope:Scope}{pos:Pos}{it acc:Value}{env:Env}(I:Nat->Shared->Prop)
 (turn:∀n s,I n s->wpAny (model prog w) A (pyNext it) (λ r s₁=>match r with
   |none=>R (.ok .next) s₁
   |some v=>wpAny (model prog w) A (letOwnedTupleGo target it v) (λ _ s₀=>wpAny (model prog w) A (assign target env v) (λ _ s₂=>
     wpAny (model prog w) A (forIn ifs true λ c r=>if r=true then do let ok <-isTrue c env (eval c env);pure (ForInStep.yield ok)else pure (ForInStep.yield r)) (λ ok s₃=>
      if ok=true then wpAny (model prog w) A (eval elt env) (λ x s₄=>
       wpAny (model prog w) A (call (.builtin "list.append") [acc,x]) (λ _ s₅=>∃m,m<n/\I m s₅) (λ _ _=>False) s₄) (λ _ _=>False) s₃
      else∃m,m<n/\I m s₃) (λ _ _=>False) s₂) (λ _ _=>False) s₀) (λ _ _=>False) s₁) (λ _ _=>False) s)
 (n:Nat) (h:I n s):
 codeAny (model prog w) A (.compLoop (.ListComp elt [⟨target,iter,ifs,0⟩] scope pos) 0 it acc env) R s:=by
 refine codeAny_loop rfl I (λ n s hI=>?_) n h;show wpAny _ A ((compTurn (.ListComp elt [⟨target,iter,ifs,0⟩] scope pos) 0 it acc env).onRaise (λ x=>do noteFrame x env;theTreesLotGoes x)) _ _ s;refine wpAny_noted ?_;rw[compTurn_list];refine Rw (VH (Rw (T8 (turn n s hI) (λ r s₁ h₁=>?_) λ _ _ h'=>h'.elim)));cases r with
 |none=>exact RO h₁
 |some v=>
  refine Rw (T8 h₁ (λ _ s₀ h₀=>?_) λ _ _ h'=>h'.elim);refine Rw (T8 h₀ (λ _ s₂ h₂=>Rw (T8 h₂ (λ ok s₃ h₃=>?_) λ _ _ h'=>h'.elim)) λ _ _ h'=>h'.elim);cases ok with
  |false=>exact RO ⟨rfl,h₃⟩
  |true=>
   exact Rw (Rw (T8 h₃ (λ x s₄ h₄=>Rw (T8 h₄ (λ _ s₅ h₅=>RO (RO ⟨rfl,h₅⟩)) λ _ _ h'=>h'.elim)) λ _ _ h'=>h'.elim))
end
def dz(cells:List (Str×Addr)):List (Str×NameKind)->List (Str×Addr)->List (Str×Addr)
 | [],acc=>acc
 |(n,k)::r,acc=>if k== .free then(match cells.lookup n with|some c=>dz cells r ((n,c)::acc)|none=>dz cells r acc)else dz cells r acc
def c7{cells:List (Str×Addr)}:∀(names:List (Str×NameKind)) (acc:List (Str×Addr)),(∀x c,acc.lookup x=some c->cells.lookup x=some c)->
 ∀x c,(dz cells names acc).lookup x=some c->cells.lookup x=some c
 | [],acc,h,x,c,e=>h x c e
 |(n,k)::r,acc,h,x,c,e=>by
  unfold dz at e;split at e
  . split at e
    . rename_i d q;refine c7 r _ (λ y b e'=>?_) x c e;rw[SW]at e';split at e'
      . rename_i z;cases e';have z':y=n:=by simpa using z
        rw[z'];exact q
      . exact h y b e'
    . exact c7 r _ h x c e
  . exact c7 r _ h x c e
def jK{cells:List (Str×Addr)}{x:Str}:∀(names:List (Str×NameKind)) (acc:List (Str×Addr)),(∃c,cells.lookup x=some c)->((x,NameKind.free)∈names\/∃c,acc.lookup x=some c)->
 ∃c,(dz cells names acc).lookup x=some c
 | [],acc,_,h=>by
   rcases h with h|h
   . simp at h
   . exact h
 |(n,k)::r,acc,hc,h=>by
  unfold dz;split
  . rename_i hk;split
    . rename_i d q;refine jK r _ hc ?_;rcases h with h|⟨c,h⟩
      . rcases R7.mp h with e|e
        . cases e;exact .inr ⟨d,by simp[SW]⟩
        . exact .inl e
      . refine .inr ?_;rw[SW];split
        . exact⟨_,rfl⟩
        . exact⟨c,h⟩
    . rename_i q;refine jK r _ hc ?_;rcases h with h|h
      . rcases R7.mp h with e|e
        . cases e;obtain⟨c,hc⟩:=hc;rw[hc]at q;cases q
        . exact .inl e
      . exact .inr h
  . rename_i hk;refine jK r _ hc ?_;rcases h with h|h
    . rcases R7.mp h with e|e
      . cases e;exact absurd rfl hk
      . exact .inl e
    . exact .inr h
def nY{scope:Scope}{env:Env}(h:∀x∈scope.names,x.2= .free->∃c,env.cells.lookup x.1=some c):closureFor scope env=pure (dz env.cells scope.names []):=by
 have key:∀(names:List (Str×NameKind)) (acc:List (Str×Addr)),(∀x∈names,x.2= .free->∃c,env.cells.lookup x.1=some c)->
  (forIn names acc (λ(x:Str×NameKind) (cs:List (Str×Addr))=>if(x.2==NameKind.free)=true then(do let a <-cellOf env x.1;pure (ForInStep.yield ((x.1,a)::cs)):Sem (ForInStep (List (Str×Addr))))else pure (ForInStep.yield cs)))=(pure (dz env.cells names acc):Sem (List (Str×Addr))):=by
  intro names;induction names with
  |nil=>intro acc _;rfl
  |cons p r ih=>
   intro acc hh;obtain⟨n,k⟩:=p;rw[WM];have ih':=ih;by_cases hk:(k==NameKind.free)=true
   . obtain⟨c,e⟩:=hh (n,k) R6 (by simpa using hk);simp only[hk,UB]
     have e1:cellOf env n=pure c:=by
      unfold cellOf;rw[e]
     rw[e1];simp only[pure_bind];rw[ih _ λ x hx=>hh x (RU _ hx)];conv=>rhs;unfold dz
     simp only[hk,UB];rw[show env.cells.lookup n=some c from e]
   . have hk':(k==NameKind.free)=false:=by simpa using hk
     simp only[hk',Ts,Uq,pure_bind];rw[ih _ λ x hx=>hh x (RU _ hx)];conv=>rhs;unfold dz
     simp only[hk',Ts,Uq]
 unfold closureFor;have:=key scope.names [] h;rw[bind_pure]
 first
  |exact this
  |(simp only[bind_pure]at this⊢;exact this)
end L3
namespace L3
open PySem PySem.Spec L2
open PyProof.Rows hiding St
def ke(env:Env):∀(names:List (Str×NameKind)) (x:Str),
 (names.map λ(n,k)=>if(k==NameKind.free&&env.scope.kind== .function&&env.kindOf n==some .cell)then(n,NameKind.cell)else(n,k)).lookup x=
   (names.lookup x).map λ k=>if(k==NameKind.free&&env.scope.kind== .function&&env.kindOf x==some .cell)then NameKind.cell else k
 | [],_=>rfl
 |(n,k)::r,x=>by
  show List.lookup x ((if(k==NameKind.free&&env.scope.kind== .function&&env.kindOf n==some .cell)=true then(n,NameKind.cell)else(n,k))::_)=_;cases hx:x==n with
  |true=>
   have e:x=n:=by simpa using hx
   subst e;by_cases hc:(k==NameKind.free&&env.scope.kind== .function&&env.kindOf x==some .cell)=true
   . rw[RC hc];simp only[SW,WE,UX];rw[RC hc]
   . rw[Rx hc];simp only[SW,WE,UX];rw[Rx hc]
  |false=>
   by_cases hc:(k==NameKind.free&&env.scope.kind== .function&&env.kindOf n==some .cell)=true
   . rw[RC hc];simp only[SW,hx];exact ke env r x
   . rw[Rx hc];simp only[SW,hx];exact ke env r x
def Aa{env:Env}{scope:Scope}{x:Str}(h:scope.names.lookup x=some .free):(relabel scope env).names.lookup x=some .cell\/(relabel scope env).names.lookup x=some .free:=by
 have e:(relabel scope env).names.lookup x=_:=ke env scope.names x;rw[e,h];simp only[UX];split
 . exact .inl rfl
 . exact .inr rfl
def As{env:Env}{scope:Scope}{x:Str}(h:(relabel scope env).names.lookup x=some .cell\/(relabel scope env).names.lookup x=some .free):(x,NameKind.free)∈scope.names\/scope.names.lookup x=some .cell:=by
 have e:(relabel scope env).names.lookup x=_:=ke env scope.names x;rw[e]at h;cases q:scope.names.lookup x with
 |none=>rw[q]at h;rcases h with h|h<;>cases h
 |some k=>
  rw[q]at h;simp only[UX]at h;have m:=SE q;by_cases hc:(k==NameKind.free&&env.scope.kind== .function&&env.kindOf x==some .cell)=true
  . have:k= .free:=by
     simp only[SV]at hc;simpa using hc.1.1
    subst this;exact .inl m
  . rw[Rx hc]at h;rcases h with h|h
    . cases h;exact .inr rfl
    . cases h;exact .inl m
def g6:∀(names:List (Str×NameKind)) (L:Nat) (acc:List (Str×Addr)),cellsFrom L names acc=cellsFrom L names []++acc
 | [],_,_=>rfl
 |(n,k)::r,L,acc=>by
  unfold cellsFrom;by_cases hk:(k==NameKind.cell)=true
  . rw[RC hk,RC hk,g6 r (L+1) ((n,L)::acc),g6 r (L+1) [(n,L)],Vf];rfl
  . rw[Rx hk,Rx hk];exact g6 r L acc
def tI:∀ {names:List (Str×NameKind)} {L:Nat} {x:Str} {c:Addr},(x,c)∈cellsFrom L names []->(x,NameKind.cell)∈names
 | [],_,_,_,h=>by unfold cellsFrom at h;cases h
 |(n,k)::r,L,x,c,h=>by
  unfold cellsFrom at h;by_cases hk:(k==NameKind.cell)=true
  . rw[RC hk,g6]at h;have hk':k= .cell:=by simpa using hk
    subst hk';rcases SH.mp h with h|h
    . exact RU _ (tI h)
    . have:(x,c)=(n,L):=by simpa using h
      cases this;exact R6
  . rw[Rx hk]at h;exact RU _ (tI h)
def sh:∀ {l1 l2:List (Str×Addr)} {x:Str} {c:Addr},(l1++l2).lookup x=some c->l1.lookup x=some c\/(l1.lookup x=none/\l2.lookup x=some c)
 | [],_,_,_,h=> .inr ⟨rfl,h⟩
 |(n,d)::l1,l2,x,c,h=>by
  rw[List.cons_append,SW]at h;rw[SW];cases hx:x==n with
  |true=>rw[hx]at h;exact .inl h
  |false=>rw[hx]at h;exact sh h
def ve:∀ {l1 l2:List (Str×Addr)} {x:Str},l1.lookup x=none->(l1++l2).lookup x=l2.lookup x
 | [],_,_,_=>rfl
 |(n,d)::l1,l2,x,h=>by
  rw[SW]at h;rw[List.cons_append,SW];cases hx:x==n with
  |true=>rw[hx]at h;cases h
  |false=>rw[hx]at h;exact ve h
def nG(scope:Scope)(C:Addr)(cl:List (Str×Addr)):List (Str×Addr):=cellsFrom (C+1) scope.names cl
def jX{scope:Scope}{C:Addr}{cl:List (Str×Addr)}{x:Str}{c:Addr}(h:(nG scope C cl).lookup x=some c):(x,c)∈cellsFrom (C+1) scope.names []\/cl.lookup x=some c:=by
 unfold nG at h;rw[g6]at h;rcases sh h with h|h
 . exact .inl (SE h)
 . exact .inr h.2
def Nb(names:List (Str×NameKind))(h:Heap){C:Addr}(e:h.objs.size=C+1):CellsOk (pushCells h names) (C+1) (cellsFrom (C+1) names []):=by
 have:=cellsFrom_ok names h (C+1) [] ⟨λ _ _ hm=>(nomatch hm),List.Pairwise.nil⟩ (by rw[e];exact Rv _);rw[e]at this;exact this
def pz{names:List (Str×NameKind)}{C:Addr}{x:Str}{c:Addr}:∀ {L:Nat},C<=L->(x,c)∈cellsFrom L names []->C<=c:=by
 induction names with
 |nil=>intro L _ h;unfold cellsFrom at h;cases h
 |cons p r ih=>
  obtain⟨n,k⟩:=p;intro L hL h;unfold cellsFrom at h;by_cases hk:(k==NameKind.cell)=true
  . rw[RC hk,g6]at h;rcases SH.mp h with h|h
    . exact ih (RH hL (U_ L)) h
    . have:(x,c)=(n,L):=by simpa using h
      cases this;exact hL
  . rw[Rx hk]at h;exact ih hL h
def own_apart{names:List (Str×NameKind)}{x y:Str}{c:Addr}:∀ {L:Nat},(x,c)∈cellsFrom L names []->(y,c)∈cellsFrom L names []->x=y:=by
 induction names with
 |nil=>intro L h;unfold cellsFrom at h;cases h
 |cons p r ih=>
  obtain⟨n,k⟩:=p;intro L h1 h2;unfold cellsFrom at h1 h2;by_cases hk:(k==NameKind.cell)=true
  . rw[RC hk,g6]at h1 h2;rcases SH.mp h1 with g1|g1<;>rcases SH.mp h2 with g2|g2
    . exact ih g1 g2
    . have e2:(y,c)=(n,L):=by simpa using g2
      have ec:c=L:=(WT e2).2;have:=pz (C:=L+1) (Rv _) g1;rw[ec]at this;exact absurd this (Nat.not_succ_le_self _)
    . have e1:(x,c)=(n,L):=by simpa using g1
      have ec:c=L:=(WT e1).2;have:=pz (C:=L+1) (Rv _) g2;rw[ec]at this;exact absurd this (Nat.not_succ_le_self _)
    . have e1:(x,c)=(n,L):=by simpa using g1
      have e2:(y,c)=(n,L):=by simpa using g2
      exact(WT e1).1.trans (WT e2).1.symm
  . rw[Rx hk]at h1 h2;exact ih h1 h2
def vP{M:Model}{A:Around}{E:Value->Shared->Prop}{s:Shared}{scope:Scope}{globals:Addr}{cl:List (Str×Addr)}{qual:Str}{env:Env}{Q:Env->Shared->Prop}
 (hQ:Q (newEnv scope s.heap.objs.size globals (nG scope s.heap.objs.size cl) qual none .none (some env) builtinsNs) {s with heap:=pushCells (s.heap.push {cls:= .type "dict",data:= .dict #[]}) scope.names}):
 wpAny M A (newFunctionEnv scope globals cl [] qual none .none (some env)) Q E s:=by
 simp only[newFunctionEnv,Option.isSome_some,UB];refine Rw (wpAny_alloc ?_);refine Rw (wpAny_layCells _ (λ name kind cells=>by cases hkc:kind==NameKind.cell<;>simp[hkc]) _ _ _ _ ?_);rw[show({s with heap:=s.heap.push {cls:= .type "dict",data:= .dict #[]}}:Shared).heap.objs.size=s.heap.objs.size+1 from TM ..];rw[W3];exact Rw (RO (RO hQ))
structure bH(X:Cx)(scope:Scope)(Nc:List Str)(fr:List (Option Nat)):Prop where
 kind:scope.kind= .function
 cells:∀x∈scope.names,x.2= .cell->scope.names.lookup x.1=some .cell
 names:∀x∈scope.names,x.2= .local->scope.names.lookup x.1=some .local
 free:∀x∈scope.names,x.2= .free->X.env.kindOf x.1=some .cell\/X.env.kindOf x.1=some .free
 len:fr.length=Nc.length
 map:∀(i j:Nat) (x:Str),Nc[i]?=some x->fr[i]?=some (some j)->X.N[j]?=some x/\scope.names.lookup x=some .free/\(X.env.kindOf x=some .cell\/X.env.kindOf x=some .free)
def σC(fr:List (Option Nat))(σ:St):St:=fr.map λ o=>o.bind λ j=>(σ[j]?).join
def gc(X:Cx)(scope:Scope)(Nc:List Str)(C:Addr)(s:Shared)(H:Hp)(ex:List Addr):Cx:=
 {X with N:=Nc,s₀:=s,H₀:=H,env:=compEnvC scope (nG scope C (dz X.env.cells scope.names [])) C X.env,outer:=X.stack,stack:=X.stack,ex:=ex,fn:=λ x=>scope.names.lookup x==some .cell,pn:=[],xe:=λ _ _=>False}
def uU(wi:TI)(fr:List (Option Nat))(g:TG)(c:TT)(te:TE):TE:=λ σ H Q=>wi σ H λ J H1=>∀l,H1 l=none->
 ∃W:Nat->Nat->L2.St->Hp->Prop,(∃m,W 0 m (σC fr σ) (upd H1 l (.lst [])))/\∀i m σ H,W i m σ H->
  (J.stop i H/\Q (.ref l) H)\/(J.go i H/\∃N:L2.St->Hp->Prop,(∀σ' H',N σ' H'->∃m',m'<m/\W (i+1) m' σ' H')/\∀x H',J.qI i H x H'->
    g x σ H' λ σ2 H2=>c σ2 H2 λ b H3=>if b=true then te σ2 H3 λ y H4=>∃ys,H4 l=some (.lst ys)/\ys.length<sizeLine/\N σ2 (upd H4 l (.lst (ys++[y])))else N σ2 H3)
def tY(X:Cx)(ifs:List Expr)(t:TT):Prop:=
 ∀(pins:List (Addr×Obj)) (s:Shared) (σ:St) (H:Hp) (Q:Bool->Hp->Prop),Inv X pins σ H s->t σ H Q->
  wpAny (model X.prog X.w) X.A (forIn ifs true λ c r=>if r=true then do let ok <-isTrue c X.env (eval c X.env);pure (ForInStep.yield ok)else pure (ForInStep.yield r)) (TP X pins σ Q) X.xe s
def OY:TT:=λ _ H Q=>Q true H
def JU{X:Cx}:tY X [] OY:=λ _ _ _ H _ I h=>wpAny_tests_nil ⟨H,I,h⟩
def JH{X:Cx}{c:Expr}{t:TT}(h:PT X c t):tY X [c] t:=λ pins s σ H Q I q=>wpAny_tests_one (h pins s σ H Q I q)
section
variable {X:Cx}{scope:Scope}{Nc:List Str}{fr:List (Option Nat)}{pins:List (Addr×Obj)}{σ:St}{H:Hp}{s:Shared}
def Lf{C:Addr}{fp:List Addr}(S:bH X scope Nc fr)(I:Inv X pins σ H s)(hC:C=s.heap.objs.size)(hf:∀b∈fp,m6 X pins H b)(hlt:∀b∈fp,b<s.heap.objs.size)(hnc:∀b∈fp,∀x c,X.env.cells.lookup x=some c->c≠b):
 (gc X scope Nc C s H fp).Ok where
 mod:=I.ok.mod
 kind:=S.kind
 glob:=I.ok.glob
 blt:=I.ok.blt
 above:=VU hC.symm
 inj:=λ x y c h1 h2=>by
  have low:∀ {z},(dz X.env.cells scope.names []).lookup z=some c->c<s.heap.objs.size:=λ{z} hz=>by
   obtain⟨v,q⟩:=I.cell z c (c7 _ [] (λ _ _ e=>by cases e) z c hz);exact q.lt
  rcases jX h1 with h1|h1<;>rcases jX h2 with h2|h2
  . exact own_apart h1 h2
  . have a:=pz (C:=C+1) (Rv _) h1;have b:c<C:=by rw[hC];exact low h2
    exact absurd a (Nat.not_le_of_gt (SD b))
  . have a:=pz (C:=C+1) (Rv _) h2;have b:c<C:=by rw[hC];exact low h1
    exact absurd a (Nat.not_le_of_gt (SD b))
  . exact I.ok.inj x y c (c7 _ [] (λ _ _ e=>by cases e) x c h1) (c7 _ [] (λ _ _ e=>by cases e) y c h2)
 has:=λ x hx=>by
  rcases As hx with m|m
  . obtain⟨c,e⟩:=jK scope.names [] (I.ok.has x (S.free _ m rfl)) (.inl m);exact UM.mp (Uu _ _ _ (.inr (by rw[e];rfl)))
  . exact UM.mp (Uu _ _ _ (.inl m))
 A9:=λ x c hf h=>by
  have hl:scope.names.lookup x=some .cell:=by
   have:(scope.names.lookup x==some .cell)=true:=hf;simpa using this
  obtain⟨c',e⟩:=UM.mp (Uu (x:=x) scope.names (C+1) [] (.inl hl))
  have h':(cellsFrom (C+1) scope.names []++dz X.env.cells scope.names []).lookup x=some c:=by
   rw[<-g6];exact h
  rcases sh h' with q|q
  . have:=pz (C:=C+1) (Rv _) (SE q);show s.heap.objs.size<=c;rw[<-hC];exact Wq this
  . rw[q.1]at e;cases e
 hd:=I.ok.hd
 frames:=I.ok.frames
 BU:= .inl rfl
 EN:=λ b hb=>⟨by rw[show(gc X scope Nc C s H fp).env.locals=s.heap.objs.size from hC];exact Se (hlt b hb),λ x c h=>by
  rcases jX h with h|h
  . have a:=pz (C:=C+1) (Rv _) h;have b':b<C:=by rw[hC];exact hlt b hb
    exact TL (RQ b' (Wq a))
  . exact hnc b hb x c (c7 _ [] (λ _ _ e=>by cases e) x c h)⟩
 bs:=I.bs
 uo:=RH I.ok.uo I.sz
 vT:=λ b o e hb=>by
  have hn:=(hf b hb).2.2.2.1;rcases hn with hn|hn
  . exact I.ok.vT b o e hn
  . exact absurd (RW (I.ok.bs b o e).1) (Nat.not_lt.mpr hn)
 vA:=λ b hb z=>by
  have q:=I.Ax b z;rcases R7.mp q with q|q
  . exact(hf b hb).2.1 q
  . exact(hf b hb).2.2.1 q
 lP:=I.stack
 w9:=λ b hb=>I.xG b hb
 gt:=I.ok.gt
def BS{i:Nat}{v:V}(h:(σC fr σ)[i]?=some (some v)):∃j,fr[i]?=some (some j)/\σ[j]?=some (some v):=by
 unfold σC at h;rw[RP]at h;cases q:fr[i]? with
 |none=>rw[q]at h;cases h
 |some o=>
  rw[q]at h;cases o with
  |none=>simp at h
  |some j=>
   simp only[UX,Option.some.injEq,Option.bind_some]at h;refine⟨j,rfl,?_⟩;cases r:σ[j]? with
   |none=>rw[r]at h;cases h
   |some u=>rw[r]at h;simp at h;rw[h]
def HK{s':Shared}{h':Heap}{C:Addr}{fp:List Addr}{t':Nat}(S:bH X scope Nc fr)(I:Inv X pins σ H s)(hC:C=s.heap.objs.size)(ok:(gc X scope Nc C s H fp).Ok)(hfr:∀b∈fp,H b=none)
 (k:∀b o,s.heap.get? b=some o->h'.get? b=some o) (hn:h'.Ns C (λ _=>none)) (hcs:∀x c,(x,c)∈cellsFrom (C+1) scope.names []->h'.IsCell c none):Inv (gc X scope Nc C s H fp) [] (σC fr σ) H {s with heap:=h',toks:=t'} where
 ok:=ok
 os:=rfl
 bare:=I.bare
 base:=Un.kept k
 loc:=⟨_,hn,λ i x v h1 h2 h3=>by
  obtain⟨j,q1,q2⟩:=BS h2;obtain⟨n1,n2,n3⟩:=S.map i j x h1 q1;obtain⟨m,hm,hl⟩:=I.loc
  have vis:Bu X.env.scope x:=by
   rcases n3 with z|z
   . exact .inr (.inl z)
   . exact .inr (.inr z)
  obtain⟨u,r,lk⟩:=hl j x v n1 q2 vis;refine⟨u,r,?_⟩;rcases lk with⟨z,_⟩|⟨z,c,e,ic⟩
  . rcases n3 with y|y
    . rw[y]at z;cases z
    . rw[y]at z;cases z
  . refine .inr ⟨Aa n2,?_⟩;obtain⟨c',e'⟩:=jK scope.names [] ⟨c,e⟩ (.inl (SE n2));have e2:=c7 _ [] (λ _ _ e=>by cases e) x c' e';rw[e]at e2;cases e2;refine⟨c,?_,ic.keeps k⟩;show(nG scope C (dz X.env.cells scope.names [])).lookup x=some c;unfold nG;rw[g6,ve ?_]
    . exact e'
    . cases q:(cellsFrom (C+1) scope.names []).lookup x with
      |none=>rfl
      |some c2=>
       have:=S.cells _ (tI (SE q)) rfl;rw[n2]at this;cases this⟩
 cell:=λ x c h=>by
  rcases jX h with h|h
  . exact⟨_,hcs x c h⟩
  obtain⟨v,q⟩:=I.cell x c (c7 _ [] (λ _ _ e=>by cases e) x c h);exact⟨v,q.keeps k⟩
 free:=by show H C=none;rw[hC];exact I.aM.fresh (Rv _)
 jD:=λ x c h=>by
  rcases jX h with h|h
  . have a:=pz (C:=C+1) (Rv _) h;exact I.aM.fresh (by rw[<-hC];exact Wq a)
  . exact I.jD x c (c7 _ [] (λ _ _ e=>by cases e) x c h)
 pin:=λ p hp=>by cases hp
 aM:=I.aM.kept k
 len:=by unfold σC;rw[Rz];exact S.len
def Inv.forget{C:Addr}{h':Heap}(I:Inv X pins σ H s)(f:m6 X pins H C)(hs:Heap.SameBut C s.heap h'):Inv X pins σ H {s with heap:=h'}:=by
 refine I.DB (s':={s with heap:=h'}) (ch:=[C]) rfl ?_ ?_ I.bare λ b hb=>?_
 . have ne:∀b,b∉[C]->b≠C:=λ b hb z=>hb (by simp[z]);exact{keep:=λ b o q _ _ hx=>(hs.2 b (ne b hx)).trans q,slot:=λ b o q _ _ hx=>⟨o.slots,(hs.2 b (ne b hx)).trans q⟩,free:=λ b o q n _=>n,there:=λ b o q hx=>⟨o,(hs.2 b (ne b hx)).trans q⟩,qp:=λ _ _ e=>e,o5:=λ _ _ _ e=>e,oV:=λ b ps e=>⟨#[],by rw[e];simp⟩}
 . intro a o q;have na:∀b u,H b=some u->b≠C:=λ b u q z=>by rw[z,f.1]at q;cases q
   refine(I.aM a o q).qo (λ b u hb e=>?_) (λ _ q=>q) λ _ _ q=>q;rw[hs.2 b ?_]
   . exact e
   . rcases hb with rfl|hb
     . exact na _ _ q
     . exact na _ _ hb
 . have:b=C:=by simpa using hb
   subst this;exact⟨f.2.2.2.1,f.2.1,f.2.2.2.2.1,f.2.2.2.2.2⟩
def wH{elt tg iter:Expr}{ifs:List Expr}{wi:TI}{g:TG}{c:TT}{te:TE}{pos:Pos}{Q:VK}{RR:Value->Addr->Result->Shared->Prop}(hx:X.xe=λ _ _=>False)(hc:X.calm=true)(S:bH X scope Nc fr)(hi:PI X tg iter wi)
 (hg:∀C s H ex,PG (gc X scope Nc C s H ex) tg g) (ht:∀C s H ex,tY (gc X scope Nc C s H ex) ifs c) (he:∀C s H ex,PE (gc X scope Nc C s H ex) elt te) (I:Inv X pins σ H s) (h:uU wi fr g c te σ H Q)
 (fin:∀(l C:Addr) (s6:Shared) (H5:Hp) (m:Str->Option Value),s6.heap.Ns C m->m6 X pins H5 C->Inv X pins σ H5 s6->Q (.ref l) H5->RR (.ref l) C (.ok .next) s6):
 wpAny (model X.prog X.w) X.A (eval iter X.env) (λ x s₁=>wpAny (model X.prog X.w) X.A (pyIter x) (λ it s₂=>wpAny (model X.prog X.w) X.A (newList []) (λ acc s₃=>
  wpAny (model X.prog X.w) X.A (newFunctionEnv scope X.env.globals (dz X.env.cells scope.names []) [] X.env.qual none .none (some X.env)) (λ cenv s₄=>
   codeAny (model X.prog X.w) X.A (.compStart (.ListComp elt [⟨tg,iter,ifs,0⟩] scope pos) 0 it acc {cenv with scope:=relabel scope X.env}) (RR acc cenv.locals) s₄) X.xe s₃) X.xe s₂) X.xe s₁) X.xe s:=by
 refine cu (hi pins s σ H _ I h) λ v s1 h1=>cu h1 λ itv s2 h2=>?_;obtain⟨it,fp,tn,J,H2,e,I2,T,st2,f2,hR⟩:=h2;subst e;refine Xb ?_ (RX _);have I3:=I2.Gv (t':=s2.toks) (its:=[]) (ys:=[]) .nil (RX _);generalize e3:({s2 with heap:=s2.heap.push {cls:= .type "list",data:= .seq ([]:List Value).toArray}}:Shared)=s3;have I3:Inv X pins σ (upd H2 s2.heap.objs.size (.lst [])) s3:=by rw[<-e3];exact I3
 have ml:s2.heap.objs.size<s3.heap.objs.size:=by rw[<-e3];show _<(s2.heap.push _).objs.size;rw[TM];omega
 have k3:∀b o,s2.heap.get? b=some o->s3.heap.get? b=some o:=λ b o q=>by rw[<-e3];exact RE _ q
 obtain⟨W,⟨m0,w0⟩,turn⟩:=hR s2.heap.objs.size (I2.aM.fresh (Rv _));refine vP ?_;have hn:(pushCells (s3.heap.push {cls:= .type "dict",data:= .dict #[]}) scope.names).Ns s3.heap.objs.size (λ _=>none):=(Heap.Ns.new s3.heap (.type "dict")).keeps (pushCells_keeps _ _);have hcs:∀x c,(x,c)∈cellsFrom (s3.heap.objs.size+1) scope.names []->(pushCells (s3.heap.push {cls:= .type "dict",data:= .dict #[]}) scope.names).IsCell c none:=λ x c h=>((Nb scope.names _ (TM ..)).empty x c h).1;have k4:∀b o,s3.heap.get? b=some o->(pushCells (s3.heap.push {cls:= .type "dict",data:= .dict #[]}) scope.names).get? b=some o:=λ b o q=>pushCells_keeps _ _ b o (RE _ q);generalize(pushCells (s3.heap.push {cls:= .type "dict",data:= .dict #[]}) scope.names)=h' at hn hcs k4⊢;have hobj:∀b∈fp,∃o,s2.heap.get? b=some o/\∀v,o.data≠ .cell v:=T.obj _ _ st2;have hlt2:∀b∈fp,b<s3.heap.objs.size:=λ b hb=>let⟨o,q,_⟩:=hobj b hb;RW (k3 b o q)
 have hnl:∀b∈fp,b≠s2.heap.objs.size:=λ b hb=>by
  obtain⟨o,q,_⟩:=hobj b hb;exact Se (RW q)
 have f3:∀b∈fp,m6 X pins (upd H2 s2.heap.objs.size (.lst [])) b:=λ b hb=>⟨by rw[ay (hnl b hb)];exact(f2 b hb).1,(f2 b hb).2⟩
 have ok:=Lf (C:=s3.heap.objs.size) (fp:=fp) S I3 rfl f3 hlt2 λ b hb=>(f2 b hb).2.2.2.2.1
 have I4:Inv (gc X scope Nc s3.heap.objs.size s3 (upd H2 s2.heap.objs.size (.lst [])) fp) [] (σC fr σ) (upd H2 s2.heap.objs.size (.lst [])) {s3 with heap:=h',toks:=s3.toks}:=
  HK (s':=s3) S I3 rfl ok (λ b hb=>(f3 b hb).1) k4 hn hcs
 have st4:tn 0 h':=T.keep _ _ _ st2 λ b _ o q=>k4 b o (k3 b o q);generalize hXc:gc X scope Nc s3.heap.objs.size s3 (upd H2 s2.heap.objs.size (.lst [])) fp=Xc at I4;have hgc:PG Xc tg g:=by rw[<-hXc];exact hg _ _ _ _
 have htc:tY Xc ifs c:=by rw[<-hXc];exact ht _ _ _ _
 have hec:PE Xc elt te:=by rw[<-hXc];exact he _ _ _ _
 have xP:Xc.prog=X.prog:=by rw[<-hXc];rfl
 have xW:Xc.w=X.w:=by rw[<-hXc];rfl
 have xK:Xc.K=X.K:=by rw[<-hXc];rfl
 have xc:Xc.calm=true:=by rw[<-hXc];exact hc
 have xA:Xc.A=X.A:=by rw[<-hXc];rfl
 have xE:Xc.env=compEnvC scope (nG scope s3.heap.objs.size (dz X.env.cells scope.names [])) s3.heap.objs.size X.env:=by rw[<-hXc];rfl
 have xx:Xc.xe=λ _ _=>False:=by rw[<-hXc];rfl
 have fpc:∀ {H':Hp},(∀b∈fp,H' b=none)->∀b∈fp,m6 Xc [] H' b:=λ{H'} hn b hb=>by
  rw[<-hXc];refine⟨hn b hb,Se (hlt2 b hb),ok.vA b hb,.inl hb,(ok.EN b hb).2,λ p hp=>by cases hp⟩
 have loop:codeAny (model X.prog X.w) X.A (.compLoop (.ListComp elt [⟨tg,iter,ifs,0⟩] scope pos) 0 (.ref it) (.ref s2.heap.objs.size) (compEnvC scope (nG scope s3.heap.objs.size (dz X.env.cells scope.names [])) s3.heap.objs.size X.env))
  (RR (.ref s2.heap.objs.size) s3.heap.objs.size) {s3 with heap:=h',toks:=s3.toks}:=by
  refine BN (λ n s'=>∃i σ' H',Inv Xc [] σ' H' s'/\tn i s'.heap/\(∀b∈fp,H' b=none)/\W i n σ' H') ?_ m0 ⟨0,_,_,I4,st4,λ b hb=>(f3 b hb).1,w0⟩;rintro n s5 ⟨i,σ5,H5,I5,st5,fr5,w5⟩;rcases turn i n σ5 H5 w5 with⟨stop,qn⟩|⟨go,N,hN,step⟩
  . have q:=T.done Xc xP xW xK xc i [] s5 σ5 H5 (λ _ _=>False) I5 (fpc fr5) st5 stop;rw[xA]at q;refine cu q λ r s6 ⟨hr,I6⟩=>?_;subst hr;obtain⟨m,hm,_⟩:=I6.loc;rw[xE]at hm;have free6:H5 s3.heap.objs.size=none:=by have:=I6.free;rw[xE]at this;exact this
    have un6:Un (qP X.stack) fp (upd H2 s2.heap.objs.size (.lst [])) H5 s3.heap s6.heap:=by have:=I6.base;rw[<-hXc]at this;exact this
    have os6:s6.os=s3.os:=by have:=I6.os;rw[<-hXc]at this;exact this
    have hok6:je X.prog X.w H5 s6.heap:=by have:=I6.aM;rw[xP,xW]at this;exact this
    have J:=I3.DB (s':=s6) (ch:=fp) os6 un6 hok6 I6.bare λ b hb=>⟨(f3 b hb).2.2.2.1,(f3 b hb).2.1,(f3 b hb).2.2.2.2.1,(f3 b hb).2.2.2.2.2⟩
    exact fin _ _ s6 H5 m hm (I3.yi (Rv _) free6) J qn
  . have q:=T.item Xc xP xW xK xc i [] s5 σ5 H5 (λ _ _=>False) I5 (fpc fr5) st5 go;rw[xA]at q;refine cu q λ r s6 ⟨u,hr,h6⟩=>?_;subst hr;refine cu h6 λ _ s7 ⟨x,H7,I7,r7,y7,st7,fr7⟩=>?_;have I7':=I7.pinned (fpc fr7) (T.obj _ _ st7);have q8:=hgc _ s7 σ5 H7 x u _ I7' r7 (step x H7 y7);rw[xP,xW,xA,xE,xx]at q8;refine cu q8 λ _ s8 ⟨σ8,H8,I8,q8⟩=>?_;have q9:=htc _ s8 σ8 H8 _ I8 q8;rw[xP,xW,xA,xE,xx]at q9;refine cu q9 λ b s9 ⟨H9,I9,q9⟩=>?_
    have again:∀ {H':Hp} {s':Shared},Inv Xc ([]++tZ fp s7.heap) σ8 H' s'->N σ8 H'->∃m,m<n/\∃i σ' H',Inv Xc [] σ' H' s'/\tn i s'.heap/\(∀b∈fp,H' b=none)/\W i m σ' H':=λ{H' s'} J nn=>by
     obtain⟨m',hm,w7⟩:=hN σ8 H' nn;refine⟨m',hm,i+1,σ8,H',J.i4,T.keep _ _ _ st7 λ b hb o e=>(J.pin (b,o) (RZ _ (RZ _ (oB hb e)))).1,λ b hb=>?_,w7⟩;obtain⟨o,e,d⟩:=T.obj _ _ st7 b hb;exact(J.pin (b,o) (RZ _ (RZ _ (oB hb e)))).2.1
    cases b with
    |false=>exact again I9 q9
    |true=>
     have qe:=hec _ s9 σ8 H9 _ I9 q9;rw[xP,xW,xA,xE,xx]at qe;refine cu qe λ y s10 ⟨vy,H10,I10,ry,ys,hy,hlt,qN⟩=>?_;have qa:=yS (X:=Xc) _ s10 σ8 H10 (.ref s2.heap.objs.size) [vy] (.ref s2.heap.objs.size) [y] (λ _ H'=>N σ8 H') I10 rfl (.cons ry .nil) ⟨_,ys,vy,rfl,rfl,hy,hlt,qN⟩;rw[xP,xW,xA,xx]at qa;exact cu qa λ _ s11 ⟨_,H11,I11,_,q11⟩=>again I11 q11
 refine codeAny_compStart_list ?_ ?_
 . exact loop
 . exact T.self _ 0 _ _ _ st4 loop
def BQ{elt tg iter:Expr}{ifs:List Expr}{wi:TI}{g:TG}{c:TT}{te:TE}{pos:Pos}(hx:X.xe=λ _ _=>False)(hc:X.calm=true)(S:bH X scope Nc fr)(hi:PI X tg iter wi)
 (hg:∀C s H ex,PG (gc X scope Nc C s H ex) tg g) (ht:∀C s H ex,tY (gc X scope Nc C s H ex) ifs c) (he:∀C s H ex,PE (gc X scope Nc C s H ex) elt te)
 (hs:∀x,foldedSetIterable iter X.env x=pure x:=by intro _;rfl):PE X (.ListComp elt [⟨tg,iter,ifs,0⟩] scope pos) (uU wi fr g c te):=by
 intro pins s σ H Q I h;rw[eval_ListComp];have hcl:closureFor scope X.env=pure (dz X.env.cells scope.names []):=nY λ x hx hk=>I.ok.has x.1 (S.free x hx hk);refine WG rfl hs hcl S.kind S.names ?_;exact wH (RR:=λ acc C=>compPost (model X.prog X.w) X.A X.xe none (EP X pins σ Q) acc C) hx hc S hi hg ht he I h λ l C s6 H5 m hm f J q=>⟨m,hm,λ h'' hs''=>⟨.ref l,H5,Inv.forget J f hs'',rfl,q⟩⟩
def Co{elt tg iter:Expr}{ifs:List Expr}{wi:TI}{g:TG}{c:TT}{te:TE}{pos pos' spos:Pos}{i:Nat}{x:Str}(hx:X.xe=λ _ _=>False)(hc:X.calm=true)(S:bH X scope Nc fr)(hi:PI X tg iter wi)
 (hg:∀C s H ex,PG (gc X scope Nc C s H ex) tg g) (ht:∀C s H ex,tY (gc X scope Nc C s H ex) ifs c) (he:∀C s H ex,PE (gc X scope Nc C s H ex) elt te) (hN:X.N.Nodup) (hni:X.N[i]?=some x) (hl:Loc X.env.scope x) (hf:X.fn x=true\/X.env.scope.names.lookup x=some .local)
 (hsw:swapsWith (.ListComp elt [⟨tg,iter,ifs,0⟩] scope pos) (some (.Name x pos')) spos.line X.env=pure true)
 (hs:∀x,foldedSetIterable iter X.env x=pure x:=by intro _;rfl):PS X (.Assign [.Name x pos'] (.ListComp elt [⟨tg,iter,ifs,0⟩] scope pos) spos) (mR (uU wi fr g c te) (nc i)):=by
 intro pins s σ H D I h;have hcl:closureFor scope X.env=pure (dz X.env.cells scope.names []):=nY λ x hx hk=>I.ok.has x.1 (S.free x hx hk);rw[exec_Assign_Name_used _ _ _ _ hsw];refine Rw (VH (Rw ?_));show wpAny _ X.A (do let _ <-comprehension (.ListComp elt [⟨tg,iter,ifs,0⟩] scope pos) scope X.env _ (newList []) false (eval iter X.env) (some (assign (.Name x pos') X.env))) _ _ s
 refine Rw (T8 (WG (use:=some (assign (.Name x pos') X.env)) (Q:=λ _ s'=>SP X pins D .next s') rfl hs hcl S.kind S.names
  (wH (RR:=λ acc C=>compPost (model X.prog X.w) X.A X.xe (some (assign (.Name x pos') X.env)) (λ _ s'=>SP X pins D .next s') acc C) hx hc S hi hg ht he I h λ l C s6 H5 m hm f J q=>?_)) (λ _ s' hq=>RO (RO hq)) λ _ _ e=>e)
 show wpAny _ X.A (assign (.Name x pos') X.env (.ref l)) _ _ _;refine wpAny_assign_Name (yN J hN hni hl (show RelV (.ref l) (.ref l)from rfl) (λ s7 J7 hch=>?_) hf);obtain⟨a,hsame,ha⟩:=hch
 have hCa:C≠a:=by
  rcases ha with rfl|ha
  . exact f.2.1
  . exact λ z=>f.2.2.2.2.1 x a ha z.symm
 refine⟨m,hm.sameBut hsame hCa,λ h'' hs''=>⟨σ.set i (some (.ref l)),H5,Inv.forget J7 f hs'',q⟩⟩
end
inductive D where
 |aB|bl (b:Bool)|int (i:Int)|str (x:Str)|ty (n:String)|ref (n:Nat)|lst (xs:List D)|tup (xs:List D)
inductive Cell where
 |lst (xs:List D)|ins (C:Addr) (fs:List (Str×D))|dead
  |tab (P:Addr) (pos:Pos) (qual:Str) (b:Bool)
abbrev af:=List Cell
abbrev bQ:=List (Option D)
mutual
def Rep(α:List (Option Addr))(H:Hp):D->V->Prop
 | .aB,v=>v= .aB
 | .bl b,v=>v= .bl b
 | .int i,v=>v= .int i
 | .str x,v=>v= .str x
 | .ty n,v=>v= .ty n
 | .ref n,v=>α[n]?=some none\/∃a,α[n]?=some (some a)/\v= .ref a
 | .lst xs,v=>∃a vs,v= .ref a/\some a∉α/\Rd H a (.lst vs)/\aL α H xs vs
 | .tup xs,v=>∃a vs,v= .ref a/\some a∉α/\H a=some (.tup vs)/\aL α H xs vs
def aL(α:List (Option Addr))(H:Hp):List D->List V->Prop
 | [],vs=>vs=[]
 |d::ds,vs=>∃v r,vs=v::r/\Rep α H d v/\aL α H ds r
end
def aT{α:List (Option Addr)}{H:Hp}:∀ {ds:List D} {vs:List V},aL α H ds vs↔Paired (Rep α H) ds vs
 | [],vs=>by
   unfold aL;constructor
   . rintro rfl;exact .nil
   . intro h;cases h;rfl
 |d::ds,vs=>by
  unfold aL;constructor
  . rintro⟨v,r,rfl,h1,h2⟩;exact .cons h1 (aT.mp h2)
  . intro h;cases h with|cons h1 h2=>exact⟨_,_,rfl,h1,aT.mpr h2⟩
section
variable {α:List (Option Addr)}{H:Hp}
def aL.length{ds:List D}{vs:List V}(h:aL α H ds vs):ds.length=vs.length:=Paired.length (aT.mp h)
def xa{A B:Type}{F:A->B->Prop}:∀ {xs:List A} {ys:List B} {i:Nat} {x:A},Paired F xs ys->xs[i]?=some x->∃y,ys[i]?=some y/\F x y
 |_,_,_,_,.nil,e=>by simp at e
 |_,_,0,_,.cons r _,e=>by simp at e;subst e;exact⟨_,rfl,r⟩
 |_,_,i+1,x,.cons _ t,e=>by
  obtain⟨u,h1,h2⟩:=xa (i:=i) (x:=x) t (by simpa using e);exact⟨u,by simpa using h1,h2⟩
def fZ{A B:Type}{F:A->B->Prop}:∀ {xs xs':List A} {ys ys':List B},Paired F xs ys->Paired F xs' ys'->Paired F (xs++xs') (ys++ys')
 |_,_,_,_,.nil,s=>s
 |_,_,_,_,.cons r t,s=> .cons r (fZ t s)
def vp{A B:Type}{F:A->B->Prop}:∀ {xs:List A} {ys:List B} (n:Nat),Paired F xs ys->Paired F (xs.take n) (ys.take n)
 |_,_,0,_=> .nil
 |_,_,_+1,.nil=> .nil
 |_,_,n+1,.cons r t=> .cons r (vp n t)
def vd{A B:Type}{F:A->B->Prop}:∀ {xs:List A} {ys:List B} (n:Nat),Paired F xs ys->Paired F (xs.drop n) (ys.drop n)
 |_,_,0,r=>r
 |_,_,_+1,.nil=> .nil
 |_,_,n+1,.cons _ t=>vd n t
def rV{A B:Type}{F:A->B->Prop}{x:A}{y:B}(r:F x y):∀ {xs:List A} {ys:List B} (i:Nat),Paired F xs ys->Paired F (xs.set i x) (ys.set i y)
 |_,_,_,.nil=> .nil
 |_,_,0,.cons _ t=> .cons r t
 |_,_,i+1,.cons q t=> .cons q (rV r i t)
def nv{A B:Type}{F:A->B->Prop}{xs:List A}{ys:List B}(h:Paired F xs ys):∀k:Nat,Paired F (List.replicate k xs).flatten (List.replicate k ys).flatten
 |0=> .nil
 |k+1=>by
  rw[SY,SY,T3,T3];exact fZ h (nv h k)
def aL.get{ds:List D}{vs:List V}{i:Nat}{d:D}(h:aL α H ds vs)(e:ds[i]?=some d):∃v,vs[i]?=some v/\Rep α H d v:=xa (aT.mp h) e
end
structure Step(α:List (Option Addr))(H:Hp)(α':List (Option Addr))(H':Hp):Prop where
 ext:∀b o,some b∉α->H b=some o->H' b=some o
 pre:∀(n:Nat) (x:Option Addr),α[n]?=some x->α'[n]?=some x\/α'[n]?=some none
 new:∀b,some b∈α'->some b∉α->H b=none
def Step.refl{α:List (Option Addr)}{H:Hp}:Step α H α H:=⟨λ _ _ _ h=>h,λ _ _ h=> .inl h,λ _ h n=>absurd h n⟩
def Step.trans{α α1 α2:List (Option Addr)}{H H1 H2:Hp}(a:Step α H α1 H1)(b:Step α1 H1 α2 H2):Step α H α2 H2 where
 ext:=λ c o hc e=>b.ext c o (λ z=>by rw[a.new c z hc]at e;cases e) (a.ext c o hc e)
 pre:=λ n x e=>by
  rcases a.pre n x e with h|h
  . exact b.pre n x h
  . rcases b.pre n none h with h'|h'
    . exact .inr h'
    . exact .inr h'
 new:=λ c hc n=>by
  by_cases h1:some c∈α1
  . exact a.new c h1 n
  . have:=b.new c hc h1;cases q:H c with
    |none=>rfl
    |some o=>rw[a.ext c o n q]at this;cases this
def Step.laid{α:List (Option Addr)}{H:Hp}{p:Addr}{o:HO}(h:H p=none):Step α H α (upd H p o):=
 ⟨λ b u _ e=>by rw[ay (dP e h)];exact e,λ _ _ h=> .inl h,λ _ h n=>absurd h n⟩
def Step.cell{α:List (Option Addr)}{H:Hp}{p:Addr}{o:HO}(h:H p=none):Step α H (α++[some p]) (upd H p o):=
 ⟨λ b u _ e=>by rw[ay (dP e h)];exact e,λ n x e=> .inl (by rw[RG (RB.mp e).1];exact e),λ b hb n=>by
  rcases SH.mp hb with z|z
  . exact absurd z n
  . have:b=p:=by simpa using z
    subst this;exact h⟩
def Step.write{α:List (Option Addr)}{H:Hp}{p:Addr}{o:HO}(h:some p∈α):Step α H α (upd H p o):=
 ⟨λ b u n e=>by rw[ay (λ z=>by subst z;exact n h)];exact e,λ _ _ h=> .inl h,λ _ h n=>absurd h n⟩
mutual
def Rep.step{α α':List (Option Addr)}{H H':Hp}(s:Step α H α' H'):∀ {d:D} {v:V},Rep α H d v->Rep α' H' d v
 | .aB,_,h=>by unfold Rep at h⊢;exact h
 | .bl _,_,h=>by unfold Rep at h⊢;exact h
 | .int _,_,h=>by unfold Rep at h⊢;exact h
 | .str _,_,h=>by unfold Rep at h⊢;exact h
 | .ty _,_,h=>by unfold Rep at h⊢;exact h
 | .ref n,_,h=>by
   unfold Rep at h⊢;rcases h with h|⟨a,e,r⟩
   . rcases s.pre _ _ h with z|z<;>exact .inl z
   . rcases s.pre _ _ e with z|z
     . exact .inr ⟨a,z,r⟩
     . exact .inl z
 | .lst xs,_,h=>by
   unfold Rep at h⊢;obtain⟨a,vs,e,n,r,q⟩:=h;refine⟨a,vs,e,λ z=>?_,?_,aL.step s q⟩
   . have:=s.new a z n;rcases r with r|⟨o,r⟩<;>(rw[this]at r;cases r)
   . rcases r with r|⟨o,r⟩
     . exact .inl (s.ext _ _ n r)
     . exact .inr ⟨o,s.ext _ _ n r⟩
 | .tup xs,_,h=>by
   unfold Rep at h⊢;obtain⟨a,vs,e,n,r,q⟩:=h;exact⟨a,vs,e,(λ z=>by rw[s.new a z n]at r;exact nomatch r),s.ext _ _ n r,aL.step s q⟩
def aL.step{α α':List (Option Addr)}{H H':Hp}(s:Step α H α' H'):∀ {ds:List D} {vs:List V},aL α H ds vs->aL α' H' ds vs
 | [],_,h=>by unfold aL at h⊢;exact h
 |d::ds,_,h=>by
  unfold aL at h⊢;obtain⟨v,r,e,h1,h2⟩:=h;exact⟨v,r,e,Rep.step s h1,aL.step s h2⟩
end
structure cn(G F H:Hp):Prop where
 eq:∀b,H b=(G b).or (F b)
 Ag:∀b o,G b=some o->F b=none
section
variable {G F H:Hp}
def cn.get(P:cn G F H){b:Addr}{o:HO}(h:G b=some o):H b=some o:=by rw[P.eq b,h];rfl
def cn.same(P:cn G F H):HQ G H:=λ _ _ h=>P.get h
def cn.none(P:cn G F H){b:Addr}(h:H b=none):G b=none/\F b=none:=by
 have e:=P.eq b;rw[h]at e;cases q:G b with
 |none=>rw[q]at e;exact⟨rfl,e.symm⟩
 |some o=>rw[q]at e;cases e
def cn.frame(P:cn G F H){b:Addr}{o:HO}(h:F b=some o):H b=some o/\G b=Option.none:=by
 have hn:G b=Option.none:=by
  cases q:G b with
  |none=>rfl
  |some u=>rw[P.Ag b u q]at h;cases h
 exact⟨by rw[P.eq b,hn,h];rfl,hn⟩
def cn.laid(P:cn G F H){p:Addr}{o:HO}(h:H p=Option.none):cn (upd G p o) F (upd H p o):=by
 obtain⟨h1,h2⟩:=P.none h;refine⟨λ b=>?_,λ b u e=>?_⟩
 . by_cases hb:b=p
   . subst hb;rw[a6,a6];rfl
   . rw[ay hb,ay hb];exact P.eq b
 . by_cases hb:b=p
   . subst hb;exact h2
   . rw[ay hb]at e;exact P.Ag b u e
def cn.write(P:cn G F H){p:Addr}{o o':HO}(h:G p=some o):cn (upd G p o') F (upd H p o'):=by
 refine⟨λ b=>?_,λ b u e=>?_⟩
 . by_cases hb:b=p
   . subst hb;rw[a6,a6];rfl
   . rw[ay hb,ay hb];exact P.eq b
 . by_cases hb:b=p
   . subst hb;exact P.Ag b o h
   . rw[ay hb]at e;exact P.Ag b u e
def cn.hide(P:cn G F H){p:Addr}{o:HO}(h:H p=Option.none):cn G (upd F p o) (upd H p o):=by
 obtain⟨h1,h2⟩:=P.none h;refine⟨λ b=>?_,λ b u e=>?_⟩
 . by_cases hb:b=p
   . subst hb;rw[a6,a6,h1];rfl
   . rw[ay hb,ay hb];exact P.eq b
 . by_cases hb:b=p
   . subst hb;rw[h1]at e;cases e
   . rw[ay hb];exact P.Ag b u e
def cn.Q_(P:cn G F H){p:Addr}{o o':HO}(h:F p=some o):cn G (upd F p o') (upd H p o'):=by
 have h1:=(P.frame h).2;refine⟨λ b=>?_,λ b u e=>?_⟩
 . by_cases hb:b=p
   . subst hb;rw[a6,a6,h1];rfl
   . rw[ay hb,ay hb];exact P.eq b
 . by_cases hb:b=p
   . subst hb;rw[h1]at e;cases e
   . rw[ay hb];exact P.Ag b u e
def cn.show{p:Addr}{o:HO}(P:cn G (upd F p o) H)(h:F p=Option.none):cn (upd G p o) F H:=by
 have h1:=(P.frame (b:=p) a6)
 refine⟨λ b=>?_,λ b u e=>?_⟩
 . by_cases hb:b=p
   . subst hb;rw[a6,h1.1];rfl
   . rw[ay hb,P.eq b,ay hb]
 . by_cases hb:b=p
   . subst hb;exact h
   . rw[ay hb]at e;have:=P.Ag b u e;rw[ay hb]at this;exact this
end
mutual
def Rep.mono{α:List (Option Addr)}{G H:Hp}(s:HQ G H):∀ {d:D} {v:V},Rep α G d v->Rep α H d v
 | .aB,_,h=>by unfold Rep at h⊢;exact h
 | .bl _,_,h=>by unfold Rep at h⊢;exact h
 | .int _,_,h=>by unfold Rep at h⊢;exact h
 | .str _,_,h=>by unfold Rep at h⊢;exact h
 | .ty _,_,h=>by unfold Rep at h⊢;exact h
 | .ref n,_,h=>by unfold Rep at h⊢;exact h
 | .lst xs,_,h=>by
   unfold Rep at h⊢;obtain⟨a,vs,e,n,r,q⟩:=h;refine⟨a,vs,e,n,?_,aL.mono s q⟩;rcases r with r|⟨o,r⟩
   . exact .inl (s _ _ r)
   . exact .inr ⟨o,s _ _ r⟩
 | .tup xs,_,h=>by
   unfold Rep at h⊢;obtain⟨a,vs,e,n,r,q⟩:=h;exact⟨a,vs,e,n,s _ _ r,aL.mono s q⟩
def aL.mono{α:List (Option Addr)}{G H:Hp}(s:HQ G H):∀ {ds:List D} {vs:List V},aL α G ds vs->aL α H ds vs
 | [],_,h=>by unfold aL at h⊢;exact h
 |d::ds,_,h=>by
  unfold aL at h⊢;obtain⟨v,r,e,h1,h2⟩:=h;exact⟨v,r,e,Rep.mono s h1,aL.mono s h2⟩
end
def kZ(α:List (Option Addr))(H:Hp):List (Str×D)->List (Str×V)->Prop:=Paired λ p q=>p.1=q.1/\Rep α H p.2 q.2
def lT(α:List (Option Addr))(H:Hp)(a:Addr):Cell->Prop
 | .lst xs=>∃vs,H a=some (.lst vs)/\aL α H xs vs
 | .ins C fs=>∃dx vs,H a=some (.ins C dx vs)/\kZ α H fs vs
 | .dead=>False
 | .tab P pos qual b=>a=P/\∃ps:Array Value,H a=some (.ll ps)/\TriplesOk ps.toList/\
    ((b=false/\codeAmong pos ps.toList=none)\/(b=true/\∃c o vs t,codeAmong pos ps.toList=some (.ref c)/\some c∉α/\H c=some (.mz o (.own c))/\o.data= .fields vs/\vs[1]?=some (.str qual t)))
structure aZ(α:List (Option Addr))(st:af)(H:Hp):Prop where
 len:α.length=st.length
 nd:∀(i j:Nat) (a:Addr),α[i]?=some (some a)->α[j]?=some (some a)->i=j
 at':∀(n:Nat) (c:Cell),st[n]?=some c->(c= .dead/\α[n]?=some none)\/∃a,α[n]?=some (some a)/\lT α H a c
def kZ.step{α α':List (Option Addr)}{H H':Hp}(s:Step α H α' H'){ds:List (Str×D)}{vs:List (Str×V)}(h:kZ α H ds vs):kZ α' H' ds vs:=Paired.G_ h λ _ _ z=>⟨z.1,z.2.step s⟩
def lT.same{α α':List (Option Addr)}{H H':Hp}{a:Addr}{c:Cell}(s:Step α H α' H')(e:H' a=H a)(h:lT α H a c):lT α' H' a c:=by
 cases c with
 |lst xs=>obtain⟨vs,h1,h2⟩:=h;exact⟨vs,e.trans h1,h2.step s⟩
 |ins C fs=>obtain⟨dx,vs,h1,h2⟩:=h;exact⟨dx,vs,e.trans h1,h2.step s⟩
 |dead=>exact h.elim
 |tab P pos qual b=>
  obtain⟨z,ps,h1,h2,h3⟩:=h;refine⟨z,ps,e.trans h1,h2,?_⟩;rcases h3 with h3|⟨hb,c,o,vs,t,q1,q2,q3,q4⟩
  . exact .inl h3
  . exact .inr ⟨hb,c,o,vs,t,q1,(λ y=>by rw[s.new c y q2]at q3;cases q3),s.ext c _ q2 q3,q4⟩
def lT.some{α:List (Option Addr)}{H:Hp}{a:Addr}{c:Cell}(h:lT α H a c):∃o,H a=some o:=by
 cases c with
 |lst xs=>obtain⟨vs,h1,h2⟩:=h;exact⟨_,h1⟩
 |ins C fs=>obtain⟨dx,vs,h1,h2⟩:=h;exact⟨_,h1⟩
 |dead=>exact h.elim
 |tab P pos qual b=>obtain⟨_,ps,h1,_⟩:=h;exact⟨_,h1⟩
def fb{α:List (Option Addr)}{H:Hp}{n:Nat}{v:V}{a:Addr}(e:α[n]?=Option.some (Option.some a))(r:Rep α H (.ref n) v):v= .ref a:=by
 unfold Rep at r;rcases r with r|⟨b,eb,rfl⟩
 . rw[e]at r;cases r
 . rw[e]at eb;cases eb;rfl
section
variable {α:List (Option Addr)}{st:af}{H:Hp}
def aZ.i8(S:aZ α st H){n:Nat}{xs:List D}(e:st[n]?=Option.some (.lst xs)):∃a,α[n]?=Option.some (Option.some a)/\∃vs,H a=Option.some (.lst vs)/\aL α H xs vs:=by
 rcases S.at' n _ e with⟨z,_⟩|z
 . cases z
 . exact z
def aZ.wX(S:aZ α st H){n:Nat}{C:Addr}{fs:List (Str×D)}(e:st[n]?=Option.some (.ins C fs)):∃a,α[n]?=Option.some (Option.some a)/\∃dx vs,H a=Option.some (.ins C dx vs)/\kZ α H fs vs:=by
 rcases S.at' n _ e with⟨z,_⟩|z
 . cases z
 . exact z
def aZ.mem(S:aZ α st H){a:Addr}(h:Option.some a∈α):∃(n:Nat) (c:Cell),α[n]?=Option.some (Option.some a)/\st[n]?=Option.some c/\lT α H a c:=by
 obtain⟨n,hn,e⟩:=SJ.mp h;have hl:n<st.length:=by rw[<-S.len];exact hn
 have e':α[n]?=Option.some (Option.some a):=by rw[RJ hn,e]
 rcases S.at' n st[n] (by simp[hl])with⟨_,q⟩|⟨a',q,ca⟩
 . rw[e']at q;cases q
 . rw[e']at q;cases q;exact⟨n,_,e',by simp[hl],ca⟩
def aZ.lZ(S:aZ α st H){p:Addr}(h:H p=none):Option.some p∉α:=λ z=>by
 obtain⟨n,c,_,_,ca⟩:=S.mem z;obtain⟨o,e⟩:=ca.some;rw[h]at e;cases e
def aZ.laid(S:aZ α st H){p:Addr}{o:HO}(h:H p=none):aZ α st (upd H p o):=
 ⟨S.len,S.nd,λ n c e=>by
  rcases S.at' n c e with z|⟨a,q,ca⟩
  . exact .inl z
  . exact .inr ⟨a,q,ca.same (Step.laid h) (ay (by obtain⟨u,z⟩:=ca.some;exact dP z h))⟩⟩
def aZ.cell(S:aZ α st H){p:Addr}{o:HO}{c:Cell}(h:H p=none)(hc:lT (α++[Option.some p]) (upd H p o) p c):aZ (α++[Option.some p]) (st++[c]) (upd H p o) where
 len:=by rw[Sy,Sy,S.len];rfl
 nd:=λ i j a ei ej=>by
  have key:∀(i:Nat) (a:Addr),(α++[Option.some p])[i]?=Option.some (Option.some a)->(i<α.length/\α[i]?=Option.some (Option.some a))\/(i=α.length/\a=p):=by
   intro i a e;by_cases hi:i<α.length
   . rw[RG hi]at e;exact .inl ⟨hi,e⟩
   . rw[RY (SI hi)]at e
     have h0:i-α.length=0:=by
      cases q:i-α.length with
      |zero=>rfl
      |succ k=>rw[q]at e;simp at e
     rw[h0]at e;have:p=a:=by simpa using e
     exact .inr ⟨by omega,this.symm⟩
  rcases key i a ei with⟨h1,e1⟩|⟨h1,e1⟩<;>rcases key j a ej with⟨h2,e2⟩|⟨h2,e2⟩
  . exact S.nd i j a e1 e2
  . subst e2;exact absurd (Sg e1) (S.lZ h)
  . subst e1;exact absurd (Sg e2) (S.lZ h)
  . omega
 at':=λ n d e=>by
  by_cases hn:n<st.length
  . rw[RG hn]at e;have hl:n<α.length:=by rw[S.len];exact hn
    rcases S.at' n d e with⟨z,q⟩|⟨a,q,ca⟩
    . exact .inl ⟨z,by rw[RG hl];exact q⟩
    . exact .inr ⟨a,by rw[RG hl];exact q,ca.same (Step.cell h) (ay (by obtain⟨u,z⟩:=ca.some;exact dP z h))⟩
  . rw[RY (SI hn)]at e
    have h0:n-st.length=0:=by
     cases q:n-st.length with
     |zero=>rfl
     |succ k=>rw[q]at e;simp at e
    rw[h0]at e;have hd:c=d:=by simpa using e
    subst hd;refine .inr ⟨p,?_,hc⟩;rw[RY (by rw[S.len];exact SI hn),S.len,h0];rfl
def aZ.write(S:aZ α st H){p:Addr}{o:HO}{c:Cell}{n:Nat}(e:α[n]?=Option.some (Option.some p))(hc:lT α (upd H p o) p c):aZ α (st.set n c) (upd H p o) where
 len:=by rw[RV];exact S.len
 nd:=S.nd
 at':=λ m d q=>by
  have hp:Option.some p∈α:=Sg e;by_cases hm:m=n
  . subst hm
    have hl:m<st.length:=by
     have:=(RB.mp q).1;rw[RV]at this;exact this
    rw[RL hl]at q;cases q;exact .inr ⟨p,e,hc⟩
  . rw[RD (RK hm)]at q;rcases S.at' m d q with z|⟨a,r,ca⟩
    . exact .inl z
    . refine .inr ⟨a,r,ca.same (Step.write hp) (ay λ z=>?_)⟩;subst z;exact hm (S.nd m n _ r e)
end
abbrev DK:=D->af->Prop
abbrev DE:=bQ->af->DK->Prop
abbrev DT:=bQ->af->(Bool->af->Prop)->Prop
abbrev DA:=bQ->af->(List D->af->Prop)->Prop
structure nr where
 nx:bQ->af->Prop
 rt:DK
 bk:bQ->af->Prop:=λ _ _=>False
 ct:bQ->af->Prop:=λ _ _=>False
abbrev DS:=nr->bQ->af->Prop
structure eH(α:List (Option Addr))(H:Hp)(σd:bQ)(σ:L2.St):Prop where
 len:σd.length=σ.length
 at':∀(i:Nat) (d:D),σd[i]?=some (some d)->∃v,σ[i]?=some (some v)/\Rep α H d v
def eH.step{α α':List (Option Addr)}{H H':Hp}{σd:bQ}{σ:L2.St}(s:Step α H α' H')(h:eH α H σd σ):eH α' H' σd σ:=
 ⟨h.len,λ i d e=>let⟨v,q,r⟩:=h.at' i d e;⟨v,q,r.step s⟩⟩
def eH.set{α:List (Option Addr)}{H:Hp}{σd:bQ}{σ:L2.St}(h:eH α H σd σ)(i:Nat){d:D}{v:V}(r:Rep α H d v):eH α H (σd.set i (some d)) (σ.set i (some v)):=by
 refine⟨by rw[RV,RV,h.len],λ j e q=>?_⟩;have hl:=h.len;by_cases hj:j=i
 . subst hj
   have hlt:j<σd.length:=by
    have:=(RB.mp q).1;rw[RV]at this;exact this
   rw[RL hlt]at q;cases q;exact⟨v,RL (by omega),r⟩
 . rw[RD (RK hj)]at q;rw[RD (RK hj)];exact h.at' j e q
def LK(α:List (Option Addr))(G F:Hp)(K:DK)(Q:VK):Prop:=∀d st',K d st'->∀α' G' H' v,Step α G α' G'->cn G' F H'->aZ α' st' G'->Rep α' G' d v->Q v H'
def Jc(α:List (Option Addr))(G F:Hp)(K:Bool->af->Prop)(Q:Bool->Hp->Prop):Prop:=∀b st',K b st'->∀α' G' H',Step α G α' G'->cn G' F H'->aZ α' st' G'->Q b H'
def Rn(α:List (Option Addr))(G F:Hp)(K:List D->af->Prop)(Q:List V->Hp->Prop):Prop:=∀ds st',K ds st'->∀α' G' H' vs,Step α G α' G'->cn G' F H'->aZ α' st' G'->aL α' G' ds vs->Q vs H'
inductive Py(t:DE)(σ:L2.St)(H:Hp)(Q:VK):Prop
 |mk (α:List (Option Addr)) (σd:bQ) (st:af) (K:DK) (G F:Hp) (P:cn G F H) (R:eH α G σd σ) (S:aZ α st G) (h:t σd st K) (k:LK α G F K Q):Py t σ H Q
def LE(t:DE):TE:=Py t
inductive PF(t:DT)(σ:L2.St)(H:Hp)(Q:Bool->Hp->Prop):Prop
 |mk (α:List (Option Addr)) (σd:bQ) (st:af) (K:Bool->af->Prop) (G F:Hp) (P:cn G F H) (R:eH α G σd σ) (S:aZ α st G) (h:t σd st K) (k:Jc α G F K Q):PF t σ H Q
def LT(t:DT):TT:=PF t
inductive PK(t:DA)(σ:L2.St)(H:Hp)(Q:List V->Hp->Prop):Prop
 |mk (α:List (Option Addr)) (σd:bQ) (st:af) (K:List D->af->Prop) (G F:Hp) (P:cn G F H) (R:eH α G σd σ) (S:aZ α st G) (h:t σd st K) (k:Rn α G F K Q):PK t σ H Q
def LA(t:DA):TA:=PK t
def LK.here{α:List (Option Addr)}{G F H:Hp}{K:DK}{Q:VK}(h:LK α G F K Q)(P:cn G F H){d:D}{st:af}{v:V}(k:K d st)(S:aZ α st G)(r:Rep α G d v):Q v H:=h d st k α G H v Step.refl P S r
def LK.at{α α1:List (Option Addr)}{G F G1:Hp}{K:DK}{Q:VK}(h:LK α G F K Q)(s:Step α G α1 G1):LK α1 G1 F K Q:=λ d st' k α' G' H' v s' P S r=>h d st' k α' G' H' v (s.trans s') P S r
def Jc.at{α α1:List (Option Addr)}{G F G1:Hp}{K:Bool->af->Prop}{Q:Bool->Hp->Prop}(h:Jc α G F K Q)(s:Step α G α1 G1):Jc α1 G1 F K Q:=λ d st' k α' G' H' s' P S=>h d st' k α' G' H' (s.trans s') P S
section
variable {X:Cx}{a b c e:Expr}{es:List Expr}{ta tb tc te:DE}{pos:Pos}
def PE.imp{t t':TE}(h:PE X e t)(f:∀σ H Q,t' σ H Q->t σ H Q):PE X e t':=λ pins s σ H Q I q=>h pins s σ H Q I (f σ H Q q)
def PT.imp{t t':TT}(h:PT X e t)(f:∀σ H Q,t' σ H Q->t σ H Q):PT X e t':=λ pins s σ H Q I q=>h pins s σ H Q I (f σ H Q q)
def PW.imp{t t':TT}(h:PW X e t)(f:∀σ H Q,t' σ H Q->t σ H Q):PW X e t':=λ w pins s σ H Q I q=>h w pins s σ H Q I (f σ H Q q)
def PA.imp{t t':TA}(h:PA X es t)(f:∀σ H Q,t' σ H Q->t σ H Q):PA X es t':=λ p pins s σ H Q I q=>h p pins s σ H Q I (f σ H Q q)
def aa(i:Nat):DE:=λ σ st K=>match σ[i]? with|some (some d)=>K d st|_=>False
def dC(d:D):DE:=λ _ st K=>K d st
def N0{i:Nat}{x:Str}(h:PE X (.Name x pos) (Lx i)):PE X (.Name x pos) (LE (aa i)):=PE.imp h λ σ H Q ⟨α,σd,st,K,G,F,P,R,S,t,k⟩=>by
 unfold aa at t;split at t
 . rename_i d q;obtain⟨v,e,r⟩:=R.at' i d q;exact⟨v,e,k.here P t S r⟩
 . exact t.elim
def xJ{v:V}{d:D}(h:PE X e (tC v))(r:∀α H,Rep α H d v):PE X e (LE (dC d)):=PE.imp h λ σ H Q ⟨α,σd,st,K,G,F,P,R,S,t,k⟩=>k.here P t S (r α G)
def Pj{i:Int}{j:Nat}:PE X (.Constant (.int i) j pos) (LE (dC (.int i))):=xJ LN λ _ _=>by unfold Rep;rfl
def QG{i:Bool}{j:Nat}:PE X (.Constant (.bool i) j pos) (LE (dC (.bl i))):=xJ OL λ _ _=>by unfold Rep;rfl
def N5{j:Nat}:PE X (.Constant .none j pos) (LE (dC .aB)):=xJ Ls λ _ _=>by unfold Rep;rfl
abbrev dy:=D->D->af->DK->Prop
abbrev zZ:=D->af->DK->Prop
abbrev gw:=List D->af->DK->Prop
inductive PJ(r:dy)(x y:V)(H:Hp)(Q:VK):Prop
 |mk (α:List (Option Addr)) (d e:D) (st:af) (K:DK) (G F:Hp) (P:cn G F H) (rx:Rep α G d x) (ry:Rep α G e y) (S:aZ α st G) (h:r d e st K) (k:LK α G F K Q):PJ r x y H Q
def LR(r:dy):R2:=PJ r
inductive Np(r:zZ)(x:V)(H:Hp)(Q:VK):Prop
 |mk (α:List (Option Addr)) (d:D) (st:af) (K:DK) (G F:Hp) (P:cn G F H) (rx:Rep α G d x) (S:aZ α st G) (h:r d st K) (k:LK α G F K Q):Np r x H Q
def Jf(r:zZ):V->Hp->VK->Prop:=Np r
inductive Lm(r:gw)(xs:List V)(H:Hp)(Q:VK):Prop
 |mk (α:List (Option Addr)) (ds:List D) (st:af) (K:DK) (G F:Hp) (P:cn G F H) (rx:aL α G ds xs) (S:aZ α st G) (h:r ds st K) (k:LK α G F K Q):Lm r xs H Q
def iE(r:gw):List V->Hp->VK->Prop:=Lm r
def av(r:dy)(ta tb:DE):DE:=λ σ st K=>ta σ st λ x st1=>tb σ st1 λ y st2=>r x y st2 K
def pY(r:zZ)(ta:DE):DE:=λ σ st K=>ta σ st λ x st1=>r x st1 K
def LE.op{r:dy}{σ:L2.St}{H:Hp}{Q:VK}(h:LE (av r ta tb) σ H Q):En (LR r) (LE ta) (LE tb) σ H Q:=by
 obtain⟨α,σd,st,K,G,F,P,R,S,t,k⟩:=h;refine⟨α,σd,st,_,G,F,P,R,S,t,λ d st1 q α1 G1 H1 v s1 P1 S1 r1=>?_⟩;refine⟨α1,σd,st1,_,G1,F,P1,R.step s1,S1,q,λ d2 st2 q2 α2 G2 H2 v2 s2 P2 S2 r2=>?_⟩;exact⟨α2,d,d2,st2,K,G2,F,P2,r1.step s2,r2,S2,q2,(k.at s1).at s2⟩
def LE.un{r:zZ}{σ:L2.St}{H:Hp}{Q:VK}(h:LE (pY r ta) σ H Q):PD (Jf r) (LE ta) σ H Q:=by
 obtain⟨α,σd,st,K,G,F,P,R,S,t,k⟩:=h;refine⟨α,σd,st,_,G,F,P,R,S,t,λ d st1 q α1 G1 H1 v s1 P1 S1 r1=>?_⟩;exact⟨α1,d,st1,K,G1,F,P1,r1,S1,q,k.at s1⟩
def Qq{op:Operator}{r:dy}(ho:cf X (binaryOp op) (LR r))(ha:PE X a (LE ta))(hb:PE X b (LE tb)):PE X (.BinOp a op b pos) (LE (av r ta tb)):=PE.imp (OW ho ha hb) λ _ _ _ h=>LE.op h
def Qm{op:UnaryOp}{r:zZ}(ho:Cu X (unaryOp op) (Jf r))(ha:PE X a (LE ta)):PE X (.UnaryOp op a pos) (LE (pY r ta)):=PE.imp (OV ho ha) λ _ _ _ h=>LE.un h
def OG{op:CmpOp}{r:dy}(ho:cf X (compareOp op) (LR r))(ha:PE X a (LE ta))(hb:PE X b (LE tb))(hm:behindInMarks op b=false:=by first|exact cH _|rfl):PE X (.Compare a [op] [b] pos) (LE (av r ta tb)):=PE.imp (La ho ha hb hm) λ _ _ _ h=>LE.op h
def cA(t:DE):DT:=λ σ st K=>t σ st λ d st1=>match d with| .bl b=>K b st1|_=>False
def LT.test{σ:L2.St}{H:Hp}{Q:Bool->Hp->Prop}(h:LT (cA te) σ H Q):LE te σ H λ x H'=>∃k,x= .bl k/\Q k H':=by
 obtain⟨α,σd,st,K,G,F,P,R,S,t,k⟩:=h;refine⟨α,σd,st,_,G,F,P,R,S,t,λ d st1 q α1 G1 H1 v s1 P1 S1 r1=>?_⟩;cases d with
 |bl b=>
  unfold Rep at r1;exact⟨b,r1,k b st1 q α1 G1 H1 s1 P1 S1⟩
 |_=>exact q.elim
def ND{op:CmpOp}{r:dy}(ho:cf X (compareOp op) (LR r))(ha:PE X a (LE ta))(hb:PE X b (LE tb))(hm:behindInMarks op b=false:=by first|exact cH _|rfl):PT X (.Compare a [op] [b] pos) (LT (cA (av r ta tb))):=PT.imp (Kv ho ha hb hm) λ σ H Q h=>by
 have q:=LT.test h;exact LE.op (Q:=λ x H'=>∃k,x= .bl k/\Q k H') q
def LU(he:PE X e (LE te))(hv:∀whole,isTrue e X.env whole=(do let v <-whole;standAt e.pos;holding [v] (truthy v)):=by intro _;rfl):PT X e (LT (cA te)):=PT.imp (NF he hv) λ σ H Q h=>LT.test h
def zA(t:DT):DT:=λ σ st K=>t σ st λ b st1=>K (!b) st1
def yf(t u:DT):DT:=λ σ st K=>t σ st λ b st1=>if b=true then K true st1 else u σ st1 K
def Mt{t:DT}(ha:PT X a (LT t)):PT X (.UnaryOp .Not a pos) (LT (zA t)):=PT.imp (LF ha) λ σ H Q ⟨α,σd,st,K,G,F,P,R,S,t,k⟩=>
 ⟨α,σd,st,_,G,F,P,R,S,t,λ b st1 q α1 G1 H1 s1 P1 S1=>k _ st1 q α1 G1 H1 s1 P1 S1⟩
def LT.or{t u:DT}{σ:L2.St}{H:Hp}{Q:Bool->Hp->Prop}(h:LT (yf t u) σ H Q):PM (LT t) (LT u) σ H Q:=by
 obtain⟨α,σd,st,K,G,F,P,R,S,t,k⟩:=h;refine⟨α,σd,st,_,G,F,P,R,S,t,λ b st1 q α1 G1 H1 s1 P1 S1=>?_⟩;cases b with
 |false=>exact⟨α1,σd,st1,K,G1,F,P1,R.step s1,S1,q,k.at s1⟩
 |true=>exact k _ st1 q α1 G1 H1 s1 P1 S1
def Ni{t:DT}(ha:PT X a (LT t)):PW X (.BoolOp .Or [a] pos) (LT t):=pw_or1 ha
def Pu{t u:DT}(ha:PT X a (LT t))(hb:PW X (.BoolOp .Or (b::es) pos) (LT u)):PW X (.BoolOp .Or (a::b::es) pos) (LT (yf t u)):=PW.imp (pw_or ha hb) λ _ _ _ h=>LT.or h
def Hj(ta tb:DE):DE:=λ σ st K=>ta σ st λ d st1=>match d with| .bl b=>if b=true then K (.bl true) st1 else tb σ st1 K|_=>False
def NZ{op:BoolOp}(ha:PE X a (LE ta)):PE X (.BoolOp op [a] pos) (LE ta):=Nv ha
def Qh(ha:PE X a (LE ta))(hb:PE X (.BoolOp .Or (b::es) pos) (LE tb)):PE X (.BoolOp .Or (a::b::es) pos) (LE (Hj ta tb)):=PE.imp (O6 ha hb) λ σ H Q ⟨α,σd,st,K,G,F,P,R,S,t,k⟩=>by
 refine⟨α,σd,st,_,G,F,P,R,S,t,λ d st1 q α1 G1 H1 v s1 P1 S1 r1=>?_⟩;cases d with
 |bl b=>
  unfold Rep at r1;refine⟨b,r1,?_⟩;cases b with
  |false=>exact⟨α1,σd,st1,K,G1,F,P1,R.step s1,S1,q,k.at s1⟩
  |true=>exact k _ st1 q α1 G1 H1 _ s1 P1 S1 (by unfold Rep;rfl)
 |_=>exact q.elim
def Fy(t:DT)(ta tb:DE):DE:=λ σ st K=>t σ st λ b st1=>if b=true then ta σ st1 K else tb σ st1 K
def O3{t:DT}(hc:PT X c (LT t))(ha:PE X a (LE ta))(hb:PE X b (LE tb)):PE X (.IfExp c a b pos) (LE (Fy t ta tb)):=PE.imp (Hh hc ha hb) λ σ H Q ⟨α,σd,st,K,G,F,P,R,S,t,k⟩=>by
 refine⟨α,σd,st,_,G,F,P,R,S,t,λ b st1 q α1 G1 H1 s1 P1 S1=>?_⟩;cases b with
 |true=>exact⟨α1,σd,st1,K,G1,F,P1,R.step s1,S1,q,k.at s1⟩
 |false=>exact⟨α1,σd,st1,K,G1,F,P1,R.step s1,S1,q,k.at s1⟩
def ao:DA:=λ _ st K=>K [] st
def ae(ta:DE)(tr:DA):DA:=λ σ st K=>ta σ st λ x st1=>tr σ st1 λ xs st2=>K (x::xs) st2
def xo:PA X [] (LA ao):=PA.imp LY λ σ H Q ⟨α,σd,st,K,G,F,P,R,S,t,k⟩=>k [] st t α G H [] Step.refl P S (by unfold aL;rfl)
def uF{tr:DA}(ha:PE X e (LE te))(hr:PA X es (LA tr))(hs:starEach (e::es) X.env=(false,eval e X.env)::starEach es X.env:=by rfl):PA X (e::es) (LA (ae te tr)):=PA.imp (Kb ha hr hs) λ σ H Q ⟨α,σd,st,K,G,F,P,R,S,t,k⟩=>by
 refine⟨α,σd,st,_,G,F,P,R,S,t,λ d st1 q α1 G1 H1 v s1 P1 S1 r1=>?_⟩;refine⟨α1,σd,st1,_,G1,F,P1,R.step s1,S1,q,λ ds st2 q2 α2 G2 H2 vs s2 P2 S2 r2=>?_⟩;exact k _ st2 q2 α2 G2 H2 (v::vs) (s1.trans s2) P2 S2 (by unfold aL;exact⟨v,vs,rfl,r1.step s2,r2⟩)
def tM(t:DA):DE:=λ σ st K=>t σ st λ ds st1=>ds.length<=sizeLine/\K (.tup ds) st1
def tF(t:DA):DE:=λ σ st K=>t σ st λ ds st1=>ds.length<=sizeLine/\K (.lst ds) st1
def xI(t:DA):DE:=λ σ st K=>t σ st λ ds st1=>ds.length<=sizeLine/\K (.ref st1.length) (st1++[.lst ds])
def LK.tup{α:List (Option Addr)}{G F H:Hp}{K:DK}{Q:VK}{ds:List D}{vs:List V}{st:af}{p:Addr}(k:LK α G F K Q)(P:cn G F H)(q:K (.tup ds) st)(S:aZ α st G)(r:aL α G ds vs)(hp:H p=none):Q (.ref p) (upd H p (.tup vs)):=
 have hg:=(P.none hp).1
 k _ st q α _ _ _ (Step.laid hg) (P.laid hp) (S.laid hg) (by unfold Rep;exact⟨p,vs,rfl,S.lZ hg,a6,r.step (Step.laid hg)⟩)
def LK.lst{α:List (Option Addr)}{G F H:Hp}{K:DK}{Q:VK}{ds:List D}{vs:List V}{st:af}{p:Addr}(k:LK α G F K Q)(P:cn G F H)(q:K (.lst ds) st)(S:aZ α st G)(r:aL α G ds vs)(hp:H p=none):Q (.ref p) (upd H p (.lst vs)):=
 have hg:=(P.none hp).1
 k _ st q α _ _ _ (Step.laid hg) (P.laid hp) (S.laid hg) (by unfold Rep;exact⟨p,vs,rfl,S.lZ hg,.of a6,r.step (Step.laid hg)⟩)
def LK.new{α:List (Option Addr)}{G F H:Hp}{K:DK}{Q:VK}{ds:List D}{vs:List V}{st:af}{p:Addr}(k:LK α G F K Q)(P:cn G F H)(q:K (.ref st.length) (st++[.lst ds]))(S:aZ α st G)(r:aL α G ds vs)(hp:H p=none):Q (.ref p) (upd H p (.lst vs)):=
 have hg:=(P.none hp).1
 k _ _ q (α++[some p]) _ _ _ (Step.cell hg) (P.laid hp) (S.cell hg ⟨vs,a6,r.step (Step.cell hg)⟩) (by
  unfold Rep;refine .inr ⟨p,?_,rfl⟩;rw[RY (by rw[S.len];exact Rv _),S.len,Tc];rfl)
def Ob{n:Nat}{t:DA}(h:PA X es (LA t)):PE X (.Tuple es n pos) (LE (tM t)):=PE.imp (Nt h) λ σ H Q ⟨α,σd,st,K,G,F,P,R,S,t,k⟩=>
 ⟨α,σd,st,_,G,F,P,R,S,t,λ ds st1 q α1 G1 H1 vs s1 P1 S1 r1=>⟨by rw[<-r1.length];exact q.1,λ p hp=>(k.at s1).tup P1 q.2 S1 r1 hp⟩⟩
def OJ{t:DA}(h:PA X es (LA t)):PE X (.List es pos) (LE (tF t)):=PE.imp (FX h) λ σ H Q ⟨α,σd,st,K,G,F,P,R,S,t,k⟩=>
 ⟨α,σd,st,_,G,F,P,R,S,t,λ ds st1 q α1 G1 H1 vs s1 P1 S1 r1=>⟨by rw[<-r1.length];exact q.1,λ p hp=>(k.at s1).lst P1 q.2 S1 r1 hp⟩⟩
def Oy{t:DA}(h:PA X es (LA t)):PE X (.List es pos) (LE (xI t)):=PE.imp (FX h) λ σ H Q ⟨α,σd,st,K,G,F,P,R,S,t,k⟩=>
 ⟨α,σd,st,_,G,F,P,R,S,t,λ ds st1 q α1 G1 H1 vs s1 P1 S1 r1=>⟨by rw[<-r1.length];exact q.1,λ p hp=>(k.at s1).new P1 q.2 S1 r1 hp⟩⟩
abbrev cL:=List D->af->DK->Prop
inductive Mg(T:cL)(vs:List V)(H:Hp)(Q:VK):Prop
 |mk (α:List (Option Addr)) (ds:List D) (st:af) (K:DK) (G F:Hp) (P:cn G F H) (rx:aL α G ds vs) (S:aZ α st G) (h:T ds st K) (k:LK α G F K Q):Mg T vs H Q
def cP(S:cL):Sp:=λ vs H Q _=>Mg S vs H Q
def aQ(S:cL)(t:DA):DE:=λ σ st K=>t σ st λ ds st1=>S ds st1 K
def LE.call{S:cL}{t:DA}{σ:L2.St}{H:Hp}{Q:VK}(h:LE (aQ S t) σ H Q):IA (cP S) [] E0 (LA t) σ H Q:=by
 obtain⟨α,σd,st,K,G,F,P,R,S,t,k⟩:=h;refine⟨α,σd,st,_,G,F,P,R,S,t,λ ds st1 q α1 G1 H1 vs s1 P1 S1 r1=>?_⟩;try dsimp only
 rw[SX];exact⟨α1,ds,st1,K,G1,F,P1,r1,S1,q,k.at s1⟩
def L0{S:cL}{k:Nat}{f:Addr}{fd:FuncData}{ps:List Str}{x:Str}{p:Pos}{t:DA}(F:bE X.prog X.w X.K X.mg X.base cM k f fd ps (cP S))(hr:c8 k X.A)(hg:Gl X x)(hm:X.mg x=some (.ref f))(hk:PySem.W.keepIn X.K (.ref f)=true)(hb:Binds X.K fd ps [])
 (ha:PA X (e::es) (LA t)) (hdb:(x==("__debug__":Str))=false:=by decide) (he:starEach (e::es) X.env=(false,eval e X.env)::starEach es X.env:=by rfl) (hpl:(backTo pos (starEach es X.env)).any (·.1)=false:=by rfl):
 PE X (.Call (.Name x p) (e::es) [] pos) (LE (aQ S t)):=PE.imp (KL F hr hg hm hk hb .nil zt ha hdb he hpl) λ _ _ _ h=>LE.call h
def cz(r:gw)(t:DA):DE:=λ σ st K=>t σ st λ ds st1=>r ds st1 K
def LE.cb{r:gw}{t:DA}{σ:L2.St}{H:Hp}{Q:VK}(h:LE (cz r t) σ H Q):LD (iE r) (LA t) σ H Q:=by
 obtain⟨α,σd,st,K,G,F,P,R,S,t,k⟩:=h;refine⟨α,σd,st,_,G,F,P,R,S,t,λ ds st1 q α1 G1 H1 vs s1 P1 S1 r1=>?_⟩;exact⟨α1,ds,st1,K,G1,F,P1,r1,S1,q,k.at s1⟩
end
section
variable {X:Cx}
def cf.imp{f:Value->Value->Sem Value}{r r':R2}(h:cf X f r)(k:∀x y H Q,r' x y H Q->r x y H Q):cf X f r':=λ pins s σ H x y v u Q I rx ry q=>h pins s σ H x y v u Q I rx ry (k x y H Q q)
def bR.imp{f:Value}{r r':List V->Hp->VK->Prop}(h:bR X f r)(k:∀xs H Q,r' xs H Q->r xs H Q):bR X f r':=λ pins s σ H xs us Q I rs q=>h pins s σ H xs us Q I rs (k xs H Q q)
def wN(C:Int->Int->Prop)(g:Int->Int->D):dy:=λ x y st K=>match x,y with| .int i,.int j=>C i j/\K (g i j) st|_,_=>False
def nB{f:Value->Value->Sem Value}{C:Int->Int->Prop}{g:Int->Int->D}{g':Int->Int->V}(hg:∀i j α H,Rep α H (g i j) (g' i j))(h:cf X f (rI C g')):cf X f (LR (wN C g)):=cf.imp h λ x y H Q ⟨α,d,e,st,K,G,F',P,r1,r2,S,q,k⟩=>by
 cases d<;>cases e<;>first
  |exact q.elim
  |(unfold Rep at r1 r2;exact⟨_,_,r1,r2,q.1,k.here P q.2 S (hg _ _ _ _)⟩)
abbrev T2:Int->Int->Prop:=λ _ _=>True
def zm{g:Int->Int->V}{f:Value->Value->Sem Value}(h:cf X f (yy g)):cf X f (rI T2 g):=cf.imp h λ x y H Q ⟨i,j,e1,e2,_,q⟩=>⟨i,j,e1,e2,q⟩
abbrev Ih:dy:=wN T2 λ i j=> .int (i-j)
abbrev E4:dy:=wN (λ _ j=>j≠0/\j.natAbs.log2<9000) λ i j=> .int (i.fdiv j)
abbrev HY:dy:=wN (λ _ j=>j≠0) λ i j=> .int (i.fmod j)
abbrev IV:dy:=wN Gq λ i j=> .int (i^j.toNat)
abbrev NP:dy:=wN T2 λ i j=> .bl (decide (i<j))
abbrev Ng:dy:=wN T2 λ i j=> .bl (decide (j<i))
abbrev MU:dy:=wN T2 λ i j=> .bl (decide (j<=i))
def Od:cf X (binaryOp .Sub) (LR Ih):=nB (λ _ _ _ _=>by unfold Rep;rfl) (zm LP)
def L4:cf X (binaryOp .FloorDiv) (LR E4):=nB (λ _ _ _ _=>by unfold Rep;rfl) (Ii λ i j _ _ _ _ _ hc q=>floordiv_int hc.1 q (.inl (PyProof.noPylong_of_log2 hc.2)))
def Pm:cf X (binaryOp .Mod) (LR HY):=nB (λ _ _ _ _=>by unfold Rep;rfl) KP
def O0:cf X (binaryOp .Pow) (LR IV):=nB (λ _ _ _ _=>by unfold Rep;rfl) Lp
def Qk:cf X (compareOp .Lt) (LR NP):=nB (λ _ _ _ _=>by unfold Rep;rfl) (zm Oq)
def QV:cf X (compareOp .Gt) (LR Ng):=nB (λ _ _ _ _=>by unfold Rep;rfl) (zm Oe)
def QF:cf X (compareOp .GtE) (LR MU):=nB (λ _ _ _ _=>by unfold Rep;rfl) (zm OI)
def IK:zZ:=λ x st K=>match x with| .int i=>K (.int (-i)) st|_=>False
def OM:Cu X (unaryOp .USub) (Jf IK):=λ pins s σ H x v Q I rx ⟨α,d,st,K,G,F',P,r,S,q,k⟩=>by
 cases d<;>first
  |exact q.elim
  |(unfold Rep at r;exact NV pins s σ H x v Q I rx ⟨_,r,k.here P q S (by unfold Rep;rfl)⟩)
def Inv.wa{pins:List (Addr×Obj)}{σ:L2.St}{H:Hp}{s:Shared}{l:Addr}{xs:List V}(I:Inv X pins σ H s)(h:Rd H l (.lst xs)):
 xs.length<=sizeLine/\∃(its:List Value) (n:Nat),Vals xs its/\xs.length=its.length/\s.heap.get? l=some {cls:= .type "list",data:= .seq its.toArray n}:=by
 obtain⟨z,its,n,r,e⟩:=h.ok I.aM;exact⟨z,its,n,r,r.length,e⟩
def fF{G F H:Hp}(P:cn G F H){a:Addr}{u:HO}(h:Rd G a u):Rd H a u:=by
 rcases h with h|⟨o,h⟩
 . exact .inl (P.get h)
 . exact .inr ⟨o,P.get h⟩
def Ce:cf X (binaryOp .Add) (λ x y H Q=>∃l b xs zs,x= .ref l/\y= .ref b/\Rd H l (.lst xs)/\Rd H b (.lst zs)/\xs.length+zs.length<=sizeLine/\∀p,H p=none->Q (.ref p) (upd H p (.lst (xs++zs)))):=by
 intro pins s σ H x y v u Q I rx ry h;obtain⟨l,b,xs,zs,rfl,rfl,hH,hB,hz,q⟩:=h;cases rx;cases ry;obtain⟨z,its,n,r,hl,e⟩:=Inv.wa I hH;obtain⟨z2,its2,n2,r2,hl2,e2⟩:=Inv.wa I hB;refine PySem.P.add_list e e2 ?_ (by rw[RM,RM];omega);have ea:its.toArray++its2.toArray=(its++its2).toArray:=by simp
 rw[ea];exact⟨.ref _,_,I.Gv (t':=s.toks) (r.append r2) (by rw[Sy];omega),rfl,q _ I.fresh⟩
def Cs:cf X (binaryOp .Mult) (λ x y H Q=>∃l k xs,x= .ref l/\y= .int k/\Rd H l (.lst xs)/\ -(2^63)<=k/\k<2^63/\xs.length*k.toNat<=sizeLine/\
 ∀p,H p=none->Q (.ref p) (upd H p (.lst (List.replicate k.toNat xs).flatten))):=by
 intro pins s σ H x y v u Q I rx ry h;obtain⟨l,k,xs,rfl,rfl,hH,h1,h2,hz,q⟩:=h;cases rx;obtain⟨t,rfl⟩:=ry;obtain⟨z,its,n,r,hl,e⟩:=Inv.wa I hH;have hlen:its.toArray.size*k.toNat<=sizeLine:=by rw[RM,<-hl];exact hz
 have hcap:¬its.toArray.size*k.toNat>(2^63-1)/8:=by
  have:(sizeLine:Nat)<=(2^63-1)/8:=by decide
  omega
 have hfit:¬(!Builtin.List.listFitsIndex k)=true:=by
  rw[fitsIndex_both h1 h2];exact Sb
 have hlong:¬Builtin.List.listTooLong (its.toArray.size*k.toNat)=true:=by
  rw[Gx hlen];exact Sb
 have hnew:List.foldl (λ x1 x2=>x1++x2) #[] (List.replicate (if its.toArray.isEmpty=true then 0 else k.toNat) its.toArray)=(List.replicate k.toNat its).flatten.toArray:=by
  have f0:∀m:Nat,List.foldl (λ x1 x2=>x1++x2) #[] (List.replicate m its.toArray)=(List.replicate m its).flatten.toArray:=λ m=>by
   have:=foldl_rep its m [];rw[List.nil_append]at this;exact this
  rw[f0];cases its with
  |nil=>simp
  |cons a r'=>rw[Rx (by simp)]
 refine Ww (T:="list") (U:="int") (by decide) ⟨_,e,rfl⟩ (λ s'=>Wv s' k t) noFill_list_mul F.fills_int_mul VW repeat_list F.slot_int_index.lookup
  (Vl VW (Wv s k t) F.entry_int_rmul (F.args_int_rmul_2 _ _) (int___rmul___int_list k t l its.toArray n)
    ⟨e,rfl,⟨_,e,rfl⟩,Vl F.slot_list_mul ⟨_,e,rfl⟩ F.entry_list_mul (F.args_list_mul_2 _ _) (AutoListH.list___mul___list_int_3 l its.toArray n k t hfit hcap hlong) ⟨e,?_⟩⟩)
 rw[hnew];exact⟨.ref _,_,I.Gv (t':=s.toks) (r.rep k.toNat) (by rw[len_rep,Uj];exact hz),rfl,q _ I.fresh⟩
def GJ:cf X (binaryOp .Add) (λ x y H Q=>∃a b xs ys,x= .ref a/\y= .ref b/\H a=some (.tup xs)/\H b=some (.tup ys)/\xs.length+ys.length<=sizeLine/\
 (xs=[]->Q (.ref b) H)/\(xs≠ []->ys=[]->Q (.ref a) H)/\(xs≠ []->ys≠ []->∀p,H p=none->Q (.ref p) (upd H p (.tup (xs++ys))))):=by
 intro pins s σ H x y v u Q I rx ry h;obtain⟨a,b,xs,ys,rfl,rfl,ha,hb,hz,q0,q1,q2⟩:=h;by_cases hx:xs=[]
 . cases rx;cases ry;obtain⟨its,r1,p1,_⟩:=I.tuple (.of ha);obtain⟨its2,r2,p2,_⟩:=I.tuple (.of hb);obtain⟨⟨cls,dd,data,sl⟩,ho,hc,n,hd⟩:=id p1;obtain⟨⟨cls2,dd2,data2,sl2⟩,ho2,hc2,n2,hd2⟩:=id p2;simp only at hc hd hc2 hd2;subst hc hd hc2 hd2;have hi:its=[]:=(L2.Vals.uO r1).mpr hx
   exact Xf ⟨_,ho,rfl⟩ ⟨_,ho2,rfl⟩ WB Xa VE VA (Vv _ _)
    (tuple_addW0 a b its.toArray its2.toArray n n2 dd dd2 sl sl2 (by simp[hi])) ⟨ho,ho2,⟨.ref b,H,I,rfl,q0 hx⟩⟩
 . exact Jz pins s σ H _ _ v u Q I rx ry ⟨a,b,xs,ys,rfl,rfl,.of ha,.of hb,hx,hz,q1 hx,q2 hx⟩
def ym:fillsNumberSlot (.type "tuple") "mul"=pure false:=
 PySem.fillsNumberSlot_seq (id:="tuple.__mul__") (r:=some (.builtin "tuple.__rmul__")) Vm.lookup (by decide+kernel) F.slot_tuple_rmul.lookup (by decide+kernel)
def C9:seqRepeat? (.type "tuple")=pure (some (.builtin "tuple.__mul__")):=by
 unfold seqRepeat?;rw[PySem.seqSlot_of (T:="tuple") (name:="__mul__") (id:="tuple.__mul__") Vm.lookup (by decide+kernel),PySem.seqSlot_of (T:="tuple") (name:="__rmul__") (id:="tuple.__rmul__") F.slot_tuple_rmul.lookup (by decide+kernel)];rfl
def Ba(a:Int)(t:Tok)(l:Addr)(its:Array Value)(n:Nat)(dd:Option Addr)(sl:Array (Option Value)):Meets (Builtin.«int.__rmul__» ⟨[.int a t,.ref l],[]⟩) (λ _ R s=>s.heap.get? l=some {cls:= .type "tuple",dict:=dd,data:= .seq its n,slots:=sl}/\R (.ok (.ret Value.notImplemented)) s):=
 .of_wp λ P w A R s h=>by
  obtain⟨hp,g,d,tk,os⟩:=s;obtain⟨hl,h⟩:=h
  wp_walk
  exact⟨_,rfl,h⟩
def zS(l:Addr)(its:Array Value)(n:Nat)(dd:Option Addr)(sl:Array (Option Value))(x:Int)(u:Tok)(h0:(decide (x< -(2^63))||decide (x>=2^63))=false)(h1:(its.isEmpty||x==1)=true):
 Meets (Builtin.«tuple.__mul__» ⟨[.ref l,.int x u],[]⟩) (λ _ R s=>s.heap.get? l=some {cls:= .type "tuple",dict:=dd,data:= .seq its n,slots:=sl}/\R (.ok (.ret (.ref l))) s):=
 .of_wp λ P w A R s h=>by
  obtain⟨hp,g,d,tk,os⟩:=s;obtain⟨hl,h⟩:=h
  wp_walk
  refine VX (by rw[h0];rfl) ?_
  wp_walk
  exact⟨_,rfl,h⟩
def Ad(l:Addr)(its:Array Value)(n:Nat)(dd:Option Addr)(sl:Array (Option Value))(x:Int)(u:Tok)(h0:(decide (x< -(2^63))||decide (x>=2^63))=false)(h1:(its.isEmpty||x==1)=false)(h2:(decide (x<=0)||its.isEmpty)=true):
 Meets (Builtin.«tuple.__mul__» ⟨[.ref l,.int x u],[]⟩) (λ _ R s=>s.heap.get? l=some {cls:= .type "tuple",dict:=dd,data:= .seq its n,slots:=sl}/\R (.ok (.ret (.ref s.heap.objs.size))) {s with heap:=s.heap.push {cls:= .type "tuple",data:= .seq #[]}}):=
 .of_wp λ P w A R s h=>by
  obtain⟨hp,g,d,tk,os⟩:=s;obtain⟨hl,h⟩:=h
  wp_walk
  refine VX (by rw[h0];rfl) ?_
  wp_walk
  exact⟨_,rfl,h⟩
def zI(l:Addr)(its:Array Value)(n:Nat)(dd:Option Addr)(sl:Array (Option Value))(x:Int)(u:Tok)(h0:(decide (x< -(2^63))||decide (x>=2^63))=false)(h1:(its.isEmpty||x==1)=false)(h2:(decide (x<=0)||its.isEmpty)=false)(h3:¬((its.size:Int)*x>(2^63-1)/8))(h4:Builtin.Tuple.tupleTooMany (its.size*x)=false)
 (hz:(List.foldl (λ x1 x2=>x1++x2) #[] (List.replicate x.toNat its)).size<=sizeLine):
 Meets (Builtin.«tuple.__mul__» ⟨[.ref l,.int x u],[]⟩) (λ _ R s=>s.heap.get? l=some {cls:= .type "tuple",dict:=dd,data:= .seq its n,slots:=sl}/\R (.ok (.ret (.ref s.heap.objs.size))) {s with heap:=s.heap.push {cls:= .type "tuple",data:= .seq (List.foldl (λ x1 x2=>x1++x2) #[] (List.replicate x.toNat its))}}):=
 .of_wp λ P w A R s h=>by
  obtain⟨hp,g,d,tk,os⟩:=s;obtain⟨hl,h⟩:=h
  wp_walk
  refine VX (by rw[h0];rfl) ?_
  wp_walk
  refine VX (Sv h3) ?_
  wp_walk
  exact⟨_,rfl,h⟩
def KG:cf X (binaryOp .Mult) (λ x y H Q=>∃l k xs,x= .ref l/\y= .int k/\H l=some (.tup xs)/\ -(2^63)<=k/\k<2^63/\xs.length*k.toNat<=sizeLine/\
 ((xs=[]\/k=1)->Q (.ref l) H)/\(¬(xs=[]\/k=1)->∀p,H p=none->Q (.ref p) (upd H p (.tup (List.replicate k.toNat xs).flatten)))):=by
 intro pins s σ H x y v u Q I rx ry h;obtain⟨l,k,xs,rfl,rfl,hH,h1,h2,hz,q1,q2⟩:=h;cases rx;obtain⟨t,rfl⟩:=ry;obtain⟨its,r,p1,_⟩:=I.tuple (.of hH);obtain⟨⟨cls,dd,data,sl⟩,ho,hc,n,hd⟩:=id p1;simp only at hc hd;subst hc hd;have hl:xs.length=its.length:=r.length
 have f0:(decide (k< -(2^63))||decide (k>=2^63))=false:=by
  rw[Sv (by omega),Sv (by omega)];rfl
 refine Ww (T:="tuple") (U:="int") (by decide) ⟨_,ho,rfl⟩ (λ s'=>Wv s' k t) ym F.fills_int_mul VW C9 F.slot_int_index.lookup
  (Vl VW (Wv s k t) F.entry_int_rmul (F.args_int_rmul_2 _ _) (Ba k t l its.toArray n dd sl) ⟨ho,rfl,⟨_,ho,rfl⟩,?_⟩)
 by_cases hs:xs=[]\/k=1
 . have f1:(its.toArray.isEmpty||k==1)=true:=by
    rcases hs with z|z
    . have:its=[]:=Tj.mp (by rw[<-hl,z];rfl);rw[this];rfl
    . rw[z];simp
   exact Vl Vm ⟨_,ho,rfl⟩ Wr (Wc _ _) (zS l its.toArray n dd sl k t f0 f1) ⟨ho,⟨.ref l,H,I,rfl,q1 hs⟩⟩
 . have hne:its≠ []:=λ z=>hs (.inl (Tj.mp (by rw[hl,z];rfl)));have hk1:k≠1:=λ z=>hs (.inr z);have e1:its.toArray.isEmpty=false:=by simpa using hne
   have f1:(its.toArray.isEmpty||k==1)=false:=by rw[e1];simpa using hk1
   have new:∀(us:List Value) (ys:List V),Vals ys us->ys.length<=sizeLine->Inv X pins σ (upd H s.heap.objs.size (.tup ys)) {s with heap:=s.heap.push {cls:= .type "tuple",data:= .seq us.toArray}}:=λ us ys hv hy=>
    I.laid (t':=s.toks) (λ _ _ q=>RE _ q) (Rv _) ⟨hy,us,hv,⟨_,R_ _ rfl,rfl,_,rfl⟩⟩
   by_cases h0:k<=0
   . have f2:(decide (k<=0)||its.toArray.isEmpty)=true:=by rw[S_ h0];rfl
     refine Vl Vm ⟨_,ho,rfl⟩ Wr (Wc _ _) (Ad l its.toArray n dd sl k t f0 f1 f2) ⟨ho,?_⟩;have ez:k.toNat=0:=by omega
     rw[ez]at q2;exact⟨.ref _,_,new [] [] .nil (RX _),rfl,q2 hs _ I.fresh⟩
   . have f2:(decide (k<=0)||its.toArray.isEmpty)=false:=by rw[Sv h0,e1];rfl
     have hk:(k.toNat:Int)=k:=by omega
     have hlen:its.toArray.size*k.toNat<=sizeLine:=by rw[RM,<-hl];exact hz
     have hsz:((its.toArray.size:Nat):Int)*k<=(sizeLine:Int):=by
      rw[<-hk]
      exact_mod_cast hlen
     have f3:¬(((its.toArray.size:Nat):Int)*k>(2^63-1)/8):=by
      have:((sizeLine:Nat):Int)<=(2^63-1)/8:=by decide
      omega
     have f4:Builtin.Tuple.tupleTooMany (((its.toArray.size:Nat):Int)*k)=false:=by
      unfold Builtin.Tuple.tupleTooMany;exact Sv (by omega)
     have hnew:List.foldl (λ x1 x2=>x1++x2) #[] (List.replicate k.toNat its.toArray)=(List.replicate k.toNat its).flatten.toArray:=by
      have:=foldl_rep its k.toNat [];rw[List.nil_append]at this;exact this
     have hfl:(List.replicate k.toNat its).flatten.length=its.length*k.toNat:=by rw[len_rep,Uj]
     refine Vl Vm ⟨_,ho,rfl⟩ Wr (Wc _ _) (zI l its.toArray n dd sl k t f0 f1 f2 f3 f4 (by rw[hnew,RM,hfl];exact hlen)) ⟨ho,?_⟩;rw[hnew];exact⟨.ref _,_,new _ _ (r.rep k.toNat) (by rw[len_rep,Uj];exact hz),rfl,q2 hs _ I.fresh⟩
def Ia:dy:=λ x y st K=>match x,y with
 | .int i,.int j=>K (.int (i+j)) st
 | .tup xs,.tup ys=>xs.length+ys.length<=sizeLine/\K (.tup (xs++ys)) st
 | .lst xs,.lst ys=>xs.length+ys.length<=sizeLine/\K (.lst (xs++ys)) st
 | .str x,.str y=>x.length+y.length<=sizeLine/\K (.str (x++y)) st
 |_,_=>False
def O7:cf X (binaryOp .Add) (LR Ia):=λ pins s σ H x y v u Q I rx ry ⟨α,d,e,st,K,G,F',P,r1,r2,S,q,k⟩=>by
 cases d<;>cases e<;>try exact q.elim
 . unfold Rep at r1 r2;exact M6 pins s σ H x y v u Q I rx ry ⟨_,_,r1,r2,k.here P q S (by unfold Rep;rfl)⟩
 . unfold Rep at r1 r2;exact Dc pins s σ H x y v u Q I rx ry ⟨_,_,r1,r2,q.1,k.here P q.2 S (by unfold Rep;rfl)⟩
 . unfold Rep at r1 r2;obtain⟨a,vs,rfl,na,ha,ra⟩:=r1;obtain⟨b,ws,rfl,nb,hb,rb⟩:=r2;refine Ce pins s σ H _ _ v u Q I rx ry ⟨a,b,vs,ws,rfl,rfl,fF P ha,fF P hb,by rw[<-ra.length,<-rb.length];exact q.1,λ p hp=>?_⟩;exact k.lst P q.2 S (aT.mpr (fZ (aT.mp ra) (aT.mp rb))) hp
 . rename_i xs ys;unfold Rep at r1 r2;obtain⟨a,vs,rfl,na,ha,ra⟩:=r1;obtain⟨b,ws,rfl,nb,hb,rb⟩:=r2;have hl1:=ra.length;have hl2:=rb.length;refine GJ pins s σ H _ _ v u Q I rx ry ⟨a,b,vs,ws,rfl,rfl,P.get ha,P.get hb,by rw[<-hl1,<-hl2];exact q.1,λ z=>?_,λ _ z=>?_,λ _ _ p hp=>?_⟩
   . refine k.here P q.2 S ?_;unfold Rep;have:xs=[]:=by rw[z]at hl1;exact Tj.mp hl1
     subst this;exact⟨b,ws,rfl,nb,hb,rb⟩
   . refine k.here P q.2 S ?_;unfold Rep;have:ys=[]:=by rw[z]at hl2;exact Tj.mp hl2
     subst this;rw[SX];exact⟨a,vs,rfl,na,ha,ra⟩
   . exact k.tup P q.2 S (aT.mpr (fZ (aT.mp ra) (aT.mp rb))) hp
def Ji:dy:=λ x y st K=>match x,y with
 | .int i,.int j=>IntMulOk i j/\K (.int (i*j)) st
 | .lst xs,.int k=>(-(2^63)<=k/\k<2^63/\xs.length*k.toNat<=sizeLine)/\K (.lst (List.replicate k.toNat xs).flatten) st
 | .tup xs,.int k=>(-(2^63)<=k/\k<2^63/\xs.length*k.toNat<=sizeLine)/\K (.tup (List.replicate k.toNat xs).flatten) st
 |_,_=>False
def Pf:cf X (binaryOp .Mult) (LR Ji):=λ pins s σ H x y v u Q I rx ry ⟨α,d,e,st,K,G,F',P,r1,r2,S,q,k⟩=>by
 cases d<;>cases e<;>try exact q.elim
 . unfold Rep at r1 r2;have h:cf X (binaryOp .Mult) (rI IntMulOk λ i j=> .int (i*j)):=Ii λ _ _ _ _ _ _ _ hc q=>mul_int q hc;exact h pins s σ H x y v u Q I rx ry ⟨_,_,r1,r2,q.1,k.here P q.2 S (by unfold Rep;rfl)⟩
 . unfold Rep at r1 r2;obtain⟨a,vs,rfl,na,ha,ra⟩:=r1;refine Cs pins s σ H _ _ v u Q I rx ry ⟨a,_,vs,rfl,r2,fF P ha,q.1.1,q.1.2.1,by rw[<-ra.length];exact q.1.2.2,λ p hp=>?_⟩;exact k.lst P q.2 S (aT.mpr (nv (aT.mp ra) _)) hp
 . rename_i xs m;have r1':=r1;unfold Rep at r1 r2;obtain⟨a,vs,rfl,na,ha,ra⟩:=r1;refine KG pins s σ H _ _ v u Q I rx ry ⟨a,_,vs,rfl,r2,P.get ha,q.1.1,q.1.2.1,by rw[<-ra.length];exact q.1.2.2,λ hs=>?_,λ _ p hp=>k.tup P q.2 S (aT.mpr (nv (aT.mp ra) _)) hp⟩
   have e:(List.replicate m.toNat xs).flatten=xs:=by
    rcases hs with z|z
    . have:xs=[]:=Tj.mp (by rw[ra.length,z];rfl);rw[this];simp
    . rw[z];simp
   have q2:=q.2;rw[e]at q2;exact k.here P q2 S r1'
def live(st:af):D->Bool
 | .ref n=>(match st[n]? with|some (.lst _)=>true|some (.ins _ _)=>true|_=>false)
 |_=>true
def z_{α:List (Option Addr)}{H:Hp}{st:af}{n:Nat}{v:V}(S:aZ α st H)(h:live st (.ref n)=true)(r:Rep α H (.ref n) v):∃a,v= .ref a:=by
 unfold live at h;simp only at h;split at h
 . rename_i e;obtain⟨a,ea,_⟩:=S.i8 e;exact⟨a,fb ea r⟩
 . rename_i e;obtain⟨a,ea,_⟩:=S.wX e;exact⟨a,fb ea r⟩
 . cases h
def rS:dy:=λ x y st K=>match y with
 | .int i=>(match x with
   | .lst xs=>(match eF xs i with|some d=>K d st|none=>False)
   | .tup xs=>(match eF xs i with|some d=>K d st|none=>False)
   | .ref n=>(match st[n]? with|some (.lst xs)=>(match eF xs i with|some d=>K d st|none=>False)|_=>False)
   |_=>False)
 |_=>False
def aL.eF{α:List (Option Addr)}{H:Hp}{ds:List D}{vs:List V}{i:Int}{d:D}(h:aL α H ds vs)(e:L2.eF ds i=some d):∃v,L2.eF vs i=some v/\Rep α H d v:=by
 unfold L2.eF at e⊢;rw[<-h.length];cases q:o4 ds.length i with
 |none=>rw[q]at e;cases e
 |some j=>rw[q]at e;exact h.get e
def Ql:IG X (LR rS):=λ value slice pins s σ H x y v u Q I rx ry ⟨α,d,e,st,K,G,F',P,r1,r2,S,q,k⟩ hs=>by
 cases e<;>try exact q.elim
 unfold Rep at r2;cases d<;>try exact q.elim
 . rename_i i n;unfold rS at q;simp only at q;split at q
   . split at q
     . rename_i xs e1 _ d' e2;obtain⟨a,ea,vs,hv,rv⟩:=S.i8 e1;have r1':=fb ea r1;subst r1';obtain⟨z,ez,rz⟩:=rv.eF e2;exact CD value slice pins s σ H _ _ v u Q I rx ry ⟨a,vs,_,z,rfl,r2,.of (P.get hv),ez,k.here P q S rz⟩ hs
     . exact q.elim
   . exact q.elim
 . unfold rS at q;simp only at q;split at q
   . rename_i xs d' e2;unfold Rep at r1;obtain⟨a,vs,rfl,na,ha,ra⟩:=r1;obtain⟨z,ez,rz⟩:=ra.eF e2;exact CD value slice pins s σ H _ _ v u Q I rx ry ⟨a,vs,_,z,rfl,r2,.inl (fF P ha),ez,k.here P q S rz⟩ hs
   . exact q.elim
 . unfold rS at q;simp only at q;split at q
   . rename_i xs d' e2;unfold Rep at r1;obtain⟨a,vs,rfl,na,ha,ra⟩:=r1;obtain⟨z,ez,rz⟩:=ra.eF e2;exact LJ value slice pins s σ H _ _ v u Q I rx ry ⟨a,vs,_,z,rfl,r2,.of (P.get ha),ez,k.here P q S rz⟩ hs
   . exact q.elim
def QC{a b:Expr}{ta tb:DE}{pos:Pos}(ha:PE X a (LE ta))(hb:PE X b (LE tb))(hs:uA b:=by intro _ _;rfl):PE X (.Subscript a b pos) (LE (av rS ta tb)):=PE.imp (Ov Ql ha hb hs) λ _ _ _ h=>LE.op h
def items?(st:af):D->Option (List D)
 | .lst xs=>some xs
 | .tup xs=>some xs
 | .ref n=>(match st[n]? with|some (.lst xs)=>some xs|_=>none)
 |_=>none
@[simp] theorem PH(st:af)(xs:List D):items? st (.lst xs)=some xs:=rfl
@[simp] theorem PX(st:af)(xs:List D):items? st (.tup xs)=some xs:=rfl
@[simp] theorem items_int(st:af)(i:Int):items? st (.int i)=none:=rfl
@[simp] theorem Qu(st:af)(i:Bool):items? st (.bl i)=none:=rfl
@[simp] theorem items_str(st:af)(i:Str):items? st (.str i)=none:=rfl
@[simp] theorem Qe(st:af):items? st .aB=none:=rfl
def aO{st:af}{n:Nat}{xs:List D}(h:st[n]?=some (.lst xs)):items? st (.ref n)=some xs:=by unfold items?;simp only[h]
def p8{α:List (Option Addr)}{H:Hp}{st:af}{d:D}{v:V}{xs:List D}(S:aZ α st H)(r:Rep α H d v)(e:items? st d=some xs):
 ∃p vs,v= .ref p/\aL α H xs vs/\(Rd H p (.lst vs)\/H p=some (.tup vs)):=by
 cases d<;>try(cases e;done)
 . unfold items? at e;simp only at e;split at e
   . rename_i ys q;cases e;obtain⟨a,ea,vs,h1,h2⟩:=S.i8 q;have r':=fb ea r;subst r';exact⟨a,vs,rfl,h2,.inl (.of h1)⟩
   . cases e
 . cases e;unfold Rep at r;obtain⟨a,vs,rfl,_,h1,h2⟩:=r;exact⟨a,vs,rfl,h2,.inl h1⟩
 . cases e;unfold Rep at r;obtain⟨a,vs,rfl,_,h1,h2⟩:=r;exact⟨a,vs,rfl,h2,.inr h1⟩
def C8{K:PySem.W.Frag}{G F H:Hp}(P:cn G F H){p:Addr}{vs:List V}(h:Rd G p (.lst vs)\/G p=some (.tup vs)):mF K H p vs\/jO K H p vs:=h.elim (λ z=> .inl (.inl (fF P z))) λ z=> .inr (.of (P.get z))
def ja{α:List (Option Addr)}{H:Hp}{ds:List D}{xs:List V}{d:D}(r:aL α H ds xs)(e:ds=[d]):∃v,xs=[v]/\Rep α H d v:=by
 subst e;unfold aL at r;obtain⟨v,q,rfl,h1,h2⟩:=r;unfold aL at h2;subst h2;exact⟨v,rfl,h1⟩
def rm{α:List (Option Addr)}{H:Hp}{ds:List D}{xs:List V}{d e:D}(r:aL α H ds xs)(q:ds=[d,e]):∃v u,xs=[v,u]/\Rep α H d v/\Rep α H e u:=by
 subst q;unfold aL at r;obtain⟨v,q,rfl,h1,h2⟩:=r;obtain⟨u,rfl,h3⟩:=ja h2 rfl;exact⟨v,u,rfl,h1,h3⟩
def zp:gw:=λ ds st K=>match ds with
 | [.str x]=>x.length<=sizeLine/\K (.int x.length) st
 | [d]=>(match items? st d with|some xs=>K (.int xs.length) st|none=>False)
 |_=>False
def Ou:bR X (.builtin "len") (iE zp):=λ pins s σ H xs us Q I rs ⟨α,ds,st,K,G,F',P,r,S,q,k⟩=>by
 unfold zp at q;split at q
 . rename_i x;obtain⟨v,rfl,r1⟩:=ja r rfl;unfold Rep at r1;subst r1;exact AR pins s σ H _ us Q I rs ⟨x,rfl,q.1,k.here P q.2 S (by unfold Rep;rfl)⟩
 . rename_i d _;split at q
   . rename_i ys e;obtain⟨v,rfl,r1⟩:=ja r rfl;obtain⟨p,vs,rfl,r2,h⟩:=p8 S r1 e;refine zN pins s σ H _ us Q I rs ⟨p,vs,rfl,C8 P h,k.here P q S (by unfold Rep;rw[r2.length])⟩
   . exact q.elim
 . exact q.elim
def P7(g:Int->Int):gw:=λ ds st K=>match ds with| [.int i]=>K (.int (g i)) st|_=>False
abbrev D5:gw:=P7 λ i=>if i<0 then-i else i
def N4:bR X (.builtin "abs") (iE D5):=bR.imp HE λ xs H Q ⟨α,ds,st,K,G,F',P,r,S,q,k⟩=>by
 unfold D5 P7 at q;split at q
 . obtain⟨v,rfl,r1⟩:=ja r rfl;unfold Rep at r1;subst r1;exact⟨_,rfl,k.here P q S (by unfold Rep;rfl)⟩
 . exact q.elim
def DZ(g:Int->Int->Int):gw:=λ ds st K=>match ds with| [.int i,.int j]=>K (.int (g i j)) st|_=>False
abbrev CQ:gw:=DZ λ i j=>if j>i then j else i
abbrev DU:gw:=DZ λ i j=>if j<i then j else i
def OR(hc:X.calm=true):bR X (.builtin "max") (iE CQ):=bR.imp (Ea hc) λ xs H Q ⟨α,ds,st,K,G,F',P,r,S,q,k⟩=>by
 unfold CQ DZ at q;split at q
 . obtain⟨v,u,rfl,r1,r2⟩:=rm r rfl;unfold Rep at r1 r2;subst r1 r2;exact⟨_,_,rfl,k.here P q S (by unfold Rep;rfl)⟩
 . exact q.elim
def Ph(hc:X.calm=true):bR X (.builtin "min") (iE DU):=bR.imp (EE hc) λ xs H Q ⟨α,ds,st,K,G,F',P,r,S,q,k⟩=>by
 unfold DU DZ at q;split at q
 . obtain⟨v,u,rfl,r1,r2⟩:=rm r rfl;unfold Rep at r1 r2;subst r1 r2;exact⟨_,_,rfl,k.here P q S (by unfold Rep;rfl)⟩
 . exact q.elim
def CO:gw:=λ ds st K=>match ds with| [.int i]=>K (.int i) st| [.bl b]=>K (.int (if b then 1 else 0)) st|_=>False
def OC:bR X (.type "int") (iE CO):=bR.imp FW λ xs H Q ⟨α,ds,st,K,G,F',P,r,S,q,k⟩=>by
 unfold CO at q;split at q
 . obtain⟨v,rfl,r1⟩:=ja r rfl;unfold Rep at r1;subst r1;exact .inl ⟨_,rfl,k.here P q S (by unfold Rep;rfl)⟩
 . obtain⟨v,rfl,r1⟩:=ja r rfl;unfold Rep at r1;subst r1;exact .inr ⟨_,rfl,k.here P q S (by unfold Rep;rfl)⟩
 . exact q.elim
def uJ:gw:=λ ds st K=>match ds with| [d]=>(match items? st d with|some xs=>K (.tup xs) st|none=>False)|_=>False
def JN:bR X (.type "tuple") (iE uJ):=bR.imp y0 λ xs H Q ⟨α,ds,st,K,G,F',P,r,S,q,k⟩=>by
 unfold uJ at q;split at q
 . rename_i d;split at q
   . rename_i ys e;obtain⟨v,rfl,r1⟩:=ja r rfl;cases d with
     |tup zs=>
      cases e;have r0:=r1;unfold Rep at r1;obtain⟨a,vs,rfl,na,h1,h2⟩:=r1;exact⟨a,vs,rfl,.inr ⟨.of (P.get h1),k.here P q S r0⟩⟩
     |_=>
      obtain⟨p,vs,rfl,r2,h⟩:=p8 S r1 e;refine⟨p,vs,rfl,?_⟩;rcases h with h|h
      . exact .inl ⟨.inl (fF P h),λ l hl=>k.tup P q S r2 hl⟩
      . first
         |(cases e;done)
         |(exfalso
           unfold items? at e;simp only at e
           first
            |(split at e
              . rename_i z;obtain⟨a,ea,vs',h1,h2⟩:=S.i8 z;have e':=fb ea r1;cases e';rw[h]at h1;cases h1
              . cases e)
            |(unfold Rep at r1
              obtain⟨a,vs',e',_,h1,_⟩:=r1;cases e';rcases h1 with h1|⟨o,h1⟩<;>(rw[h]at h1;cases h1)))
   . exact q.elim
 . exact q.elim
def w6:gw:=λ ds st K=>match ds with| [d]=>(match items? st d with|some xs=>K (.lst xs) st|none=>False)|_=>False
def MK:bR X (.type "list") (iE w6):=bR.imp t_ λ xs H Q ⟨α,ds,st,K,G,F',P,r,S,q,k⟩=>by
 unfold w6 at q;split at q
 . split at q
   . rename_i ys e;obtain⟨v,rfl,r1⟩:=ja r rfl;obtain⟨p,vs,rfl,r2,h⟩:=p8 S r1 e;exact⟨p,vs,rfl,C8 P h,λ l hl=>k.lst P q S r2 hl⟩
   . exact q.elim
 . exact q.elim
def uH:gw:=λ ds st K=>match ds with| [d]=>(match items? st d with|some xs=>K (.ref st.length) (st++[.lst xs])|none=>False)|_=>False
def JD:bR X (.type "list") (iE uH):=bR.imp t_ λ xs H Q ⟨α,ds,st,K,G,F',P,r,S,q,k⟩=>by
 unfold uH at q;split at q
 . split at q
   . rename_i ys e;obtain⟨v,rfl,r1⟩:=ja r rfl;obtain⟨p,vs,rfl,r2,h⟩:=p8 S r1 e;exact⟨p,vs,rfl,C8 P h,λ l hl=>k.new P q S r2 hl⟩
   . exact q.elim
 . exact q.elim
def iM:List D->Option (List Bool)
 | []=>some []
 | .bl b::r=>(iM r).map (b:: ·)
 |_::_=>none
def m9:List D->Option (List Int)
 | []=>some []
 | .int b::r=>(m9 r).map (b:: ·)
 |_::_=>none
def qY{α:List (Option Addr)}{H:Hp}:∀ {ds:List D} {vs:List V} {bs:List Bool},aL α H ds vs->iM ds=some bs->vs=bs.map V.bl
 | [],vs,bs,r,e=>by
   unfold aL at r;cases e;exact r
 |d::ds,vs,bs,r,e=>by
  unfold aL at r;obtain⟨v,q,rfl,h1,h2⟩:=r;cases d<;>try(cases e;done)
  unfold iM at e;cases z:iM ds with
  |none=>rw[z]at e;cases e
  |some cs=>
   rw[z]at e;cases e;unfold Rep at h1;rw[h1,qY h2 z];rfl
def tj{α:List (Option Addr)}{H:Hp}:∀ {ds:List D} {vs:List V} {bs:List Int},aL α H ds vs->m9 ds=some bs->vs=bs.map V.int
 | [],vs,bs,r,e=>by
   unfold aL at r;cases e;exact r
 |d::ds,vs,bs,r,e=>by
  unfold aL at r;obtain⟨v,q,rfl,h1,h2⟩:=r;cases d<;>try(cases e;done)
  unfold m9 at e;cases z:m9 ds with
  |none=>rw[z]at e;cases e
  |some cs=>
   rw[z]at e;cases e;unfold Rep at h1;rw[h1,tj h2 z];rfl
def se:∀ {bs:List Bool} {us:List Value},Vals (bs.map V.bl) us->us=bs.map Value.bool
 | [],_,.nil=>rfl
 |b::bs,_,.cons h t=>by
  have h:_=Value.bool b:=h;rw[h,se t];rfl
def zC:gw:=λ ds st K=>match ds with| [.lst xs]=>(match iM xs with|some bs=>K (.bl (bs.all id)) st|none=>False)|_=>False
def range_all{α:Type}(l:List α)(f:α->Bool)(tr:Nat->Bool)(h:∀i x,l[i]?=some x->tr i=f x):(List.range l.length).all tr=l.all f:=by
 induction l generalizing tr with
 |nil=>rfl
 |cons a l ih=>
  rw[So,Su,UE,UE,List.all_map,h 0 a rfl];congr 1;exact ih (tr∘Nat.succ) λ i x e=>h (i+1) x (by simpa using e)
def OZ(hc:X.calm=true):bR X (.builtin "all") (iE zC):=λ pins s σ H xs us Q I rs ⟨α,ds,st,K,G,F',P,r,S,q,k⟩=>by
 unfold zC at q;split at q
 . rename_i ys;split at q
   . rename_i bs e;obtain⟨v,rfl,r1⟩:=ja r rfl;unfold Rep at r1;obtain⟨a,vs,rfl,na,h1,h2⟩:=r1;obtain⟨u,rfl,ru⟩:=vals1 rs;cases ru;have hv:=qY h2 e;subst hv;obtain⟨z,its,n,rv,hl,eo⟩:=Inv.wa I (fF P h1);have hits:=se rv;subst hits;have isL:s.heap.IsList a (bs.map Value.bool).toArray:=⟨_,eo,rfl,n,rfl⟩
     refine call_all_walk (VD isL ?_);have hne:a≠s.heap.objs.size:=Se (RW eo);refine⟨s.heap.objs.size,_,_,_,_,_,λ i=>(bs[i]?).getD true,rfl,Walks.list (A:=X.A.in1) (I.ok.hd hc) _ a hne (bs.map Value.bool).toArray,⟨⟨_,R_ _ rfl,rfl,rfl⟩,⟨_,RE _ eo,rfl,n,rfl⟩⟩,?_,?_⟩
     . intro i w s' Q' E' hP hQ;rw[W4,RP]at hP;cases zb:bs[i]? with
       |none=>rw[zb]at hP;cases hP
       |some b=>
        rw[zb]at hP;cases hP;simp only[zb]at hQ;exact Ve hQ
     . intro h' tk hk
       have kp:∀b o,s.heap.get? b=some o->h'.get? b=some o:=λ b o q=>hk b o (by
        intro hb;have:b=s.heap.objs.size:=by simpa using hb
        exact absurd (RW q) (by rw[this];exact TY _)) (RE _ q)
       have ea:(List.range (bs.map Value.bool).toArray.size).all (λ i=>(bs[i]?).getD true)=bs.all id:=by
        rw[RM,Rz];exact range_all bs id _ λ i x e=>by rw[e];rfl
       rw[ea];exact⟨.bl (bs.all id),H,I.kept (t':=tk) kp,rfl,k.here P q S (by unfold Rep;rfl)⟩
   . exact q.elim
 . exact q.elim
def uC(st:af):D->Option String
 | .aB=>some "NoneType"
 | .bl _=>some "bool"
 | .int _=>some "int"
 | .str _=>some "str"
 | .lst _=>some "list"
 | .tup _=>some "tuple"
 | .ref n=>(match st[n]? with|some (.lst _)=>some "list"|_=>none)
 | .ty _=>none
@[simp] theorem Q3(st:af)(xs:List D):uC st (.lst xs)=some "list":=rfl
@[simp] theorem Rk(st:af)(xs:List D):uC st (.tup xs)=some "tuple":=rfl
@[simp] theorem ty_int(st:af)(i:Int):uC st (.int i)=some "int":=rfl
@[simp] theorem Rt(st:af)(i:Bool):uC st (.bl i)=some "bool":=rfl
@[simp] theorem ty_str(st:af)(i:Str):uC st (.str i)=some "str":=rfl
@[simp] theorem Rl(st:af):uC st .aB=some "NoneType":=rfl
end
end L3
namespace L3
open PySem PySem.Spec L2 PySem.SeqAt
open PyProof.Rows hiding St
mutual
def fC:D->D->Bool
 | .aB,.aB=>true
 | .bl a,.bl b=>a==b
 | .bl a,.int b=>(if a then 1 else 0)==b
 | .int a,.bl b=>a==(if b then 1 else 0)
 | .int a,.int b=>a==b
 | .str a,.str b=>a==b
 | .lst xs,.lst ys=>mV xs ys
 | .tup xs,.tup ys=>mV xs ys
 |_,_=>false
def mV:List D->List D->Bool
 | [],[]=>true
 |x::xs,y::ys=>fC x y&&mV xs ys
 |_,_=>false
end
def pl:Nat->D->Bool
 |_,.aB=>true
 |_,.bl _=>true
 |_,.int _=>true
 |_,.str _=>true
 |n+1,.lst xs=>xs.all (pl n)
 |n+1,.tup xs=>xs.all (pl n)
 |_,_=>false
mutual
def zG:∀(n:Nat) (d:D),pl n d=true->fC d d=true
 |_,.aB,_=>rfl
 |_,.bl _,_=>by simp[fC]
 |_,.int _,_=>by simp[fC]
 |_,.str _,_=>by simp[fC]
 |n+1,.lst xs,h=>by unfold fC;exact uk n xs (by unfold pl at h;exact h)
 |n+1,.tup xs,h=>by unfold fC;exact uk n xs (by unfold pl at h;exact h)
 |0,.lst xs,h=>by cases h
 |0,.tup xs,h=>by cases h
 |_,.ref _,h=>by unfold pl at h;cases h
 |_,.ty _,h=>by unfold pl at h;cases h
def uk:∀(n:Nat) (xs:List D),xs.all (pl n)=true->mV xs xs=true
 |_,[],_=>by unfold mV;rfl
 |n,x::xs,h=>by
  rw[UE,SV]at h;unfold mV;rw[zG n x h.1,uk n xs h.2];rfl
end
mutual
def Rep.inj{α:List (Option Addr)}{H:Hp}:∀ {d e:D} {v:V} (n:Nat),pl n d=true->pl n e=true->Rep α H d v->Rep α H e v->d=e
 | .aB,e,v,n,_,he,h1,h2=>by
   unfold Rep at h1;subst h1;cases e<;>first|(unfold pl at he;cases he;done)|(unfold Rep at h2;cases h2;rfl)|(unfold Rep at h2;cases h2;done)|(unfold Rep at h2;obtain⟨_,_,h2,_⟩:=h2;cases h2)|rfl|(cases h2;done)|(obtain⟨_,_,h2,_⟩:=h2;cases h2)|(obtain⟨_,_,h2⟩:=h2;cases h2)
 | .bl b,e,v,n,_,he,h1,h2=>by
   unfold Rep at h1;subst h1;cases e<;>first|(unfold pl at he;cases he;done)|(unfold Rep at h2;cases h2;rfl)|(unfold Rep at h2;cases h2;done)|(unfold Rep at h2;obtain⟨_,_,h2,_⟩:=h2;cases h2)|(cases h2;rfl)|(cases h2;done)|(obtain⟨_,_,h2,_⟩:=h2;cases h2)|(obtain⟨_,_,h2⟩:=h2;cases h2)
 | .int b,e,v,n,_,he,h1,h2=>by
   unfold Rep at h1;subst h1;cases e<;>first|(unfold pl at he;cases he;done)|(unfold Rep at h2;cases h2;rfl)|(unfold Rep at h2;cases h2;done)|(unfold Rep at h2;obtain⟨_,_,h2,_⟩:=h2;cases h2)|(cases h2;rfl)|(cases h2;done)|(obtain⟨_,_,h2,_⟩:=h2;cases h2)|(obtain⟨_,_,h2⟩:=h2;cases h2)
 | .str b,e,v,n,_,he,h1,h2=>by
   unfold Rep at h1;subst h1;cases e<;>first|(unfold pl at he;cases he;done)|(unfold Rep at h2;cases h2;rfl)|(unfold Rep at h2;cases h2;done)|(unfold Rep at h2;obtain⟨_,_,h2,_⟩:=h2;cases h2)|(cases h2;rfl)|(cases h2;done)|(obtain⟨_,_,h2,_⟩:=h2;cases h2)|(obtain⟨_,_,h2⟩:=h2;cases h2)
 | .ty b,e,v,n,hd,he,h1,h2=>by unfold pl at hd;cases hd
 | .ref b,e,v,n,hd,he,h1,h2=>by unfold pl at hd;cases hd
 | .lst xs,e,v,0,hd,he,h1,h2=>by cases hd
 | .tup xs,e,v,0,hd,he,h1,h2=>by cases hd
 | .lst xs,e,v,n+1,hd,he,h1,h2=>by
   unfold Rep at h1;obtain⟨a,vs,rfl,na,ha,ra⟩:=h1;cases e<;>unfold Rep at h2<;>try(cases h2;done)
   . unfold pl at he;cases he
   . obtain⟨a',vs',e',na',ha',ra'⟩:=h2;cases e'
     have:vs=vs':=by
      rcases ha with ha|⟨o,ha⟩<;>rcases ha' with ha'|⟨o',ha'⟩<;>(rw[ha]at ha';first|(cases ha';rfl)|(cases ha';done))
     subst this;rw[aL.inj n (by unfold pl at hd;exact hd) (by unfold pl at he;exact he) ra ra']
   . obtain⟨a',vs',e',na',ha',ra'⟩:=h2;cases e';rcases ha with ha|⟨o,ha⟩<;>(rw[ha]at ha';cases ha')
 | .tup xs,e,v,n+1,hd,he,h1,h2=>by
   unfold Rep at h1;obtain⟨a,vs,rfl,na,ha,ra⟩:=h1;cases e<;>unfold Rep at h2<;>try(cases h2;done)
   . unfold pl at he;cases he
   . obtain⟨a',vs',e',na',ha',ra'⟩:=h2;cases e';rcases ha' with ha'|⟨o,ha'⟩<;>(rw[ha]at ha';cases ha')
   . obtain⟨a',vs',e',na',ha',ra'⟩:=h2;cases e';rw[ha]at ha';cases ha';rw[aL.inj n (by unfold pl at hd;exact hd) (by unfold pl at he;exact he) ra ra']
def aL.inj{α:List (Option Addr)}{H:Hp}:∀ {ds es:List D} {vs:List V} (n:Nat),ds.all (pl n)=true->es.all (pl n)=true->aL α H ds vs->aL α H es vs->ds=es
 | [],es,vs,n,_,_,h1,h2=>by
   unfold aL at h1;subst h1;cases es with
   |nil=>rfl
   |cons e es=>unfold aL at h2;obtain⟨_,_,h,_⟩:=h2;cases h
 |d::ds,es,vs,n,hd,he,h1,h2=>by
  unfold aL at h1;obtain⟨v,r,rfl,r1,r2⟩:=h1;cases es with
  |nil=>unfold aL at h2;cases h2
  |cons e es=>
   unfold aL at h2;obtain⟨v',r',h,q1,q2⟩:=h2;cases h;rw[UE,SV]at hd he;rw[Rep.inj n hd.1 he.1 r1 q1,aL.inj n hd.2 he.2 r2 q2]
end
def vI:∀ {xs ys:List D},xs.length≠ys.length->mV xs ys=false
 | [],[],h=>absurd rfl h
 | [],_::_,_=>by unfold mV;rfl
 |_::_,[],_=>by unfold mV;rfl
 |x::xs,y::ys,h=>by
  unfold mV;rw[vI (by simpa using h),Bool.and_false]
def wb:∀ {xs ys:List D},xs.length=ys.length->mV xs ys=(List.range xs.length).all λ j=>fC (xs.getD j .aB) (ys.getD j .aB)
 | [],[],_=>by unfold mV;rfl
 | [],_::_,h=>by cases h
 |_::_,[],h=>by cases h
 |x::xs,y::ys,h=>by
  unfold mV;rw[So,Su,UE,List.all_map,wb (by simpa using h)];rfl
section
variable {X:Cx}{pins:List (Addr×Obj)}{σ:L2.St}{H:Hp}{s:Shared}{α:List (Option Addr)}
def uN{xs:List D}{vs:List V}{its:List Value}(r:aL α H xs vs)(v:Vals vs its)(j:Nat)(hj:j<its.length):∃x,xs[j]?=some (xs.getD j .aB)/\Rep α H (xs.getD j .aB) x/\RelV x its[j]:=by
 have h1:=r.length;have h2:=v.length;have hx:j<xs.length:=by omega
 have e:xs[j]?=some (xs.getD j .aB):=by rw[RJ hx,RI,RJ hx];rfl
 obtain⟨x,q,rr⟩:=r.get e;obtain⟨u,q2,rv⟩:=v.get q;rw[RJ hj]at q2;cases q2;exact⟨x,e,rr,rv⟩
def qZ{xs:List D}{n:Nat}(h:xs.all (pl n)=true)(j:Nat):pl n (xs.getD j .aB)=true:=by
 rw[RI];cases e:xs[j]? with
 |none=>cases n<;>rfl
 |some d=>exact Tx.mp h d (Sg e)
def IE:D->Bool
 | .aB=>true
 | .bl _=>true
 | .int _=>true
 | .str _=>true
 |_=>false
def Cn{A:Around}{d e:D}{x y:V}{u v:Value}(hd:IE d=true)(he:IE e=true)(rd:Rep α H d x)(re:Rep α H e y)(rx:RelV x u)(ry:RelV y v):RcAt A s u v (fC d e)/\EqAt A s u v (fC d e):=by
 cases d<;>cases e<;>try(first|(cases hd;done)|(cases he;done))
 all_goals(unfold Rep at rd re;subst rd re)
 all_goals(first|(obtain⟨t,rfl⟩:=rx;obtain⟨t',rfl⟩:=ry)|(obtain⟨t,rfl⟩:=rx;cases ry)|(cases rx;obtain⟨t,rfl⟩:=ry)|(cases rx;cases ry))
 all_goals unfold fC
 . exact⟨RcAt.none_none,EqAt.same _⟩
 . exact⟨RcAt.none_bool _,EqAt.none_bool _⟩
 . exact⟨RcAt.none_int _ _,EqAt.none_int _ _⟩
 . exact⟨RcAt.none_str _ _,EqAt.none_str _ _⟩
 . exact⟨RcAt.bool_none _,EqAt.bool_none _⟩
 . exact⟨RcAt.bool_bool _ _,EqAt.bool_bool _ _⟩
 . exact⟨RcAt.bool_int _ _ _,EqAt.bool_int _ _ _⟩
 . exact⟨RcAt.bool_str _ _ _,EqAt.bool_str _ _ _⟩
 . exact⟨RcAt.int_none _ _,EqAt.int_none _ _⟩
 . exact⟨RcAt.int_bool _ _ _,EqAt.int_bool _ _ _⟩
 . exact⟨RcAt.int_int _ _ _ _,EqAt.int_int _ _ _ _⟩
 . exact⟨RcAt.int_str _ _ _ _,EqAt.int_str _ _ _ _⟩
 . exact⟨RcAt.str_none _ _,EqAt.str_none _ _⟩
 . exact⟨RcAt.str_bool _ _ _,EqAt.str_bool _ _ _⟩
 . exact⟨RcAt.str_int _ _ _ _,EqAt.str_int _ _ _ _⟩
 . exact⟨RcAt.str_str _ _ _ _,EqAt.str_str _ _ _ _⟩
def lst_is(I:Inv X pins σ H s){xs:List D}{x:V}{u:Value}(r:Rep α H (.lst xs) x)(rx:RelV x u):∃a vs its,u= .ref a/\aL α H xs vs/\Vals vs its/\s.heap.IsList a its.toArray:=by
 unfold Rep at r;obtain⟨a,vs,rfl,na,ha,ra⟩:=r;cases rx;obtain⟨z,its,n,rv,hl,eo⟩:=Inv.wa I ha;exact⟨a,vs,its,rfl,ra,rv,⟨_,eo,rfl,n,rfl⟩⟩
def tup_is(I:Inv X pins σ H s){xs:List D}{x:V}{u:Value}(r:Rep α H (.tup xs) x)(rx:RelV x u):∃a vs its,u= .ref a/\aL α H xs vs/\Vals vs its/\s.heap.IsTuple a its.toArray:=by
 unfold Rep at r;obtain⟨a,vs,rfl,na,ha,ra⟩:=r;cases rx;obtain⟨its,r',p,hz⟩:=I.tuple (jO.of ha);exact⟨a,vs,its,rfl,ra,r',p⟩
def yx(I:Inv X pins σ H s){A:Around}{xs:List D}{e:D}{x y:V}{u v:Value}(he:IE e=true)(rd:Rep α H (.lst xs) x)(re:Rep α H e y)(rx:RelV x u)(ry:RelV y v)(hu:A.units<cLine):
 (RcAt A s u v (fC (.lst xs) e)/\EqAt A s u v (fC (.lst xs) e))/\RcAt A s v u (fC e (.lst xs))/\EqAt A s v u (fC e (.lst xs)):=by
 obtain⟨a,vs,its,rfl,_,_,hl⟩:=lst_is I rd rx;cases e<;>try(cases he;done)
 all_goals(unfold Rep at re;subst re)
 all_goals(first|(obtain⟨t,rfl⟩:=ry)|(cases ry))
 all_goals unfold fC
 . exact⟨⟨RcAt.list_none hl hu,EqAt.list_none hl hu⟩,RcAt.none_list hl hu,EqAt.none_list hl hu⟩
 . exact⟨⟨RcAt.list_bool _ hl hu,EqAt.list_bool _ hl hu⟩,RcAt.bool_list _ hl hu,EqAt.bool_list _ hl hu⟩
 . exact⟨⟨RcAt.list_int _ _ hl hu,EqAt.list_int _ _ hl hu⟩,RcAt.int_list _ _ hl hu,EqAt.int_list _ _ hl hu⟩
 . exact⟨⟨RcAt.list_str _ _ hl hu,EqAt.list_str _ _ hl hu⟩,RcAt.str_list _ _ hl hu,EqAt.str_list _ _ hl hu⟩
def yG(I:Inv X pins σ H s){A:Around}{xs:List D}{e:D}{x y:V}{u v:Value}(he:IE e=true)(rd:Rep α H (.tup xs) x)(re:Rep α H e y)(rx:RelV x u)(ry:RelV y v)(hu:A.units<cLine):
 (RcAt A s u v (fC (.tup xs) e)/\EqAt A s u v (fC (.tup xs) e))/\RcAt A s v u (fC e (.tup xs))/\EqAt A s v u (fC e (.tup xs)):=by
 obtain⟨a,vs,its,rfl,_,_,hl⟩:=tup_is I rd rx;cases e<;>try(cases he;done)
 all_goals(unfold Rep at re;subst re)
 all_goals(first|(obtain⟨t,rfl⟩:=ry)|(cases ry))
 all_goals unfold fC
 . exact⟨⟨RcAt.tuple_none hl hu,EqAt.tuple_none hl hu⟩,RcAt.none_tuple hl hu,EqAt.none_tuple hl hu⟩
 . exact⟨⟨RcAt.tuple_bool _ hl hu,EqAt.tuple_bool _ hl hu⟩,RcAt.bool_tuple _ hl hu,EqAt.bool_tuple _ hl hu⟩
 . exact⟨⟨RcAt.tuple_int _ _ hl hu,EqAt.tuple_int _ _ hl hu⟩,RcAt.int_tuple _ _ hl hu,EqAt.int_tuple _ _ hl hu⟩
 . exact⟨⟨RcAt.tuple_str _ _ hl hu,EqAt.tuple_str _ _ hl hu⟩,RcAt.str_tuple _ _ hl hu,EqAt.str_tuple _ _ hl hu⟩
def CF{A:Around}{n:Nat}{d e:D}{x y:V}{a b:Addr}(hd:pl n d=true)(he:pl n e=true)(rd:Rep α H d x)(re:Rep α H e y)(rx:RelV x (.ref a))(ry:RelV y (.ref b))(h:RcAt A s (.ref a) (.ref b) (fC d e)):
 RcAt A s (.ref a) (.ref b) (fC d e)/\EqAt A s (.ref a) (.ref b) (fC d e):=by
 refine⟨h,?_⟩;by_cases hab:a=b
 . subst hab;have hx:x=y:=RelV.inj rx ry;subst hx;have:=Rep.inj n hd he rd re;subst this;rw[zG n d hd];exact EqAt.same _
 . exact EqAt.of_refs hab h
def N_(I:Inv X pins σ H s):∀(n:Nat) (A:Around) (d e:D) (x y:V) (u v:Value),pl n d=true->pl n e=true->Rep α H d x->Rep α H e y->RelV x u->RelV y v->A.units+n<cLine->
 RcAt A s u v (fC d e)/\EqAt A s u v (fC d e):=by
 intro n;induction n with
 |zero=>
  intro A d e x y u v hd he rd re rx ry hu;refine Cn ?_ ?_ rd re rx ry
  . cases d<;>first|rfl|(cases hd)
  . cases e<;>first|rfl|(cases he)
 |succ n ih=>
  intro A d e x y u v hd he rd re rx ry hu;have hu0:A.units<cLine:=by omega
  have hin:A.in1.units+n<cLine:=by rw[Around.in1_units];omega
  cases d<;>try(cases hd;done)
  case lst xs=>
   cases e<;>try(cases he;done)
   case lst ys=>
    have rd0:=rd;have re0:=re;have rx0:=rx;have ry0:=ry;obtain⟨a,vs,its,rfl,r1,v1,l1⟩:=lst_is I rd rx;obtain⟨b,ws,jts,rfl,r2,v2,l2⟩:=lst_is I re ry;have e1:=r1.length;have e2:=v1.length;have e3:=r2.length;have e4:=v2.length;refine CF hd he rd0 re0 rx0 ry0 ?_;unfold fC;by_cases hlen:xs.length=ys.length
    . rw[wb hlen];have hsz:its.toArray.size=jts.toArray.size:=by simp only[RM];omega
      have hx:xs.length=its.toArray.size:=by simp only[RM];omega
      rw[hx];refine RcAt.lists l1 l2 hsz hu0 λ j h1 h2=>?_;have h1':j<its.length:=by simpa using h1
      have h2':j<jts.length:=by simpa using h2
      obtain⟨p,_,q1,q2⟩:=uN r1 v1 j h1';obtain⟨p',_,q1',q2'⟩:=uN r2 v2 j h2';exact(ih A.in1 _ _ p p' _ _ (qZ (by unfold pl at hd;exact hd) j) (qZ (by unfold pl at he;exact he) j) q1 q1' (by simpa using q2) (by simpa using q2') hin).2
    . rw[vI hlen];exact RcAt.lists_lengths l1 l2 (by simp only[RM,bne_iff_ne,ne_eq];omega) hu0
   case tup ys=>
    obtain⟨a,vs,its,rfl,r1,v1,l1⟩:=lst_is I rd rx;obtain⟨b,ws,jts,rfl,r2,v2,l2⟩:=tup_is I re ry;unfold fC;exact⟨RcAt.list_tuple l1 l2 hu0,EqAt.list_tuple l1 l2 hu0⟩
   all_goals exact(yx I rfl rd re rx ry hu0).1
  case tup xs=>
   cases e<;>try(cases he;done)
   case tup ys=>
    have rd0:=rd;have re0:=re;have rx0:=rx;have ry0:=ry;obtain⟨a,vs,its,rfl,r1,v1,l1⟩:=tup_is I rd rx;obtain⟨b,ws,jts,rfl,r2,v2,l2⟩:=tup_is I re ry;have e1:=r1.length;have e2:=v1.length;have e3:=r2.length;have e4:=v2.length;refine CF hd he rd0 re0 rx0 ry0 ?_;unfold fC
    have key:=RcAt.tuples (e:=λ j=>fC (xs.getD j .aB) (ys.getD j .aB)) l1 l2 hu0 λ j h1 h2=>by
     have h1':j<its.length:=by simpa using h1
     have h2':j<jts.length:=by simpa using h2
     obtain⟨p,_,q1,q2⟩:=uN r1 v1 j h1';obtain⟨p',_,q1',q2'⟩:=uN r2 v2 j h2';exact(ih A.in1 _ _ p p' _ _ (qZ (by unfold pl at hd;exact hd) j) (qZ (by unfold pl at he;exact he) j) q1 q1' (by simpa using q2) (by simpa using q2') hin).2
    by_cases hlen:xs.length=ys.length
    . rw[wb hlen];have hsz:its.toArray.size=jts.toArray.size:=by simp only[RM];omega
      have hx:xs.length=its.toArray.size:=by simp only[RM];omega
      rw[hsz,Xi,WE,Bool.and_true,<-hsz,<-hx]at key;exact key
    . rw[vI hlen];have hne:(its.toArray.size==jts.toArray.size)=false:=by simp only[RM,UQ,ne_eq];omega
      rw[hne,Bool.and_false]at key;exact key
   case lst ys=>
    obtain⟨a,vs,its,rfl,r1,v1,l1⟩:=tup_is I rd rx;obtain⟨b,ws,jts,rfl,r2,v2,l2⟩:=lst_is I re ry;unfold fC;exact⟨RcAt.tuple_list l1 l2 hu0,EqAt.tuple_list l1 l2 hu0⟩
   all_goals exact(yG I rfl rd re rx ry hu0).1
  all_goals
   cases e<;>try(cases he;done)
   case lst ys=>exact(yx I rfl re rd ry rx hu0).2
   case tup ys=>exact(yG I rfl re rd ry rx hu0).2
   all_goals exact Cn rfl rfl rd re rx ry
def NB:dy:=λ x y st K=>pl 40 x=true/\pl 40 y=true/\K (.bl (fC x y)) st
def Qj{k:Nat}(hr:c8 k X.A):cf X (compareOp .Eq) (LR NB):=λ pins s σ H x y v u Q I rx ry ⟨α,d,e,st,K,G,F',P,r1,r2,S,q,k⟩=>by
 have hu:=hr.units;exact(N_ I 40 X.A d e x y v u q.1 q.2.1 (r1.mono P.same) (r2.mono P.same) rx ry (by omega)).1 _ _ _ _ ⟨.bl (fC d e),H,I,rfl,k.here P q.2.2 S (by unfold Rep;rfl)⟩
def MD:dy:=λ x y st K=>match x,y with
 | .int i,.int j=>K (.bl (!decide (i=j))) st
 | .bl i,.bl j=>K (.bl (!decide (i=j))) st
 | .str i,.str j=>K (.bl (!decide (i=j))) st
 |_,_=>False
def QM:cf X (compareOp .NotEq) (LR MD):=cf.imp OQ λ x y H Q ⟨α,d,e,st,K,G,F',P,r1,r2,S,q,k⟩=>by
 cases d<;>cases e<;>try exact q.elim
 all_goals(unfold Rep at r1 r2;subst r1 r2)
 . exact⟨rfl,k.here P q S (by unfold Rep;congr 2;exact VJ.mpr ⟨λ h=>by cases h;rfl,λ h=>by rw[h]⟩)⟩
 . exact⟨rfl,k.here P q S (by unfold Rep;congr 2;exact VJ.mpr ⟨λ h=>by cases h;rfl,λ h=>by rw[h]⟩)⟩
 . exact⟨rfl,k.here P q S (by unfold Rep;congr 2;exact VJ.mpr ⟨λ h=>by cases h;rfl,λ h=>by rw[h]⟩)⟩
end
end L3
namespace L3
open PySem PySem.Spec L2
open PyProof.Rows hiding St
def LC(α:List (Option Addr))(G F:Hp)(K:bQ->af->Prop)(Q:L2.St->Hp->Prop):Prop:=∀σd' st',K σd' st'->∀α' G' H' σ',Step α G α' G'->cn G' F H'->eH α' G' σd' σ'->aZ α' st' G'->Q σ' H'
structure zy(α:List (Option Addr))(G F:Hp)(DD:nr)(D:Ends):Prop where
 nx:LC α G F DD.nx D.nx
 rt:LK α G F DD.rt D.rt
 bk:LC α G F DD.bk D.bk
 ct:LC α G F DD.ct D.ct
inductive PL(t:DS)(D:Ends)(σ:L2.St)(H:Hp):Prop
 |mk (α:List (Option Addr)) (σd:bQ) (st:af) (DD:nr) (G F:Hp) (P:cn G F H) (R:eH α G σd σ) (S:aZ α st G) (h:t DD σd st) (k:zy α G F DD D):PL t D σ H
def LS(t:DS):TS:=PL t
def LC.at{α α1:List (Option Addr)}{G F G1:Hp}{K:bQ->af->Prop}{Q:L2.St->Hp->Prop}(h:LC α G F K Q)(s:Step α G α1 G1):LC α1 G1 F K Q:=λ d st' k α' G' H' v s' P R S=>h d st' k α' G' H' v (s.trans s') P R S
def LC.here{α:List (Option Addr)}{G F H:Hp}{K:bQ->af->Prop}{Q:L2.St->Hp->Prop}(h:LC α G F K Q)(P:cn G F H){σd:bQ}{st:af}{σ:L2.St}(k:K σd st)(R:eH α G σd σ)(S:aZ α st G):Q σ H:=h σd st k α G H σ Step.refl P R S
def zy.at{α α1:List (Option Addr)}{G F G1:Hp}{DD:nr}{D:Ends}(h:zy α G F DD D)(s:Step α G α1 G1):zy α1 G1 F DD D:=⟨h.nx.at s,h.rt.at s,h.bk.at s,h.ct.at s⟩
section
variable {X:Cx}{a b c e o i:Expr}{es:List Expr}{ta tb tc te:DE}{pos:Pos}{st:Stmt}{sts:List Stmt}{t u:DS}
def PS.imp{t t':TS}(h:PS X st t)(f:∀D σ H,t' D σ H->t D σ H):PS X st t':=λ pins s σ H D I q=>h pins s σ H D I (f D σ H q)
def iS.imp{t t':TS}(h:iS X sts t)(f:∀D σ H,t' D σ H->t D σ H):iS X sts t':=λ pins s σ H D I q=>h pins s σ H D I (f D σ H q)
def ix:DS:=λ D σ st=>D.nx σ st
def aF(t u:DS):DS:=λ D σ st=>t {D with nx:=u D} σ st
def JP:iS X [] (LS ix):=iS.imp Kr λ D σ H ⟨α,σd,st,DD,G,F,P,R,S,t,k⟩=>k.nx.here P t R S
def Js(h:PS X st (LS t)):iS X [st] (LS t):=Kg h
def Hy(h:PS X st (LS t))(h2:iS X sts (LS u)):iS X (st::sts) (LS (aF t u)):=iS.imp (GS h h2) λ D σ H ⟨α,σd,st,DD,G,F,P,R,S,t,k⟩=>
 ⟨α,σd,st,_,G,F,P,R,S,t,λ σd' st' q α' G' H' σ' s' P' R' S'=>⟨α',σd',st',DD,G',F,P',R',S',q,k.at s'⟩,k.rt,k.bk,k.ct⟩
def cT(te:DE):DS:=λ D σ st=>te σ st D.rt
def NC(h:PE X e (LE te)):PS X (.Return (some e) pos) (LS (cT te)):=PS.imp (L8 h) λ D σ H ⟨α,σd,st,DD,G,F,P,R,S,t,k⟩=>⟨α,σd,st,_,G,F,P,R,S,t,k.rt⟩
def fG(te:DE):DS:=λ D σ st=>te σ st λ _ st1=>D.nx σ st1
def JV(h:PE X e (LE te))(hs:swapsWith e none pos.line X.env=pure false:=by rfl):PS X (.Expr e pos) (LS (fG te)):=PS.imp (Ks h hs) λ D σ H ⟨α,σd,st,DD,G,F,P,R,S,t,k⟩=>
 ⟨α,σd,st,_,G,F,P,R,S,t,λ d st1 q α1 G1 H1 v s1 P1 S1 r1=>(k.nx.at s1).here P1 q (R.step s1) S1⟩
def jZ(c:DT)(t u:DS):DS:=λ D σ st=>c σ st λ b st1=>if b=true then t D σ st1 else u D σ st1
def O5{x y:List Stmt}{tc:DT}(hc:PT X c (LT tc))(ha:iS X x (LS t))(hb:iS X y (LS u)):PS X (.If c x y pos) (LS (jZ tc t u)):=PS.imp (Oa hc ha hb) λ D σ H ⟨α,σd,st,DD,G,F,P,R,S,t,k⟩=>by
 refine⟨α,σd,st,_,G,F,P,R,S,t,λ b st1 q α1 G1 H1 s1 P1 S1=>?_⟩;cases b with
 |true=>exact⟨α1,σd,st1,DD,G1,F,P1,R.step s1,S1,q,k.at s1⟩
 |false=>exact⟨α1,σd,st1,DD,G1,F,P1,R.step s1,S1,q,k.at s1⟩
abbrev fP:=D->bQ->Option bQ
def bz(i:Nat):fP:=λ d σ=>some (σ.set i (some d))
def ka(i j:Nat):fP:=λ d σ=>match d with| .tup [x,y]=>some ((σ.set i (some x)).set j (some y))|_=>none
inductive PR(t:fP)(v:V)(σ:L2.St)(H:Hp)(Q:L2.St->Hp->Prop):Prop
 |mk (α:List (Option Addr)) (σd:bQ) (st:af) (d:D) (K:bQ->af->Prop) (G F:Hp) (P:cn G F H) (R:eH α G σd σ) (S:aZ α st G) (r:Rep α G d v) (h:∃σ',t d σd=some σ'/\K σ' st) (k:LC α G F K Q):PR t v σ H Q
def LG(t:fP):TG:=PR t
def PG.imp{tg:Expr}{t t':TG}(h:PG X tg t)(f:∀v σ H Q,t' v σ H Q->t v σ H Q):PG X tg t':=λ pins s σ H v u Q I r q=>h pins s σ H v u Q I r (f v σ H Q q)
def KI{tg:Expr}{i:Nat}(h:PG X tg (nc i)):PG X tg (LG (bz i)):=PG.imp h λ v σ H Q ⟨α,σd,st,d,K,G,F,P,R,S,r,⟨σ',e,q⟩,k⟩=>by
 cases e;exact k.here P q (R.set i r) S
def MM{tg:Expr}{i j:Nat}(h:PG X tg (Ly X.K 2 (wQ (nc i) (wQ (nc j) HW)))):PG X tg (LG (ka i j)):=PG.imp h λ v σ H Q ⟨α,σd,st,d,K,G,F,P,R,S,r,⟨σ',e,q⟩,k⟩=>by
 unfold ka at e;split at e
 . rename_i x y;cases e;unfold Rep at r;obtain⟨a,vs,rfl,na,h1,h2⟩:=r;obtain⟨v1,v2,rfl,r1,r2⟩:=rm h2 rfl;exact⟨a,_,rfl,.of (P.get h1),rfl,v1,_,rfl,v2,_,rfl,rfl,k.here P q ((R.set i r1).set j r2) S⟩
 . cases e
def bo(i:Nat)(te:DE):DS:=λ D σ st=>te σ st λ d st1=>D.nx (σ.set i (some d)) st1
def MY{i:Nat}(h:PS X st (mR (LE te) (nc i))):PS X st (LS (bo i te)):=PS.imp h λ D σ H ⟨α,σd,st,DD,G,F,P,R,S,t,k⟩=>
 ⟨α,σd,st,_,G,F,P,R,S,t,λ d st1 q α1 G1 H1 v s1 P1 S1 r1=>(k.nx.at s1).here P1 q ((R.step s1).set i r1) S1⟩
def GB(tg:fP)(te:DE):DS:=λ D σ st=>te σ st λ d st1=>∃σ',tg d σ=some σ'/\D.nx σ' st1
def Mm{tg:fP}(h:PS X st (mR (LE te) (LG tg))):PS X st (LS (GB tg te)):=PS.imp h λ D σ H ⟨α,σd,st,DD,G,F,P,R,S,t,k⟩=>
 ⟨α,σd,st,_,G,F,P,R,S,t,λ d st1 q α1 G1 H1 v s1 P1 S1 r1=>⟨α1,σd,st1,d,DD.nx,G1,F,P1,R.step s1,S1,r1,q,k.nx.at s1⟩⟩
def D3(i j:Nat)(ta:DA):DS:=λ D σ st=>ta σ st λ ds st1=>match ds with| [x,y]=>D.nx ((σ.set i (some x)).set j (some y)) st1|_=>False
def MP{i j:Nat}{ta:DA}(h:PS X st (MT i j (LA ta))):PS X st (LS (D3 i j ta)):=PS.imp h λ D σ H ⟨α,σd,st,DD,G,F,P,R,S,t,k⟩=>by
 refine⟨α,σd,st,_,G,F,P,R,S,t,λ ds st1 q α1 G1 H1 vs s1 P1 S1 r1=>?_⟩;match ds,q,r1 with
 | [x,y],q,r1=>
   obtain⟨v1,v2,rfl,q1,q2⟩:=rm r1 rfl;exact⟨v1,v2,rfl,(k.nx.at s1).here P1 q (((R.step s1).set i q1).set j q2) S1⟩
def C3(i:Nat)(r:dy)(te:DE):DS:=λ D σ st=>match σ[i]? with|some (some x)=>te σ st λ y st1=>r x y st1 λ z st2=>D.nx (σ.set i (some z)) st2|_=>False
def Br(f:Int->Int->Int):dy:=λ x y st K=>match x,y with| .int i,.int j=>K (.int (f i j)) st|_,_=>False
def NU{i:Nat}{f:Int->Int->Int}(h:PS X st (Nj i (LE te) (NL f))):PS X st (LS (C3 i (Br f) te)):=PS.imp h λ D σ H ⟨α,σd,st,DD,G,F,P,R,S,t,k⟩=>by
 unfold C3 at t;split at t
 . rename_i x e;obtain⟨v,ev,rv⟩:=R.at' i x e;refine⟨v,ev,α,σd,st,_,G,F,P,R,S,t,λ y st1 q α1 G1 H1 w s1 P1 S1 r1=>?_⟩;cases x<;>cases y<;>try exact q.elim
   have rv':=rv;unfold Rep at rv r1;exact⟨_,_,rv,r1,(k.nx.at s1).here P1 q ((R.step s1).set i (by unfold Rep;rfl)) S1⟩
 . exact t.elim
def A7(x y d:D)(st:af)(K:af->Prop):Prop:=match x,y with
 | .ref n,.int k=>(match st[n]? with
   |some (.lst xs)=>(match o4 xs.length k with|some j=>K (st.set n (.lst (xs.set j d)))|none=>False)
   |_=>False)
 |_,_=>False
def MX(to ti te:DE):DS:=λ D σ st=>te σ st λ d st1=>to σ st1 λ x st2=>ti σ st2 λ y st3=>A7 x y d st3 λ st4=>D.nx σ st4
def GF{to ti:DE}(h:PS X st (mR (LE te) (xT (LE to) (LE ti) uM))):PS X st (LS (MX to ti te)):=PS.imp h λ D σ H ⟨α,σd,st,DD,G,F,P,R,S,t,k⟩=>by
 refine⟨α,σd,st,_,G,F,P,R,S,t,λ d st1 q α1 G1 H1 v s1 P1 S1 r1=>?_⟩;refine⟨α1,σd,st1,_,G1,F,P1,R.step s1,S1,q,λ x st2 q2 α2 G2 H2 v2 s2 P2 S2 r2=>?_⟩;refine⟨α2,σd,st2,_,G2,F,P2,(R.step s1).step s2,S2,q2,λ y st3 q3 α3 G3 H3 v3 s3 P3 S3 r3=>?_⟩;cases x<;>cases y<;>try exact q3.elim
 rename_i n kk;unfold A7 at q3;simp only at q3;split at q3
 . rename_i xs e;split at q3
   . rename_i j ej;obtain⟨p,ep,vs,hv,rv⟩:=S3.i8 e;have r2':=fb ep (r2.step s3);subst r2';unfold Rep at r3;have hm:some p∈α3:=Sg ep;have rd:=(r1.step s2).step s3;refine⟨p,vs,kk,j,rfl,r3,P3.get hv,by rw[<-rv.length];exact ej,?_⟩;refine(((k.nx.at s1).at s2).at s3) σd _ q3 α3 (upd G3 p (.lst (vs.set j v))) _ σ (Step.write hm) (P3.write hv) ((((R.step s1).step s2).step s3).step (Step.write hm)) ?_;exact S3.write ep ⟨vs.set j v,a6,(aT.mpr (rV rd j (aT.mp rv))).step (Step.write hm)⟩
   . exact q3.elim
 . exact q3.elim
def qW(c:DT)(tb:DS):DS:=λ D σ st=>∃W:Nat->bQ->af->Prop,(∃m,W m σ st)/\∀m σ st,W m σ st->
 c σ st λ b st1=>if b=true then tb {D with nx:=λ σ' st'=>∃m',m'<m/\W m' σ' st',ct:=λ σ' st'=>∃m',m'<m/\W m' σ' st',bk:=D.nx} σ st1 else D.nx σ st1
def HG{tc:DT}(h:PS X st (F3 (LT tc) (LS t))):PS X st (LS (qW tc t)):=PS.imp h λ D σ H ⟨α,σd,st,DD,G,F,P,R,S,⟨W,⟨m0,w0⟩,turn⟩,k⟩=>by
 refine⟨λ m σ' H'=>∃α' σd' st' G',Step α G α' G'/\cn G' F H'/\eH α' G' σd' σ'/\aZ α' st' G'/\W m σd' st',⟨m0,α,σd,st,G,Step.refl,P,R,S,w0⟩,?_⟩;rintro m σ1 H1 ⟨α1,σd1,st1,G1,s1,P1,R1,S1,w1⟩;refine⟨α1,σd1,st1,_,G1,F,P1,R1,S1,turn m σd1 st1 w1,λ b st2 q α2 G2 H2 s2 P2 S2=>?_⟩;cases b with
 |false=>exact((k.nx.at s1).at s2).here P2 q (R1.step s2) S2
 |true=>
  refine⟨λ σ' H'=>∃m',m'<m/\∃α' σd' st' G',Step α G α' G'/\cn G' F H'/\eH α' G' σd' σ'/\aZ α' st' G'/\W m' σd' st',λ σ' H' z=>z,?_⟩;refine⟨α2,σd1,st2,_,G2,F,P2,R1.step s2,S2,q,?_⟩;refine⟨?_,(k.rt.at s1).at s2,(k.nx.at s1).at s2,?_⟩
  . rintro σd3 st3 ⟨m',hm,w3⟩ α3 G3 H3 σ3 s3 P3 R3 S3;exact⟨m',hm,α3,σd3,st3,G3,(s1.trans s2).trans s3,P3,R3,S3,w3⟩
  . rintro σd3 st3 ⟨m',hm,w3⟩ α3 G3 H3 σ3 s3 P3 R3 S3;exact⟨m',hm,α3,σd3,st3,G3,(s1.trans s2).trans s3,P3,R3,S3,w3⟩
abbrev DI:=bQ->af->(List D->(af->Prop)->af->Prop)->Prop
structure xO(J:It)(α:List (Option Addr))(G:Hp)(ok:af->Prop)(xs:List D):Prop where
 stop:∀(n:Nat) α' G' F' H' st',Step α G α' G'->cn G' F' H'->aZ α' st' G'->ok st'->xs.length<=n->J.stop n H'
 go:∀(n:Nat) d α' G' F' H' st',Step α G α' G'->cn G' F' H'->aZ α' st' G'->ok st'->xs[n]?=some d->J.go n H'
 qI:∀(n:Nat) d α' G' F' H' st' x H'',Step α G α' G'->cn G' F' H'->aZ α' st' G'->ok st'->xs[n]?=some d->J.qI n H' x H''->∃G'',Step α' G' α' G''/\cn G'' F' H''/\aZ α' st' G''/\Rep α' G'' d x
def LI(t:DI):TI:=λ σ H R=>∃α σd st K G F,cn G F H/\eH α G σd σ/\aZ α st G/\t σd st K/\∀xs ok st1,K xs ok st1->∀J α1 G1 H1,Step α G α1 G1->cn G1 F H1->aZ α1 st1 G1->xO J α1 G1 ok xs->R J H1
def xY(d:D)(st1:af)(K:List D->(af->Prop)->af->Prop):Prop:=match d with
 | .lst xs=>K xs (λ _=>True) st1
 | .tup xs=>K xs (λ _=>True) st1
 | .ref n=>(match st1[n]? with|some (.lst xs)=>K xs (λ st'=>st'[n]?=some (.lst xs)) st1|_=>False)
 |_=>False
def Pt(t:DE):DI:=λ σ st K=>t σ st λ d st1=>xY d st1 K
def Ck{K:PySem.W.Frag}{a:Addr}{α:List (Option Addr)}{G:Hp}{ok:af->Prop}{xs:List D}
 (h:∀α' G' st',Step α G α' G'->aZ α' st' G'->ok st'->∃vs,Rd G' a (.lst vs)/\aL α' G' xs vs):xO (Nm K a) α G ok xs where
 stop:=λ n α' G' F' H' st' s P S o hn=>by
  obtain⟨vs,h1,h2⟩:=h α' G' st' s S o;exact⟨vs,.inl (fF P h1),by rw[<-h2.length];exact hn⟩
 go:=λ n d α' G' F' H' st' s P S o hn=>by
  obtain⟨vs,h1,h2⟩:=h α' G' st' s S o;obtain⟨v,e,_⟩:=h2.get hn;exact⟨vs,v,.inl (fF P h1),e⟩
 qI:=λ n d α' G' F' H' st' x H'' s P S o hn y=>by
  obtain⟨vs,h1,h2⟩:=h α' G' st' s S o;obtain⟨v,e,r⟩:=h2.get hn;obtain⟨rfl,y⟩:=y;have:=y vs (.inl (fF P h1));rw[e]at this;cases this;exact⟨G',Step.refl,P,S,r⟩
def LW{K:PySem.W.Frag}{a:Addr}{α:List (Option Addr)}{G:Hp}{ok:af->Prop}{xs:List D}
 (h:∀α' G' st',Step α G α' G'->aZ α' st' G'->ok st'->∃vs,G' a=some (.tup vs)/\aL α' G' xs vs):xO (M0 K a) α G ok xs where
 stop:=λ n α' G' F' H' st' s P S o hn=>by
  obtain⟨vs,h1,h2⟩:=h α' G' st' s S o;exact⟨vs,.of (P.get h1),by rw[<-h2.length];exact hn⟩
 go:=λ n d α' G' F' H' st' s P S o hn=>by
  obtain⟨vs,h1,h2⟩:=h α' G' st' s S o;obtain⟨v,e,_⟩:=h2.get hn;exact⟨vs,v,.of (P.get h1),e⟩
 qI:=λ n d α' G' F' H' st' x H'' s P S o hn y=>by
  obtain⟨vs,h1,h2⟩:=h α' G' st' s S o;obtain⟨v,e,r⟩:=h2.get hn;obtain⟨rfl,y⟩:=y;have:=y vs (.of (P.get h1));rw[e]at this;cases this;exact⟨G',Step.refl,P,S,r⟩
def Gn{α α':List (Option Addr)}{G G':Hp}{a:Addr}{vs:List V}{xs:List D}(s:Step α G α' G')(na:some a∉α)(h1:Rd G a (.lst vs))(h2:aL α G xs vs):Rd G' a (.lst vs)/\aL α' G' xs vs:=by
 refine⟨?_,h2.step s⟩;rcases h1 with h|⟨o,h⟩
 . exact .inl (s.ext _ _ na h)
 . exact .inr ⟨o,s.ext _ _ na h⟩
def Nd{l tg:Expr}{tl:DE}(hl:PE X l (LE tl)):PI X tg l (LI (Pt tl)):=by
 intro pins s σ H R I h;obtain⟨α,σd,st,K,G,F,P,RS,S,t,k⟩:=h;refine cu (hl pins s σ H (λ x H1=>∃d α1 G1 st1,Step α G α1 G1/\cn G1 F H1/\aZ α1 st1 G1/\Rep α1 G1 d x/\xY d st1 K) I ⟨α,σd,st,_,G,F,P,RS,S,t,λ d st1 q α1 G1 H1 v s1 P1 S1 r1=>⟨d,α1,G1,st1,s1,P1,S1,r1,q⟩⟩) λ v s1 ⟨x,H1,I1,rx,d,α1,G1,st1,s1',P1,S1,r1,q⟩=>?_;unfold xY at q
 have viaL:∀ {a:Addr} {vs:List V},x= .ref a->Rd H1 a (.lst vs)->R (Nm X.K a) H1->wpAny (model X.prog X.w) X.A (pyIter v) (Jo X pins σ tg R) X.xe s1:=by
  intro a vs ex hr hR;subst ex;cases rx;obtain⟨its,rv,p,hz⟩:=I1.list (.inl hr);refine VD p.isList ?_;refine⟨s1.heap.objs.size,[s1.heap.objs.size],_,_,H1,rfl,I1.kept (t':=s1.toks) λ b o e=>RE _ e,Ex a _,⟨_,R_ _ rfl,rfl,rfl⟩,λ b hb=>?_,hR⟩;have e:b=s1.heap.objs.size:=by simpa using hb
  subst e;exact I1.yi (Rv _) (I1.aM.fresh (Rv _))
 have viaT:∀ {a:Addr} {vs:List V},x= .ref a->H1 a=some (.tup vs)->R (M0 X.K a) H1->wpAny (model X.prog X.w) X.A (pyIter v) (Jo X pins σ tg R) X.xe s1:=by
  intro a vs ex hr hR;subst ex;cases rx;obtain⟨its,rv,p,hz⟩:=I1.tuple (jO.of hr);refine UY (show s1.heap.IsTuple a its.toArray from p) ?_;refine⟨s1.heap.objs.size,[s1.heap.objs.size],_,_,H1,rfl,I1.kept (t':=s1.toks) λ b o e=>RE _ e,Dw a _,⟨_,R_ _ rfl,rfl,rfl⟩,λ b hb=>?_,hR⟩;have e:b=s1.heap.objs.size:=by simpa using hb
  subst e;exact I1.yi (Rv _) (I1.aM.fresh (Rv _))
 cases d<;>try exact q.elim
 . rename_i n;simp only at q;split at q
   . rename_i xs e;obtain⟨a,ea,vs,h1,h2⟩:=S1.i8 e;have r1':=fb ea r1;subst r1';refine viaL rfl (fF P1 (.of h1)) (k _ _ st1 q _ α1 G1 H1 s1' P1 S1 (Ck λ α' G' st' s S o=>?_));obtain⟨b,eb,ws,g1,g2⟩:=S.i8 o
     have hb:b=a:=by
      rcases s.pre _ _ ea with z|z<;>(rw[z]at eb;cases eb)
      rfl
     subst hb;exact⟨ws,.of g1,g2⟩
   . exact q.elim
 . unfold Rep at r1;obtain⟨a,vs,rfl,na,ha,ra⟩:=r1;exact viaL rfl (fF P1 ha) (k _ _ st1 q _ α1 G1 H1 s1' P1 S1 (Ck λ α' G' st' s S o=>⟨vs,Gn s na ha ra⟩))
 . unfold Rep at r1;obtain⟨a,vs,rfl,na,ha,ra⟩:=r1;exact viaT rfl (P1.get ha) (k _ _ st1 q _ α1 G1 H1 s1' P1 S1 (LW λ α' G' st' s S o=>⟨vs,s.ext _ _ na ha,ra.step s⟩))
def cY(lo:Int)(n:Nat):List D:=(List.range n).map λ(k:Nat)=>D.int (lo+(k:Int))
def wG{lo:Int}{n k:Nat}:(cY lo n)[k]?=if k<n then some (.int (lo+(k:Int)))else none:=by
 unfold cY;rw[RP];by_cases h:k<n
 . rw[Vq h,RC h];rfl
 . rw[Uc (by simpa using h),Rx h];rfl
def i6{lo:Int}{n:Nat}:(cY lo n).length=n:=by unfold cY;simp
def AU{α:List (Option Addr)}{G:Hp}{lo:Int}{n:Nat}:xO (yC lo n) α G (λ _=>True) (cY lo n) where
 stop:=λ m α' G' F' H' st' s P S o hn=>by rw[i6]at hn;exact hn
 go:=λ m d α' G' F' H' st' s P S o hn=>by
  rw[wG]at hn;split at hn
  . assumption
  . cases hn
 qI:=λ m d α' G' F' H' st' x H'' s P S o hn y=>by
  obtain⟨rfl,rfl⟩:=y;rw[wG]at hn;split at hn
  . cases hn;exact⟨G',Step.refl,P,S,by unfold Rep;rfl⟩
  . cases hn
def PI.imp{tg iter:Expr}{t t':TI}(h:PI X tg iter t)(f:∀σ H R,t' σ H R->t σ H R):PI X tg iter t':=λ pins s σ H R I q=>h pins s σ H R I (f σ H R q)
def Jk(ds:List D)(st1:af)(K:List D->(af->Prop)->af->Prop):Prop:=match ds with
 | [.int j]=>(-(2^62)<=j/\j<2^62)/\K (cY 0 j.toNat) (λ _=>True) st1
 |_=>False
def ID(ds:List D)(st1:af)(K:List D->(af->Prop)->af->Prop):Prop:=match ds with
 | [.int i,.int j]=>(-(2^62)<=i/\i<2^62/\ -(2^62)<=j/\j<2^62)/\K (cY i (j-i).toNat) (λ _=>True) st1
 |_=>False
def Jq(t:DA):DI:=λ σ st K=>t σ st λ ds st1=>Jk ds st1 K
def K_(t:DA):DI:=λ σ st K=>t σ st λ ds st1=>ID ds st1 K
def Et{tg iter:Expr}{t:DA}(h:PI X tg iter (D8 (LA t))):PI X tg iter (LI (Jq t)):=PI.imp h λ σ H R ⟨α,σd,st,K,G,F,P,RS,S,t,k⟩=>by
 refine⟨α,σd,st,_,G,F,P,RS,S,t,λ ds st1 q α1 G1 H1 vs s1 P1 S1 r1=>?_⟩;match ds,q,r1 with
 | [.int j],q,r1=>
   obtain⟨v,rfl,r2⟩:=ja r1 rfl;unfold Rep at r2;subst r2;exact⟨j,rfl,q.1.1,q.1.2,k _ _ st1 q.2 _ α1 G1 H1 s1 P1 S1 AU⟩
def EM{tg iter:Expr}{t:DA}(h:PI X tg iter (DN (LA t))):PI X tg iter (LI (K_ t)):=PI.imp h λ σ H R ⟨α,σd,st,K,G,F,P,RS,S,t,k⟩=>by
 refine⟨α,σd,st,_,G,F,P,RS,S,t,λ ds st1 q α1 G1 H1 vs s1 P1 S1 r1=>?_⟩;match ds,q,r1 with
 | [.int i,.int j],q,r1=>
   obtain⟨v,u,rfl,r2,r3⟩:=rm r1 rfl;unfold Rep at r2 r3;subst r2 r3;exact⟨i,j,rfl,q.1,k _ _ st1 q.2 _ α1 G1 H1 s1 P1 S1 AU⟩
def ik(tg:fP)(body:DS)(ok:af->Prop)(E:nr):List D->bQ->af->Prop
 | [],σ,st=>ok st/\E.nx σ st
 |x::xs,σ,st=>ok st/\∃σ1,tg x σ=some σ1/\body {E with nx:=ik tg body ok E xs,ct:=ik tg body ok E xs,bk:=E.nx} σ1 st
def gR(src:DI)(tg:fP)(body:DS):DS:=λ D σ st=>src σ st λ xs ok st1=>ik tg body ok D xs σ st1
def Ml{src:DI}{tg:fP}(h:PS X st (Mf (LI src) (LG tg) (LS t))):PS X st (LS (gR src tg t)):=PS.imp h λ D σ H ⟨α,σd,st,DD,G,F,P,R,S,tt,k⟩=>by
 refine⟨α,σd,st,_,G,F,P,R,S,tt,λ xs ok st1 q J α1 G1 H1 s1 P1 S1 it=>?_⟩;refine⟨λ i m σ' H'=>∃α' σd' st' G',Step α1 G1 α' G'/\cn G' F H'/\eH α' G' σd' σ'/\aZ α' st' G'/\ik tg t ok DD (xs.drop i) σd' st'/\m=xs.length-i,⟨xs.length,α1,σd,st1,G1,Step.refl,P1,R.step s1,S1,q,rfl⟩,?_⟩;rintro i m σ2 H2 ⟨α2,σd2,st2,G2,s2,P2,R2,S2,q2,rfl⟩;cases e:xs[i]? with
 |none=>
  have hl:xs.length<=i:=Wx.mp e;rw[S8 hl]at q2;unfold ik at q2;exact .inl ⟨it.stop i α2 G2 F H2 st2 s2 P2 S2 q2.1 hl,((k.nx.at s1).at s2).here P2 q2.2 R2 S2⟩
 |some d=>
  have hl:i<xs.length:=(RB.mp e).1
  have ed:xs.drop i=d::xs.drop (i+1):=by
   rw[SA hl];congr 1;rw[RJ hl]at e;exact SS e
  rw[ed]at q2;unfold ik at q2;obtain⟨aM,σ3,e3,q3⟩:=q2;refine .inr ⟨it.go i d α2 G2 F H2 st2 s2 P2 S2 aM e,λ σ' H'=>∃α' σd' st' G',Step α1 G1 α' G'/\cn G' F H'/\eH α' G' σd' σ'/\aZ α' st' G'/\ik tg t ok DD (xs.drop (i+1)) σd' st',?_,?_⟩
  . rintro σ' H' ⟨α',σd',st',G',z1,z2,z3,z4,z5⟩;exact⟨xs.length-(i+1),by omega,α',σd',st',G',z1,z2,z3,z4,z5,rfl⟩
  . intro x H' y;obtain⟨G3,s3,P3,S3,r3⟩:=it.qI i d α2 G2 F H2 st2 x H' s2 P2 S2 aM e y;refine⟨α2,σd2,st2,d,λ σ' st'=>σ'=σ3/\st'=st2,G3,F,P3,R2.step s3,S3,r3,⟨σ3,e3,rfl,rfl⟩,?_⟩;rintro σ' st' ⟨rfl,rfl⟩ α4 G4 H4 σ4 s4 P4 R4 S4;have s24:=(s2.trans s3).trans s4;refine⟨α4,σ',st',_,G4,F,P4,R4,S4,q3,?_,((k.rt.at s1).at s24),(k.nx.at s1).at s24,?_⟩
    . intro σd5 st5 q5 α5 G5 H5 σ5 s5 P5 R5 S5;exact⟨α5,σd5,st5,G5,s24.trans s5,P5,R5,S5,q5⟩
    . intro σd5 st5 q5 α5 G5 H5 σ5 s5 P5 R5 S5;exact⟨α5,σd5,st5,G5,s24.trans s5,P5,R5,S5,q5⟩
end
def iJ(fr:List (Option Nat))(σ:bQ):bQ:=fr.map λ o=>o.bind λ j=>(σ[j]?).join
def eH.comp{α:List (Option Addr)}{G:Hp}{σd:bQ}{σ:L2.St}{fr:List (Option Nat)}(h:eH α G σd σ):eH α G (iJ fr σd) (σC fr σ):=by
 refine⟨by unfold iJ σC;simp,λ i d e=>?_⟩;unfold iJ at e;rw[RP]at e;cases q:fr[i]? with
 |none=>rw[q]at e;cases e
 |some o=>
  rw[q]at e;cases o with
  |none=>simp at e
  |some j=>
   simp only[UX,Option.some.injEq,Option.bind_some]at e
   have ej:σd[j]?=some (some d):=by
    cases r:σd[j]? with
    |none=>rw[r]at e;cases e
    |some u=>rw[r]at e;simp at e;rw[e]
   obtain⟨v,ev,rv⟩:=h.at' j d ej;refine⟨v,?_,rv⟩;unfold σC;rw[RP,q];simp[ev]
def cO(tg:fP)(c:DT)(te:DE)(ok:af->Prop)(σc:bQ):List D->List D->af->(List D->af->Prop)->Prop
 | [],acc,st,K=>ok st/\K acc st
 |x::xs,acc,st,K=>ok st/\∃σ2,tg x σc=some σ2/\c σ2 st λ b st1=>if b=true then te σ2 st1 λ y st2=>cO tg c te ok σc xs (acc++[y]) st2 K else cO tg c te ok σc xs acc st1 K
def dS(src:DI)(fr:List (Option Nat))(tg:fP)(c:DT)(te:DE):DE:=λ σ st K=>src σ st λ xs ok st1=>xs.length<=sizeLine/\cO tg c te ok (iJ fr σ) xs [] st1 λ ys st2=>K (.lst ys) st2
def lR(src:DI)(fr:List (Option Nat))(tg:fP)(c:DT)(te:DE):DE:=λ σ st K=>src σ st λ xs ok st1=>xs.length<=sizeLine/\cO tg c te ok (iJ fr σ) xs [] st1 λ ys st2=>K (.ref st2.length) (st2++[.lst ys])
def cS:DT:=λ _ st K=>K true st
def jM(fr:List (Option Nat))(tg:fP):Prop:=∀(σ:bQ) (d:D) (σ2:bQ),tg d (iJ fr σ)=some σ2->σ2.length=(iJ fr σ).length/\∀(i:Nat) (e:D),(iJ fr σ)[i]?=some (some e)->σ2[i]?=some (some e)
def uh{fr:List (Option Nat)}{σ:bQ}{k:Nat}(h:fr[k]?=some none){e:D}(q:(iJ fr σ)[k]?=some (some e)):False:=by
 unfold iJ at q;rw[RP,h]at q;simp at q
def cB{fr:List (Option Nat)}{k:Nat}(h:fr[k]?=some none:=by rfl):jM fr (bz k):=λ σ d σ2 e=>by
 cases e;refine⟨RV,λ i x q=>?_⟩;by_cases hi:i=k
 . subst hi;exact(uh h q).elim
 . rw[RD (RK hi)];exact q
def uw{fr:List (Option Nat)}{k j:Nat}(h:fr[k]?=some none:=by rfl)(h':fr[j]?=some none:=by rfl):jM fr (ka k j):=λ σ d σ2 e=>by
 unfold ka at e;split at e
 . cases e;refine⟨by rw[RV,RV],λ i x q=>?_⟩;by_cases hi:i=k
   . subst hi;exact(uh h q).elim
   . by_cases hj:i=j
     . subst hj;exact(uh h' q).elim
     . rw[RD (RK hj),RD (RK hi)];exact q
 . cases e
section
variable {X:Cx}
def M8{c:Expr}{t:DT}(h:PT X c (LT t)):tY X [c] (LT t):=JH h
def Hq:tY X [] (LT cS):=λ pins s σ H Q I ⟨α,σd,st,K,G,F,P,R,S,t,k⟩=>JU pins s σ H Q I (k true st t α G H Step.refl P S)
def LE.comp{src:DI}{fr:List (Option Nat)}{tg:fP}{c:DT}{te:DE}(fit:jM fr tg){σ:L2.St}{H:Hp}{Q:VK}{α:List (Option Addr)}{σd:bQ}{st:af}{KE:List D->af->Prop}{G F:Hp}(P:cn G F H)(R:eH α G σd σ)(S:aZ α st G)
 (t:src σd st λ xs ok st1=>xs.length<=sizeLine/\cO tg c te ok (iJ fr σd) xs [] st1 KE)
 (fin:∀ys st2 α2 G2 H2 l vs,KE ys st2->Step α G α2 G2->cn G2 (upd F l (.lst vs)) H2->F l=none->aZ α2 st2 G2->aL α2 G2 ys vs->Q (.ref l) H2):
 uU (LI src) fr (LG tg) (LT c) (LE te) σ H Q:=by
 refine⟨α,σd,st,_,G,F,P,R,S,t,λ xs ok st1 q J α1 G1 H1 s1 P1 S1 it l hl=>?_⟩;obtain⟨hsz,q⟩:=q;obtain⟨hG,hF⟩:=P1.none hl
 refine⟨λ i m σ' H'=>∃α' st' G' acc vs,Step α1 G1 α' G'/\cn G' (upd F l (.lst vs)) H'/\eH α' G' (iJ fr σd) σ'/\aZ α' st' G'/\aL α' G' acc vs/\acc.length<=i/\i<=xs.length/\cO tg c te ok (iJ fr σd) (xs.drop i) acc st' KE/\m=xs.length-i,
  ⟨xs.length,α1,st1,G1,[],[],Step.refl,P1.hide hl,(R.step s1).comp,S1,by unfold aL;rfl,Rv _,RX _,q,rfl⟩,?_⟩
 rintro i m σ2 H2 ⟨α2,st2,G2,acc,vs,s2,P2,R2,S2,ra,hacc,hi,q2,rfl⟩;cases e:xs[i]? with
 |none=>
  have hl2:xs.length<=i:=Wx.mp e;rw[S8 hl2]at q2;unfold cO at q2;exact .inl ⟨it.stop i α2 G2 _ H2 st2 s2 P2 S2 q2.1 hl2,fin acc st2 α2 G2 H2 l vs q2.2 (s1.trans s2) P2 hF S2 ra⟩
 |some d=>
  have hl2:i<xs.length:=(RB.mp e).1
  have ed:xs.drop i=d::xs.drop (i+1):=by
   rw[SA hl2];congr 1;rw[RJ hl2]at e;exact SS e
  rw[ed]at q2;unfold cO at q2;obtain⟨aM,σ3,e3,q3⟩:=q2;refine .inr ⟨it.go i d α2 G2 _ H2 st2 s2 P2 S2 aM e,λ σ' H'=>∃α' st' G' acc vs,Step α1 G1 α' G'/\cn G' (upd F l (.lst vs)) H'/\eH α' G' (iJ fr σd) σ'/\aZ α' st' G'/\aL α' G' acc vs/\acc.length<=i+1/\cO tg c te ok (iJ fr σd) (xs.drop (i+1)) acc st' KE,?_,?_⟩
  . rintro σ' H' ⟨α',st',G',acc',vs',z1,z2,z3,z4,z5,z6,z7⟩;exact⟨xs.length-(i+1),by omega,α',st',G',acc',vs',z1,z2,z3,z4,z5,z6,hl2,z7,rfl⟩
  . intro x H' y;obtain⟨G3,s3,P3,S3,r3⟩:=it.qI i d α2 G2 _ H2 st2 x H' s2 P2 S2 aM e y;refine⟨α2,iJ fr σd,st2,d,λ σ' st'=>σ'=σ3/\st'=st2,G3,_,P3,R2.step s3,S3,r3,⟨σ3,e3,rfl,rfl⟩,?_⟩;rintro σ' st' ⟨rfl,rfl⟩ α4 G4 H4 σ4 s4 P4 R4 S4;have s24:=(s2.trans s3).trans s4;have Rc:eH α4 G4 (iJ fr σd) σ4:=⟨by rw[<-(fit σd d σ' e3).1];exact R4.len,λ j z hz=>R4.at' j z ((fit σd d σ' e3).2 j z hz)⟩
    refine⟨α4,σ',st',_,G4,_,P4,R4,S4,q3,λ b st5 q5 α5 G5 H5 s5 P5 S5=>?_⟩;cases b with
    |false=>exact⟨α5,st5,G5,acc,vs,s24.trans s5,P5,Rc.step s5,S5,((ra.step s3).step s4).step s5,by omega,q5⟩
    |true=>
     refine⟨α5,σ',st5,_,G5,_,P5,R4.step s5,S5,q5,λ z st6 q6 α6 G6 H6 v6 s6 P6 S6 r6=>?_⟩;have hr:=(((ra.step s3).step s4).step s5).step s6;refine⟨vs,(P6.frame a6).1,by rw[<-hr.length];omega,α6,st6,G6,acc++[z],vs++[v6],(s24.trans s5).trans s6,?_,(Rc.step s5).step s6,S6,aT.mpr (fZ (aT.mp hr) (.cons r6 .nil)),by rw[Sy,VP];omega,q6⟩;have:=P6.Q_ (p:=l) (o':= .lst (vs++[v6])) a6;rw[Jr]at this;exact this
def LH{scope:Scope}{Nc:List Str}{elt tg iter:Expr}{ifs:List Expr}{pos:Pos}{src:DI}{fr:List (Option Nat)}{dtg:fP}{c:DT}{te:DE}(S:bH X scope Nc fr)(hi:PI X tg iter (LI src))
 (hg:∀C s H ex,PG (gc X scope Nc C s H ex) tg (LG dtg)) (ht:∀C s H ex,tY (gc X scope Nc C s H ex) ifs (LT c)) (he:∀C s H ex,PE (gc X scope Nc C s H ex) elt (LE te)) (fit:jM fr dtg)
 (hx:X.xe=λ _ _=>False:=by rfl) (hc:X.calm=true:=by rfl) (hs:∀x,foldedSetIterable iter X.env x=pure x:=by intro _;rfl):PE X (.ListComp elt [⟨tg,iter,ifs,0⟩] scope pos) (LE (dS src fr dtg c te)):=
 PE.imp (BQ hx hc S hi hg ht he hs) λ σ H Q ⟨α,σd,st,K,G,F,P,R,S,t,k⟩=>LE.comp fit P R S t λ ys st2 α2 G2 H2 l vs q s2 P2 hl S2 r=>by
  have hg:G2 l=none:=(P2.frame a6).2;refine k _ st2 q α2 (upd G2 l (.lst vs)) H2 (.ref l) (s2.trans (Step.laid hg)) (P2.show hl) (S2.laid hg) ?_;unfold Rep;exact⟨l,vs,rfl,S2.lZ hg,.of a6,r.step (Step.laid hg)⟩
def JM{scope:Scope}{Nc:List Str}{elt tg iter:Expr}{ifs:List Expr}{pos:Pos}{src:DI}{fr:List (Option Nat)}{dtg:fP}{c:DT}{te:DE}(S:bH X scope Nc fr)(hi:PI X tg iter (LI src))
 (hg:∀C s H ex,PG (gc X scope Nc C s H ex) tg (LG dtg)) (ht:∀C s H ex,tY (gc X scope Nc C s H ex) ifs (LT c)) (he:∀C s H ex,PE (gc X scope Nc C s H ex) elt (LE te)) (fit:jM fr dtg)
 (hx:X.xe=λ _ _=>False:=by rfl) (hc:X.calm=true:=by rfl) (hs:∀x,foldedSetIterable iter X.env x=pure x:=by intro _;rfl):PE X (.ListComp elt [⟨tg,iter,ifs,0⟩] scope pos) (LE (lR src fr dtg c te)):=
 PE.imp (BQ hx hc S hi hg ht he hs) λ σ H Q ⟨α,σd,st,K,G,F,P,R,S,t,k⟩=>LE.comp fit P R S t λ ys st2 α2 G2 H2 l vs q s2 P2 hl S2 r=>by
  have hg:G2 l=none:=(P2.frame a6).2;refine k _ _ q (α2++[some l]) (upd G2 l (.lst vs)) H2 (.ref l) (s2.trans (Step.cell hg)) (P2.show hl) (S2.cell hg ⟨vs,a6,r.step (Step.cell hg)⟩) ?_;unfold Rep;refine .inr ⟨l,?_,rfl⟩;rw[RY (by rw[S2.len];exact Rv _),S2.len,Tc];rfl
def Ld{st:Stmt}{k:Nat}{src:DI}{fr:List (Option Nat)}{dtg:fP}{c:DT}{te:DE}(fit:jM fr dtg)(h:PS X st (mR (uU (LI src) fr (LG dtg) (LT c) (LE te)) (nc k))):PS X st (LS (bo k (dS src fr dtg c te))):=
 PS.imp h λ D σ H ⟨α,σd,st,DD,G,F,P,R,S,t,q⟩=>LE.comp fit P R S t λ ys st2 α2 G2 H2 l vs qq s2 P2 hl S2 r=>by
  have hg:G2 l=none:=(P2.frame a6).2;have s3:=s2.trans (Step.laid (o:= .lst vs) hg);refine q.nx _ st2 qq α2 (upd G2 l (.lst vs)) H2 _ s3 (P2.show hl) ((R.step s3).set k ?_) (S2.laid hg);unfold Rep;exact⟨l,vs,rfl,S2.lZ hg,.of a6,r.step (Step.laid hg)⟩
def GY{st:Stmt}{k:Nat}{src:DI}{fr:List (Option Nat)}{dtg:fP}{c:DT}{te:DE}(fit:jM fr dtg)(h:PS X st (mR (uU (LI src) fr (LG dtg) (LT c) (LE te)) (nc k))):PS X st (LS (bo k (lR src fr dtg c te))):=
 PS.imp h λ D σ H ⟨α,σd,st,DD,G,F,P,R,S,t,q⟩=>LE.comp fit P R S t λ ys st2 α2 G2 H2 l vs qq s2 P2 hl S2 r=>by
  have hg:G2 l=none:=(P2.frame a6).2;have s3:=s2.trans (Step.cell (o:= .lst vs) hg);refine q.nx _ _ qq (α2++[some l]) (upd G2 l (.lst vs)) H2 _ s3 (P2.show hl) ((R.step s3).set k ?_) (S2.cell hg ⟨vs,a6,r.step (Step.cell hg)⟩);unfold Rep;refine .inr ⟨l,?_,rfl⟩;rw[RY (by rw[S2.len];exact Rv _),S2.len,Tc];rfl
def bc(N:List Str)(ds:List D):bQ:=ds.map some++List.replicate (N.length-ds.length) none
def eH.start{α:List (Option Addr)}{G:Hp}{N:List Str}{ds:List D}{vs:List V}(r:aL α G ds vs):eH α G (bc N ds) (L2.start N vs):=by
 have hl:=r.length;refine⟨by unfold bc L2.start;simp[hl],λ i d e=>?_⟩;unfold bc at e;by_cases hi:i<ds.length
 . rw[RG (by simpa using hi),RP]at e;cases q:ds[i]? with
   |none=>rw[q]at e;cases e
   |some x=>
    rw[q]at e;cases e;obtain⟨v,ev,rv⟩:=r.get q;refine⟨v,?_,rv⟩;unfold L2.start;rw[RG (by rw[Rz];omega),RP,ev];rfl
 . rw[RY (by simpa using hi),WK]at e;split at e<;>cases e
def Of{P:Program}{w:World}{K:PySem.W.Frag}{mg:Str->Option Value}{base:Heap}{x qual:Str}{st:Stmt}{f:Addr}{fd:FuncData}{N ps:List Str}{k:Nat}{sp:cL}{t:DS}(F:o8 K x qual st f fd)(S:aX N ps (ai st))
 (hbody:∀(cdv:Value) (A:Around) (outer:List Env) (s:Shared) (H:Hp) (E:XK),c8 k (A.deeper (envOfC qual (ai st) s.heap.objs.size f cdv))->iS (rT cM P w K mg base N qual (ai st) f cdv A outer s H E).xi (iI st) (LS t))
 (hsp:∀ds st K,sp ds st K->ds.length=ps.length/\t {nx:=λ _ st'=>K .aB st',rt:=K} (bc N ds) st):bE P w K mg base cM (k+1) f fd ps (cP sp):=by
 refine F.ok S (λ vs H Q E h=>?_) λ cdv A outer s H vs Q E hr h=>⟨_,hbody cdv A outer s H E hr,?_⟩
 . obtain⟨α,ds,st,K,G,F,P,r,S,q,k⟩:=h;rw[<-r.length];exact(hsp ds st K q).1
 . obtain⟨α,ds,st,K,G,F,P,r,S,q,k⟩:=h;refine⟨α,bc N ds,st,_,G,F,P,eH.start r,S,(hsp ds st K q).2,?_,k,?_,?_⟩
   . intro σd' st' kk α' G' H' σ' s' P' R' S';exact k .aB st' kk α' G' H' .aB s' P' S' (by unfold Rep;rfl)
   . intro σd' st' kk;exact kk.elim
   . intro σd' st' kk;exact kk.elim
def qy(to te:DE):DE:=λ σ st K=>to σ st λ x st1=>match x with
 | .ref n=>(match st1[n]? with
   |some (.lst _)=>te σ st1 λ y st2=>∃y',[y]=[y']/\(match st2[n]? with|some (.lst xs)=>xs.length<sizeLine/\K .aB (st2.set n (.lst (xs++[y'])))|_=>False)
   |_=>False)
 |_=>False
end
structure cD(K:PySem.W.Frag)(mg:Str->Option Value)(x qual:Str)(st:Stmt)(ps:List Str)(f:Addr)(fd:FuncData):Prop where
 fn:o8 K x qual st f fd
 mg:mg x=some (.ref f)
 bd:Binds K fd ps []
def FG(sc:Scope)(N:List Str)(scope:Scope)(Nc:List Str)(fr:List (Option Nat)):Bool:=
 (scope.kind== .function)&&scope.names.all (λ x=>x.2 != .cell||scope.names.lookup x.1==some .cell)&&scope.names.all (λ x=>x.2 != .local||scope.names.lookup x.1==some .local)&&
 scope.names.all (λ x=>x.2 != .free||sc.names.lookup x.1==some .cell||sc.names.lookup x.1==some .free)&&(fr.length==Nc.length)&&
 (List.range fr.length).all λ i=>match fr[i]?,Nc[i]? with
   |some (some j),some x=>(N[j]?==some x)&&(scope.names.lookup x==some .free)&&(sc.names.lookup x==some .cell||sc.names.lookup x==some .free)
   |_,_=>true
def bH.look{X:Cx}{scope:Scope}{Nc:List Str}{fr:List (Option Nat)}(sc:Scope)(N:List Str)(h:FG sc N scope Nc fr=true)(hsc:X.env.scope=sc:=by rfl)(hN:X.N=N:=by rfl):bH X scope Nc fr:=by
 unfold FG at h;simp only[SV]at h;obtain⟨⟨⟨⟨⟨h1,h2⟩,h3⟩,h4⟩,h5⟩,h6⟩:=h;subst hsc hN;refine⟨by simpa using h1,λ x hx hk=>?_,λ x hx hk=>?_,λ x hx hk=>?_,by simpa using h5,λ i j x e1 e2=>?_⟩
 . have:=Tx.mp h2 x hx;rw[hk]at this;simpa using this
 . have:=Tx.mp h3 x hx;rw[hk]at this;simpa using this
 . have:=Tx.mp h4 x hx;rw[hk]at this;have z:X.env.scope.names.lookup x.1=some .cell\/X.env.scope.names.lookup x.1=some .free:=by simpa using this
   exact z
 . have hi:i<fr.length:=(RB.mp e2).1;have:=Tx.mp h6 i (TC.mpr hi);rw[e1,e2]at this;simp only[SV,Bool.or_eq_true,UU]at this;exact⟨this.1.1,this.1.2,this.2⟩
section
variable {X:Cx}
def QY{e:Expr}{es:List Expr}{pos p:Pos}{x:Str}{id:String}{r:gw}{t:DA}(hc:bR X (.builtin id) (iE r))(ha:PA X (e::es) (LA t))(hm:X.mg x=none)(hv:bootBuiltins x=some (.builtin id))(hg:Gl X x:=by rfl)(hn:x≠"__name__":=by decide)(hdb:(x==("__debug__":Str))=false:=by decide)
 (he:starEach (e::es) X.env=(false,eval e X.env)::starEach es X.env:=by rfl) (hpl:(backTo pos (starEach es X.env)).any (·.1)=false:=by rfl):PE X (.Call (.Name x p) (e::es) [] pos) (LE (cz r t)):=PE.imp (He hc hg hm hv ha hn hdb he hpl) λ _ _ _ h=>LE.cb h
def Qy{e:Expr}{es:List Expr}{pos p:Pos}{x:Str}{T:String}{r:gw}{t:DA}(hc:bR X (.type T) (iE r))(ha:PA X (e::es) (LA t))(hm:X.mg x=none)(hv:bootBuiltins x=some (.type T))(hg:Gl X x:=by rfl)(hn:x≠"__name__":=by decide)(hdb:(x==("__debug__":Str))=false:=by decide)
 (he:starEach (e::es) X.env=(false,eval e X.env)::starEach es X.env:=by rfl) (hpl:(backTo pos (starEach es X.env)).any (·.1)=false:=by rfl):PE X (.Call (.Name x p) (e::es) [] pos) (LE (cz r t)):=PE.imp (Fw hc hg hm hv ha hn hdb he hpl) λ _ _ _ h=>LE.cb h
def Qo{e:Expr}{es:List Expr}{pos p:Pos}{x qual:Str}{st:Stmt}{ps:List Str}{f:Addr}{fd:FuncData}{k:Nat}{S:cL}{t:DA}(A:cD X.K X.mg x qual st ps f fd)(F:bE X.prog X.w X.K X.mg X.base cM k f fd ps (cP S))(hr:c8 k X.A)
 (ha:PA X (e::es) (LA t)) (hg:Gl X x:=by rfl) (hdb:(x==("__debug__":Str))=false:=by decide) (he:starEach (e::es) X.env=(false,eval e X.env)::starEach es X.env:=by rfl) (hpl:(backTo pos (starEach es X.env)).any (·.1)=false:=by rfl):
 PE X (.Call (.Name x p) (e::es) [] pos) (LE (aQ S t)):=L0 F hr hg A.mg A.fn.kp A.bd ha hdb he hpl
def BL{M:Model}{A:Around}{E:Value->Shared->Prop}{s:Shared}{Q:Value->Shared->Prop}{x:V}{v:Value}{b:Bool}(r:RelV x v)(h:Q (.bool (v== .bool b)) s):wpAny M A (compareOp .Is v (.bool b)) Q E s:=by
 cases x
 case bl c=>
  cases r;have e:(Value.bool c==Value.bool b)=(c==b):=by cases c<;>cases b<;>rfl
  rw[e]at h;exact is_bool h
 all_goals first
  |(cases r;exact RO h)
  |(obtain⟨t,rfl⟩:=r;exact RO h)
def Nn(d:D)(b:Bool):Bool:=match d with| .bl c=>c==b|_=>false
def Qa(d:D):Bool:=match d with| .aB=>true|_=>false
def Jg:dy:=λ x y st K=>match y with| .aB=>live st x=true/\K (.bl (Qa x)) st| .bl b=>live st x=true/\K (.bl (Nn x b)) st|_=>False
def Jy{α:List (Option Addr)}{H:Hp}{st:af}{d:D}{v:V}{u:Value}{b:Bool}(S:aZ α st H)(hl:live st d=true)(r:Rep α H d v)(ru:RelV v u):(u==Value.bool b)=Nn d b:=by
 cases d
 case ref n=>
  obtain⟨a,rfl⟩:=z_ S hl r;cases ru;rfl
 all_goals unfold Rep at r
 case bl c=>
  subst r;cases ru;cases c<;>cases b<;>rfl
 all_goals first
  |(subst r;first|(cases ru;rfl)|(obtain⟨t,rfl⟩:=ru;rfl))
  |(obtain⟨a,vs,rfl,_⟩:=r;cases ru;rfl)
def N3:cf X (compareOp .Is) (LR Jg):=λ pins s σ H x y v u Q I rx ry ⟨α,d,e,st,K,G,F',P,r1,r2,S,q,k⟩=>by
 cases e<;>try exact q.elim
 . unfold Rep at r2;refine NR pins s σ H x y v u Q I rx ry ⟨r2,k.here P q.2 S ?_⟩;unfold Rep;cases d
   case ref n=>
    obtain⟨a,rfl⟩:=z_ S q.1 r1;rfl
   all_goals(unfold Rep at r1;first|(rw[r1];rfl)|(obtain⟨a,vs,rfl,_⟩:=r1;rfl))
 . rename_i b;unfold Rep at r2;subst r2;cases ry;refine BL rx ?_;rw[Jy S q.1 r1 rx];exact⟨.bl (Nn d b),H,I,rfl,k.here P q.2 S (by unfold Rep;rfl)⟩
def LE.append{to te:DE}{σ:L2.St}{H:Hp}{Q:VK}(h:LE (qy to te) σ H Q):MW X.K "list" BZ (LE to) (LA (ae te ao)) σ H Q:=by
 obtain⟨α,σd,st,K,G,F,P,R,S,t,k⟩:=h;refine⟨α,σd,st,_,G,F,P,R,S,t,λ x st1 q α1 G1 H1 v s1 P1 S1 r1=>?_⟩;cases x<;>try exact q.elim
 rename_i n;simp only at q;split at q
 . rename_i ys e;obtain⟨p,ep,vs,h1,h2⟩:=S1.i8 e;have r1':=fb ep r1;subst r1';refine⟨.inl ⟨rfl,vs,.inl (.of (P1.get h1))⟩,α1,σd,st1,λ ds st2=>∃y,ds=[y]/\(match st2[n]? with|some (.lst xs)=>xs.length<sizeLine/\K .aB (st2.set n (.lst (xs++[y])))|_=>False),G1,F,P1,R.step s1,S1,?_,?_⟩
   . refine Eq.mp ?_ q;rfl
   . rintro ds st2 ⟨y,rfl,q2⟩ α2 G2 H2 ws s2 P2 S2 r2;obtain⟨w,rfl,rw'⟩:=ja r2 rfl;split at q2
     . rename_i xs e2;obtain⟨p2,ep2,us,g1,g2⟩:=S2.i8 e2
       have:p2=p:=by
        rcases s2.pre _ _ ep with z|z<;>(rw[z]at ep2;cases ep2)
        rfl
       subst this;have hm:some p2∈α2:=Sg ep2;refine⟨p2,us,w,rfl,rfl,P2.get g1,by rw[<-g2.length];exact q2.1,?_⟩;refine((k.at s1).at s2) _ _ q2.2 α2 (upd G2 p2 (.lst (us++[w]))) _ .aB (Step.write hm) (P2.write g1) ?_ (by unfold Rep;rfl);exact S2.write ep2 ⟨us++[w],a6,(aT.mpr (fZ (aT.mp g2) (.cons rw' .nil))).step (Step.write hm)⟩
     . exact q2.elim
 . exact q.elim
def Gw{o e:Expr}{to te:DE}{apos cpos:Pos}(ho:PE X o (LE to))(he:PE X e (LE te))(hbase:attributeBase o "append" X.env (eval o X.env)=eval o X.env:=by rfl)
 (hfew:((backTo cpos (starEach [e] X.env)).all (λ x=> !x.1)&&(backToKw cpos (keywordEach [] X.env)).all (λ x=>x.1.isSome)
   &&decide (([e]:List Expr).length+([]:List Keyword).length+(if([]:List Keyword).isEmpty then 0 else 1)<30))=true:=by rfl)
 (hline:(apos.endLine==cpos.line)=true:=by rfl) (hs:starEach [e] X.env=(false,eval e X.env)::starEach [] X.env:=by rfl) (hplain:(backTo cpos (starEach [] X.env)).any (·.1)=false:=by rfl):PE X (.Call (.Attribute o "append" apos) [e] [] cpos) (LE (qy to te)):=
 PE.imp (I_ WL PySem.F.slot_list_append PySem.F.type_list_append yS ho (uF he xo hs) hbase hfew hline hs hplain) λ _ _ _ h=>LE.append h
end
end L3
namespace L3
open PySem L2
open PySem.Spec hiding items?
open PyProof.Rows hiding St
section
variable {X:Cx}
@[irreducible] def ib:dy:=Ia
def jG:cf X (binaryOp .Add) (LR ib):=by unfold ib;exact O7
@[irreducible] def zL:dy:=Ih
def Po:cf X (binaryOp .Sub) (LR zL):=by unfold zL;exact Od
@[irreducible] def fM:dy:=Ji
def gK:cf X (binaryOp .Mult) (LR fM):=by unfold fM;exact Pf
@[irreducible] def ot:dy:=E4
def ue:cf X (binaryOp .FloorDiv) (LR ot):=by unfold ot;exact L4
@[irreducible] def jz:dy:=HY
def kj:cf X (binaryOp .Mod) (LR jz):=by unfold jz;exact Pm
@[irreducible] def x9:dy:=IV
def O9:cf X (binaryOp .Pow) (LR x9):=by unfold x9;exact O0
@[irreducible] def wJ:dy:=NP
def Mh:cf X (compareOp .Lt) (LR wJ):=by unfold wJ;exact Qk
@[irreducible] def qE:dy:=Ng
def yb:cf X (compareOp .Gt) (LR qE):=by unfold qE;exact QV
@[irreducible] def B8:dy:=MU
def Qx:cf X (compareOp .GtE) (LR B8):=by unfold B8;exact QF
@[irreducible] def nU:dy:=MD
def rj:cf X (compareOp .NotEq) (LR nU):=by unfold nU;exact QM
@[irreducible] def Fi:dy:=Jg
def Qp:cf X (compareOp .Is) (LR Fi):=by unfold Fi;exact N3
@[irreducible] def mE:dy:=NB
def q_{k:Nat}(hr:c8 k X.A):cf X (compareOp .Eq) (LR mE):=by unfold mE;exact Qj hr
@[irreducible] def ky:zZ:=IK
def Pq:Cu X (unaryOp .USub) (Jf ky):=by unfold ky;exact OM
@[irreducible] def bM:dy:=rS
def QL{a b:Expr}{ta tb:DE}{pos:Pos}(ha:PE X a (LE ta))(hb:PE X b (LE tb))(hs:uA b:=by intro _ _;rfl):PE X (.Subscript a b pos) (LE (av bM ta tb)):=by unfold bM;exact QC ha hb hs
@[irreducible] def fh:gw:=zp
def eA:bR X (.builtin "len") (iE fh):=by unfold fh;exact Ou
@[irreducible] def r9:gw:=D5
def wy:bR X (.builtin "abs") (iE r9):=by unfold r9;exact N4
@[irreducible] def Au:gw:=CQ
def Og(hc:X.calm=true):bR X (.builtin "max") (iE Au):=by unfold Au;exact OR hc
@[irreducible] def yh:gw:=DU
def Iw(hc:X.calm=true):bR X (.builtin "min") (iE yh):=by unfold yh;exact Ph hc
@[irreducible] def yj:gw:=CO
def OB:bR X (.type "int") (iE yj):=by unfold yj;exact OC
@[irreducible] def fo:gw:=uJ
def fQ:bR X (.type "tuple") (iE fo):=by unfold fo;exact JN
@[irreducible] def ow:gw:=w6
def tP:bR X (.type "list") (iE ow):=by unfold ow;exact MK
@[irreducible] def qA:gw:=uH
def Cd:bR X (.type "list") (iE qA):=by unfold qA;exact JD
@[irreducible] def Bm:gw:=zC
def NX(hc:X.calm=true):bR X (.builtin "all") (iE Bm):=by unfold Bm;exact OZ hc
@[irreducible] def qk:D->af->(List D->(af->Prop)->af->Prop)->Prop:=xY
def dU(t:DE):DI:=λ σ st K=>t σ st λ d st1=>qk d st1 K
def Lk{l tg:Expr}{tl:DE}(hl:PE X l (LE tl)):PI X tg l (LI (dU tl)):=by unfold dU qk;exact Nd hl
@[irreducible] def zB:List D->af->(List D->(af->Prop)->af->Prop)->Prop:=Jk
@[irreducible] def zj:List D->af->(List D->(af->Prop)->af->Prop)->Prop:=ID
def fS(t:DA):DI:=λ σ st K=>t σ st λ ds st1=>zB ds st1 K
def mO(t:DA):DI:=λ σ st K=>t σ st λ ds st1=>zj ds st1 K
def EO{tg iter:Expr}{t:DA}(h:PI X tg iter (D8 (LA t))):PI X tg iter (LI (fS t)):=by unfold fS zB;exact Et h
def Eh{tg iter:Expr}{t:DA}(h:PI X tg iter (DN (LA t))):PI X tg iter (LI (mO t)):=by unfold mO zj;exact EM h
@[irreducible] def vS:D->D->D->af->(af->Prop)->Prop:=A7
def ft(to ti te:DE):DS:=λ D σ st=>te σ st λ d st1=>to σ st1 λ x st2=>ti σ st2 λ y st3=>vS x y d st3 λ st4=>D.nx σ st4
def Ab{st:Stmt}{to ti te:DE}(h:PS X st (mR (LE te) (xT (LE to) (LE ti) uM))):PS X st (LS (ft to ti te)):=by unfold ft vS;exact GF h
end
section
variable {st:af}{K:DK}{i j:Int}{b c:Bool}{xs ys:List D}{d e:D}{n:Nat}
def iz(k:K (.int (i+j)) st):ib (.int i) (.int j) st K:=by unfold ib;exact k
def Kt(h:xs.length+ys.length<=sizeLine)(k:K (.tup (xs++ys)) st):ib (.tup xs) (.tup ys) st K:=by unfold ib;exact⟨h,k⟩
def Lq(k:K (.int (i-j)) st):zL (.int i) (.int j) st K:=by unfold zL;exact⟨trivial,k⟩
def gh(h:IntMulOk i j)(k:K (.int (i*j)) st):fM (.int i) (.int j) st K:=by unfold fM;exact⟨h,k⟩
def CA(h: -(2^63)<=i/\i<2^63/\xs.length*i.toNat<=sizeLine)(k:K (.lst (List.replicate i.toNat xs).flatten) st):fM (.lst xs) (.int i) st K:=by unfold fM;exact⟨h,k⟩
def qF(h0:j≠0)(h:j.natAbs.log2<9000)(k:K (.int (i.fdiv j)) st):ot (.int i) (.int j) st K:=by unfold ot;exact⟨⟨h0,h⟩,k⟩
def jc(h0:j≠0)(k:K (.int (i.fmod j)) st):jz (.int i) (.int j) st K:=by unfold jz;exact⟨h0,k⟩
def Mp(h:Gq i j)(k:K (.int (i^j.toNat)) st):x9 (.int i) (.int j) st K:=by unfold x9;exact⟨h,k⟩
def IY(k:K (.bl (decide (i<j))) st):wJ (.int i) (.int j) st K:=by unfold wJ;exact⟨trivial,k⟩
def Dp(k:K (.bl (decide (j<i))) st):qE (.int i) (.int j) st K:=by unfold qE;exact⟨trivial,k⟩
def N7(k:K (.bl (decide (j<=i))) st):B8 (.int i) (.int j) st K:=by unfold B8;exact⟨trivial,k⟩
def Ja(k:K (.bl (!decide (i=j))) st):nU (.int i) (.int j) st K:=by unfold nU;exact k
def E2(h:live st d=true)(k:K (.bl (Qa d)) st):Fi d .aB st K:=by unfold Fi;exact⟨h,k⟩
def Om(h1:pl 40 d=true)(h2:pl 40 e=true)(k:K (.bl (fC d e)) st):mE d e st K:=by unfold mE;exact⟨h1,h2,k⟩
def JZ(a b:Int):(a==b)=decide (a=b):=by
 by_cases h:a=b
 . subst h;simp
 . simp[h]
def FE(k:K (.bl (decide (i=j))) st):mE (.int i) (.int j) st K:=by
 refine Om rfl rfl ?_;have:fC (.int i) (.int j)=decide (i=j):=by unfold fC;exact JZ i j
 rw[this];exact k
def jU(k:K (.int (-i)) st):ky (.int i) st K:=by unfold ky;exact k
def Hz(h:items? st d=some xs)(a:eF xs i=some e)(k:K e st):rS d (.int i) st K:=by
 cases d<;>unfold items? at h<;>first
  |(cases h;done)
  |(cases h;simp only[rS,a];exact k)
  |(simp only at h
    split at h
    . rename_i q;cases h;simp only[rS,q,a];exact k
    . cases h)
def aR(h:items? st d=some xs)(a:eF xs i=some e)(k:K e st):bM d (.int i) st K:=by unfold bM;exact Hz h a k
def df(h:items? st d=some xs)(k:K (.int xs.length) st):fh [d] st K:=by
 unfold fh zp;split
 . rename_i z;cases z;cases h
 . rename_i z;cases z;rw[h];exact k
 . rename_i z1 z2;exact absurd rfl (z2 d)
def KR(i:Int):(if i<0 then-i else i)=((i.natAbs:Nat):Int):=by split<;>omega
def ui(k:K (.int ((i.natAbs:Nat):Int)) st):r9 [.int i] st K:=by unfold r9;show K (.int (if i<0 then-i else i)) st;rw[KR];exact k
def Mb(k:K (.int (if j>i then j else i)) st):Au [.int i,.int j] st K:=by unfold Au;exact k
def FF(k:K (.int (if j<i then j else i)) st):yh [.int i,.int j] st K:=by unfold yh;exact k
def K6(k:K (.int (if b then 1 else 0)) st):yj [.bl b] st K:=by unfold yj;exact k
def e9(h:items? st d=some xs)(k:K (.tup xs) st):fo [d] st K:=by unfold fo uJ;simp only[h];exact k
def qU(h:items? st d=some xs)(k:K (.lst xs) st):ow [d] st K:=by unfold ow w6;simp only[h];exact k
def AS(h:items? st d=some xs)(k:K (.ref st.length) (st++[.lst xs])):qA [d] st K:=by unfold qA uH;simp only[h];exact k
def NK{bs:List Bool}(h:iM xs=some bs)(k:K (.bl (bs.all id)) st):Bm [.lst xs] st K:=by unfold Bm zC;simp only[h];exact k
def nJ{K:List D->(af->Prop)->af->Prop}(h:items? st d=some xs)(k:∀ok:af->Prop,ok st->K xs ok st):qk d st K:=by
 unfold qk xY
 cases d<;>unfold items? at h<;>first
  |(cases h;done)
  |(cases h;exact k _ trivial)
  |(simp only at h
    split at h
    . rename_i q;cases h;simp only[q];exact k _ q
    . cases h)
def lh{K:List D->(af->Prop)->af->Prop}(k:K xs (λ _=>True) st):qk (.lst xs) st K:=by unfold qk;exact k
def lD{K:List D->(af->Prop)->af->Prop}(k:K xs (λ _=>True) st):qk (.tup xs) st K:=by unfold qk;exact k
def iD{K:List D->(af->Prop)->af->Prop}(h: -(2^62)<=j/\j<2^62)(k:K (cY 0 j.toNat) (λ _=>True) st):zB [.int j] st K:=by unfold zB;exact⟨h,k⟩
def uR{K:List D->(af->Prop)->af->Prop}(h: -(2^62)<=i/\i<2^62/\ -(2^62)<=j/\j<2^62)(k:K (cY i (j-i).toNat) (λ _=>True) st):zj [.int i,.int j] st K:=by unfold zj;exact⟨h,k⟩
def gj{K:af->Prop}{m:Nat}(h:st[n]?=some (.lst xs))(e:o4 xs.length i=some m)(k:K (st.set n (.lst (xs.set m d)))):vS (.ref n) (.int i) d st K:=by unfold vS A7;simp only[h,e];exact k
end
def Fl(K:PySem.W.Frag):Bool:=K.all λ p=>p.2.cls != .type "list"
def vo{a:Addr}{o:Obj}:∀ {l:List (Addr×Obj)},l.lookup a=some o->(a,o)∈l
 | [],h=>by cases h
 |(b,u)::r,h=>by
  rw[SW]at h;split at h
  . rename_i z;cases h;have:a=b:=by simpa using z
    subst this;exact R6
  . exact RU _ (vo h)
def zh{K:PySem.W.Frag}(h:Fl K=true){a:Addr}{o:Obj}(e:K.lookup a=some o):o.cls≠ .type "list":=by
 have:=Tx.mp h (a,o) (vo e);simpa using this
def yJ{α:List (Option Addr)}{G:Hp}:∀ns:List Int,aL α G (ns.map D.int) (ns.map V.int)
 | []=>by unfold aL;rfl
 |n::ns=>by
  rw[R0,R0];unfold aL;exact⟨_,_,rfl,by unfold Rep;rfl,yJ ns⟩
def notStar:Expr->Bool
 | .Starred .. =>false
 |_=>true
def cE{e:Expr}{es:List Expr}{env:Env}(h:notStar e=true):starEach (e::es) env=(false,eval e env)::starEach es env:=by
 cases e<;>first|rfl|cases h
def iP:List Expr->Bool
 | []=>true
 |e::es=>notStar e&&iP es
def mG{pos:Pos}{env:Env}:∀ {es:List Expr},iP es=true->(backTo pos (starEach es env)).any (·.1)=false
 | [],_=>rfl
 |e::es,h=>by
  unfold iP at h;rw[SV]at h;rw[cE h.1];have ih:=mG (pos:=pos) (env:=env) h.2;unfold backTo at ih⊢;rw[R0,UG,ih];rfl
def kU:Expr->Bool
 | .Slice .. =>false
 |_=>true
def tV:Expr->Bool
 | .Name .. =>true
 | .Call .. =>true
 | .Subscript .. =>true
 | .Attribute .. =>true
 |_=>false
def m7:Expr->Bool
 | .ListComp .. =>false
 | .SetComp .. =>false
 | .DictComp .. =>false
 |_=>true
section
variable {X:Cx}
def HM{b:Expr}(h:kU b=true):uA b:=by
 intro o i;cases b<;>first|rfl|cases h
def D6{e:Expr}(h:tV e=true):∀whole,isTrue e X.env whole=(do let v <-whole;standAt e.pos;holding [v] (truthy v)):=by
 intro whole;cases e<;>first|(cases h;done)|rfl
def yg{e:Expr}{tg:Option Expr}{n:Nat}{env:Env}(h:m7 e=true):swapsWith e tg n env=pure false:=by
 cases e<;>first|(cases h;done)|rfl
def Hi{e:Expr}{es:List Expr}{te:DE}{tr:DA}(ha:PE X e (LE te))(hr:PA X es (LA tr))(hs:notStar e=true:=by rfl):PA X (e::es) (LA (ae te tr)):=uF ha hr (cE hs)
def OS{e:Expr}{es:List Expr}{pos p:Pos}{x:Str}{id:String}{r:gw}{t:DA}(hc:bR X (.builtin id) (iE r))(ha:PA X (e::es) (LA t))(hm:X.mg x=none)(hv:bootBuiltins x=some (.builtin id))(hn:x≠"__name__")(hdb:(x==("__debug__":Str))=false)(hg:Gl X x:=by rfl)(hs:notStar e=true:=by rfl)(hs2:iP es=true:=by rfl):
 PE X (.Call (.Name x p) (e::es) [] pos) (LE (cz r t)):=QY hc ha hm hv hg hn hdb (cE hs) (mG hs2)
def OT{e:Expr}{es:List Expr}{pos p:Pos}{x:Str}{T:String}{r:gw}{t:DA}(hc:bR X (.type T) (iE r))(ha:PA X (e::es) (LA t))(hm:X.mg x=none)(hv:bootBuiltins x=some (.type T))(hn:x≠"__name__")(hdb:(x==("__debug__":Str))=false)(hg:Gl X x:=by rfl)(hs:notStar e=true:=by rfl)(hs2:iP es=true:=by rfl):
 PE X (.Call (.Name x p) (e::es) [] pos) (LE (cz r t)):=Qy hc ha hm hv hg hn hdb (cE hs) (mG hs2)
def Oj{e:Expr}{es:List Expr}{pos p:Pos}{x qual:Str}{st:Stmt}{ps:List Str}{f:Addr}{fd:FuncData}{k:Nat}{S:cL}{t:DA}(A:cD X.K X.mg x qual st ps f fd)(F:bE X.prog X.w X.K X.mg X.base cM k f fd ps (cP S))(hr:c8 k X.A)
 (ha:PA X (e::es) (LA t)) (hdb:(x==("__debug__":Str))=false) (hg:Gl X x:=by rfl) (hs:notStar e=true:=by rfl) (hs2:iP es=true:=by rfl):
 PE X (.Call (.Name x p) (e::es) [] pos) (LE (aQ S t)):=Qo A F hr ha hg hdb (cE hs) (mG hs2)
def NY{a b:Expr}{ta tb:DE}{pos:Pos}(ha:PE X a (LE ta))(hb:PE X b (LE tb))(hs:kU b=true:=by rfl):PE X (.Subscript a b pos) (LE (av bM ta tb)):=QL ha hb (HM hs)
def Kn{e:Expr}{te:DE}(he:PE X e (LE te))(h:tV e=true:=by rfl):PT X e (LT (cA te)):=LU he (D6 h)
def Hf{e:Expr}{te:DE}{pos:Pos}(he:PE X e (LE te))(h:m7 e=true:=by rfl):PS X (.Expr e pos) (LS (fG te)):=JV he (yg h)
def K9{i:Nat}{x:Str}{e:Expr}{te:TE}{pos pos':Pos}(hN:X.N.Nodup)(hi:X.N[i]?=some x)(hx:Loc X.env.scope x)(he:PE X e te)(hf:X.fn x=true\/X.env.scope.names.lookup x=some .local:=by first|exact .inl rfl|exact .inr rfl)(h:m7 e=true:=by rfl):
 PS X (.Assign [.Name x pos'] e pos) (mR te (nc i)):=NH hN hi hx he (yg h) hf
def Kf{i:Nat}{x:Str}{pos:Pos}(hd:(x==("__debug__":Str))=false)(hcd:(x==("__classdict__":Str))=false)(hv:Bu X.env.scope x)(hN:X.N[i]?=some x:=by rfl):PE X (.Name x pos) (LE (aa i)):=N0 (NQ hN hv hd hcd)
def MF{o i e:Expr}{to ti te:TE}{pos pos':Pos}(he:PE X e te)(ho:PE X o to)(hi:PE X i ti)(h1:m7 e=true:=by rfl)(h2:kU i=true:=by rfl):PS X (.Assign [.Subscript o i pos'] e pos) (mR te (xT to ti uM)):=
 wM he (xn ho hi set_list (by intro v;cases i<;>first|rfl|cases h2)) (by unfold swapsWithSole;exact yg h1) (by cases e<;>rfl) rfl
end
@[irreducible] def JE(X:Cx)(e:Expr)(t:DE):Prop:=PE X e (LE t)
@[irreducible] def JT(X:Cx)(e:Expr)(t:DT):Prop:=PT X e (LT t)
@[irreducible] def JW(X:Cx)(e:Expr)(t:DT):Prop:=PW X e (LT t)
@[irreducible] def JA(X:Cx)(es:List Expr)(t:DA):Prop:=PA X es (LA t)
@[irreducible] def JS(X:Cx)(s:Stmt)(t:DS):Prop:=PS X s (LS t)
@[irreducible] def JB(X:Cx)(s:List Stmt)(t:DS):Prop:=iS X s (LS t)
@[irreducible] def JG(X:Cx)(e:Expr)(t:fP):Prop:=PG X e (LG t)
@[irreducible] def JI(X:Cx)(tg e:Expr)(t:DI):Prop:=PI X tg e (LI t)
@[irreducible] def JC(X:Cx)(es:List Expr)(t:DT):Prop:=tY X es (LT t)
section
variable {X:Cx}{a b c e o i:Expr}{es:List Expr}{ta tb tc te to ti:DE}{t u:DT}{ar:DA}{pos p pos':Pos}{s:Stmt}{ss:List Stmt}{T U:DS}
def EG{n:Nat}{x:Str}(hd:(x==("__debug__":Str))=false)(hcd:(x==("__classdict__":Str))=false)(hv:Bu X.env.scope x)(hN:X.N[n]?=some x:=by rfl):JE X (.Name x pos) (aa n):=by unfold JE;exact Kf hd hcd hv hN
def aE{k:Int}{j:Nat}:JE X (.Constant (.int k) j pos) (dC (.int k)):=by unfold JE;exact Pj
def vB{k:Bool}{j:Nat}:JE X (.Constant (.bool k) j pos) (dC (.bl k)):=by unfold JE;exact QG
def xj{j:Nat}:JE X (.Constant .none j pos) (dC .aB):=by unfold JE;exact N5
def bW{op:Operator}{r:dy}(ho:cf X (binaryOp op) (LR r))(ha:JE X a ta)(hb:JE X b tb):JE X (.BinOp a op b pos) (av r ta tb):=by unfold JE at*;exact Qq ho ha hb
def mq(ha:JE X a ta):JE X (.UnaryOp .USub a pos) (pY ky ta):=by unfold JE at*;exact Qm Pq ha
def Ot{op:BoolOp}(ha:JE X a ta):JE X (.BoolOp op [a] pos) ta:=by unfold JE at*;exact NZ ha
def Qv(ha:JE X a ta)(hb:JE X (.BoolOp .Or (b::es) pos) tb):JE X (.BoolOp .Or (a::b::es) pos) (Hj ta tb):=by unfold JE at*;exact Qh ha hb
def zl{op:CmpOp}{r:dy}(ho:cf X (compareOp op) (LR r))(hm:behindInMarks op b=false)(ha:JE X a ta)(hb:JE X b tb):JE X (.Compare a [op] [b] pos) (av r ta tb):=by unfold JE at*;exact OG ho ha hb hm
def Dt(hc:JT X c t)(ha:JE X a ta)(hb:JE X b tb):JE X (.IfExp c a b pos) (Fy t ta tb):=by unfold JE at*;unfold JT at hc;exact O3 hc ha hb
def uI{n:Nat}(h:JA X es ar):JE X (.Tuple es n pos) (tM ar):=by unfold JE;unfold JA at h;exact Ob h
def uz(h:JA X es ar):JE X (.List es pos) (tF ar):=by unfold JE;unfold JA at h;exact OJ h
def CJ(h:JA X es ar):JE X (.List es pos) (xI ar):=by unfold JE;unfold JA at h;exact Oy h
def aj:JA X [] ao:=by unfold JA;exact xo
def ab(ha:JE X e te)(hr:JA X es ar)(hs:notStar e=true:=by rfl):JA X (e::es) (ae te ar):=by unfold JA at*;unfold JE at ha;exact Hi ha hr hs
def bj(ha:JE X a ta)(hb:JE X b tb)(hs:kU b=true:=by rfl):JE X (.Subscript a b pos) (av bM ta tb):=by unfold JE at*;exact NY ha hb hs
def dF{x:Str}{id:String}{r:gw}(hc:bR X (.builtin id) (iE r))(ha:JA X (e::es) ar)(hm:X.mg x=none)(hv:bootBuiltins x=some (.builtin id))(hn:x≠"__name__")(hdb:(x==("__debug__":Str))=false)(hg:Gl X x)(hs:notStar e=true:=by rfl)(hs2:iP es=true:=by rfl):JE X (.Call (.Name x p) (e::es) [] pos) (cz r ar):=by
 unfold JE;unfold JA at ha;exact OS hc ha hm hv hn hdb hg hs hs2
def gQ{x:Str}{T:String}{r:gw}(hc:bR X (.type T) (iE r))(ha:JA X (e::es) ar)(hm:X.mg x=none)(hv:bootBuiltins x=some (.type T))(hn:x≠"__name__")(hdb:(x==("__debug__":Str))=false)(hg:Gl X x)(hs:notStar e=true:=by rfl)(hs2:iP es=true:=by rfl):JE X (.Call (.Name x p) (e::es) [] pos) (cz r ar):=by
 unfold JE;unfold JA at ha;exact OT hc ha hm hv hn hdb hg hs hs2
def br{x qual:Str}{st:Stmt}{ps:List Str}{f:Addr}{fd:FuncData}{k:Nat}{S:cL}(A:cD X.K X.mg x qual st ps f fd)(F:bE X.prog X.w X.K X.mg X.base cM k f fd ps (cP S))(hr:c8 k X.A)(ha:JA X (e::es) ar)(hdb:(x==("__debug__":Str))=false)(hg:Gl X x)(hs:notStar e=true:=by rfl)(hs2:iP es=true:=by rfl):
 JE X (.Call (.Name x p) (e::es) [] pos) (aQ S ar):=by unfold JE;unfold JA at ha;exact Oj A F hr ha hdb hg hs hs2
def HN{apos cpos:Pos}(ho:JE X o to)(he:JE X e te)(hbase:attributeBase o "append" X.env (eval o X.env)=eval o X.env:=by rfl)(hline:(apos.endLine==cpos.line)=true:=by rfl)(hs:notStar e=true:=by rfl):JE X (.Call (.Attribute o "append" apos) [e] [] cpos) (qy to te):=by
 unfold JE at*;refine Gw ho he hbase ?_ hline (cE hs) rfl;rw[cE hs];rfl
def cX{op:CmpOp}{r:dy}(ho:cf X (compareOp op) (LR r))(hm:behindInMarks op b=false)(ha:JE X a ta)(hb:JE X b tb):JT X (.Compare a [op] [b] pos) (cA (av r ta tb)):=by unfold JE at*;unfold JT;exact ND ho ha hb hm
def Fd(ha:JT X a t):JT X (.UnaryOp .Not a pos) (zA t):=by unfold JT at*;exact Mt ha
def wz(he:JE X e te)(h:tV e=true:=by rfl):JT X e (cA te):=by unfold JT;unfold JE at he;exact Kn he h
def Ma(ha:JT X a t):JW X (.BoolOp .Or [a] pos) t:=by unfold JW;unfold JT at ha;exact Ni ha
def DC(ha:JT X a t)(hb:JW X (.BoolOp .Or (b::es) pos) u):JW X (.BoolOp .Or (a::b::es) pos) (yf t u):=by unfold JW at*;unfold JT at ha;exact Pu ha hb
def OA(h:JW X e t):JT X e t:=by unfold JT;unfold JW at h;exact PW.pt h
def eX{l tg:Expr}(hl:JE X l ta):JI X tg l (dU ta):=by unfold JI;unfold JE at hl;exact Lk hl
def gF{tg:Expr}(hg:Gl X "range")(hm:X.mg "range"=none)(ha:JA X [a] ar)(hs:notStar a=true:=by rfl):JI X tg (.Call (.Name "range" p) [a] [] pos) (fS ar):=by unfold JI;unfold JA at ha;exact EO (Ge hg hm ha (cE hs))
def rp{tg:Expr}(hg:Gl X "range")(hm:X.mg "range"=none)(ha:JA X [a,b] ar)(hs:notStar a=true:=by rfl)(hs2:notStar b=true:=by rfl):JI X tg (.Call (.Name "range" p) [a,b] [] pos) (mO ar):=by unfold JI;unfold JA at ha;exact Eh (EJ hg hm ha (by rw[cE hs,cE hs2];rfl) (cE hs2))
def dc{k:Nat}{x:Str}(hN:X.N.Nodup)(hx:Loc X.env.scope x:=by first|exact Or.inl rfl|exact Or.inr rfl)(hf:X.fn x=true\/X.env.scope.names.lookup x=some .local:=by first|exact .inl rfl|exact .inr rfl)(hi:X.N[k]?=some x:=by rfl):JG X (.Name x pos) (bz k):=by unfold JG;exact KI (xy hN hi hx hf)
def pN{k j n:Nat}{x y:Str}{px py:Pos}(hc:X.calm=true)(hN:X.N.Nodup)(hx:Loc X.env.scope x:=by first|exact Or.inl rfl|exact Or.inr rfl)(hf:X.fn x=true\/X.env.scope.names.lookup x=some .local:=by first|exact .inl rfl|exact .inr rfl)(hy:Loc X.env.scope y:=by first|exact Or.inl rfl|exact Or.inr rfl)(hg:X.fn y=true\/X.env.scope.names.lookup y=some .local:=by first|exact .inl rfl|exact .inr rfl)(hi:X.N[k]?=some x:=by rfl)(hj:X.N[j]?=some y:=by rfl):
 JG X (.Tuple [.Name x px,.Name y py] n pos) (ka k j):=by unfold JG;exact MM (F7 hc (rJ (xy hN hi hx hf) (rJ (xy hN hj hy hg) Ca)))
def cZ:JC X [] cS:=by unfold JC;exact Hq
def tm(h:JT X c t):JC X [c] t:=by unfold JC;unfold JT at h;exact M8 h
def fk{scope:Scope}{Nc:List Str}{elt tg iter:Expr}{ifs:List Expr}{src:DI}{fr:List (Option Nat)}{dtg:fP}(S:bH X scope Nc fr)(hi:JI X tg iter src)(hg:∀C s H ex,JG (gc X scope Nc C s H ex) tg dtg)(ht:∀C s H ex,JC (gc X scope Nc C s H ex) ifs t)(he:∀C s H ex,JE (gc X scope Nc C s H ex) elt te)(fit:jM fr dtg)
 (hx:X.xe=λ _ _=>False:=by rfl) (hc:X.calm=true:=by rfl) (hs:∀x,foldedSetIterable iter X.env x=pure x:=by intro _;rfl):JE X (.ListComp elt [⟨tg,iter,ifs,0⟩] scope pos) (dS src fr dtg t te):=by
 unfold JE JI JG JC at*;exact LH S hi hg ht he fit hx hc hs
def xC{scope:Scope}{Nc:List Str}{elt tg iter:Expr}{ifs:List Expr}{src:DI}{fr:List (Option Nat)}{dtg:fP}(S:bH X scope Nc fr)(hi:JI X tg iter src)(hg:∀C s H ex,JG (gc X scope Nc C s H ex) tg dtg)(ht:∀C s H ex,JC (gc X scope Nc C s H ex) ifs t)(he:∀C s H ex,JE (gc X scope Nc C s H ex) elt te)(fit:jM fr dtg)
 (hx:X.xe=λ _ _=>False:=by rfl) (hc:X.calm=true:=by rfl) (hs:∀x,foldedSetIterable iter X.env x=pure x:=by intro _;rfl):JE X (.ListComp elt [⟨tg,iter,ifs,0⟩] scope pos) (lR src fr dtg t te):=by
 unfold JE JI JG JC at*;exact JM S hi hg ht he fit hx hc hs
def iH:JB X [] ix:=by unfold JB;exact JP
def aD(h:JS X s T):JB X [s] T:=by unfold JB;unfold JS at h;exact Js h
def ak(h:JS X s T)(h2:JB X ss U):JB X (s::ss) (aF T U):=by unfold JB at*;unfold JS at h;exact Hy h h2
def bN(h:JE X e te):JS X (.Return (some e) pos) (cT te):=by unfold JS;unfold JE at h;exact NC h
def dZ(h:JE X e te)(hc:m7 e=true:=by rfl):JS X (.Expr e pos) (fG te):=by unfold JS;unfold JE at h;exact Hf h hc
def i9{x y:List Stmt}(hc:JT X c t)(ha:JB X x T)(hb:JB X y U):JS X (.If c x y pos) (jZ t T U):=by unfold JS;unfold JB at*;unfold JT at hc;exact O5 hc ha hb
def rf{x:List Stmt}(hc:JT X c t)(hb:JB X x T)(hx:X.xe=λ _ _=>False:=by rfl):JS X (.While c x [] pos) (qW t T):=by unfold JS;unfold JB at hb;unfold JT at hc;exact HG (HF (by rw[hx];exact PassesOwn.never) hc hb)
def fm{tg iter:Expr}{x:List Stmt}{src:DI}{dtg:fP}(hi:JI X tg iter src)(hg:JG X tg dtg)(hb:JB X x T)(hx:X.xe=λ _ _=>False:=by rfl)(hc:X.calm=true:=by rfl)(hs:∀x,foldedSetIterable iter X.env x=pure x:=by intro _;rfl):JS X (.For tg iter x [] pos) (gR src dtg T):=by
 unfold JS;unfold JI at hi;unfold JG at hg;unfold JB at hb;exact Ml (Nu (by rw[hx];exact PassesOwn.never) hc hi hg hb hs)
def aW{k:Nat}{x:Str}(hN:X.N.Nodup)(hx:Loc X.env.scope x)(he:JE X e te)(hf:X.fn x=true\/X.env.scope.names.lookup x=some .local:=by first|exact .inl rfl|exact .inr rfl)(h:m7 e=true:=by rfl)(hi:X.N[k]?=some x:=by rfl):JS X (.Assign [.Name x pos'] e pos) (bo k te):=by
 unfold JS;unfold JE at he;exact MY (K9 hN hi hx he hf h)
def uG{scope:Scope}{Nc:List Str}{elt tg iter:Expr}{ifs:List Expr}{src:DI}{fr:List (Option Nat)}{dtg:fP}{k:Nat}{x:Str}(hN:X.N.Nodup)(hl:Loc X.env.scope x)(S:bH X scope Nc fr)(hi:JI X tg iter src)(hg:∀C s H ex,JG (gc X scope Nc C s H ex) tg dtg)(ht:∀C s H ex,JC (gc X scope Nc C s H ex) ifs t)(he:∀C s H ex,JE (gc X scope Nc C s H ex) elt te)(fit:jM fr dtg)
 (hf:X.fn x=true\/X.env.scope.names.lookup x=some .local:=by first|exact .inl rfl|exact .inr rfl) (hsw:swapsWith (.ListComp elt [⟨tg,iter,ifs,0⟩] scope p) (some (.Name x pos')) pos.line X.env=pure true:=by rfl) (hni:X.N[k]?=some x:=by rfl) (hx:X.xe=λ _ _=>False:=by rfl) (hc:X.calm=true:=by rfl) (hs:∀x,foldedSetIterable iter X.env x=pure x:=by intro _;rfl):
 JS X (.Assign [.Name x pos'] (.ListComp elt [⟨tg,iter,ifs,0⟩] scope p) pos) (bo k (dS src fr dtg t te)):=by
 unfold JS;unfold JE JI JG JC at*;exact Ld fit (Co hx hc S hi hg ht he hN hni hl hf hsw hs)
def Ai{scope:Scope}{Nc:List Str}{elt tg iter:Expr}{ifs:List Expr}{src:DI}{fr:List (Option Nat)}{dtg:fP}{k:Nat}{x:Str}(hN:X.N.Nodup)(hl:Loc X.env.scope x)(S:bH X scope Nc fr)(hi:JI X tg iter src)(hg:∀C s H ex,JG (gc X scope Nc C s H ex) tg dtg)(ht:∀C s H ex,JC (gc X scope Nc C s H ex) ifs t)(he:∀C s H ex,JE (gc X scope Nc C s H ex) elt te)(fit:jM fr dtg)
 (hf:X.fn x=true\/X.env.scope.names.lookup x=some .local:=by first|exact .inl rfl|exact .inr rfl) (hsw:swapsWith (.ListComp elt [⟨tg,iter,ifs,0⟩] scope p) (some (.Name x pos')) pos.line X.env=pure true:=by rfl) (hni:X.N[k]?=some x:=by rfl) (hx:X.xe=λ _ _=>False:=by rfl) (hc:X.calm=true:=by rfl) (hs:∀x,foldedSetIterable iter X.env x=pure x:=by intro _;rfl):
 JS X (.Assign [.Name x pos'] (.ListComp elt [⟨tg,iter,ifs,0⟩] scope p) pos) (bo k (lR src fr dtg t te)):=by
 unfold JS;unfold JE JI JG JC at*;exact GY fit (Co hx hc S hi hg ht he hN hni hl hf hsw hs)
def fY(he:JE X e te)(ho:JE X o to)(hi:JE X i ti)(h1:m7 e=true:=by rfl)(h2:kU i=true:=by rfl):JS X (.Assign [.Subscript o i pos'] e pos) (ft to ti te):=by unfold JS;unfold JE at*;exact Ab (MF he ho hi h1 h2)
def M7{k:Nat}{x:Str}{op:Operator}{f:Int->Int->Int}(hN:X.N.Nodup)(hx:Loc X.env.scope x)(he:JE X e te)(ho:Nf X op (NL f))(hf:X.fn x=true\/X.env.scope.names.lookup x=some .local:=by first|exact .inl rfl|exact .inr rfl)(hi:X.N[k]?=some x:=by rfl):JS X (.AugAssign (.Name x pos') op e pos) (C3 k (Br f) te):=by
 unfold JS;unfold JE at he;exact NU (NW hN hi hx he ho hf)
def Eo{k j kt k2:Nat}{x y:Str}{px py pt pt2:Pos}(hN:X.N.Nodup)(hij:k≠j)(hx:X.env.scope.names.lookup x=some .local)(hy:X.env.scope.names.lookup y=some .local)(ha:JA X [a,b] ar)
 (hw:swappedStores [.Tuple [.Name x px,.Name y py] kt pt] (.Tuple [a,b] k2 pt2) X.env=pure (some [x,y]):=by rfl) (hc:X.calm=true:=by rfl) (hi:X.N[k]?=some x:=by rfl) (hj:X.N[j]?=some y:=by rfl) (hs:swapsWithSole [.Tuple [.Name x px,.Name y py] kt pt] (.Tuple [a,b] k2 pt2) pos.line X.env=pure false:=by rfl):
 JS X (.Assign [.Tuple [.Name x px,.Name y py] kt pt] (.Tuple [a,b] k2 pt2) pos) (D3 k j ar):=by unfold JS;unfold JA at ha;exact MP (NM hc hN hi hj hij hx hy ha hw hs)
def Nk{tg:Expr}{dtg:fP}(he:JE X e te)(hg:JG X tg dtg)(hs:swapsWithSole [tg] e pos.line X.env=pure false:=by rfl)(hw:swappedStores [tg] e X.env=pure none:=by rfl)(h1:(assignEach [tg] X.env).map (·.2)=[assign tg X.env]:=by rfl):JS X (.Assign [tg] e pos) (GB dtg te):=by
 unfold JS;unfold JE at he;unfold JG at hg;exact Mm (wM he hg hs hw h1)
end
def cj{P:Program}{w:World}{K:PySem.W.Frag}{mg:Str->Option Value}{base:Heap}{x qual:Str}{st:Stmt}{f:Addr}{fd:FuncData}{N ps:List Str}{k:Nat}{sp:cL}{t:DS}(F:o8 K x qual st f fd)(S:aX N ps (ai st))
 (hbody:∀(cdv:Value) (A:Around) (outer:List Env) (s:Shared) (H:Hp) (E:XK),c8 k (A.deeper (envOfC qual (ai st) s.heap.objs.size f cdv))->JB (rT cM P w K mg base N qual (ai st) f cdv A outer s H E).xi (iI st) t)
 (hsp:∀ds st K,sp ds st K->ds.length=ps.length/\t {nx:=λ _ st'=>K .aB st',rt:=K} (bc N ds) st):bE P w K mg base cM (k+1) f fd ps (cP sp):=by
 unfold JB at hbody;exact Of F S hbody hsp
end L3
namespace HT
open PySem PyProof.Rows
section
variable {prog:Program}{w:World}{A:Around}{E:Value->Shared->Prop}{s:Shared}
def sS{t sl:Addr}{items:Array Value}{vl vu:Value}{lo hi:Option Int}{Q:Value->Shared->Prop}(ht:IsTup s.heap t items)(hs:s.heap.IsSliceOf sl vl vu .none)(pl:IsPart vl lo)(pu:IsPart vu hi)
 (hw:cm items.size 0 lo=0/\cm items.size items.size hi=items.size) (h:Q (.ref t) s):wpAny (model prog w) A (getItem (.ref t) (.ref sl)) Q E s:=by
 obtain⟨os,hos,hcs,hds⟩:=id hs;have hTs:s.TypeIs (.ref sl) "slice":=⟨os,hos,hcs⟩
 unfold getItem;try with_reducible refine UT ?_
 first|refine Rw (RO ?_)|skip
 refine Rw (wpAny_sequenceKey ht.typeIs (by decide) ?_)
 refine Rw (TJ (name:=Str.ofString "__getitem__") ht.typeIs Ti
  (Ur Ti ht.typeIs entry_tuple_getitem ?_ (args_tuple_getitem _ _)))
 show wpAny _ _ (Builtin.Tuple.tupleItemsOf (.ref t) >>= _) _ _ s;refine Rw (tupleItemsOf_ ht ?_);refine Rw (Xg hTs ?_);rw[RC (by decide)];refine Rw (o9 hs pl pu ?_)
 have hyes:(((cm items.size 0 lo:Nat):Int)==0&&(1:Int)==1&&(cm items.size items.size hi-cm items.size 0 lo)==items.size)=true:=by
  rw[hw.1,hw.2];simp
 show wpAny _ _ (if(((cm items.size 0 lo:Nat):Int)==0&&(1:Int)==1&&(cm items.size items.size hi-cm items.size 0 lo)==items.size)=true then _ else _) _ _ s;rw[RC hyes];refine Rw ?_;unfold Builtin.Tuple.tupleIsExact;exact Rw (Xg ht.typeIs (RO (Rw (Vk (RO ⟨_,rfl,RO h⟩)))))
end
end HT
namespace L3
open PySem L2
open PySem.Spec hiding items?
open PyProof.Rows hiding St
abbrev DO:=bQ->af->(Option Int->af->Prop)->Prop
def xQ:DO:=λ _ st K=>K none st
def CV(t:DE):DO:=λ σ st K=>t σ st λ d st1=>match d with| .int i=>K (some i) st1|_=>False
def cutD(xs:List D)(lo hi:Option Int):List D:=(xs.drop (HT.cm xs.length 0 lo)).take (HT.cm xs.length xs.length hi-HT.cm xs.length 0 lo)
def zV(d:D)(lo hi:Option Int)(st:af)(K:DK):Prop:=match d with
 | .lst xs=>K (.lst (cutD xs lo hi)) st
 | .tup xs=>K (.tup (cutD xs lo hi)) st
 | .ref n=>(match st[n]? with|some (.lst xs)=>K (.lst (cutD xs lo hi)) st|_=>False)
 |_=>False
@[irreducible] def td:D->Option Int->Option Int->af->DK->Prop:=zV
def AZ(t:DE)(lo hi:DO):DE:=λ σ st K=>t σ st λ d st1=>lo σ st1 λ l st2=>hi σ st2 λ u st3=>td d l u st3 K
def vW{α:List (Option Addr)}{G:Hp}{xs:List D}{vs:List V}{lo hi:Option Int}(r:aL α G xs vs):aL α G (cutD xs lo hi) (rR vs lo hi):=by
 unfold cutD rR;rw[<-r.length];exact aT.mpr (vp _ (vd _ (aT.mp r)))
def Q4(α:List (Option Addr))(G F:Hp)(K:Option Int->af->Prop)(Q:Option Int->Hp->Prop):Prop:=∀o st',K o st'->∀α' G' H',Step α G α' G'->cn G' F H'->aZ α' st' G'->Q o H'
inductive PY(t:DO)(σ:L2.St)(H:Hp)(Q:Option Int->Hp->Prop):Prop
 |mk (α:List (Option Addr)) (σd:bQ) (st:af) (K:Option Int->af->Prop) (G F:Hp) (P:cn G F H) (R:eH α G σd σ) (S:aZ α st G) (h:t σd st K) (k:Q4 α G F K Q):PY t σ H Q
def LO(t:DO):TO:=PY t
section
variable {X:Cx}
def PO.imp{e:Option Expr}{t t':TO}(h:PO X e t)(f:∀σ H Q,t' σ H Q->t σ H Q):PO X e t':=λ pins s σ H Q I q=>h pins s σ H Q I (f σ H Q q)
def KZ:PO X none (LO xQ):=PO.imp Kk λ σ H Q ⟨α,σd,st,K,G,F,P,R,S,t,k⟩=>k none st t α G H Step.refl P S
def Kd{e:Expr}{te:DE}(h:PE X e (LE te)):PO X (some e) (LO (CV te)):=PO.imp (Kx h) λ σ H Q ⟨α,σd,st,K,G,F,P,R,S,t,k⟩=>by
 refine⟨α,σd,st,_,G,F,P,R,S,t,λ d st1 q α1 G1 H1 v s1 P1 S1 r1=>?_⟩;cases d<;>try exact q.elim
 unfold Rep at r1;exact⟨_,r1,k _ st1 q α1 G1 H1 s1 P1 S1⟩
def Rf(x:V)(lo hi:Option Int)(H:Hp)(Q:VK):Prop:=∃α d st K G F,cn G F H/\Rep α G d x/\aZ α st G/\td d lo hi st K/\LK α G F K Q
def Kw:EU X (λ x lo hi H Q=>∃a xs,x= .ref a/\H a=some (.tup xs)/\((HT.cm xs.length 0 lo=0/\HT.cm xs.length xs.length hi=xs.length)->Q (.ref a) H)/\(¬(HT.cm xs.length 0 lo=0/\HT.cm xs.length xs.length hi=xs.length)->∀p,H p=none->Q (.ref p) (upd H p (.tup (rR xs lo hi))))):=by
 intro pins s σ H x v vl vu lo hi sl Q I rx hs pl pu h;obtain⟨a,xs,rfl,hx,q1,q2⟩:=h;by_cases hw:HT.cm xs.length 0 lo=0/\HT.cm xs.length xs.length hi=xs.length
 . cases rx;obtain⟨its,r,ht,hz⟩:=I.tuple (jO.of hx);have hlen:its.toArray.size=xs.length:=by rw[RM];exact r.length.symm
   exact⟨"tuple",_,Ti.lookup,ht.typeIs,HT.sS ht hs pl pu (by rw[hlen];exact hw) ⟨.ref a,H,I,rfl,q1 hw⟩⟩
 . exact L7 pins s σ H _ v vl vu lo hi sl Q I rx hs pl pu ⟨a,xs,rfl,.of hx,hw,q2 hw⟩
def Ej{xs:List D}{lo hi:Option Int}(hw:HT.cm xs.length 0 lo=0/\HT.cm xs.length xs.length hi=xs.length):cutD xs lo hi=xs:=by
 unfold cutD;rw[hw.1,hw.2];simp
def MA:EU X Rf:=by
 intro pins s σ H x v vl vu lo hi sl Q I rx hs pl pu ⟨α,d,st,K,G,F',P,r1,S,q,k⟩;unfold td zV at q;cases d<;>try exact q.elim
 . rename_i n;simp only at q;split at q
   . rename_i xs e;obtain⟨a,ea,vs,h1,h2⟩:=S.i8 e;have r1':=fb ea r1;subst r1';exact BR pins s σ H _ v vl vu lo hi sl Q I rx hs pl pu ⟨a,vs,rfl,.inl (.of (P.get h1)),λ p hp=>k.lst P q S (vW h2) hp⟩
   . exact q.elim
 . unfold Rep at r1;obtain⟨a,vs,rfl,na,ha,ra⟩:=r1;exact BR pins s σ H _ v vl vu lo hi sl Q I rx hs pl pu ⟨a,vs,rfl,.inl (fF P ha),λ p hp=>k.lst P q S (vW ra) hp⟩
 . rename_i xs;have r0:=r1;unfold Rep at r1;obtain⟨a,vs,rfl,na,ha,ra⟩:=r1;refine Kw pins s σ H _ v vl vu lo hi sl Q I rx hs pl pu ⟨a,vs,rfl,P.get ha,λ hw=>?_,λ _ p hp=>k.tup P q S (vW ra) hp⟩;rw[<-ra.length]at hw;simp only at q;rw[Ej hw]at q;exact k.here P q S r0
def KH{e:Expr}{lo hi:Option Expr}{te:DE}{tl th:DO}{p2 pos:Pos}(he:PE X e (LE te))(hl:PO X lo (LO tl))(hh:PO X hi (LO th)):PE X (.Subscript e (.Slice lo hi none p2) pos) (LE (AZ te tl th)):=PE.imp (GX MA he hl hh) λ σ H Q ⟨α,σd,st,K,G,F,P,R,S,t,k⟩=>by
 refine⟨α,σd,st,_,G,F,P,R,S,t,λ d st1 q α1 G1 H1 v s1 P1 S1 r1=>?_⟩;refine⟨α1,σd,st1,_,G1,F,P1,R.step s1,S1,q,λ l st2 q2 α2 G2 H2 s2 P2 S2=>?_⟩;refine⟨α2,σd,st2,_,G2,F,P2,(R.step s1).step s2,S2,q2,λ u st3 q3 α3 G3 H3 s3 P3 S3=>?_⟩;exact⟨α3,d,st3,K,G3,F,P3,(r1.step s2).step s3,S3,q3,((k.at s1).at s2).at s3⟩
@[irreducible] def JO(X:Cx)(e:Option Expr)(t:DO):Prop:=PO X e (LO t)
def Jv:JO X none xQ:=by unfold JO;exact KZ
def Kh{e:Expr}{te:DE}(h:JE X e te):JO X (some e) (CV te):=by unfold JO;unfold JE at h;exact Kd h
def J_{e:Expr}{lo hi:Option Expr}{te:DE}{tl th:DO}{p2 pos:Pos}(he:JE X e te)(hl:JO X lo tl)(hh:JO X hi th):JE X (.Subscript e (.Slice lo hi none p2) pos) (AZ te tl th):=by unfold JE at*;unfold JO at*;exact KH he hl hh
end
def Gg{st:af}{K:DK}{xs:List D}{lo hi:Option Int}{n:Nat}(h:st[n]?=some (.lst xs))(k:K (.lst (cutD xs lo hi)) st):td (.ref n) lo hi st K:=by unfold td zV;simp only[h];exact k
section
variable {prog:Program}{w:World}{A:Around}{E:Value->Shared->Prop}{s:Shared}
def DY{iT tp:Addr}{n:Nat}{its:Array Value}{v:Value}{Q:Value->Shared->Prop}(hI:s.heap.IsTupleIter iT tp n)(hT:s.heap.IsTuple tp its)(hv:its[n]?=some v)
 (q:∀g,g.IsTupleIter iT tp (n+1)->Heap.SameBut iT s.heap g->Q v {s with heap:=g}):wpAny (model prog w) A (Builtin.SmallTypes.nextOf (.ref iT)) Q E s:=by
 obtain⟨oI,eI,cI,dI⟩:=id hI;obtain⟨oT,eT,_,nT,dT⟩:=hT;unfold Builtin.SmallTypes.nextOf;refine Rw (TJ (name:=Str.ofString "__next__") hI.typeIs UH (Ur UH hI.typeIs Wd ?_ (V8 _)));show wpAny _ _ (field (.ref iT) 0 >>= _) _ _ s;refine Rw (Tw eI dI (x:= .ref tp) rfl ?_);show wpAny _ _ (if(Value.ref tp==Value.none)=true then _ else _) _ _ s;rw[Rx (show¬((Value.ref tp==Value.none)=true)from Sb)];show wpAny _ _ (field (.ref iT) 1 >>= _) _ _ s;refine Rw (Tw eI dI (x:= .int n 0) rfl ?_);show wpAny _ _ (seqItems? (.ref tp) >>= _) _ _ s;refine Rw (Ut eT dT ?_);simp only[R8,hv];refine Rw (wpAny_setField eI dI (by simp) (RO ⟨v,rfl,RO (q _ ?_ (T6 ..))⟩));refine⟨_,Heap.get?_update_self _ eI (Obj.isFreed_of_fields (Obj.data_mapFields dI _)),(Obj.cls_mapFields ..).trans cI,?_⟩;rw[Obj.data_mapFields dI];simp[rawInt]
def Fh{iT tp:Addr}{n:Nat}{its:Array Value}{Q:Value->Shared->Prop}(hh:A.handled=none)(hI:s.heap.IsTupleIter iT tp n)(hT:s.heap.IsTuple tp its)(hv:its[n]?=none)
 (q:∀g e,Heap.ExtBut iT s.heap g->(∃o,g.get? e=some o/\o.cls= .type "StopIteration")->E (.ref e) {s with heap:=g}):wpAny (model prog w) A (Builtin.SmallTypes.nextOf (.ref iT)) Q E s:=by
 obtain⟨oI,eI,cI,dI⟩:=id hI;obtain⟨oT,eT,_,nT,dT⟩:=hT;unfold Builtin.SmallTypes.nextOf;refine Rw (TJ (name:=Str.ofString "__next__") hI.typeIs UH (Ur UH hI.typeIs Wd ?_ (V8 _)));show wpAny _ _ (field (.ref iT) 0 >>= _) _ _ s;refine Rw (Tw eI dI (x:= .ref tp) rfl ?_);show wpAny _ _ (if(Value.ref tp==Value.none)=true then _ else _) _ _ s;rw[Rx (show¬((Value.ref tp==Value.none)=true)from Sb)];show wpAny _ _ (field (.ref iT) 1 >>= _) _ _ s;refine Rw (Tw eI dI (x:= .int n 0) rfl ?_);show wpAny _ _ (seqItems? (.ref tp) >>= _) _ _ s;refine Rw (Ut eT dT ?_);simp only[R8,hv];refine Rw (Vk (Rw (wpAny_setField eI dI (by simp) ?_)));show wpAny _ _ (newExc (.type "StopIteration") [] >>= _) _ _ _;refine Rw ?_;simp only[newExc,newTuple];refine Rw (Uo ?_ (by size_fits));refine Rw (m:=firstArgMember _ _) (wpAny_of_eq (a:=Value.none) (by first|rfl|(simp only[firstArgMember];rfl)) ?_);refine Uo ?_ (by size_fits);simp only[raiseNew];refine Rw (wpAny_handled ?_);first|rw[show A.in1.handled=none from hh]|rw[hh]
 refine Rw (RO (wpAny_throw ?_));exact q _ _ (((T6 ..).extBut.push _).push _) ⟨_,R_ _ rfl,rfl⟩
end
section
variable {st:af}{K:DK}{i j:Int}{b c:Bool}{xs ys:List D}{d e:D}{n:Nat}
def eqT(h:i=j)(k:K (.bl true) st):mE (.int i) (.int j) st K:=FE (by rw[S_ h];exact k)
def Q6(h:i≠j)(k:K (.bl false) st):mE (.int i) (.int j) st K:=FE (by rw[Sv h];exact k)
def eq2(h1:i=j->K (.bl true) st)(h2:i≠j->K (.bl false) st):mE (.int i) (.int j) st K:=by
 by_cases h:i=j
 . exact eqT h (h1 h)
 . exact Q6 h (h2 h)
def neT(h:i≠j)(k:K (.bl true) st):nU (.int i) (.int j) st K:=Ja (by rw[Sv h];exact k)
def NI(h:i=j)(k:K (.bl false) st):nU (.int i) (.int j) st K:=Ja (by rw[S_ h];exact k)
def ne2(h1:i≠j->K (.bl true) st)(h2:i=j->K (.bl false) st):nU (.int i) (.int j) st K:=by
 by_cases h:i=j
 . exact NI h (h2 h)
 . exact neT h (h1 h)
def Rq(h:i<j)(k:K (.bl true) st):wJ (.int i) (.int j) st K:=IY (by rw[S_ h];exact k)
def Ri(h:j<=i)(k:K (.bl false) st):wJ (.int i) (.int j) st K:=IY (by rw[Sv (by omega)];exact k)
def P0(h1:i<j->K (.bl true) st)(h2:j<=i->K (.bl false) st):wJ (.int i) (.int j) st K:=by
 by_cases h:i<j
 . exact Rq h (h1 h)
 . exact Ri (by omega) (h2 (by omega))
def Rh(h:j<i)(k:K (.bl true) st):qE (.int i) (.int j) st K:=Dp (by rw[S_ h];exact k)
def Rp(h:i<=j)(k:K (.bl false) st):qE (.int i) (.int j) st K:=Dp (by rw[Sv (by omega)];exact k)
def ES(h1:j<i->K (.bl true) st)(h2:i<=j->K (.bl false) st):qE (.int i) (.int j) st K:=by
 by_cases h:j<i
 . exact Rh h (h1 h)
 . exact Rp (by omega) (h2 (by omega))
def Lj{P:Prop}(h:xs.length<=1000)(k:P):xs.length<=sizeLine/\P:=⟨by rw[U9];omega,k⟩
def cC{m:Nat}(h:m<=1000):m<=sizeLine:=by rw[U9];omega
def yc(h0:0<=i)(e:xs[i.toNat]?=some d):eF xs i=some d:=by
 have:=jq e;rw[TQ h0]at this;exact this
def pw{m:Nat}(h0:0<=i)(h:i.toNat<m):o4 m i=some i.toNat:=by
 unfold o4;have:i<(m:Int):=by omega
 simp[h0,this]
end
def fT{tg:fP}{body:DS}{ok:af->Prop}{E:nr}(I:List D->bQ->af->Prop)(hend:∀σ st,I [] σ st->ok st/\E.nx σ st)
 (hstep:∀x xs σ st,I (x::xs) σ st->(∀σ' st',I xs σ' st'->ik tg body ok E xs σ' st')->ok st/\∃σ1,tg x σ=some σ1/\body {E with nx:=ik tg body ok E xs,ct:=ik tg body ok E xs,bk:=E.nx} σ1 st):
 ∀xs σ st,I xs σ st->ik tg body ok E xs σ st
 | [],σ,st,h=>by unfold ik;exact hend σ st h
 |x::xs,σ,st,h=>by unfold ik;exact hstep x xs σ st h λ σ' st' h'=>fT I hend hstep xs σ' st' h'
def fv{tg:fP}{c:DT}{te:DE}{ok:af->Prop}{σc:bQ}{K:List D->af->Prop}(I:List D->List D->af->Prop)(hend:∀acc st,I [] acc st->ok st/\K acc st)
 (hstep:∀x xs acc st,I (x::xs) acc st->(∀acc' st',I xs acc' st'->cO tg c te ok σc xs acc' st' K)->ok st/\∃σ2,tg x σc=some σ2/\c σ2 st λ b st1=>if b=true then te σ2 st1 λ y st2=>cO tg c te ok σc xs (acc++[y]) st2 K else cO tg c te ok σc xs acc st1 K):
 ∀xs acc st,I xs acc st->cO tg c te ok σc xs acc st K
 | [],acc,st,h=>by unfold cO;exact hend acc st h
 |x::xs,acc,st,h=>by unfold cO;exact hstep x xs acc st h λ acc' st' h'=>fv I hend hstep xs acc' st' h'
def comp_map{tg:fP}{te:DE}{ok:af->Prop}{σc:bQ}{st:af}{K:List D->af->Prop}{g:D->D}(aM:ok st)(xs:List D)(hx:∀x∈xs,∀K',K' (g x) st->∃σ2,tg x σc=some σ2/\te σ2 st K')(k:K (xs.map g) st):cO tg cS te ok σc xs [] st K:=by
 refine fv (λ r acc st'=>st'=st/\(∀x∈r,x∈xs)/\acc++r.map g=xs.map g) (λ acc st' h=>?_) (λ x r acc st' h next=>?_) xs [] st ⟨rfl,λ _ h=>h,rfl⟩
 . obtain⟨rfl,_,e⟩:=h;rw[List.map_nil,SX]at e;rw[e];exact⟨aM,k⟩
 . obtain⟨rfl,hm,e⟩:=h;obtain⟨σ2,e2,q⟩:=hx x (hm x R6) (λ y st2=>cO tg cS te ok σc r (acc++[y]) st2 K) (next _ _ ⟨rfl,λ z hz=>hm z (RU _ hz),by rw[<-e];simp⟩);exact⟨aM,σ2,e2,q⟩
def mP{A B:DS}{E:nr}{σ:bQ}{st:af}(J:bQ->af->Prop)(h:∀nx,(∀σ' st',J σ' st'->nx σ' st')->A {E with nx:=nx} σ st)(k:∀σ' st',J σ' st'->B E σ' st'):aF A B E σ st:=h (B E) k
def LQ(n:Nat)(K:DK)(y:D)(st2:af):Prop:=∃y',[y]=[y']/\(match st2[n]? with|some (.lst xs)=>xs.length<sizeLine/\K .aB (st2.set n (.lst (xs++[y'])))|_=>False)
def B7{n:Nat}{K:DK}{y:D}{st:af}{xs:List D}(e:st[n]?=some (.lst xs))(h:xs.length<sizeLine)(k:K .aB (st.set n (.lst (xs++[y])))):LQ n K y st:=by
 refine⟨y,rfl,?_⟩;simp only[e];exact⟨h,k⟩
@[irreducible] def oS(to te:DE):DE:=qy to te
def E5{σ:bQ}{st:af}{K:DK}{i n:Nat}{xs:List D}{te:DE}(ei:σ[i]?=some (some (.ref n)))(e:st[n]?=some (.lst xs))(h:te σ st (LQ n K)):oS (aa i) te σ st K:=by
 unfold oS qy aa;simp only[ei,e];exact h
def yB{X:Cx}{o e:Expr}{to te:DE}{apos cpos:Pos}(ho:JE X o to)(he:JE X e te)(hbase:attributeBase o "append" X.env (eval o X.env)=eval o X.env:=by rfl)(hline:(apos.endLine==cpos.line)=true:=by rfl)(hs:notStar e=true:=by rfl):JE X (.Call (.Attribute o "append" apos) [e] [] cpos) (oS to te):=by
 unfold oS;exact HN ho he hbase hline hs
section
variable {X:Cx}
end
structure Src(P:Program)(w:World)(t a:Addr)(J:Nat->Heap->Prop)(us:Array Value):Prop where
 fr:∀n g k,J n g->(∀b,b=t\/b=a->∀o,g.get? b=some o->k.get? b=some o)->J n k
 lv:∀n g,J n g->(∃o,g.get? t=some o)/\∃o,g.get? a=some o
 nx:∀n (A:Around) (s:Shared) (Q:Value->Shared->Prop) (E:Value->Shared->Prop) v,J n s.heap->us[n]?=some v->(∀k,J (n+1) k->Heap.SameBut t s.heap k->Q v {s with heap:=k})->wpAny (model P w) A (Builtin.SmallTypes.nextOf (.ref t)) Q E s
 en:∀n (A:Around) (s:Shared) (Q:Value->Shared->Prop) (E:Value->Shared->Prop),A.handled=none->J n s.heap->us[n]?=none->(∀k e,Heap.ExtBut t s.heap k->(∃o,k.get? e=some o/\o.cls= .type "StopIteration")->E (.ref e) {s with heap:=k})->wpAny (model P w) A (Builtin.SmallTypes.nextOf (.ref t)) Q E s
section
variable {P:Program}{w:World}
def src_list(t a:Addr)(hne:a≠t)(us:Array Value):Src P w t a (λ n g=>g.IsListIter t a n/\g.IsList a us) us where
 fr:=λ n g k j kp=>⟨j.1.at λ o e=>kp t (.inl rfl) o e,j.2.at λ o e=>kp a (.inr rfl) o e⟩
 lv:=λ n g j=>⟨let⟨o,e,_⟩:=j.1;⟨o,e⟩,let⟨o,e,_⟩:=j.2;⟨o,e⟩⟩
 nx:=λ n A s Q E v j hv q=>wpAny_nextOf_list_item j.1 j.2 hv λ k jk sb=>q k ⟨jk,j.2.extBut sb.extBut hne⟩ sb
 en:=λ n A s Q E hh j hv q=>wpAny_nextOf_list_end hh j.1 j.2 hv q
def Lc(t a:Addr)(hne:a≠t)(us:Array Value):Src P w t a (λ n g=>g.IsTupleIter t a n/\g.IsTuple a us) us where
 fr:=λ n g k j kp=>by
  obtain⟨⟨o,e,r⟩,⟨o2,e2,r2⟩⟩:=j;exact⟨⟨o,kp t (.inl rfl) o e,r⟩,⟨o2,kp a (.inr rfl) o2 e2,r2⟩⟩
 lv:=λ n g j=>⟨let⟨o,e,_⟩:=j.1;⟨o,e⟩,let⟨o,e,_⟩:=j.2;⟨o,e⟩⟩
 nx:=λ n A s Q E v j hv q=>DY j.1 j.2 hv λ k jk sb=>q k ⟨jk,j.2.extBut sb.extBut hne⟩ sb
 en:=λ n A s Q E hh j hv q=>Fh hh j.1 j.2 hv q
def Src.ext{t a c:Addr}{J:Nat->Heap->Prop}{us:Array Value}(S:Src P w t a J us){n:Nat}{g k:Heap}(j:J n g)(x:Heap.ExtBut c g k)(h1:c≠t)(h2:c≠a):J n k:=
 S.fr n g k j λ b hb o e=>x b o (by rcases hb with rfl|rfl;exact RK h1;exact RK h2) e
structure Cr(z ti to t1 t2 a1 a2:Addr):Prop where
 nd: [z,ti,to,t1,t2].Nodup
 a1:a1∉[z,ti,to,t1,t2]
 a2:a2∉[z,ti,to,t1,t2]
section
variable {z ti to t1 t2 a1 a2:Addr}
def Cr.n(D:Cr z ti to t1 t2 a1 a2):(ti≠z/\to≠z/\t1≠z/\t2≠z)/\(ti≠to/\ti≠t1/\ti≠t2)/\(to≠t1/\to≠t2)/\t1≠t2:=by
 have:=D.nd;simp only[Ui,R7,Vw,Sz,Th,Va,List.nodup_nil]at this;obtain⟨⟨b1,b2,b3,b4⟩,⟨b5,b6,b7⟩,⟨b8,b9⟩,b10⟩:=this;exact⟨⟨RK b1,RK b2,RK b3,RK b4⟩,⟨b5,b6,b7⟩,⟨b8,b9⟩,b10⟩
def Gh{A:Around}{s:Shared}{E:Value->Shared->Prop}{J1 J2:Nat->Heap->Prop}{us vs:Array Value}{n:Nat}{x y a b:Value}{Q:Value->Shared->Prop}(D:Cr z ti to t1 t2 a1 a2)(S1:Src P w t1 a1 J1 us)(S2:Src P w t2 a2 J2 vs)
 (Z:IsZip s.heap z ti to .none) (pI:IsPair s.heap ti (.ref t1) (.ref t2)) (pO:IsPair s.heap to a b) (j1:J1 n s.heap) (j2:J2 n s.heap) (ex:us[n]?=some x) (ey:vs[n]?=some y)
 (q:∀k,IsZip k z ti to (rawInt s.heap.objs.size)->IsPair k to x y->J1 (n+1) k->J2 (n+1) k->IsPair k s.heap.objs.size x y->k.objs.size=s.heap.objs.size+1->
   (∀c o,c≠z->c≠to->c≠t1->c≠t2->s.heap.get? c=some o->k.get? c=some o)->Q (.ref s.heap.objs.size) {s with heap:=k}):
 wpAny (model P w) A (Builtin.«zip.__next__» ⟨[.ref z],[]⟩) (λ fin s'=>∃v,fin= .done (.ret v)/\Q v s') E s:=by
 obtain⟨⟨n1,n2,n3,n4⟩,⟨n5,n6,n7⟩,⟨n8,n9⟩,n10⟩:=D.n;have m1:=D.a1;have m2:=D.a2;simp only[R7,Vw,Sz,Th,Va]at m1 m2;show wpAny _ _ (field (.ref z) 2 >>= _) _ _ _;refine Rw (Tw Z rfl (x:= .bool false) rfl ?_);show wpAny _ _ (field (.ref z) 3 >>= _) _ _ _;refine Rw (Tw Z rfl (x:= .ref ti) rfl ?_);refine Rw (Ut pI rfl ?_);show wpAny _ _ (Builtin.SmallTypes.ownedTupleIsFree (.ref z) >>= _) _ _ _;refine Rw ?_;unfold Builtin.SmallTypes.ownedTupleIsFree;refine Rw (Tw Z rfl (x:= .none) rfl (RO ?_));simp only[UB];refine Rw (Vk ?_);refine Rw (Tw Z rfl (x:= .ref to) rfl ?_);refine Rw (Uv Z (by simp) λ k1 Z1 b1=>?_);replace Z1:IsZip k1 z ti to .ellipsis:=Z1;refine Rw ?_;simp only[List.zipIdx_cons,List.zipIdx_nil,WM,W3];refine Rw (Rw (Wk ?_));show wpAny _ _ (Builtin.SmallTypes.nextOf (.ref t1) >>= _) _ _ _;refine Rw (S1.nx n _ _ _ _ x (S1.ext j1 b1.extBut (RK n3) (RK m1.1)) ex λ k2 j1b b2=>RO ?_);have pO2:IsPair k2 to a b:=b2.extBut _ _ n8 (b1.extBut _ _ n2 pO);refine Rw (Ut pO2 rfl ?_);refine Rw (VY pO2 λ k3 pO3 b3=>?_);replace pO3:IsPair k3 to x b:=pO3;refine Rw (WU (RO ?_));refine Rw (Rw (Wk ?_));show wpAny _ _ (Builtin.SmallTypes.nextOf (.ref t2) >>= _) _ _ _;have j2c:J2 n k3:=S2.ext (S2.ext (S2.ext j2 b1.extBut (RK n4) (RK m2.1)) b2.extBut n10 (RK m2.2.2.2.1)) b3.extBut n9 (RK m2.2.2.1);refine Rw (S2.nx n _ _ _ _ y j2c ey λ k4 j2d b4=>RO ?_);have pO4:IsPair k4 to x b:=b4.extBut _ _ n9 pO3;refine Rw (Ut pO4 rfl ?_);refine Rw (VY pO4 λ k5 pO5 b5=>?_);replace pO5:IsPair k5 to x y:=pO5;refine Rw (WU (RO (RO ?_)));refine Rw (Ut pO5 rfl ?_);refine Rw (wpAny_newTuple ?_);have sz:k5.objs.size=s.heap.objs.size:=by rw[b5.1,b4.1,b3.1,b2.1,b1.1]
 have Z5:IsZip k5 z ti to .ellipsis:=b5.extBut _ _ (RK n2) (b4.extBut _ _ (RK n4) (b3.extBut _ _ (RK n2) (b2.extBut _ _ (RK n3) Z1)));have kp5:∀c o,c≠z->c≠to->c≠t1->c≠t2->s.heap.get? c=some o->k5.get? c=some o:=λ c o c1 c2 c3 c4 e=>b5.extBut _ _ c2 (b4.extBut _ _ c4 (b3.extBut _ _ c2 (b2.extBut _ _ c3 (b1.extBut _ _ c1 e))));have j1e:J1 (n+1) k5:=S1.ext (S1.ext (S1.ext j1b b3.extBut n8 (RK m1.2.2.1)) b4.extBut (RK n10) (RK m1.2.2.2.2)) b5.extBut n8 (RK m1.2.2.1);have j2e:J2 (n+1) k5:=S2.ext j2d b5.extBut n9 (RK m2.2.2.1);have ltz:z<k5.objs.size:=RW Z5;show wpAny _ _ (Builtin.SmallTypes.ownedTupleHandOut (.ref z) (.ref k5.objs.size) >>= _) _ _ _;refine Rw ?_;unfold Builtin.SmallTypes.ownedTupleHandOut;have Z6:IsZip (k5.push {cls:= .type "tuple",data:= .seq #[x,y]}) z ti to .ellipsis:=RE _ Z5;refine Rw (Uv Z6 (by simp) λ k7 Z7 b7=>?_);replace Z7:IsZip k7 z ti to (rawInt k5.objs.size):=Z7;refine Uv Z7 (by simp) λ k8 Z8 b8=>?_;replace Z8:IsZip k8 z ti to (rawInt k5.objs.size):=Z8;have up:∀c o,c≠z->k5.get? c=some o->k8.get? c=some o:=λ c o c1 e=>b8.extBut _ _ c1 (b7.extBut _ _ c1 (RE _ e));have pT:IsPair k8 k5.objs.size x y:=b8.extBut _ _ (TL ltz) (b7.extBut _ _ (TL ltz) (R_ _ rfl));have sz8:k8.objs.size=k5.objs.size+1:=by rw[b8.1,b7.1,TM]
 rw[sz]at Z8 pT sz8;refine RO ⟨_,rfl,?_⟩;show Q (.ref k5.objs.size) _;rw[sz];refine q k8 Z8 (up _ _ n2 pO5) (S1.fr _ _ _ j1e λ b hb o e=>up b o ?_ e) (S2.fr _ _ _ j2e λ b hb o e=>up b o ?_ e) pT sz8 λ c o c1 c2 c3 c4 e=>up c o c1 (kp5 c o c1 c2 c3 c4 e)
 . rcases hb with rfl|rfl
   . exact n3
   . exact m1.1
 . rcases hb with rfl|rfl
   . exact n4
   . exact m2.1
def GC{A:Around}{s:Shared}{E:Value->Shared->Prop}{J1 J2:Nat->Heap->Prop}{us vs:Array Value}{n:Nat}{a b:Value}{Q:Fin->Shared->Prop}(hh:A.handled=none)(D:Cr z ti to t1 t2 a1 a2)(S1:Src P w t1 a1 J1 us)(S2:Src P w t2 a2 J2 vs)
 (Z:IsZip s.heap z ti to .none) (pI:IsPair s.heap ti (.ref t1) (.ref t2)) (pO:IsPair s.heap to a b) (j1:J1 n s.heap) (j2:J2 n s.heap) (he:us[n]?=none\/vs[n]?=none)
 (q:∀k e,(∀c o,c≠z->c≠to->c≠t1->c≠t2->s.heap.get? c=some o->k.get? c=some o)->(∃o,k.get? e=some o/\o.cls= .type "StopIteration")->E (.ref e) {s with heap:=k}):
 wpAny (model P w) A (Builtin.«zip.__next__» ⟨[.ref z],[]⟩) Q E s:=by
 obtain⟨⟨n1,n2,n3,n4⟩,⟨n5,n6,n7⟩,⟨n8,n9⟩,n10⟩:=D.n;have m1:=D.a1;have m2:=D.a2;simp only[R7,Vw,Sz,Th,Va]at m1 m2;show wpAny _ _ (field (.ref z) 2 >>= _) _ _ _;refine Rw (Tw Z rfl (x:= .bool false) rfl ?_);show wpAny _ _ (field (.ref z) 3 >>= _) _ _ _;refine Rw (Tw Z rfl (x:= .ref ti) rfl ?_);refine Rw (Ut pI rfl ?_);show wpAny _ _ (Builtin.SmallTypes.ownedTupleIsFree (.ref z) >>= _) _ _ _;refine Rw ?_;unfold Builtin.SmallTypes.ownedTupleIsFree;refine Rw (Tw Z rfl (x:= .none) rfl (RO ?_));simp only[UB];refine Rw (Vk ?_);refine Rw (Tw Z rfl (x:= .ref to) rfl ?_);refine Rw (Uv Z (by simp) λ k1 Z1 b1=>?_);replace Z1:IsZip k1 z ti to .ellipsis:=Z1;refine Rw ?_;simp only[List.zipIdx_cons,List.zipIdx_nil,WM,W3];refine Rw (Rw (Wk ?_));show wpAny _ _ (Builtin.SmallTypes.nextOf (.ref t1) >>= _) _ _ _;have j1a:J1 n k1:=S1.ext j1 b1.extBut (RK n3) (RK m1.1);cases ex:us[n]? with
 |none=>
  refine Rw (S1.en n _ _ _ _ hh j1a ex λ k2 e b2 hx=>?_);obtain⟨oe,he1,he2⟩:=hx;have Z2:IsZip k2 z ti to .ellipsis:=b2 _ _ (RK n3) Z1;have hez:e≠z:=λ c=>by subst c;rw[Z2]at he1;cases he1;simp at he2
  refine Uv Z2 (by simp) λ k3 _ b3=>q k3 e (λ c o c1 _ c3 _ f=>b3.extBut _ _ c1 (b2 _ _ c3 (b1.extBut _ _ c1 f))) ⟨oe,b3.extBut _ _ hez he1,he2⟩
 |some x=>
  have ey:vs[n]?=none:=by
   rcases he with h|h
   . rw[ex]at h;cases h
   . exact h
  refine Rw (S1.nx n _ _ _ _ x j1a ex λ k2 j1b b2=>RO ?_);have pO2:IsPair k2 to a b:=b2.extBut _ _ n8 (b1.extBut _ _ n2 pO);refine Rw (Ut pO2 rfl ?_);refine Rw (VY pO2 λ k3 pO3 b3=>?_);refine Rw (WU (RO ?_));refine Rw (Rw (Wk ?_));show wpAny _ _ (Builtin.SmallTypes.nextOf (.ref t2) >>= _) _ _ _;have j2c:J2 n k3:=S2.ext (S2.ext (S2.ext j2 b1.extBut (RK n4) (RK m2.1)) b2.extBut n10 (RK m2.2.2.2.1)) b3.extBut n9 (RK m2.2.2.1);refine Rw (S2.en n _ _ _ _ hh j2c ey λ k4 e b4 hx=>?_);obtain⟨oe,he1,he2⟩:=hx;have Z4:IsZip k4 z ti to .ellipsis:=b4 _ _ (RK n4) (b3.extBut _ _ (RK n2) (b2.extBut _ _ (RK n3) Z1));have hez:e≠z:=λ c=>by subst c;rw[Z4]at he1;cases he1;simp at he2
  refine Uv Z4 (by simp) λ k5 _ b5=>q k5 e (λ c o c1 c2 c3 c4 f=>b5.extBut _ _ c1 (b4 _ _ c4 (b3.extBut _ _ c2 (b2.extBut _ _ c3 (b1.extBut _ _ c1 f))))) ⟨oe,b5.extBut _ _ hez he1,he2⟩
end
end
def Jb{X:Cx}{pins:List (Addr×Obj)}{σ:L2.St}{H:Hp}{s:Shared}{g:Heap}{tk:Nat}{fp:List Addr}{T:Addr}{xs:List V}(I:Inv X pins σ H s)(hf:∀b∈fp,m6 X pins H b)
 (k:∀b o,b∉fp->s.heap.get? b=some o->g.get? b=some o) (hT:s.heap.objs.size<=T) (new:g_ X.prog X.w (upd H T (.tup xs)) g T (.tup xs)):Inv X pins σ (upd H T (.tup xs)) {s with heap:=g,toks:=tk}:=by
 have hn:H T=none:=I.aM.fresh hT;have nfp:∀b u,H b=some u->b∉fp:=λ b u e z=>by rw[(hf b z).1]at e;cases e
 have nT:∀b u,H b=some u->b≠T:=λ b u e=>dP e hn
 refine I.step (g':=s.gens) (d':=s.drawn) (ch:=fp) (λ b hb=>?_) (λ b o _ _ hc e _=>k b o hc e) (λ b o _ _ hc e _=>⟨o.slots,k b o hc e⟩) (λ b o _ e n=>?_) (λ b o hc e=>⟨o,k b o hc e⟩)
  (λ b ys e=>by rw[ay (nT b _ e)];exact e) (λ b o u e=>by rw[ay (nT b _ e)];exact e) (λ b ps e=>⟨#[],by rw[ay (nT b _ e),e];simp⟩) (λ m hm=>?_) (λ b u e=>?_) I.bare
 . obtain⟨f0,f1,f2,f3,f4,f5⟩:=hf b hb;exact⟨f3,f1,f4,f5⟩
 . rw[ay (Se (RQ (RW e) hT))];exact n
 . obtain⟨o,es,ep,ho,r⟩:=hm;exact⟨o,es,ep,k _ o (λ z=>(hf _ z).2.1 rfl) ho,r⟩
 . by_cases hb:b=T
   . subst hb;rw[a6]at e;cases e;exact new
   . rw[ay hb]at e;refine(I.aM b u e).qo (λ c v hc q=>k c v ?_ q) (λ c q=>by rw[ay (nT c _ q)];exact q) λ c ys q=>by rw[ay (nT c _ q)];exact q
     rcases hc with z|z
     . rw[z];exact nfp b u e
     . exact nfp c _ z
def Iz{X:Cx}{pins:List (Addr×Obj)}{σ:L2.St}{H:Hp}{s:Shared}{g:Heap}{tk:Nat}{fp:List Addr}(I:Inv X pins σ H s)(hf:∀b∈fp,m6 X pins H b)
 (k:∀b o,b∉fp->s.heap.get? b=some o->g.get? b=some o):Inv X pins σ H {s with heap:=g,toks:=tk}:=by
 have nfp:∀b u,H b=some u->b∉fp:=λ b u e z=>by rw[(hf b z).1]at e;cases e
 refine I.step (g':=s.gens) (d':=s.drawn) (ch:=fp) (λ b hb=>?_) (λ b o _ _ hc e _=>k b o hc e) (λ b o _ _ hc e _=>⟨o.slots,k b o hc e⟩) (λ b o _ e n=>n) (λ b o hc e=>⟨o,k b o hc e⟩)
  (λ b ys e=>e) (λ b o u e=>e) (λ b ps e=>⟨#[],by rw[e];simp⟩) (λ m hm=>?_) (λ b u e=>?_) I.bare
 . obtain⟨f0,f1,f2,f3,f4,f5⟩:=hf b hb;exact⟨f3,f1,f4,f5⟩
 . obtain⟨o,es,ep,ho,r⟩:=hm;exact⟨o,es,ep,k _ o (λ z=>(hf _ z).2.1 rfl) ho,r⟩
 . refine(I.aM b u e).qo (λ c v hc q=>k c v ?_ q) (λ c q=>q) λ c ys q=>q;rcases hc with z|z
   . rw[z];exact nfp b u e
   . exact nfp c _ z
inductive SK where
 |l|t
def qQ(k:SK)(K:PySem.W.Frag)(H:Hp)(a:Addr)(xs:List V):Prop:=match k with
 | .l=>mF K H a xs
 | .t=>jO K H a xs
def sH(k:SK)(t a:Addr)(n:Nat)(g:Heap):Prop:=match k with
 | .l=>g.IsListIter t a n
 | .t=>g.IsTupleIter t a n
def nV(k:SK)(g:Heap)(a:Addr)(us:Array Value):Prop:=match k with
 | .l=>g.IsList a us
 | .t=>g.IsTuple a us
def AE(k:SK)(a:Addr):Obj:=match k with
 | .l=>{cls:= .type "list_iterator",data:= .fields #[.ref a,.int 0 0]}
 | .t=>{cls:= .type "tuple_iterator",data:= .fields #[.ref a,.int 0 0]}
def oC{P:Program}{w:World}(k:SK)(t a:Addr)(hne:a≠t)(us:Array Value):Src P w t a (λ n g=>sH k t a n g/\nV k g a us) us:=by
 cases k
 . exact src_list t a hne us
 . exact Lc t a hne us
def mr{X:Cx}{pins:List (Addr×Obj)}{σ:L2.St}{H:Hp}{s:Shared}{k:SK}{a:Addr}{xs:List V}(I:Inv X pins σ H s)(h:qQ k X.K H a xs):∃its:List Value,Vals xs its/\nV k s.heap a its.toArray:=by
 cases k
 . obtain⟨its,rv,p,_⟩:=I.list h;exact⟨its,rv,p.isList⟩
 . obtain⟨its,rv,p,_⟩:=I.tuple h;exact⟨its,rv,p⟩
def xZ{X:Cx}{pins:List (Addr×Obj)}{σ:L2.St}{H:Hp}{s:Shared}{k:SK}{a:Addr}{xs ys:List V}(I:Inv X pins σ H s)(h:qQ k X.K H a xs)(h':qQ k X.K H a ys):xs=ys:=by
 cases k
 . exact I.A6 h h'
 . exact I.yL h h'
def E1{P:Program}{w:World}{A:Around}{s:Shared}{E:Value->Shared->Prop}{k:SK}{a:Addr}{us:Array Value}{Q:Value->Shared->Prop}(h:nV k s.heap a us)(q:Q (.ref s.heap.objs.size) {s with heap:=s.heap.push (AE k a)}):wpAny (model P w) A (pyIter (.ref a)) Q E s:=by
 cases k
 . exact VD h q
 . exact UY h q
def nV.push{k:SK}{g:Heap}{a:Addr}{us:Array Value}(h:nV k g a us)(o:Obj):nV k (g.push o) a us:=by
 cases k
 . obtain⟨o',e,r⟩:=h;exact⟨o',RE _ e,r⟩
 . obtain⟨o',e,r⟩:=h;exact⟨o',RE _ e,r⟩
def nV.some{k:SK}{g:Heap}{a:Addr}{us:Array Value}(h:nV k g a us):∃o,g.get? a=Option.some o:=by
 cases k
 . obtain⟨o',e,r⟩:=h;exact⟨o',e⟩
 . obtain⟨o',e,r⟩:=h;exact⟨o',e⟩
def Cj{k:SK}{g h:Heap}{t a:Addr}(e:g.get? t=Option.some (AE k a)):sH k t a 0 g:=by
 cases k
 . exact⟨_,e,rfl,rfl⟩
 . exact⟨_,e,rfl,rfl⟩
def qC{k:SK}{t a:Addr}{n:Nat}{g g':Heap}(h:sH k t a n g)(kp:∀o,g.get? t=Option.some o->g'.get? t=Option.some o):sH k t a n g':=by
 cases k
 . obtain⟨o,e,r⟩:=h;exact⟨o,kp o e,r⟩
 . obtain⟨o,e,r⟩:=h;exact⟨o,kp o e,r⟩
def oO{k:SK}{t a:Addr}{n:Nat}{g:Heap}(h:sH k t a n g):∃o,g.get? t=Option.some o/\∀v,o.data≠ .cell v:=by
 cases k
 . obtain⟨o,e,c,d⟩:=h;exact⟨o,e,λ v z=>by rw[d]at z;cases z⟩
 . obtain⟨o,e,c,d⟩:=h;exact⟨o,e,λ v z=>by rw[d]at z;cases z⟩
def Qd(K:PySem.W.Frag)(k1 k2:SK)(a1 a2:Addr):It:=
 ⟨λ i H=>∃xs ys x y,qQ k1 K H a1 xs/\qQ k2 K H a2 ys/\xs[i]?=some x/\ys[i]?=some y,
  λ i H v H'=>∃T x y,H T=none/\v= .ref T/\H'=upd H T (.tup [x,y])/\(∀xs,qQ k1 K H a1 xs->xs[i]?=some x)/\∀ys,qQ k2 K H a2 ys->ys[i]?=some y,
  λ i H=>∃xs ys,qQ k1 K H a1 xs/\qQ k2 K H a2 ys/\(xs.length<=i\/ys.length<=i)⟩
def N9(z ti to t1 t2 a1 a2:Addr)(k1 k2:SK)(i:Nat)(h:Heap):Prop:=IsZip h z ti to .none/\IsPair h ti (.ref t1) (.ref t2)/\(∃a b,IsPair h to a b)/\sH k1 t1 a1 i h/\sH k2 t2 a2 i h
def G8{P:Program}{w:World}{K:PySem.W.Frag}{elts:List Expr}{kx:Nat}{pos:Pos}{z ti to t1 t2 a1 a2:Addr}(k1 k2:SK)(D:Cr z ti to t1 t2 a1 a2):
 Turn P w K (.Tuple elts kx pos) (Qd K k1 k2 a1 a2) [z,ti,to,t1,t2] z (N9 z ti to t1 t2 a1 a2 k1 k2) where
 mem:=by simp
 obj:=λ i h st b hb=>by
  obtain⟨Z,pI,⟨a,b',pO⟩,i1,i2⟩:=st;simp only[R7,Sz,V9]at hb;rcases hb with rfl|rfl|rfl|rfl|rfl
  . exact⟨_,Z,λ v e=>by cases e⟩
  . exact⟨_,pI,λ v e=>by cases e⟩
  . exact⟨_,pO,λ v e=>by cases e⟩
  . exact oO i1
  . exact oO i2
 keep:=λ i h h' st k=>by
  obtain⟨Z,pI,⟨a,b',pO⟩,i1,i2⟩:=st;exact⟨k z (by simp) _ Z,k ti (by simp) _ pI,⟨a,b',k to (by simp) _ pO⟩,qC i1 (k t1 (by simp)),qC i2 (k t2 (by simp))⟩
 item:=by
  intro X hP hw hK hc i pins s σ H E I hf st hg;subst hP hw hK;obtain⟨Z,pI,⟨a,b',pO⟩,i1,i2⟩:=st;obtain⟨xs,ys,x,y,q1,q2,ex,ey⟩:=hg;obtain⟨us,r1,l1⟩:=mr I q1;obtain⟨vs,r2,l2⟩:=mr I q2;obtain⟨u,eu,ru⟩:=r1.get ex;obtain⟨v,ev,rv⟩:=r2.get ey;have m1:=D.a1;have m2:=D.a2;simp only[R7,Vw,Sz,Th,Va]at m1 m2;obtain⟨⟨n1,n2,n3,n4⟩,⟨n5,n6,n7⟩,⟨n8,n9⟩,n10⟩:=D.n;have tz:s.TypeIs (.ref z) "zip":=⟨_,Z,rfl⟩
  unfold pyNext;refine Rw (Wl (TJ (name:=Str.ofString "__next__") tz VZ (Ur VZ tz F.entry_zip_next (Gh D (oC k1 t1 a1 m1.2.2.2.1 us.toArray) (oC k2 t2 a2 m2.2.2.2.2 vs.toArray) Z pI pO ⟨i1,l1⟩ ⟨i2,l2⟩ (x:=u) (y:=v) (by simpa using eu) (by simpa using ev) λ k Z2 pO2 j1 j2 pT szk kp=>RO ⟨_,rfl,?_⟩) (F.args_zip_next_1 _))));refine wpAny_letOwnedTupleGo_zip (s:={s with heap:=k}) Z2 λ k' Z3 b3=>?_;have hT:s.heap.objs.size≠z:=TL (RW Z)
  have kp3:∀b o,b∉[z,ti,to,t1,t2]->s.heap.get? b=some o->k'.get? b=some o:=λ b o hb e=>by
   simp only[R7,Vw,Sz,Th,Va]at hb;exact b3.extBut _ _ hb.1 (kp b o hb.1 hb.2.2.1 hb.2.2.2.1 hb.2.2.2.2 e)
  refine⟨.ref s.heap.objs.size,upd H s.heap.objs.size (.tup [x,y]),Jb (s:=s) (tk:=s.toks) I hf kp3 (Rv _) ?_,rfl,⟨s.heap.objs.size,x,y,I.aM.fresh (Rv _),rfl,rfl,?_,?_⟩,?_,?_⟩
  . refine⟨RT rfl,[u,v],.cons ru (.cons rv .nil),?_⟩;exact⟨_,b3.extBut _ _ hT pT,rfl,_,rfl⟩
  . intro xs' q';rw[xZ I q' q1];exact ex
  . intro ys' q';rw[xZ I q' q2];exact ey
  . refine⟨Z3,b3.extBut _ _ n1 (kp _ _ n1 n5 n6 n7 pI),⟨_,_,b3.extBut _ _ n2 pO2⟩,qC j1.1 λ o e=>b3.extBut _ _ n3 e,qC j2.1 λ o e=>b3.extBut _ _ n4 e⟩
  . intro b hb
    have:b≠s.heap.objs.size:=by
     obtain⟨o,e,_⟩:∃o,s.heap.get? b=some o/\True:=by
      simp only[R7,Sz,V9]at hb;rcases hb with rfl|rfl|rfl|rfl|rfl
      . exact⟨_,Z,trivial⟩
      . exact⟨_,pI,trivial⟩
      . exact⟨_,pO,trivial⟩
      . obtain⟨o,e,_⟩:=oO i1;exact⟨o,e,trivial⟩
      . obtain⟨o,e,_⟩:=oO i2;exact⟨o,e,trivial⟩
     exact Se (RW e)
    rw[ay this];exact(hf b hb).1
 done:=by
  intro X hP hw hK hc i pins s σ H E I hf st hg;subst hP hw hK;obtain⟨Z,pI,⟨a,b',pO⟩,i1,i2⟩:=st;obtain⟨xs,ys,q1,q2,he⟩:=hg;obtain⟨us,r1,l1⟩:=mr I q1;obtain⟨vs,r2,l2⟩:=mr I q2;have e1:=r1.length;have e2:=r2.length;have m1:=D.a1;have m2:=D.a2;simp only[R7,Vw,Sz,Th,Va]at m1 m2;have tz:s.TypeIs (.ref z) "zip":=⟨_,Z,rfl⟩
  unfold pyNext;refine Rw (Wl (TJ (name:=Str.ofString "__next__") tz VZ (Ur VZ tz F.entry_zip_next (GC (I.ok.hd hc) D (oC k1 t1 a1 m1.2.2.2.1 us.toArray) (oC k2 t2 a2 m2.2.2.2.2 vs.toArray) Z pI pO ⟨i1,l1⟩ ⟨i2,l2⟩ ?_ λ k e kp hx=>?_) (F.args_zip_next_1 _))))
  . rcases he with h|h
    . left;simp;omega
    . right;simp;omega
  . obtain⟨o,ho,hc2⟩:=hx;refine Rw (wpAny_isInstance (T:="StopIteration") (b:=true) ⟨o,ho,hc2⟩ isSubtype_stop ?_);refine RO ⟨rfl,Iz (s:=s) (tk:=s.toks) I hf λ b o hb e=>?_⟩;simp only[R7,Vw,Sz,Th,Va]at hb;exact kp b o hb.1 hb.2.2.1 hb.2.2.2.1 hb.2.2.2.2 e
 self:=λ _ _ _ _ _ st h=>wpAny_pyIter_zip st.1 h
abbrev H_(h:Heap)(k1:SK)(a1:Addr):Heap:=h.push (AE k1 a1)
abbrev Jl(h:Heap)(k1 k2:SK)(a1 a2:Addr):Heap:=(H_ h k1 a1).push (AE k2 a2)
abbrev HZ(h:Heap)(k1 k2:SK)(a1 a2:Addr):Heap:=(Jl h k1 k2 a1 a2).push {cls:= .type "tuple",data:= .seq #[.ref h.objs.size,.ref (H_ h k1 a1).objs.size]}
abbrev Ie(h:Heap)(k1 k2:SK)(a1 a2:Addr):Heap:=(HZ h k1 k2 a1 a2).push {cls:= .type "tuple",data:= .seq #[.none,.none]}
abbrev CG(h:Heap)(k1 k2:SK)(a1 a2:Addr):Heap:=(Ie h k1 k2 a1 a2).push {cls:= .type "zip",data:= .fields #[.none,.bool false,.bool false,.ref (Jl h k1 k2 a1 a2).objs.size,.ref (HZ h k1 k2 a1 a2).objs.size]}
def Es(k1 k2:SK)(a1 a2:Addr)(us vs:Array Value):Meets (Builtin.«zip.__new__» ⟨[.type "zip",.ref a1,.ref a2],[]⟩) (λ _ R s=>nV k1 s.heap a1 us/\nV k2 s.heap a2 vs/\
 R (.ok (.ret (.ref (Ie s.heap k1 k2 a1 a2).objs.size))) {s with heap:=CG s.heap k1 k2 a1 a2}):=
 .of_wp λ P w A R s h=>by
  obtain⟨hp,g,d,tk,os⟩:=s;obtain⟨c1,c2,h⟩:=h;have hsub:=sub_zip;have L1:nV k1 (Shared.heap ⟨hp,g,d,tk,os⟩) a1 us:=c1;have L2:nV k2 (Shared.heap ⟨hp.push (AE k1 a1),g,d,tk,os⟩) a2 vs:=nV.push c2 _
  wp_walk using E1 L1,E1 L2
  exact⟨_,rfl,h⟩
def GU{P:Program}{w:World}{A:Around}{s:Shared}{E:Value->Shared->Prop}{k1 k2:SK}{a1 a2:Addr}{us vs:Array Value}{Q:Value->Shared->Prop}(c1:nV k1 s.heap a1 us)(c2:nV k2 s.heap a2 vs)
 (q:∀g n,n=s.heap.objs.size->IsZip g (n+4) (n+2) (n+3) .none->IsPair g (n+2) (.ref n) (.ref (n+1))->IsPair g (n+3) .none .none->sH k1 n a1 0 g->sH k2 (n+1) a2 0 g->(∀c o,s.heap.get? c=some o->g.get? c=some o)->Q (.ref (n+4)) {s with heap:=g}):
 wpAny (model P w) A (call (.type "zip") [.ref a1,.ref a2]) Q E s:=by
 refine callType_new F.called_zip (by decide) (F.typeCall_zip_2 _ _) (F.newCall_zip_2 _ _) (λ ob=>F.args_object_init_3 ob _ _) F.entry_zip_new (Es k1 k2 a1 a2 us vs) ⟨c1,c2,?_⟩;have y1:(H_ s.heap k1 a1).objs.size=s.heap.objs.size+1:=TM ..;have y2:(Jl s.heap k1 k2 a1 a2).objs.size=s.heap.objs.size+2:=by rw[TM,y1]
 have y3:(HZ s.heap k1 k2 a1 a2).objs.size=s.heap.objs.size+3:=by rw[TM,y2]
 have y4:(Ie s.heap k1 k2 a1 a2).objs.size=s.heap.objs.size+4:=by rw[TM,y3]
 have e5:(CG s.heap k1 k2 a1 a2).get? (Ie s.heap k1 k2 a1 a2).objs.size=some _:=R_ _ rfl;have e4:(CG s.heap k1 k2 a1 a2).get? (HZ s.heap k1 k2 a1 a2).objs.size=some _:=RE _ (R_ _ rfl);have e3:(CG s.heap k1 k2 a1 a2).get? (Jl s.heap k1 k2 a1 a2).objs.size=some _:=RE _ (RE _ (R_ _ rfl));have e2:(CG s.heap k1 k2 a1 a2).get? (H_ s.heap k1 a1).objs.size=some (AE k2 a2):=RE _ (RE _ (RE _ (R_ _ (by cases k2<;>rfl))));have e1:(CG s.heap k1 k2 a1 a2).get? s.heap.objs.size=some (AE k1 a1):=RE _ (RE _ (RE _ (RE _ (R_ _ (by cases k1<;>rfl)))));show _/\_;rw[y2,y3,y4]at e5;rw[y1,y2]at e3;rw[y3]at e4;rw[y1]at e2;rw[y4];exact⟨⟨_,e5,rfl⟩,q _ _ rfl e5 e3 e4 (Cj (h:=s.heap) e1) (Cj (h:=s.heap) e2) λ c o x=>RE _ (RE _ (RE _ (RE _ (RE _ x))))⟩
def IT:D->SK
 | .tup _=> .t
 |_=> .l
def F0(k:SK)(G:Hp)(a:Addr)(vs:List V):Prop:=match k with
 | .l=>Rd G a (.lst vs)
 | .t=>G a=some (.tup vs)
def kP{K:PySem.W.Frag}{k:SK}{G F H:Hp}(P:cn G F H){a:Addr}{vs:List V}(h:F0 k G a vs):qQ k K H a vs:=by
 cases k
 . exact .inl (fF P h)
 . exact jO.of (P.get h)
def oJ{α:List (Option Addr)}{H:Hp}{st:af}{d:D}{v:V}{xs:List D}(S:aZ α st H)(r:Rep α H d v)(e:items? st d=some xs):∃p vs,v= .ref p/\aL α H xs vs/\F0 (IT d) H p vs:=by
 cases d<;>try(cases e;done)
 . unfold items? at e;simp only at e;split at e
   . rename_i ys q;cases e;obtain⟨a,ea,vs,h1,h2⟩:=S.i8 q;exact⟨a,vs,fb ea r,h2,Rd.of h1⟩
   . cases e
 . cases e;unfold Rep at r;obtain⟨a,vs,rfl,_,h1,h2⟩:=r;exact⟨a,vs,rfl,h2,h1⟩
 . cases e;unfold Rep at r;obtain⟨a,vs,rfl,_,h1,h2⟩:=r;exact⟨a,vs,rfl,h2,h1⟩
def k_(xs ys:List D):List D:=(xs.zip ys).map λ p=> .tup [p.1,p.2]
def vN{xs ys:List D}:(k_ xs ys).length=min xs.length ys.length:=by unfold k_;simp
def vX{xs ys:List D}{n:Nat}{d:D}(e:(k_ xs ys)[n]?=some d):∃x y,xs[n]?=some x/\ys[n]?=some y/\d= .tup [x,y]:=by
 unfold k_ at e;rw[RP]at e;cases q:(xs.zip ys)[n]? with
 |none=>rw[q]at e;cases e
 |some p=>
  rw[q]at e;cases e;rw[List.getElem?_zip_eq_some]at q;exact⟨p.1,p.2,q.1,q.2,rfl⟩
def Lw{K:PySem.W.Frag}{k1 k2:SK}{a1 a2:Addr}{α:List (Option Addr)}{G:Hp}{ok:af->Prop}{xs ys:List D}
 (h:∀α' G' st',Step α G α' G'->aZ α' st' G'->ok st'->∃vs ws,F0 k1 G' a1 vs/\F0 k2 G' a2 ws/\aL α' G' xs vs/\aL α' G' ys ws):xO (Qd K k1 k2 a1 a2) α G ok (k_ xs ys) where
 stop:=λ n α' G' F' H' st' s P S o hn=>by
  obtain⟨vs,ws,h1,h2,r1,r2⟩:=h α' G' st' s S o;rw[vN]at hn;refine⟨vs,ws,kP P h1,kP P h2,?_⟩;have:=r1.length;have:=r2.length;omega
 go:=λ n d α' G' F' H' st' s P S o hn=>by
  obtain⟨vs,ws,h1,h2,r1,r2⟩:=h α' G' st' s S o;obtain⟨x,y,ex,ey,rfl⟩:=vX hn;obtain⟨v,ev,_⟩:=r1.get ex;obtain⟨u,eu,_⟩:=r2.get ey;exact⟨vs,ws,v,u,kP P h1,kP P h2,ev,eu⟩
 qI:=λ n d α' G' F' H' st' x H'' s P S o hn y=>by
  obtain⟨vs,ws,h1,h2,r1,r2⟩:=h α' G' st' s S o;obtain⟨c,e,ec,ee,rfl⟩:=vX hn;obtain⟨T,v,u,hT,rfl,rfl,y1,y2⟩:=y;obtain⟨v',ev,rv⟩:=r1.get ec;obtain⟨u',eu,ru⟩:=r2.get ee;rw[y1 vs (kP P h1)]at ev;rw[y2 ws (kP P h2)]at eu;cases ev;cases eu;have hg:=(P.none hT).1;refine⟨upd G' T (.tup [v,u]),Step.laid hg,P.laid hT,S.laid hg,?_⟩;unfold Rep;refine⟨T,[v,u],rfl,S.lZ hg,a6,?_⟩;unfold aL;refine⟨v,[u],rfl,rv.step (Step.laid hg),?_⟩;unfold aL;exact⟨u,[],rfl,ru.step (Step.laid hg),by unfold aL;rfl⟩
def HD(ds:List D)(st1:af)(K:List D->(af->Prop)->af->Prop):Prop:=match ds with
 | [x,y]=>(match items? st1 x,items? st1 y with
   |some xs,some ys=>K (k_ xs ys) (λ st'=>items? st' x=some xs/\items? st' y=some ys) st1
   |_,_=>False)
 |_=>False
@[irreducible] def wK:List D->af->(List D->(af->Prop)->af->Prop)->Prop:=HD
def AO(t:DA):DI:=λ σ st K=>t σ st λ ds st1=>wK ds st1 K
def JX{n a1 a2:Nat}(h1:a1<n)(h2:a2<n):Cr (n+4) (n+2) (n+3) n (n+1) a1 a2:=by
 have e0:([n+4,n+2,n+3,n,n+1]:List Nat).Nodup:=by
  simp only[Ui,R7,Vw,Sz,Th,Va,List.nodup_nil];omega
 have e1:∀a:Nat,a<n->a∉([n+4,n+2,n+3,n,n+1]:List Nat):=λ a ha=>by
  simp only[R7,Vw,Sz,Th,Va];omega
 exact⟨e0,e1 a1 h1,e1 a2 h2⟩
def M9{X:Cx}{a b:Expr}{elts:List Expr}{kx:Nat}{tpos p pos:Pos}{t:DA}(hg:Gl X "zip")(hm:X.mg "zip"=none)(ha:PA X [a,b] (LA t))(hs:starEach [a,b] X.env=[(false,eval a X.env),(false,eval b X.env)])(hs2:starEach [b] X.env=[(false,eval b X.env)]):
 PI X (.Tuple elts kx tpos) (.Call (.Name "zip" p) [a,b] [] pos) (LI (AO t)):=by
 intro pins s σ H R I h;obtain⟨α,σd,st,K,G,F,P,RS,S,t,k⟩:=h;refine Call_ (o_ I hg hm boot_zip (T5 (cu (ha pos pins s σ H (λ vs H1=>∃ds α1 G1 st1,Step α G α1 G1/\cn G1 F H1/\aZ α1 st1 G1/\aL α1 G1 ds vs/\wK ds st1 K) I ⟨α,σd,st,_,G,F,P,RS,S,t,λ ds st1 q α1 G1 H1 vs s1 P1 S1 r1=>⟨ds,α1,G1,st1,s1,P1,S1,r1,q⟩⟩) λ us s1 ⟨vs,H1,I1,rv,ds,α1,G1,st1,w1,P1,S1,r1,q⟩=>?_) (by rw[hs,hs2]) (by rw[hs2];rfl)));unfold wK HD at q;split at q
 . rename_i x y;split at q
   . rename_i xs ys ex ey;obtain⟨v1,v2,rfl,q1,q2⟩:=rm r1 rfl;obtain⟨p1,vs1,rfl,g1,c1⟩:=oJ S1 q1 ex;obtain⟨p2,vs2,rfl,g2,c2⟩:=oJ S1 q2 ey;obtain⟨u1,u2,rfl,ru1,ru2⟩:=vals2 rv;cases ru1;cases ru2;obtain⟨its1,_,l1⟩:=mr I1 (kP P1 c1);obtain⟨its2,_,l2⟩:=mr I1 (kP P1 c2);refine GU l1 l2 λ g n hn Z pI pO i1 i2 kp=>?_;obtain⟨o1,eo1⟩:=l1.some;obtain⟨o2,eo2⟩:=l2.some;refine wpAny_pyIter_zip (s:={s1 with heap:=g}) Z ?_;refine⟨n+4,[n+4,n+2,n+3,n,n+1],_,_,H1,rfl,I1.kept (t':=s1.toks) kp,G8 (IT x) (IT y) (JX (by rw[hn];exact RW eo1) (by rw[hn];exact RW eo2)),⟨Z,pI,⟨_,_,pO⟩,i1,i2⟩,λ b hb=>?_,?_⟩
     . have hb':s1.heap.objs.size<=b:=by
        simp only[R7,Sz,V9]at hb;rcases hb with rfl|rfl|rfl|rfl|rfl<;>(rw[<-hn];first|exact Rv _|exact Nat.le_add_right _ _)
       exact I1.yi hb' (I1.aM.fresh hb')
     . refine k _ _ st1 q _ α1 G1 H1 w1 P1 S1 (Lw λ α' G' st' s' S' o=>?_);obtain⟨p1',ws1,e1,f1,d1⟩:=oJ S' (q1.step s') o.1;obtain⟨p2',ws2,e2,f2,d2⟩:=oJ S' (q2.step s') o.2;cases e1;cases e2;exact⟨ws1,ws2,d1,d2,f1,f2⟩
   . exact q.elim
 . exact q.elim
def Bv{st:af}{x y:D}{xs ys:List D}{K:List D->(af->Prop)->af->Prop}(ex:items? st x=some xs)(ey:items? st y=some ys)(k:∀ok:af->Prop,(∀st',items? st' x=some xs->items? st' y=some ys->ok st')->K (k_ xs ys) ok st):wK [x,y] st K:=by
 unfold wK HD;simp only[ex,ey];exact k _ λ st' h1 h2=>⟨h1,h2⟩
def Dj{X:Cx}{a b:Expr}{elts:List Expr}{kx:Nat}{tpos p pos:Pos}{ar:DA}(hg:Gl X "zip")(hm:X.mg "zip"=none)(ha:JA X [a,b] ar)(hs:notStar a=true:=by rfl)(hs2:notStar b=true:=by rfl):JI X (.Tuple elts kx tpos) (.Call (.Name "zip" p) [a,b] [] pos) (AO ar):=by
 unfold JI;unfold JA at ha;exact M9 hg hm ha (by rw[cE hs,cE hs2];rfl) (cE hs2)
section
variable {X:Cx}
end
def ints_map:∀ns:List Int,m9 (ns.map D.int)=some ns
 | []=>rfl
 |n::ns=>by simp[m9,ints_map ns]
section
variable {X:Cx}{pos:Pos}
end
end L3
namespace L3
open PySem L2 PySem.SeqAt
open PySem.Spec hiding items?
open PyProof.Rows hiding St
section
variable {X:Cx}{pins:List (Addr×Obj)}{σ:L2.St}{H:Hp}{s:Shared}{α:List (Option Addr)}
end
def tL{st:af}{n:Nat}{xs:List D}(h:items? st (.ref n)=some xs):st[n]?=some (.lst xs):=by
 unfold items? at h;simp only at h;split at h
 . rename_i q;cases h;exact q
 . cases h
def JY{st:af}{d:D}{xs:List D}{K:List D->(af->Prop)->af->Prop}(h:items? st d=some xs)(k:∀ok:af->Prop,(∀st',items? st' d=some xs->ok st')->K xs ok st):qk d st K:=by
 cases d with
 |lst ys=>cases h;exact lh (k _ λ _ _=>trivial)
 |tup ys=>cases h;exact lD (k _ λ _ _=>trivial)
 |ref n=>
  have e:=tL h;unfold qk xY;simp only[e];exact k _ λ st' h'=>tL h'
 |_=>cases h
end L3
namespace L3
open PySem L2
open PySem.Spec hiding items?
open PyProof.Rows hiding St
section
variable {X:Cx}
def IB:dy:=λ x y st K=>match x,y with
 | .lst xs,.int k=>(-(2^63)<=k/\k<2^63/\xs.length*k.toNat<=sizeLine)/\K (.ref st.length) (st++[.lst (List.replicate k.toNat xs).flatten])
 |_,_=>False
def NO:cf X (binaryOp .Mult) (LR IB):=λ pins s σ H x y v u Q I rx ry ⟨α,d,e,st,K,G,F',P,r1,r2,S,q,k⟩=>by
 cases d<;>cases e<;>try exact q.elim
 unfold Rep at r1 r2;obtain⟨a,vs,rfl,na,ha,ra⟩:=r1;refine Cs pins s σ H _ _ v u Q I rx ry ⟨a,_,vs,rfl,r2,fF P ha,q.1.1,q.1.2.1,by rw[<-ra.length];exact q.1.2.2,λ p hp=>?_⟩;exact k.new P q.2 S (aT.mpr (nv (aT.mp ra) _)) hp
@[irreducible] def wt:dy:=IB
def Mv:cf X (binaryOp .Mult) (LR wt):=by unfold wt;exact NO
end
def Kq{st:af}{K:DK}{xs:List D}{i:Int}(h: -(2^63)<=i/\i<2^63/\xs.length*i.toNat<=sizeLine)(k:K (.ref st.length) (st++[.lst (List.replicate i.toNat xs).flatten])):wt (.lst xs) (.int i) st K:=by unfold wt;exact⟨h,k⟩
def yH{n:Nat}{d:D}(h:d∈cY 0 n):∃i:Nat,i<n/\d= .int (i:Int):=by
 unfold cY at h;obtain⟨i,hi,rfl⟩:=Sl.mp h;rw[TC]at hi;exact⟨i,hi,by rw[Vh]⟩
def yI{f:Nat->D}(n:Nat):(cY 0 n).map (λ d=>match d with| .int i=>f i.toNat|_=> .aB)=(List.range n).map f:=by
 unfold cY;rw[Sn];refine SQ λ i _=>?_;show f ((0:Int)+(i:Int)).toNat=f i;have:((0:Int)+(i:Int)).toNat=i:=by omega
 rw[this]
def si{tg:fP}{te:DE}{σc:bQ}{st:af}{K:List D->af->Prop}(f:Nat->D)(n:Nat)(hx:∀i:Nat,i<n->∀K',K' (f i) st->∃σ2,tg (.int (i:Int)) σc=some σ2/\te σ2 st K')(k:K ((List.range n).map f) st):cO tg cS te (λ _=>True) σc (cY 0 n) [] st K:=by
 refine comp_map (g:=λ d=>match d with| .int i=>f i.toNat|_=> .aB) trivial _ (λ d hd K' q=>?_) (by rw[yI];exact k);obtain⟨i,hi,rfl⟩:=yH hd;exact hx i hi K' q
def jT{tg:fP}{body:DS}{E:nr}(n:Nat)(I:Nat->bQ->af->Prop)(hend:∀σ st,I n σ st->E.nx σ st)
 (hstep:∀(j:Nat) σ st (rest:List D),j<n->I j σ st->(∀σ' st',I (j+1) σ' st'->ik tg body (λ _=>True) E rest σ' st')->∃σ1,tg (.int (j:Int)) σ=some σ1/\body {E with nx:=ik tg body (λ _=>True) E rest,ct:=ik tg body (λ _=>True) E rest,bk:=E.nx} σ1 st)
 {σ:bQ} {st:af} (h0:I 0 σ st):ik tg body (λ _=>True) E (cY 0 n) σ st:=by
 refine fT (λ rest σ st=>∃j:Nat,j<=n/\rest=(List.range (n-j)).map (λ i=>D.int (((j+i:Nat):Int)))/\I j σ st) ?_ ?_ _ _ _ ⟨0,RX _,by unfold cY;simp,h0⟩
 . rintro σ st ⟨j,hj,hr,hI⟩
   have:n-j=0:=by
    cases q:n-j with
    |zero=>rfl
    |succ m=>rw[q,Su]at hr;cases hr
   have hjn:j=n:=by omega
   subst hjn;exact⟨trivial,hend σ st hI⟩
 . rintro d rest σ st ⟨j,hj,hr,hI⟩ next
   cases q:n-j with
   |zero=>rw[q]at hr;cases hr
   |succ m=>
    rw[q,Su,R0,Sn]at hr;simp only[Ta]at hr;obtain⟨rfl,hrest⟩:=hr;refine⟨trivial,hstep j σ st rest (by omega) hI λ σ' st' h'=>next σ' st' ⟨j+1,by omega,?_,h'⟩⟩;have:n-(j+1)=m:=by omega
    rw[this,hrest];refine SQ λ i _=>?_;show D.int (((j+(i+1):Nat):Int))=D.int (((j+1+i:Nat):Int));congr 2;omega
abbrev DM:=Nat->List D->af->DK->Prop
def LiftM(r:DM)(rM:V->List V->Hp->VK->Prop):Prop:=∀(α:List (Option Addr)) (G F H:Hp) (st:af) (K:DK) (Q:VK) (n:Nat) (a:Addr) (ds:List D) (ws:List V),cn G F H->aZ α st G->α[n]?=some (some a)->aL α G ds ws->r n ds st K->LK α G F K Q->rM (.ref a) ws H Q
@[irreducible] def rO(r:DM)(to:DE)(ta:DA):DE:=λ σ st K=>to σ st λ x st1=>match x with
 | .ref n=>(match st1[n]? with|some (.lst _)=>ta σ st1 λ ds st2=>(∃xs,st2[n]?=some (.lst xs))/\r n ds st2 K|_=>False)
 |_=>False
section
variable {X:Cx}
def LE.QP{r:DM}{rM:V->List V->Hp->VK->Prop}(L:LiftM r rM){to:DE}{ta:DA}{σ:L2.St}{H:Hp}{Q:VK}(h:LE (rO r to ta) σ H Q):MW X.K "list" rM (LE to) (LA ta) σ H Q:=by
 obtain⟨α,σd,st,K,G,F,P,R,S,t,k⟩:=h;unfold rO at t;refine⟨α,σd,st,_,G,F,P,R,S,t,λ x st1 q α1 G1 H1 v s1 P1 S1 r1=>?_⟩;cases x<;>try exact q.elim
 rename_i n;simp only at q;split at q
 . rename_i ys e;obtain⟨p,ep,vs,h1,h2⟩:=S1.i8 e;have r1':=fb ep r1;subst r1';refine⟨.inl ⟨rfl,vs,.inl (.of (P1.get h1))⟩,α1,σd,st1,_,G1,F,P1,R.step s1,S1,q,?_⟩;rintro ds st2 ⟨⟨xs,e2⟩,q2⟩ α2 G2 H2 ws s2 P2 S2 r2;obtain⟨p2,ep2,_⟩:=S2.i8 e2
   have:p2=p:=by
    rcases s2.pre _ _ ep with z|z<;>(rw[z]at ep2;cases ep2)
    rfl
   subst this;exact L α2 G2 F H2 st2 K Q n p2 ds ws P2 S2 ep2 r2 q2 ((k.at s1).at s2)
 . exact q.elim
def Lh{r:DM}{rM:V->List V->Hp->VK->Prop}{name:Str}{id:String}(L:LiftM r rM)(slot:Slot "list" name id)(hty:typeOf (.builtin id)=pure (.type "method_descriptor"))(hm:Nz X id rM){o e:Expr}{es:List Expr}{to:DE}{ta:DA}{apos cpos:Pos}(ho:PE X o (LE to))(ha:PA X (e::es) (LA ta))
 (hbase:attributeBase o name X.env (eval o X.env)=eval o X.env) (hfew:((backTo cpos (starEach (e::es) X.env)).all (λ x=> !x.1)&&(backToKw cpos (keywordEach [] X.env)).all (λ x=>x.1.isSome)
   &&decide ((e::es).length+([]:List Keyword).length+(if([]:List Keyword).isEmpty then 0 else 1)<30))=true)
 (hline:(apos.endLine==cpos.line)=true) (hs:starEach (e::es) X.env=(false,eval e X.env)::starEach es X.env) (hplain:(backTo cpos (starEach es X.env)).any (·.1)=false):PE X (.Call (.Attribute o name apos) (e::es) [] cpos) (LE (rO r to ta)):=
 PE.imp (I_ WL slot hty hm ho ha hbase hfew hline hs hplain) λ _ _ _ h=>LE.QP L h
end
abbrev yt:=D->bQ->af->(bQ->af->Prop)->Prop
inductive Lg(t:yt)(v:V)(σ:L2.St)(H:Hp)(Q:L2.St->Hp->Prop):Prop
 |mk (α:List (Option Addr)) (σd:bQ) (st:af) (d:D) (K:bQ->af->Prop) (G F:Hp) (P:cn G F H) (R:eH α G σd σ) (S:aZ α st G) (r:Rep α G d v) (h:t d σd st K) (k:LC α G F K Q):Lg t v σ H Q
def Bw(t:yt):TG:=Lg t
def uQ(to ti:DE):yt:=λ d σ st K=>to σ st λ x st1=>ti σ st1 λ y st2=>vS x y d st2 λ st3=>K σ st3
section
variable {X:Cx}{pos:Pos}
def F6{tg:Expr}{to ti:DE}(h:PG X tg (xT (LE to) (LE ti) uM)):PG X tg (Bw (uQ to ti)):=PG.imp h λ v σ H Q ⟨α,σd,st,d,K,G,F,P,R,S,r,q,k⟩=>by
 unfold uQ vS at q;refine⟨α,σd,st,_,G,F,P,R,S,q,λ x st2 q2 α2 G2 H2 v2 s2 P2 S2 r2=>?_⟩;refine⟨α2,σd,st2,_,G2,F,P2,R.step s2,S2,q2,λ y st3 q3 α3 G3 H3 v3 s3 P3 S3 r3=>?_⟩;cases x<;>cases y<;>try exact q3.elim
 rename_i n kk;unfold A7 at q3;simp only at q3;split at q3
 . rename_i xs e;split at q3
   . rename_i j ej;obtain⟨p,ep,vs,hv,rv⟩:=S3.i8 e;have r2':=fb ep (r2.step s3);subst r2';unfold Rep at r3;have hm:some p∈α3:=Sg ep;have rd:=(r.step s2).step s3;refine⟨p,vs,kk,j,rfl,r3,P3.get hv,by rw[<-rv.length];exact ej,?_⟩;refine((k.at s2).at s3) σd _ q3 α3 (upd G3 p (.lst (vs.set j v))) _ σ (Step.write hm) (P3.write hv) (((R.step s2).step s3).step (Step.write hm)) ?_;exact S3.write ep ⟨vs.set j v,a6,(aT.mpr (rV rd j (aT.mp rv))).step (Step.write hm)⟩
   . exact q3.elim
 . exact q3.elim
def wC(t u:yt):yt:=λ d σ st K=>match d with| .tup [x,y]=>t x σ st λ σ1 st1=>u y σ1 st1 K|_=>False
def JF{a b:Expr}{kx:Nat}{t u:yt}(hc:X.calm=true)(ha:PG X a (Bw t))(hb:PG X b (Bw u))(hn:(assignEach [a,b] X.env).length=2)(hst:(assignEach [a,b] X.env).findIdx? (·.1)=none)(hs1:Fu X [a,b] (wQ (Bw t) (wQ (Bw u) HW))):
 PG X (.Tuple [a,b] kx pos) (Bw (wC t u)):=PG.imp (F7 hc hs1 hn hst) λ v σ H Q ⟨α,σd,st,d,K,G,F,P,R,S,r,q,k⟩=>by
 unfold wC at q;split at q
 . rename_i x y;unfold Rep at r;obtain⟨p,vs,rfl,na,h1,h2⟩:=r;obtain⟨v1,v2,rfl,r1,r2⟩:=rm h2 rfl;refine⟨p,_,rfl,.of (P.get h1),rfl,v1,_,rfl,α,σd,st,x,_,G,F,P,R,S,r1,q,λ σ1 st1 q1 α1 G1 H1 σ1' s1 P1 R1 S1=>?_⟩;refine⟨v2,_,rfl,α1,σ1,st1,y,_,G1,F,P1,R1,S1,r2.step s1,q1,λ σ2 st2 q2 α2 G2 H2 σ2' s2 P2 R2 S2=>?_⟩;exact⟨rfl,((k.at s1).at s2).here P2 q2 R2 S2⟩
 . exact q.elim
def Dr(t:yt)(te:DE):DS:=λ E σ st=>te σ st λ d st1=>t d σ st1 E.nx
def Ki{s:Stmt}{te:DE}{t:yt}(h:PS X s (mR (LE te) (Bw t))):PS X s (LS (Dr t te)):=PS.imp h λ D σ H ⟨α,σd,st,DD,G,F,P,R,S,q,k⟩=>
 ⟨α,σd,st,_,G,F,P,R,S,q,λ d st1 q1 α1 G1 H1 v s1 P1 S1 r1=>⟨α1,σd,st1,d,DD.nx,G1,F,P1,R.step s1,S1,r1,q1,k.nx.at s1⟩⟩
def Ky{o1 i1 o2 i2 e:Expr}{kx:Nat}{p1 p2 tp:Pos}{to1 ti1 to2 ti2 te:DE}(ho1:JE X o1 to1)(hi1:JE X i1 ti1)(ho2:JE X o2 to2)(hi2:JE X i2 ti2)(he:JE X e te)(hc:X.calm=true:=by rfl)
 (hs:swapsWithSole [.Tuple [.Subscript o1 i1 p1,.Subscript o2 i2 p2] kx tp] e pos.line X.env=pure false:=by rfl) (hw:swappedStores [.Tuple [.Subscript o1 i1 p1,.Subscript o2 i2 p2] kx tp] e X.env=pure none:=by rfl)
 (h1:(assignEach [.Tuple [.Subscript o1 i1 p1,.Subscript o2 i2 p2] kx tp] X.env).map (·.2)=[assign (.Tuple [.Subscript o1 i1 p1,.Subscript o2 i2 p2] kx tp) X.env]:=by rfl) (hn:(assignEach [.Subscript o1 i1 p1,.Subscript o2 i2 p2] X.env).length=2:=by rfl) (hst:(assignEach [.Subscript o1 i1 p1,.Subscript o2 i2 p2] X.env).findIdx? (·.1)=none:=by rfl)
 (ha1:∀v,assign (.Subscript o1 i1 p1) X.env v=(do
   let ov <-holding [v] (eval o1 X.env)
   let iv <-holding [v,ov] (eval i1 X.env)
   standAt p1
   holding [v,ov,iv] (setItem ov iv v)
   release [v,ov,iv] []):=by intro _;rfl) (ha2:∀v,assign (.Subscript o2 i2 p2) X.env v=(do
   let ov <-holding [v] (eval o2 X.env)
   let iv <-holding [v,ov] (eval i2 X.env)
   standAt p2
   holding [v,ov,iv] (setItem ov iv v)
   release [v,ov,iv] []):=by intro _;rfl):
 JS X (.Assign [.Tuple [.Subscript o1 i1 p1,.Subscript o2 i2 p2] kx tp] e pos) (Dr (wC (uQ to1 ti1) (uQ to2 ti2)) te):=by
 unfold JS;unfold JE at*;have g1:=F6 (xn ho1 hi1 set_list ha1);have g2:=F6 (xn ho2 hi2 set_list ha2);exact Ki (wM he (JF hc g1 g2 hn hst (rJ g1 (rJ g2 Ca))) hs hw h1)
end
section
variable {X:Cx}
end
section
variable {st:af}{K:DK}{d:D}{b:Bool}
end
section
variable {X:Cx}
def KO{o i elt:Expr}{gs:List Comprehension}{sc:Scope}{p:Pos}{to ti te:TE}{pos pos':Pos}(he:PE X (.ListComp elt gs sc p) te)(ho:PE X o to)(hi:PE X i ti)(h2:kU i=true:=by rfl):PS X (.Assign [.Subscript o i pos'] (.ListComp elt gs sc p) pos) (mR te (xT to ti uM)):=
 wM he (xn ho hi set_list (by intro v;cases i<;>first|rfl|cases h2)) (by unfold swapsWithSole swapsWith;rfl) rfl rfl
def yp{o i elt:Expr}{gs:List Comprehension}{sc:Scope}{p pos pos':Pos}{te to ti:DE}(he:JE X (.ListComp elt gs sc p) te)(ho:JE X o to)(hi:JE X i ti)(h2:kU i=true:=by rfl):JS X (.Assign [.Subscript o i pos'] (.ListComp elt gs sc p) pos) (ft to ti te):=by
 unfold JS;unfold JE at*;exact Ab (KO he ho hi h2)
end
end L3
namespace L3
open PySem L2
open PySem.Spec hiding items?
open PyProof.Rows hiding St
open AutoSeq1 (wpAny_loadPart')
def K7{P:Program}{w:World}{A:Around}(hh:A.handled=none)(k:SK)(t a:Addr)(hne:a≠t)(us:Array Value):Draws P w A t [t,a] us.size (λ i v=>us[i]?=some v) (λ n g=>sH k t a n g/\nV k g a us) where
 live:=λ i h z=>((oC (P:=P) (w:=w) k t a hne us).lv i h z).1
 frame:=λ i h h' z kp=>(oC (P:=P) (w:=w) k t a hne us).fr i h h' z λ b hb o e=>kp b (by rcases hb with rfl|rfl<;>simp) o e
 item:=λ i s Q E hi z q=>(oC (P:=P) (w:=w) k t a hne us).nx i A s Q E us[i] z (by simp[hi]) λ g j sb=>q _ g s.toks (by simp[hi]) j sb
 done:=λ s Q E z q=>(oC (P:=P) (w:=w) k t a hne us).en us.size A s Q E hh z (by simp) q
def qX(l:Addr)(items:Array Value)(n:Nat)(dct:Option Addr)(sl:Array (Option Value)):
 Meets (Builtin.«enumerate.__new__» ⟨[.type "enumerate",.ref l],[]⟩) (λ _ R s=>s.heap.get? l=some {cls:= .type "tuple",dict:=dct,data:= .seq items n,slots:=sl}/\
  R (.ok (.ret (.ref (s.heap.push {cls:= .type "tuple_iterator",data:= .fields #[.ref l,.int 0 0]}).objs.size)))
   {s with heap:=(s.heap.push {cls:= .type "tuple_iterator",data:= .fields #[.ref l,.int 0 0]}).push {cls:= .type "enumerate",data:= .fields #[.none,.bool false,.ref s.heap.objs.size,rawInt 0,.none,.none]}}):=
 .of_wp λ prog w A R s h=>by
  obtain⟨hp,g,d,tk,os⟩:=s;obtain⟨hl,h⟩:=h;have hsub:=sub_enumerate;have hL:Heap.IsTuple (Shared.heap ⟨hp,g,d,tk,os⟩) l items:=⟨_,hl,rfl,n,rfl⟩
  wp_walk using wpAny_loadPart' hl
  refine wpAny_stack_any λ st=>RO ?_;split
  . rename_i c _ _ _ _ _;cases (c==Value.type "enumerate")
    . wp_walk using wpAny_loadPart' hl,UY hL
      exact⟨_,rfl,h⟩
    . wp_walk using wpAny_loadPart' hl,UY hL
      exact⟨_,rfl,h⟩
  . wp_walk using wpAny_loadPart' hl,UY hL
    exact⟨_,rfl,h⟩
def Fj{P:Program}{w:World}{A:Around}{s:Shared}{E:Value->Shared->Prop}{k:SK}{a:Addr}{us:Array Value}{Q:Value->Shared->Prop}(c:nV k s.heap a us)
 (q:∀g,IsEnum g (s.heap.objs.size+1) s.heap.objs.size 0 .none->sH k s.heap.objs.size a 0 g->(∀b o,s.heap.get? b=some o->g.get? b=some o)->Q (.ref (s.heap.objs.size+1)) {s with heap:=g}):
 wpAny (model P w) A (call (.type "enumerate") [.ref a]) Q E s:=by
 cases k
 . exact call_enumerate_list c λ g h1 h2 _ h4=>q g h1 h2 h4
 . obtain⟨⟨c,dct,dt,sl⟩,hl,hc,n,hd⟩:=c;replace hc:c= .type "tuple":=hc;replace hd:dt= .seq us n:=hd;subst hc hd
   refine callType_new F.called_enumerate (by decide) (F.typeCall_enumerate_1 _) (F.newCall_enumerate_1 _) (λ obj=>F.args_object_init_2 obj _) F.entry_enumerate_new
    (qX a us n dct sl) ⟨hl,?_⟩
   have hz:(s.heap.push {cls:= .type "tuple_iterator",data:= .fields #[.ref a,.int 0 0]}).objs.size=s.heap.objs.size+1:=TM ..;show _/\_;rw[hz]
   have he:IsEnum ((s.heap.push {cls:= .type "tuple_iterator",data:= .fields #[.ref a,.int 0 0]}).push
    {cls:= .type "enumerate",data:= .fields #[.none,.bool false,.ref s.heap.objs.size,rawInt 0,.none,.none]}) (s.heap.objs.size+1) s.heap.objs.size 0 .none:=by
    have:=R_ (s.heap.push {cls:= .type "tuple_iterator",data:= .fields #[.ref a,.int 0 0]})
     (o:={cls:= .type "enumerate",data:= .fields #[.none,.bool false,.ref s.heap.objs.size,rawInt 0,.none,.none]}) rfl
    rw[hz]at this;exact this
   exact⟨⟨_,he,rfl⟩,q _ he ⟨_,RE _ (R_ _ rfl),rfl,rfl⟩ λ b o x=>RE _ (RE _ x)⟩
def P9(K:PySem.W.Frag)(k:SK)(a:Addr):It:=
 ⟨λ i H=>∃xs x,qQ k K H a xs/\xs[i]?=some x,
  λ i H v H'=>∃T x,H T=none/\v= .ref T/\H'=upd H T (.tup [.int (i:Int),x])/\∀xs,qQ k K H a xs->xs[i]?=some x,
  λ i H=>∃xs,qQ k K H a xs/\xs.length<=i⟩
def Qz(e t a:Addr)(k:SK)(i:Nat)(h:Heap):Prop:=(∃old,IsEnum h e t i old)/\sH k t a i h
def Eb{P:Program}{w:World}{K:PySem.W.Frag}{elts:List Expr}{kx:Nat}{pos:Pos}{e t a:Addr}(k:SK)(n1:e≠t)(n2:a≠e)(n3:a≠t):
 Turn P w K (.Tuple elts kx pos) (P9 K k a) [e,t] e (Qz e t a k) where
 mem:=by simp
 obj:=λ i h st b hb=>by
  obtain⟨⟨old,he⟩,i1⟩:=st;simp only[R7,Sz,V9]at hb;rcases hb with rfl|rfl
  . exact⟨_,he,λ v z=>by cases z⟩
  . exact oO i1
 keep:=λ i h h' st kp=>by
  obtain⟨⟨old,he⟩,i1⟩:=st;exact⟨⟨old,kp e (by simp) _ he⟩,qC i1 (kp t (by simp))⟩
 item:=by
  intro X hP hw hK hc i pins s σ H E I hf st hg;subst hP hw hK;obtain⟨⟨old,he⟩,i1⟩:=st;obtain⟨xs,x,q1,ex⟩:=hg;obtain⟨us,r1,l1⟩:=mr I q1;obtain⟨u,eu,ru⟩:=r1.get ex
  have hlt:i<us.toArray.size:=by
   have:=(RB.mp eu).1;simpa using this
  refine wpAny_pyNext_enum_itemD (K7 (A:=X.A.in1) (show X.A.in1.handled=none from I.ok.hd hc) k t a n3 us.toArray) he ⟨i1,l1⟩ hlt n1 (by simp only[R7,Sz,V9,Vw];exact⟨n1,RK n2⟩) λ y h' tk py ho hs hT hsz kp=>⟨_,rfl,?_⟩
  have hy:y=u:=by
   have:us[i]?=some y:=by simpa using py
   rw[eu]at this;cases this;rfl
  subst hy;refine wpAny_letOwnedTupleGo_enum (s:={s with heap:=h',toks:=tk+1}) ho λ k' he' sb=>?_;have hTe:s.heap.objs.size≠e:=TL (RW he)
  have kp3:∀b o,b∉[e,t]->s.heap.get? b=some o->k'.get? b=some o:=λ b o hb eb=>by
   simp only[R7,Vw,Sz,Th,Va]at hb;exact sb.extBut _ _ hb.1 (kp b o hb.1 hb.2 eb)
  refine⟨.ref s.heap.objs.size,upd H s.heap.objs.size (.tup [.int (i:Int),x]),Jb (s:=s) (tk:=tk+1) I hf kp3 (Rv _) ?_,rfl,⟨s.heap.objs.size,x,I.aM.fresh (Rv _),rfl,rfl,?_⟩,?_,?_⟩
  . refine⟨RT rfl,[.int (i:Int) tk,y],.cons ⟨tk,rfl⟩ (.cons ru .nil),?_⟩;exact⟨_,sb.extBut _ _ hTe hT,rfl,_,rfl⟩
  . intro xs' q';rw[xZ I q' q1];exact ex
  . refine⟨⟨_,by simpa using he'⟩,qC hs.1 λ o eo=>sb.extBut _ _ (RK n1) eo⟩
  . intro b hb
    have:b≠s.heap.objs.size:=by
     obtain⟨o,eb⟩:∃o,s.heap.get? b=some o:=by
      simp only[R7,Sz,V9]at hb;rcases hb with rfl|rfl
      . exact⟨_,he⟩
      . obtain⟨o,eo,_⟩:=oO i1;exact⟨o,eo⟩
     exact Se (RW eb)
    rw[ay this];exact(hf b hb).1
 done:=by
  intro X hP hw hK hc i pins s σ H E I hf st hg;subst hP hw hK;obtain⟨⟨old,he⟩,i1⟩:=st;obtain⟨xs,q1,hle⟩:=hg;obtain⟨us,r1,l1⟩:=mr I q1;have e1:=r1.length;have tz:s.TypeIs (.ref e) "enumerate":=⟨_,he,rfl⟩
  unfold pyNext;refine Rw (Wl (TJ (name:=Str.ofString "__next__") tz F.slot_enumerate_next (Ur F.slot_enumerate_next tz F.entry_enumerate_next ?_ (F.args_enumerate_next_1 _))));show wpAny _ _ (field (.ref e) 2 >>= _) _ _ _;refine Rw (Tw he rfl (x:= .ref t) rfl ?_);refine Rw ((oC k t a n3 us.toArray).en i _ s _ _ (I.ok.hd hc) ⟨i1,l1⟩ (by simp;omega) λ g x sb hx=>?_);obtain⟨o,ho,hc2⟩:=hx;refine Rw (wpAny_isInstance (T:="StopIteration") (b:=true) ⟨o,ho,hc2⟩ isSubtype_stop ?_);refine RO ⟨rfl,Iz (s:=s) (tk:=s.toks) I hf λ b o hb eb=>?_⟩;simp only[R7,Vw,Sz,Th,Va]at hb;exact sb b o hb.2 eb
 self:=λ _ _ _ _ _ st h=>wpAny_pyIter_enum st.1.choose_spec h
def fe:Nat->List D->List D
 |_,[]=>[]
 |i,x::xs=> .tup [.int (i:Int),x]::fe (i+1) xs
def nD:∀ {xs:List D} {i:Nat},(fe i xs).length=xs.length
 | [],_=>rfl
 |_::xs,i=>by unfold fe;rw[So,So,nD]
def pQ:∀ {xs:List D} {i n:Nat} {d:D},(fe i xs)[n]?=some d->∃x,xs[n]?=some x/\d= .tup [.int ((i+n:Nat):Int),x]
 | [],_,_,_,e=>by unfold fe at e;cases e
 |x::xs,i,0,d,e=>by
  unfold fe at e;rw[List.getElem?_cons_zero]at e;cases e;exact⟨x,rfl,rfl⟩
 |x::xs,i,n+1,d,e=>by
  unfold fe at e;rw[VB]at e;obtain⟨y,h1,h2⟩:=pQ e;refine⟨y,by rw[VB];exact h1,?_⟩;rw[h2,show i+1+n=i+(n+1) by omega]
def Ko{K:PySem.W.Frag}{k:SK}{a:Addr}{α:List (Option Addr)}{G:Hp}{ok:af->Prop}{xs:List D}
 (h:∀α' G' st',Step α G α' G'->aZ α' st' G'->ok st'->∃vs,F0 k G' a vs/\aL α' G' xs vs):xO (P9 K k a) α G ok (fe 0 xs) where
 stop:=λ n α' G' F' H' st' s P S o hn=>by
  obtain⟨vs,h1,r1⟩:=h α' G' st' s S o;rw[nD]at hn;refine⟨vs,kP P h1,?_⟩;have:=r1.length;omega
 go:=λ n d α' G' F' H' st' s P S o hn=>by
  obtain⟨vs,h1,r1⟩:=h α' G' st' s S o;obtain⟨x,ex,rfl⟩:=pQ hn;obtain⟨v,ev,_⟩:=r1.get ex;exact⟨vs,v,kP P h1,ev⟩
 qI:=λ n d α' G' F' H' st' x H'' s P S o hn y=>by
  obtain⟨vs,h1,r1⟩:=h α' G' st' s S o;obtain⟨c,ec,rfl⟩:=pQ hn;obtain⟨T,v,hT,rfl,rfl,y1⟩:=y;obtain⟨v',ev,rv⟩:=r1.get ec;rw[y1 vs (kP P h1)]at ev;cases ev;have hg:=(P.none hT).1;refine⟨upd G' T (.tup [.int (n:Int),v]),Step.laid hg,P.laid hT,S.laid hg,?_⟩;unfold Rep;refine⟨T,[.int (n:Int),v],rfl,S.lZ hg,a6,?_⟩;unfold aL;refine⟨.int (n:Int),[v],rfl,?_,?_⟩
  . unfold Rep;rw[Uw]
  unfold aL;exact⟨v,[],rfl,rv.step (Step.laid hg),by unfold aL;rfl⟩
def CK(ds:List D)(st1:af)(K:List D->(af->Prop)->af->Prop):Prop:=match ds with
 | [x]=>(match items? st1 x with
   |some xs=>K (fe 0 xs) (λ st'=>items? st' x=some xs) st1
   |_=>False)
 |_=>False
@[irreducible] def tX:List D->af->(List D->(af->Prop)->af->Prop)->Prop:=CK
def uW(t:DA):DI:=λ σ st K=>t σ st λ ds st1=>tX ds st1 K
def ER:bootBuiltins "enumerate"=some (.type "enumerate"):=by decide+kernel
def JJ{X:Cx}{a:Expr}{elts:List Expr}{kx:Nat}{tpos p pos:Pos}{t:DA}(hg:Gl X "enumerate")(hm:X.mg "enumerate"=none)(ha:PA X [a] (LA t))(hs:starEach [a] X.env=[(false,eval a X.env)]):
 PI X (.Tuple elts kx tpos) (.Call (.Name "enumerate" p) [a] [] pos) (LI (uW t)):=by
 intro pins s σ H R I h;obtain⟨α,σd,st,K,G,F,P,RS,S,t,k⟩:=h;refine Call_ (o_ I hg hm ER (T5 (cu (ha pos pins s σ H (λ vs H1=>∃ds α1 G1 st1,Step α G α1 G1/\cn G1 F H1/\aZ α1 st1 G1/\aL α1 G1 ds vs/\tX ds st1 K) I ⟨α,σd,st,_,G,F,P,RS,S,t,λ ds st1 q α1 G1 H1 vs s1 P1 S1 r1=>⟨ds,α1,G1,st1,s1,P1,S1,r1,q⟩⟩) λ us s1 ⟨vs,H1,I1,rv,ds,α1,G1,st1,w1,P1,S1,r1,q⟩=>?_) (by rw[hs];rfl) (by rfl)));unfold tX CK at q;split at q
 . rename_i x;split at q
   . rename_i xs ex;obtain⟨v1,rfl,q1⟩:=ja r1 rfl;obtain⟨p1,vs1,rfl,g1,c1⟩:=oJ S1 q1 ex;obtain⟨u1,rfl,ru1⟩:=vals1 rv;cases ru1;obtain⟨its1,_,l1⟩:=mr I1 (kP P1 c1);refine Fj l1 λ g he i1 kp=>?_;obtain⟨o1,eo1⟩:=l1.some;have hp1:p1<s1.heap.objs.size:=RW eo1;refine wpAny_pyIter_enum (s:={s1 with heap:=g}) he ?_;refine⟨s1.heap.objs.size+1,[s1.heap.objs.size+1,s1.heap.objs.size],_,_,H1,rfl,I1.kept (t':=s1.toks) kp,Eb (IT x) (TL (Sq _)) (Se (SD hp1)) (Se hp1),⟨⟨_,he⟩,i1⟩,λ b hb=>?_,?_⟩
     . have hb':s1.heap.objs.size<=b:=by
        simp only[R7,Sz,V9]at hb;rcases hb with rfl|rfl
        . exact U_ _
        . exact Rv _
       exact I1.yi hb' (I1.aM.fresh hb')
     . refine k _ _ st1 q _ α1 G1 H1 w1 P1 S1 (Ko λ α' G' st' s' S' o=>?_);obtain⟨p1',ws1,e1,f1,d1⟩:=oJ S' (q1.step s') o;cases e1;exact⟨ws1,d1,f1⟩
   . exact q.elim
 . exact q.elim
def uP{st:af}{x:D}{xs:List D}{K:List D->(af->Prop)->af->Prop}(ex:items? st x=some xs)(k:∀ok:af->Prop,(∀st',items? st' x=some xs->ok st')->K (fe 0 xs) ok st):tX [x] st K:=by
 unfold tX CK;simp only[ex];exact k _ λ st' h1=>h1
def wx{X:Cx}{a:Expr}{elts:List Expr}{kx:Nat}{tpos p pos:Pos}{ar:DA}(hg:Gl X "enumerate")(hm:X.mg "enumerate"=none)(ha:JA X [a] ar)(hs:notStar a=true:=by rfl):JI X (.Tuple elts kx tpos) (.Call (.Name "enumerate" p) [a] [] pos) (uW ar):=by
 unfold JI;unfold JA at ha;exact JJ hg hm ha (cE hs)
end L3
namespace L3
open PySem L2
open PySem.Spec hiding items?
open PyProof.Rows hiding St
section
variable {prog:Program}{w:World}{A:Around}{E:Value->Shared->Prop}{s:Shared}
end
section
variable {X:Cx}{tg:Expr}
end
section
variable {X:Cx}
def IX:dy:=λ x y st K=>match x,y with
 | .lst xs,.lst ys=>xs.length+ys.length<=sizeLine/\K (.ref st.length) (st++[.lst (xs++ys)])
 |_,_=>False
def M5:cf X (binaryOp .Add) (LR IX):=λ pins s σ H x y v u Q I rx ry ⟨α,d,e,st,K,G,F',P,r1,r2,S,q,k⟩=>by
 cases d<;>cases e<;>try exact q.elim
 unfold Rep at r1 r2;obtain⟨a,vs,rfl,na,ha,ra⟩:=r1;obtain⟨b,ws,rfl,nb,hb,rb⟩:=r2;refine Ce pins s σ H _ _ v u Q I rx ry ⟨a,b,vs,ws,rfl,rfl,fF P ha,fF P hb,by rw[<-ra.length,<-rb.length];exact q.1,λ p hp=>?_⟩;exact k.new P q.2 S (aT.mpr (fZ (aT.mp ra) (aT.mp rb))) hp
@[irreducible] def wI:dy:=IX
def NA:cf X (binaryOp .Add) (LR wI):=by unfold wI;exact M5
end
def J0{st:af}{K:DK}{xs ys:List D}(h:xs.length+ys.length<=sizeLine)(k:K (.ref st.length) (st++[.lst (xs++ys)])):wI (.lst xs) (.lst ys) st K:=by unfold wI;exact⟨h,k⟩
end L3
namespace L3
open PySem L2
open PySem.Spec hiding items?
open PyProof.Rows hiding St
open PySem PySem.Spec L2 PySem.SeqAt
section
variable {X:Cx}
end
end L3
namespace L3
open PySem L2
open PySem.Spec hiding items?
open PyProof.Rows hiding St
section
variable {X:Cx}
end
section
variable {P:Program}{w:World}
section
variable {z ti to t1 t2 t3 a1 a2 a3:Addr}
end
end
def EB:DS:=λ _ _ _=>False
def HH{X:Cx}{s:Stmt}:JS X s EB:=by
 unfold JS;intro pins s σ H D I h;obtain⟨α,σd,st,DD,G,F,P,R,S,q,k⟩:=h;exact q.elim
section
variable {X:Cx}
end
end L3
namespace L3
open PySem L2
open PySem.Spec hiding items?
open PyProof.Rows hiding St
open Sem (wp)
section
variable {prog:Program}{w:World}{A:Around}{s:Shared}{E:Value->Shared->Prop}
end
section
variable {prog:Program}{w:World}{A:Around}{R:Result->Shared->Prop}{I:Addr}{fp wr:List Addr}{G:Array GenState->Array GenState->Prop}{n:Nat}{P:Nat->Value->Prop}{Sx:Nat->Shared->Prop}
end
section
variable {prog:Program}{w:World}{A:Around}{E:Value->Shared->Prop}{s:Shared}
end
section
variable {X:Cx}{pins:List (Addr×Obj)}{σ:L2.St}{H:Hp}{s:Shared}{α:List (Option Addr)}
end
end L3
namespace L3
open PySem L2
open PySem.Spec hiding items?
open PyProof.Rows hiding St
section
variable {X:Cx}
def zq:gw:=λ ds st K=>match ds with| [.lst xs]=>(match iM xs with|some bs=>K (.bl (bs.any id)) st|none=>False)|_=>False
def range_any{α:Type}(l:List α)(f:α->Bool)(tr:Nat->Bool)(h:∀i x,l[i]?=some x->tr i=f x):(List.range l.length).any tr=l.any f:=by
 induction l generalizing tr with
 |nil=>rfl
 |cons a l ih=>
  rw[So,Su,UG,UG,List.any_map,h 0 a rfl];congr 1;exact ih (tr∘Nat.succ) λ i x e=>h (i+1) x (by simpa using e)
def OU(hc:X.calm=true):bR X (.builtin "any") (iE zq):=λ pins s σ H xs us Q I rs ⟨α,ds,st,K,G,F',P,r,S,q,k⟩=>by
 unfold zq at q;split at q
 . rename_i ys;split at q
   . rename_i bs e;obtain⟨v,rfl,r1⟩:=ja r rfl;unfold Rep at r1;obtain⟨a,vs,rfl,na,h1,h2⟩:=r1;obtain⟨u,rfl,ru⟩:=vals1 rs;cases ru;have hv:=qY h2 e;subst hv;obtain⟨z,its,n,rv,hl,eo⟩:=Inv.wa I (fF P h1);have hits:=se rv;subst hits;have isL:s.heap.IsList a (bs.map Value.bool).toArray:=⟨_,eo,rfl,n,rfl⟩
     refine call_any_walk (VD isL ?_);have hne:a≠s.heap.objs.size:=Se (RW eo);refine⟨s.heap.objs.size,_,_,_,_,_,λ i=>(bs[i]?).getD true,rfl,Walks.list (A:=X.A.in1) (I.ok.hd hc) _ a hne (bs.map Value.bool).toArray,⟨⟨_,R_ _ rfl,rfl,rfl⟩,⟨_,RE _ eo,rfl,n,rfl⟩⟩,?_,?_⟩
     . intro i w s' Q' E' hP hQ;rw[W4,RP]at hP;cases zb:bs[i]? with
       |none=>rw[zb]at hP;cases hP
       |some b=>
        rw[zb]at hP;cases hP;simp only[zb]at hQ;exact Ve hQ
     . intro h' tk hk
       have kp:∀b o,s.heap.get? b=some o->h'.get? b=some o:=λ b o q=>hk b o (by
        intro hb;have:b=s.heap.objs.size:=by simpa using hb
        exact absurd (RW q) (by rw[this];exact TY _)) (RE _ q)
       have ea:(List.range (bs.map Value.bool).toArray.size).any (λ i=>(bs[i]?).getD true)=bs.any id:=by
        rw[RM,Rz];exact range_any bs id _ λ i x e=>by rw[e];rfl
       rw[ea];exact⟨.bl (bs.any id),H,I.kept (t':=tk) kp,rfl,k.here P q S (by unfold Rep;rfl)⟩
   . exact q.elim
 . exact q.elim
@[irreducible] def A3:gw:=zq
def Pl(hc:X.calm=true):bR X (.builtin "any") (iE A3):=by unfold A3;exact OU hc
end
def Me{st:af}{K:DK}{xs:List D}{bs:List Bool}(h:iM xs=some bs)(k:K (.bl (bs.any id)) st):A3 [.lst xs] st K:=by unfold A3 zq;simp only[h];exact k
def putD(f:Str)(v:D):List (Str×D)->List (Str×D)
 | []=>[(f,v)]
 |(g,x)::r=>if g=f then(g,v)::r else(g,x)::putD f v r
def kZ.look{α:List (Option Addr)}{H:Hp}{f:Str}{v:D}:∀ {fs:List (Str×D)} {vs:List (Str×V)},kZ α H fs vs->fs.lookup f=some v->∃u,vs.lookup f=some u/\Rep α H v u
 | [],_,_,e=>by cases e
 |(g,x)::fs,_,.cons (b:=q) h t,e=>by
  obtain⟨g',y⟩:=q;obtain⟨h1,h2⟩:=h;simp only at h1 h2;subst h1;rw[SW]at e⊢;cases hb:f==g with
  |true=>rw[hb]at e;cases e;exact⟨y,rfl,h2⟩
  |false=>rw[hb]at e;exact kZ.look t e
def kZ.none{α:List (Option Addr)}{H:Hp}{f:Str}:∀ {fs:List (Str×D)} {vs:List (Str×V)},kZ α H fs vs->fs.lookup f=Option.none->vs.lookup f=Option.none
 | [],_,.nil,_=>rfl
 |(g,x)::fs,_,.cons (b:=q) h t,e=>by
  obtain⟨g',y⟩:=q;obtain⟨h1,h2⟩:=h;simp only at h1 h2;subst h1;rw[SW]at e⊢;cases hb:f==g with
  |true=>rw[hb]at e;cases e
  |false=>rw[hb]at e;exact kZ.none t e
def kZ.put{α:List (Option Addr)}{H:Hp}{f:Str}{d:D}{v:V}(r:Rep α H d v):∀ {fs:List (Str×D)} {vs:List (Str×V)},kZ α H fs vs->kZ α H (putD f d fs) (iO f v vs)
 | [],_,.nil=> .cons ⟨rfl,r⟩ .nil
 |(g,x)::fs,_,.cons (b:=q) h t=>by
  obtain⟨g',y⟩:=q;obtain⟨h1,h2⟩:=h;simp only at h1 h2;subst h1;unfold putD iO;by_cases hb:g=f
  . rw[RC hb,RC hb];exact .cons ⟨rfl,r⟩ t
  . rw[Rx hb,Rx hb];exact .cons ⟨rfl,h2⟩ (kZ.put r t)
def HC(C:Addr)(f:Str)(d:D)(st:af)(K:DK):Prop:=match d with
 | .ref n=>(match st[n]? with|some (.ins C' fs)=>C'=C/\∃v,fs.lookup f=some v/\K v st|_=>False)
 |_=>False
@[irreducible] def Du(C:Addr)(f:Str):D->af->DK->Prop:=HC C f
def bS(C:Addr)(f:Str)(te:DE):DE:=λ σ st K=>te σ st λ d st1=>Du C f d st1 K
def a8{C:Addr}{f:Str}{n:Nat}{st:af}{K:DK}{fs:List (Str×D)}{v:D}(e:st[n]?=some (.ins C fs))(h:fs.lookup f=some v)(k:K v st):Du C f (.ref n) st K:=by
 unfold Du HC;simp only[e];exact⟨trivial,v,h,k⟩
def DH(C:Addr)(f:Str)(x d:D)(st:af)(K:af->Prop):Prop:=match x with
 | .ref n=>(match st[n]? with|some (.ins C' fs)=>C'=C/\fs.length<1000/\K (st.set n (.ins C (putD f d fs)))|_=>False)
 |_=>False
@[irreducible] def xf(C:Addr)(f:Str):D->D->af->(af->Prop)->Prop:=DH C f
def fI(C:Addr)(f:Str)(to te:DE):DS:=λ D σ st=>te σ st λ d st1=>to σ st1 λ x st2=>xf C f x d st2 λ st3=>D.nx σ st3
def mL{C:Addr}{f:Str}{n:Nat}{d:D}{st:af}{K:af->Prop}{fs:List (Str×D)}(e:st[n]?=some (.ins C fs))(h:fs.length<1000)(k:K (st.set n (.ins C (putD f d fs)))):xf C f (.ref n) d st K:=by
 unfold xf DH;simp only[e];exact⟨trivial,h,k⟩
def zw(C:Addr)(m:Str)(x:D)(st:af)(k:Prop):Prop:=match x with
 | .ref n=>(match st[n]? with|some (.ins C' fs)=>C'=C/\fs.lookup m=none/\k|_=>False)
 |_=>False
@[irreducible] def wD(C:Addr)(m:Str):D->af->Prop->Prop:=zw C m
def dY{C:Addr}{m:Str}{n:Nat}{st:af}{k:Prop}{fs:List (Str×D)}(e:st[n]?=some (.ins C fs))(h:fs.lookup m=none)(q:k):wD C m (.ref n) st k:=by
 unfold wD zw;simp only[e];exact⟨trivial,h,q⟩
def d9(C:Addr)(m:Str)(S:cL)(to:DE)(t:DA):DE:=λ σ st K=>to σ st λ x st1=>wD C m x st1 (t σ st1 λ ds st2=>S (x::ds) st2 K)
def zk(C:Addr)(S:cL)(t:DA):DE:=λ σ st K=>t σ st λ ds st1=>S (.ref st1.length::ds) (st1++[.ins C []]) λ r st2=>r= .aB/\K (.ref st1.length) st2
section
variable {X:Cx}{C f g:Addr}{fd:FuncData}{k:Nat}{x m fl:Str}{e o value:Expr}{es:List Expr}{p pos pos' apos:Pos}{te to:DE}{t:DA}{S:cL}{ps:List Str}
def OH(c:om X.K C)(na:d_ X.K C fl)(he:PE X e (LE te))(hb:attributeBase e fl X.env (eval e X.env)=eval e X.env):PE X (.Attribute e fl pos) (LE (bS C fl te)):=PE.imp (MH he hb) λ σ H Q ⟨α,σd,st,K,G,F,P,R,S,t,k⟩=>by
 refine⟨α,σd,st,_,G,F,P,R,S,t,λ d st1 q α1 G1 H1 v s1 P1 S1 r1=>?_⟩;unfold Du HC at q;cases d<;>try exact q.elim
 simp only at q;split at q
 . rename_i C' fs e';obtain⟨rfl,w,hw,q⟩:=q;obtain⟨a,ea,dx,vs,h1,h2⟩:=S1.wX e';have r1':=fb ea r1;subst r1';obtain⟨u,hu,ru⟩:=h2.look hw;exact⟨a,_,dx,vs,u,rfl,P1.get h1,c,na,hu,(k.at s1).here P1 q S1 ru⟩
 . exact q.elim
def MI(c:om X.K C)(na:d_ X.K C fl)(ho:PE X o (LE to))(hv:PE X value (LE te))(hs:swapsWith value (some (.Attribute o fl pos')) pos.line X.env=pure false):PS X (.Assign [.Attribute o fl pos'] value pos) (LS (fI C fl to te)):=PS.imp (NG ho hv hs) λ D σ H ⟨α,σd,st,DD,G,F,P,R,S,t,k⟩=>by
 refine⟨α,σd,st,_,G,F,P,R,S,t,λ d st1 q α1 G1 H1 v s1 P1 S1 r1=>?_⟩;refine⟨α1,σd,st1,_,G1,F,P1,R.step s1,S1,q,λ x st2 q2 α2 G2 H2 v2 s2 P2 S2 r2=>?_⟩;unfold xf DH at q2;cases x<;>try exact q2.elim
 simp only at q2;split at q2
 . rename_i C' fs e';obtain⟨rfl,hl,q2⟩:=q2;obtain⟨a,ea,dx,vs,h1,h2⟩:=S2.wX e';have r2':=fb ea r2;subst r2';have hm:some a∈α2:=Sg ea;have lv:vs.length<1000:=by rw[<-h2.length];exact hl
   refine⟨a,_,dx,vs,rfl,P2.get h1,c,na,lv,?_⟩;refine((k.nx.at s1).at s2) σd _ q2 α2 (upd G2 a (.ins _ dx (iO fl v vs))) _ σ (Step.write hm) (P2.write h1) (((R.step s1).step s2).step (Step.write hm)) ?_;exact S2.write ea ⟨dx,iO fl v vs,a6,(h2.put (r1.step s2)).step (Step.write hm)⟩
 . exact q2.elim
def LE.N1{σ:L2.St}{H:Hp}{Q:VK}(h:LE (d9 C m S to t) σ H Q):D4 C m (cP S) [] E0 (LE to) (LA t) σ H Q:=by
 obtain⟨α,σd,st,K,G,F,P,R,Sr,tt,k⟩:=h;refine⟨α,σd,st,_,G,F,P,R,Sr,tt,λ d st1 q α1 G1 H1 v s1 P1 S1 r1=>?_⟩;unfold wD zw at q;cases d<;>try exact q.elim
 simp only at q;split at q
 . rename_i n C' fs e';obtain⟨rfl,hl,q⟩:=q;obtain⟨a,ea,dx,vs,h1,h2⟩:=S1.wX e';have r1':=fb ea r1;subst r1';refine⟨a,dx,vs,rfl,P1.get h1,h2.none hl,?_⟩;refine⟨α1,σd,st1,_,G1,F,P1,R.step s1,S1,q,λ ds st2 q2 α2 G2 H2 us s2 P2 S2 r2=>?_⟩;try dsimp only
   rw[SX];exact⟨α2,_,st2,K,G2,F,P2,by unfold aL;exact⟨_,_,rfl,r1.step s2,r2⟩,S2,q2,(k.at s1).at s2⟩
 . exact q.elim
def LE.make{σ:L2.St}{H:Hp}{Q:VK}(h:LE (zk C S t) σ H Q):Ir C (cP S) [] E0 (LA t) σ H Q:=by
 obtain⟨α,σd,st,K,G,F,P,R,Sr,tt,k⟩:=h;refine⟨α,σd,st,_,G,F,P,R,Sr,tt,λ ds st1 q α1 G1 H1 us s1 P1 S1 r1=>?_⟩;intro x dx hx hdx hne;have hgd:=(P1.none hdx).1;have P2:=P1.laid (o:= .own x) hdx;have S2:=S1.laid (o:= .own x) hgd;have hx2:upd H1 dx (.own x) x=none:=by rw[ay (RK hne)];exact hx
 have hg2:=(P2.none hx2).1;have P3:=P2.laid (o:= .ins C dx []) hx2;have S3:=S2.cell (o:= .ins C dx []) (c:= .ins C []) hg2 ⟨dx,[],a6,.nil⟩;have s2:Step α1 G1 α1 (upd G1 dx (.own x)):=Step.laid hgd;have s3:Step α1 (upd G1 dx (.own x)) (α1++[some x]) (upd (upd G1 dx (.own x)) x (.ins C dx [])):=Step.cell hg2
 have rx:Rep (α1++[some x]) (upd (upd G1 dx (.own x)) x (.ins C dx [])) (.ref st1.length) (.ref x):=by
  unfold Rep;refine .inr ⟨x,?_,rfl⟩;rw[RY (by rw[S1.len];exact Rv _),S1.len,Tc];rfl
 rw[SX];refine⟨α1++[some x],.ref st1.length::ds,st1++[.ins C []],_,_,F,P3,by unfold aL;exact⟨_,_,rfl,rx,(r1.step s2).step s3⟩,S3,q,λ d st2 q2 α' G' H' v s' P' S' r'=>?_⟩;obtain⟨rfl,q2⟩:=q2;unfold Rep at r';exact⟨r',(((k.at s1).at s2).at s3) _ st2 q2 α' G' H' _ s' P' S' (rx.step s')⟩
end
section
variable {X:Cx}{tg:Expr}
end
section
variable {X:Cx}
end
section
variable {X:Cx}{e o i value:Expr}{es:List Expr}{te to ti:DE}{t:DA}{pos pos' tpos apos p:Pos}{C f:Addr}{fl m x:Str}{S:cL}{k:Nat}{fd:FuncData}{ps:List Str}
def Fz{value o:Expr}{fl:Str}{pos':Pos}{n:Nat}{env:Env}:swapsWith value (some (.Attribute o fl pos')) n env=pure false:=by cases value<;>rfl
def bw(c:om X.K C)(na:d_ X.K C fl)(he:JE X e te)(hb:attributeBase e fl X.env (eval e X.env)=eval e X.env:=by rfl):JE X (.Attribute e fl pos) (bS C fl te):=by unfold JE at*;exact OH c na he hb
def dN(c:om X.K C)(na:d_ X.K C fl)(ho:JE X o to)(hv:JE X value te):JS X (.Assign [.Attribute o fl pos'] value pos) (fI C fl to te):=by unfold JS;unfold JE at*;exact MI c na ho hv Fz
def jh{pl:Sem Bool}(he:JE X o to)(c:om X.K C)(hm:Meth X.K C m f)(F:bE X.prog X.w X.K X.mg X.base cM k f fd ps (cP S))(hr:c8 k X.A)(hb:Binds X.K fd ps [])(ha:JA X (e::es) t)
 (hs:notStar e=true:=by rfl) (hs2:iP es=true:=by rfl)
 (ht:eval (.Call (.Attribute o m apos) (e::es) [] pos) X.env=(do
   let ov <-eval o X.env
   standAt apos.atName
   let(f,first) <-holding [ov] (getMethod ov m pl)
   callWith pos f first (backTo pos (starEach (e::es) X.env)) (backToKw pos (keywordEach [] X.env))):=by rfl):
 JE X (.Call (.Attribute o m apos) (e::es) [] pos) (d9 C m S to t):=by
 unfold JE at*;unfold JA at ha;exact PE.imp (Jx he c hm F hr hb .nil zt ha (cE hs) (mG hs2) ht) λ _ _ _ h=>LE.N1 h
def oM{pl:Sem Bool}(he:JE X o to)(c:om X.K C)(hm:Meth X.K C m f)(F:bE X.prog X.w X.K X.mg X.base cM k f fd ps (cP S))(hr:c8 k X.A)(hb:Binds X.K fd ps [])
 (ht:eval (.Call (.Attribute o m apos) [] [] pos) X.env=(do
   let ov <-eval o X.env
   standAt apos.atName
   let(f,first) <-holding [ov] (getMethod ov m pl)
   callWith pos f first (backTo pos (starEach [] X.env)) (backToKw pos (keywordEach [] X.env))):=by rfl):
 JE X (.Call (.Attribute o m apos) [] [] pos) (d9 C m S to ao):=by
 unfold JE at*;refine PE.imp (HA he c hm F hr hb .nil zt ht) λ σ H Q h=>?_;obtain⟨α,σd,st,K,G,F,P,R,Sr,tt,k⟩:=h;refine⟨α,σd,st,_,G,F,P,R,Sr,tt,λ d st1 q α1 G1 H1 v s1 P1 S1 r1=>?_⟩;unfold wD zw at q;cases d<;>try exact q.elim
 simp only at q;split at q
 . rename_i n C' fs e';obtain⟨rfl,hl,q⟩:=q;obtain⟨a,ea,dx,vs,h1,h2⟩:=S1.wX e';have r1':=fb ea r1;subst r1';exact⟨a,dx,vs,rfl,P1.get h1,h2.none hl,α1,_,st1,K,G1,F,P1,by unfold aL;exact⟨_,_,rfl,r1,by unfold aL;rfl⟩,S1,q,k.at s1⟩
 . exact q.elim
def Ek(M:Mk X.K C f)(F:bE X.prog X.w X.K X.mg X.base cM k f fd ps (cP S))(hr:c8 (k+1) X.A)(hg:Gl X x)(hmg:X.mg x=some (.ref C))(hb:Binds X.K fd ps [])(ha:JA X (e::es) t)(hdb:(x==("__debug__":Str))=false)
 (hs:notStar e=true:=by rfl) (hs2:iP es=true:=by rfl):JE X (.Call (.Name x p) (e::es) [] pos) (zk C S t):=by
 unfold JE;unfold JA at ha;exact PE.imp (JL M F hr hg hmg hb .nil zt ha hdb (cE hs) (mG hs2)) λ _ _ _ h=>LE.make h
end
end L3
namespace L3
open PySem PySem.Spec L2
open PyProof.Rows hiding St
def Jn(xs:Array Keyed)(i:Nat):Int:=match xs[i]? with
 |some p=>numOf p.2
 |none=>0
def pe{xs ys:Array Keyed}{i j:Nat}(h:xs[i]?=ys[j]?):Jn xs i=Jn ys j:=by unfold Jn;rw[h]
def nR{xs:Array Keyed}{i j:Nat}(hj:j<=xs.size)(k:Nat):
 K (mirror xs i j ((j-i)/2)) k=K xs (if i<=k/\k<j then i+j-1-k else k)/\Jn (mirror xs i j ((j-i)/2)) k=Jn xs (if i<=k/\k<j then i+j-1-k else k):=by
 have e:=getElem?_mirror_all (i:=i) hj k;split at e<;>rename_i h
 . rw[RC h];exact⟨K_congr e,pe e⟩
 . rw[Rx h];exact⟨K_congr e,pe e⟩
def FR{xs:Array Keyed}{src d:Nat}(hs:src<xs.size)(hd:d<=src)(k:Nat):
 K (bubble xs src d) k=K xs (if k=src-d then src else if src-d<k/\k<=src then k-1 else k)/\Jn (bubble xs src d) k=Jn xs (if k=src-d then src else if src-d<k/\k<=src then k-1 else k):=by
 have e:=getElem?_bubble hs d hd k;split at e<;>rename_i h
 . rw[RC h];exact⟨K_congr e,pe e⟩
 . rw[Rx h];split at e<;>rename_i h2
   . rw[RC h2];exact⟨K_congr e,pe e⟩
   . rw[Rx h2];exact⟨K_congr e,pe e⟩
def nK(xs:Array Keyed)(i j:Nat):Prop:=K xs i<K xs j\/(K xs i=K xs j/\Jn xs i<Jn xs j)
def kG(xs:Array Keyed)(k:Nat):Prop:=∀i j,i<j->j<k->nK xs i j
def jI(n:Nat)(xs:Array Keyed)(k:Nat):Prop:=∀i j,i<j->k<=j->j<n->Jn xs i<Jn xs j
def kG.to{xs:Array Keyed}{k:Nat}(h:kG xs k):SortedTo xs k:=λ i j hij hj=>by
 rcases Nat.lt_or_eq_of_le hij with e|e
 . rcases h i j e hj with q|q<;>omega
 . subst e;exact VF _
def kG.more{xs:Array Keyed}{n k m:Nat}(h:kG xs k)(t:jI n xs k)(s:SortedTo xs m)(hm:m<=n):kG xs m:=λ i j hij hj=>by
 by_cases hk:j<k
 . exact h i j hij hk
 . have a:=s i j (Tq hij) hj;have b:=t i j hij (SI hk) (RQ hj hm);unfold nK;omega
def jI.up{xs:Array Keyed}{n k m:Nat}(t:jI n xs k)(h:k<=m):jI n xs m:=λ i j a b c=>t i j a (RH h b) c
def jI.mix{xs ys:Array Keyed}{n k:Nat}(t:jI n xs k)(f:Nat->Nat)(hf:∀i,Jn ys i=Jn xs (f i))(h1:∀i,i<k->f i<k)(h2:∀i,k<=i->f i=i):jI n ys k:=λ i j a b c=>by
 rw[hf,hf,h2 j b];refine t _ _ ?_ b c;by_cases hi:i<k
 . exact RQ (h1 i hi) b
 . rw[h2 i (SI hi)];exact a
section
variable {prog:Program}{w:World}{A:Around}{E:Value->Shared->Prop}{s:Shared}{a₀:Array Keyed}
def FT{st:SortSt}{ok:Nat}{Q:Bool->SortSt->Prop}(h0:IntKeys a₀)(h1:1<=ok)(aM:ok<=a₀.size)(hB:SBase a₀ st)(hs:kG (arrOf st) ok)(ht:jI a₀.size (arrOf st) ok)
 (h:∀st',SBase a₀ st'->kG (arrOf st') a₀.size->Q true st'):wpS (model prog w) A E s (binarySort' 0 a₀.size ok) Q st:=by
 rw[binarySort'_eq];simp only[Uw]
 refine S0 (wpS_mono (V0 (I:=λ k c q=>c=(none,())/\SBase a₀ q/\k<=a₀.size/\kG (arrOf q) k/\jI a₀.size (arrOf q) k)
  (Q:=λ c q=>c=(none,())/\SBase a₀ q/\kG (arrOf q) a₀.size) ?st ?en ?be) ?po)
 case po=>rintro c q ⟨rfl,b1,b2⟩;exact T4 (h q b1 b2)
 case be=>rw[show max ok 1=ok by omega];exact⟨rfl,hB,aM,hs,ht⟩
 case en=>
  rintro c q ⟨rfl,b1,b2,b3,_⟩;rw[show max (max ok 1) a₀.size=a₀.size by omega]at b3;exact⟨rfl,b1,b3⟩
 case st=>
  rintro k c q hk1 hk2 ⟨rfl,qB,_,qS,qT⟩
  refine S0 (wpS_mono (V0 (I:=λ x c q'=>q'=q/\∃l r,c=(none,l,r)/\l<=r/\r<=k/\r-l<=k-x/\(∀i,i<l->K (arrOf q) i<=K (arrOf q) k)/\(∀i,r<=i->i<k->K (arrOf q) k<K (arrOf q) i))
   (Q:=λ c q'=>q'=q/\∃l,c=(none,l,l)/\l<=k/\(∀i,i<l->K (arrOf q) i<=K (arrOf q) k)/\(∀i,l<=i->i<k->K (arrOf q) k<K (arrOf q) i)) ?a ?b ?c) ?d)
  case c=>exact⟨rfl,0,k,rfl,by omega,by omega,by omega,λ i hi=>by omega,λ i x y=>by omega⟩
  case b=>
   rintro c q' ⟨rfl,l,r,rfl,e1,e2,e3,e4,e5⟩;have:r=l:=by omega
   subst this;exact⟨rfl,r,rfl,e2,e4,e5⟩
  case a=>
   rintro x c q' _ hx ⟨rfl,l,r,rfl,e1,e2,e3,e4,e5⟩;dsimp only;by_cases hlr:l>=r
   . rw[RC hlr];have:r=l:=by omega
     subst this;exact T4 ⟨rfl,r,rfl,e2,e4,e5⟩
   . rw[Rx hlr];refine S0 (wpS_ltK qB h0 hk2 (by omega) ?_);have so:=qS.to;by_cases hl:K (arrOf q') k<K (arrOf q') ((l+r)/2)
     . simp only[hl,WV,UB];exact T4 ⟨rfl,l,(l+r)/2,rfl,by omega,by omega,by omega,e4,λ i x y=>Int.lt_of_lt_of_le hl (so _ _ x y)⟩
     . simp only[hl,WH,Ts,Uq];refine T4 ⟨rfl,(l+r)/2+1,r,rfl,by omega,by omega,by omega,λ i x=>?_,e5⟩;have:=so i ((l+r)/2) (by omega) (by omega);omega
  case d=>
   rintro c q' ⟨rfl,l,rfl,hlk,e4,e5⟩;show wpS _ _ _ _ (do moveDown' k l;pure (ForInStep.yield (none,()))) _ _;rw[moveDown'_eq];have hks:k<(arrOf q').size:=by rw[qB.size];exact hk2
   have bb:=FR (xs:=arrOf q') hks (show k-l<=k by omega);rw[show k-(k-l)=l by omega]at bb;refine S0 (wpS_modify (T4 ⟨rfl,qB.setArr (bubble_perm _ _ _),by omega,λ i j hij hj=>?_,jI.mix (qT.up (U_ k)) _ (λ i=>(bb i).2) (λ i hi=>?_) (λ i hi=>?_)⟩))
   . show nK (bubble (arrOf q') k (k-l)) i j;unfold nK;rw[(bb i).1,(bb i).2,(bb j).1,(bb j).2];by_cases hil:i<l
     . rw[Rx (show¬i=l by omega),Rx (show¬(l<i/\i<=k) by omega)];by_cases hjl:j=l
       . rw[RC hjl];have x:=e4 i hil;have y:=qT i k (by omega) (Rv _) hk2;omega
       . rw[Rx hjl];by_cases hj2:l<j/\j<=k
         . rw[RC hj2];exact qS i (j-1) (by omega) (by omega)
         . rw[Rx hj2];exact qS i j hij (by omega)
     . by_cases hie:i=l
       . rw[RC hie,Rx (show¬j=l by omega),RC (show l<j/\j<=k by omega)];exact .inl (e5 _ (by omega) (by omega))
       . rw[Rx hie,RC (show l<i/\i<=k by omega),Rx (show¬j=l by omega),RC (show l<j/\j<=k by omega)];exact qS _ _ (by omega) (by omega)
   . show(if i=l then k else if l<i/\i<=k then i-1 else i)<k+1;split
     . omega
     . split<;>omega
   . show(if i=l then k else if l<i/\i<=k then i-1 else i)=i;rw[Rx (by omega),Rx (by omega)]
def yz(xs:Array Keyed)(m q:Nat):Prop:=q+1<=m/\∀i j,i<j->j<m->(m<=i+(q+1)->K xs i=K xs j/\Jn xs i<Jn xs j)/\(i+(q+1)<m->(m<=j+(q+1)->K xs j<K xs i)/\nK xs j i)
def yz.all{xs:Array Keyed}{m q:Nat}(h:yz xs m q)(hm:m<=xs.size):(q=0\/0<q)/\∀i j,i<j->j<m->nK (mirror xs (m-(q+1)) m ((m-(m-(q+1)))/2)) j i:=by
 refine⟨by omega,λ i j hij hj=>?_⟩;have b:=nR (i:=m-(q+1)) (j:=m) hm;unfold nK;rw[(b i).1,(b i).2,(b j).1,(b j).2];by_cases hi:m-(q+1)<=i/\i<m
 . rw[RC hi,RC (show m-(q+1)<=j/\j<m by omega)];have:=(h.2 (m-(q+1)+m-1-j) (m-(q+1)+m-1-i) (by omega) (by omega)).1 (by omega);omega
 . rw[Rx hi];by_cases hj2:m-(q+1)<=j/\j<m
   . rw[RC hj2];have:=((h.2 i (m-(q+1)+m-1-j) (by omega) (by omega)).2 (by omega)).1 (by omega);omega
   . rw[Rx hj2];exact((h.2 i j hij hj).2 (by omega)).2
def yz.zero{xs:Array Keyed}{m:Nat}(h:yz xs m 0):∀i j,i<j->j<m->nK xs j i:=λ i j hij hj=>((h.2 i j hij hj).2 (by omega)).2
def oz{n:Nat}{xs:Array Keyed}{i j k:Nat}(t:jI n xs k)(hj:j<=xs.size)(hk:j<=k):jI n (mirror xs i j ((j-i)/2)) k:=
 t.mix _ (λ a=>(nR hj a).2) (λ a ha=>by split<;>omega) λ a ha=>by rw[Rx (by omega)]
def Ei{st:SortSt}{n:Nat}{Q:DescSt->SortSt->Prop}(h0:IntKeys a₀)(hn:n<=a₀.size)(hB:SBase a₀ st)(hs:yz (arrOf st) n 0)(ht:jI a₀.size (arrOf st) n)
 (h:∀m q st',SBase a₀ st'->n<=m->m<=a₀.size->yz (arrOf st') m q->jI a₀.size (arrOf st') m->Q (none,m,q) st'):
 wpS (model prog w) A E s (descLoop n a₀.size) Q st:=by
 unfold descLoop;refine V0 (I:=λ x c st'=>∃q,c=(none,x,q)/\SBase a₀ st'/\yz (arrOf st') x q/\jI a₀.size (arrOf st') x) ?st ?en ⟨0,rfl,hB,hs,ht⟩
 case en=>
  rintro c st' ⟨q,rfl,b1,b2,b3⟩;rw[show max n a₀.size=a₀.size by omega]at b2 b3⊢;exact h _ q st' b1 hn (Rv _) b2 b3
 case st=>
  rintro x c st' hx1 hx2 ⟨q,rfl,b1,b2,b3⟩;dsimp only;have hq:=b2.1;have hsz:x<=(arrOf st').size:=by rw[b1.size];omega
  refine S0 (wpS_ltK b1 h0 hx2 (by omega) ?_);by_cases hl:K (arrOf st') x<K (arrOf st') (x-1)
  . simp only[hl,WV,UB];by_cases hq0:q>0
    . rw[RC hq0];have al:=(b2.all hsz).2;have km:=nR (i:=x-(q+1)) (j:=x) hsz;refine S0 (WW (T4 ⟨0,rfl,b1.setArr (WX _ _ _ _),⟨by omega,λ i j hij hj=>⟨λ hh=>by omega,λ hh=>⟨λ hj2=>?_,?_⟩⟩⟩,(oz b3 hsz (Rv _)).up (U_ x)⟩))
      . have hjx:j=x:=by omega
        subst hjx;show K (mirror (arrOf st') _ _ _) j<K (mirror (arrOf st') _ _ _) i;rw[(km i).1,(km j).1,Rx (show¬(j-(q+1)<=j/\j<j) by omega)]
        have key:∀t,t<j->K (arrOf st') (j-1)<=K (arrOf st') t:=λ t ht=>by
         by_cases e:t=j-1
         . rw[e];exact VF _
         . have z:=b2.2 t (j-1) (by omega) (by omega);by_cases g:j<=t+(q+1)
           . have:=(z.1 g).1;omega
           . have:=(z.2 (by omega)).2;unfold nK at this;omega
        split
        . have:=key (j-(q+1)+j-1-i) (by omega);omega
        . have:=key i hij;omega
      . show nK (mirror (arrOf st') _ _ _) j i;by_cases hjx:j<x
        . exact al i j hij hjx
        . have hjx:j=x:=by omega
          subst hjx;refine .inl ?_;rw[(km i).1,(km j).1,Rx (show¬(j-(q+1)<=j/\j<j) by omega)]
          have key:∀t,t<j->K (arrOf st') (j-1)<=K (arrOf st') t:=λ t ht=>by
           by_cases e:t=j-1
           . rw[e];exact VF _
           . have z:=b2.2 t (j-1) (by omega) (by omega);by_cases g:j<=t+(q+1)
             . have:=(z.1 g).1;omega
             . have:=(z.2 (by omega)).2;unfold nK at this;omega
          split
          . have:=key (j-(q+1)+j-1-i) (by omega);omega
          . have:=key i hij;omega
    . rw[Rx hq0];have hq0:q=0:=by omega
      subst hq0;have z0:=b2.zero
      have lx:∀i,i<x->K (arrOf st') x<K (arrOf st') i:=λ i hi=>by
       by_cases e:i=x-1
       . rw[e];exact hl
       . have:=z0 i (x-1) (by omega) (by omega);unfold nK at this;omega
      refine T4 ⟨0,rfl,b1,⟨by omega,λ i j hij hj=>⟨λ hh=>by omega,λ hh=>⟨λ hj2=>?_,?_⟩⟩⟩,b3.up (U_ x)⟩
      . have hjx:j=x:=by omega
        subst hjx;exact lx i hij
      . by_cases hjx:j<x
        . exact z0 i j hij hjx
        . have hjx:j=x:=by omega
          subst hjx;exact .inl (lx i hij)
  . simp only[hl,WH,Ts,Uq];refine S0 (wpS_ltK b1 h0 (by omega) hx2 ?_);by_cases hg:K (arrOf st') (x-1)<K (arrOf st') x
    . simp only[hg,WV,UB];exact T4 (h x q st' b1 hx1 (by omega) b2 b3)
    . simp only[hg,WH,Ts,Uq];have he:K (arrOf st') x=K (arrOf st') (x-1):=by omega
      refine T4 ⟨q+1,rfl,b1,⟨by omega,λ i j hij hj=>⟨λ hh=>?_,λ hh=>⟨λ hj2=>?_,?_⟩⟩⟩,b3.up (U_ x)⟩
      . by_cases hjx:j<x
        . exact(b2.2 i j hij hjx).1 (by omega)
        . have hjx:j=x:=by omega
          subst hjx;refine⟨?_,b3 i j hij (Rv _) hx2⟩;rw[he];by_cases e:i=j-1
          . rw[e]
          . exact((b2.2 i (j-1) (by omega) (by omega)).1 (by omega)).1
      . by_cases hjx:j<x
        . exact((b2.2 i j hij hjx).2 (by omega)).1 (by omega)
        . have hjx:j=x:=by omega
          subst hjx;rw[he];exact((b2.2 i (j-1) (by omega) (by omega)).2 (by omega)).1 (by omega)
      . by_cases hjx:j<x
        . exact((b2.2 i j hij hjx).2 (by omega)).2
        . have hjx:j=x:=by omega
          subst hjx;refine .inl ?_;rw[he];exact((b2.2 i (j-1) (by omega) (by omega)).2 (by omega)).1 (by omega)
def yP{st:SortSt}{n:Nat}{Q:Option Nat->SortSt->Prop}(h0:IntKeys a₀)(h1:1<=n)(hn:n<=a₀.size)(hB:SBase a₀ st)(hs:∀i j,i<j->j<n->nK (arrOf st) j i)(ht:jI a₀.size (arrOf st) n)
 (h:∀m st',SBase a₀ st'->1<=m->m<=a₀.size->kG (arrOf st') m->jI a₀.size (arrOf st') m->Q (some m) st'):wpS (model prog w) A E s (tail3 n a₀.size) Q st:=by
 unfold tail3;have hsz:n<=(arrOf st).size:=by rw[hB.size];exact hn
 refine S0 (WW ?_);have km:=nR (xs:=arrOf st) (i:=0) (j:=n) hsz
 have s1:kG (mirror (arrOf st) 0 n ((n-0)/2)) n:=λ i j hij hj=>by
  unfold nK;rw[(km i).1,(km i).2,(km j).1,(km j).2,RC (by omega),RC (by omega)];exact hs _ _ (by omega) (by omega)
 have t1:=oz (i:=0) ht hsz (Rv _);have hB':SBase a₀ (setArr st (mirror (arrOf st) 0 n ((n-0)/2))):=hB.setArr (WX _ _ _ _);refine S0 (wpS_ascLoop h0 (Rv _) h1 hn hB' s1.to λ m m1 m2 sm _=>T4 (h m _ hB' (by omega) m2 (s1.more t1 sm m2) (t1.up m1)))
def yq{st:SortSt}{n:Nat}{Q:Option Nat->SortSt->Prop}(h0:IntKeys a₀)(hn:n+1<=a₀.size)(hB:SBase a₀ st)(hs:yz (arrOf st) (n+1) 0)(ht:jI a₀.size (arrOf st) (n+1))
 (h:∀m st',SBase a₀ st'->1<=m->m<=a₀.size->kG (arrOf st') m->jI a₀.size (arrOf st') m->Q (some m) st'):wpS (model prog w) A E s (descPart n a₀.size) Q st:=by
 unfold descPart;refine S0 (wpS_lift (Vk ⟨rfl,?_⟩));refine S0 (Ei h0 hn hB hs ht λ m q st' b1 b2 b3 b4 b5=>?_);dsimp only;have hsz:m<=(arrOf st').size:=by rw[b1.size];exact b3
 by_cases hq:q>0
 . rw[RC hq];exact S0 (WW (yP h0 (by omega) b3 (b1.setArr (WX _ _ _ _)) (b4.all hsz).2 (oz b5 hsz (Rv _)) h))
 . rw[Rx hq];have:q=0:=by omega
   subst this;exact yP h0 (by omega) b3 b1 b4.zero b5 h
def FO{st:SortSt}{Q:Option Nat->SortSt->Prop}(h0:IntKeys a₀)(h1:1<=a₀.size)(hB:SBase a₀ st)(ht:jI a₀.size (arrOf st) 1)
 (h:∀m st',SBase a₀ st'->1<=m->m<=a₀.size->kG (arrOf st') m->jI a₀.size (arrOf st') m->Q (some m) st'):wpS (model prog w) A E s (countRun' 0 a₀.size) Q st:=by
 rw[countRun0_eq];have s1:kG (arrOf st) 1:=λ i j hij hj=>by omega
 refine S0 (wpS_ascLoop h0 (Rv _) (Rv 1) h1 hB s1.to λ n n1 n2 sn hor=>?_);dsimp only;have s2:=s1.more ht sn n2;by_cases hn:n=a₀.size
 . rw[RC (by simpa using hn)];exact T4 (h n st hB n1 n2 s2 (ht.up n1))
 . rw[Rx (by simpa using hn)];have hl:=hor.resolve_left hn;by_cases hg:n>1
   . rw[RC hg];refine S0 (wpS_ltK hB h0 (by omega) (by omega) ?_);by_cases hr:K (arrOf st) 0<K (arrOf st) (n-1)
     . simp only[hr,WV,UB];exact T4 (h n st hB n1 n2 s2 (ht.up n1))
     . simp only[hr,WH,Ts,Uq];have hsz:n<=(arrOf st).size:=by rw[hB.size];exact n2
       have eqs:∀k,k<n->K (arrOf st) k=K (arrOf st) (n-1):=λ k hk=>by
        have x:=sn 0 k (by omega) hk;have y:=sn k (n-1) (by omega) (by omega);omega
       have km:=nR (xs:=arrOf st) (i:=0) (j:=n) hsz;refine S0 (WW (yq h0 (by omega) (hB.setArr (WX _ _ _ _)) ⟨by omega,λ i j hij hj=>⟨λ hh=>by omega,λ hh=>⟨λ hj2=>?_,?_⟩⟩⟩ (oz (ht.up (by omega)) hsz (by omega)) h))
       . have hjn:j=n:=by omega
         subst hjn;show K (mirror (arrOf st) _ _ _) j<K (mirror (arrOf st) _ _ _) i;rw[(km i).1,(km j).1,Rx (show¬(0<=j/\j<j) by omega),RC (by omega),eqs (0+j-1-i) (by omega)];exact hl
       . show nK (mirror (arrOf st) _ _ _) j i;unfold nK;rw[(km i).1,(km i).2,(km j).1,(km j).2,RC (show 0<=i/\i<n by omega)];by_cases hjn:j<n
         . rw[RC (by omega)];refine .inr ⟨(eqs _ (by omega)).trans (eqs _ (by omega)).symm,ht _ _ (by omega) (by omega) (by omega)⟩
         . have hjn:j=n:=by omega
           subst hjn;rw[Rx (by omega),eqs (0+j-1-i) (by omega)];exact .inl hl
   . rw[Rx hg];have hn1:n=1:=by omega
     subst hn1;refine yq h0 (by omega) hB ⟨by omega,λ i j hij hj=>⟨λ hh=>by omega,λ hh=>?_⟩⟩ (ht.up (by omega)) h;have hi0:i=0:=by omega
     have hj1:j=1:=by omega
     subst hi0;subst hj1;exact⟨λ _=>hl,.inl hl⟩
def Gi{st:SortSt}{Q:Unit->SortSt->Prop}(h0:IntKeys a₀)(hB:SBase a₀ st)(ht:jI a₀.size (arrOf st) 1)(h2:2<=a₀.size)(h64:a₀.size<64)
 (h:∀st',(arrOf st').Perm a₀->failedOf st'=none->kG (arrOf st') a₀.size->Q () st'):wpS (model prog w) A E s sortRuns' Q st:=by
 rw[sortRuns'_eq];refine S0 (wpS_get ?_);dsimp only
 have hmr:minRun' a₀.size a₀.size 0=a₀.size:=by
  cases e:a₀.size with
  |zero=>rw[e]at h2;omega
  |succ f=>rw[minRun'_succ,RC (by omega)]
 simp only[hB.size,hmr]
 have dn:∀ {q:SortSt},SBase a₀ q->kG (arrOf q) a₀.size->∃p,p=setPending q ((pendingOf q).push (0,a₀.size,0))/\(arrOf p).Perm a₀/\failedOf p=none/\pendingOf p= #[(0,a₀.size,0)]/\kG (arrOf p) a₀.size:=λ{q} b s=>
  ⟨_,rfl,b.perm,b.failed,by show(pendingOf q).push _=_;rw[b.pend];rfl,s⟩
 refine S0 (wpS_mono (V0
  (I:=λ x c q=>(x=0/\c=(none,0)/\q=st)\/(1<=x/\c=(none,a₀.size)/\(arrOf q).Perm a₀/\failedOf q=none/\pendingOf q= #[(0,a₀.size,0)]/\kG (arrOf q) a₀.size))
  (Q:=λ c q=>c=(none,a₀.size)/\(arrOf q).Perm a₀/\failedOf q=none/\pendingOf q= #[(0,a₀.size,0)]/\kG (arrOf q) a₀.size) ?st ?en (.inl ⟨rfl,rfl,rfl⟩)) ?po)
 case en=>
  rintro c q (⟨hx,_,_⟩|⟨_,hc,hD⟩)
  . omega
  . exact⟨hc,hD⟩
 case st=>
  rintro x c q _ hx (⟨rfl,rfl,rfl⟩|⟨_,rfl,hD⟩)
  . dsimp only;rw[Rx (by omega)];simp only[Nat.sub_zero,Xi,Uw];refine S0 (FO h0 (by omega) hB ht λ m q2 b1 b2 b3 b4 b5=>?_);dsimp only;by_cases hm:m<a₀.size
    . rw[RC hm];refine S0 (wpS_lift (Vk ⟨rfl,?_⟩));refine S0 (FT h0 b2 b3 b1 b4 b5 λ q3 d1 d2=>?_);simp only[Bool.not_true,Ts,Uq];refine S0 (wpS_get ?_);have hb:(pendingOf q3).back?=none:=by rw[d1.pend];rfl
      rw[hb];dsimp only;obtain⟨p,rfl,z⟩:=dn d1 d2;exact S0 (wpS_modify (T4 (.inr ⟨by omega,rfl,z⟩)))
    . rw[Rx hm];have hm:m=a₀.size:=by omega
      subst hm;refine S0 (wpS_get ?_);have hb:(pendingOf q2).back?=none:=by rw[b1.pend];rfl
      rw[hb];dsimp only;obtain⟨p,rfl,z⟩:=dn b1 b4;exact S0 (wpS_modify (T4 (.inr ⟨by omega,rfl,z⟩)))
  . dsimp only;rw[RC (Rv _)];exact T4 ⟨rfl,hD⟩
 case po=>
  rintro c q ⟨rfl,d1,d2,d3,d4⟩;dsimp only;refine S0 (wpS_mono (V0 (I:=λ _ c q'=>q'=q/\c=(none,())) (Q:=λ c q'=>q'=q/\c=(none,())) ?_ (λ _ _ z=>z) ⟨rfl,rfl⟩) ?_)
  . rintro x c q' _ _ ⟨rfl,rfl⟩;refine S0 (wpS_get ?_);rw[RC (by rw[d3];exact Rv 1)];exact T4 ⟨rfl,rfl⟩
  . rintro c q' ⟨rfl,rfl⟩;exact T4 (h _ d1 d2 d4)
end
end L3
namespace L2
open PySem PySem.Spec PyProof.Rows
structure Entry(K:PySem.W.Frag)(ts:List (Addr×Addr))(a:Addr)(ns:List Int)(H:Hp):Prop where
 lst:mF K H a (ns.map V.int)
 tab:∀q∈ts,H q.2=some (.ll #[])/\q.2≠a
def yE:∀ {vs:List Value} {ns:List Int},IntsAre vs ns->Vals (ns.map V.int) vs
 |_,_,.nil=> .nil
 |_,_,.cons n t h=> .cons ⟨t,rfl⟩ (yE h)
structure Md(K:PySem.W.Frag)(ts:List (Addr×Addr))(h:Heap):Prop where
 hd:∀q∈ts,PySem.W.codeHdIn K q.1 q.2=true
 no:∀q∈ts,K.lookup q.2=none
 at':∀q∈ts,h.get? q.2=some (PySem.W.tabObj #[])
def FQ{P:Program}{w:World}{K:PySem.W.Frag}{mg mb:Str->Option Value}{k:Nat}{fa a:Addr}{fd:FuncData}{x:Str}{sp:Sp}{s₁:Shared}{vs:List Value}{ns:List Int}{ts:List (Addr×Addr)}
 (KX:K.In s₁.heap) (hns:s₁.heap.Ns mainGlobals mg) (hb:s₁.heap.Ns builtinsNs mb) (hbb:∀x:Str,x≠"__name__"->mb x=bootBuiltins x) (hlim:s₁.heap.NoLimit) (hse:s₁.heap.NoSeer) (hgt:P.given.tree=none)
 (hbm:∃bm ob,mg "__builtins__"=some (.ref bm)/\bm≠builtinsNs/\s₁.heap.get? bm=some ob/\ob.cls= .type "module"/\ob.dict=some builtinsNs/\ob.data= .plain) (hT:Md K ts s₁.heap) (hg:s₁.gens= #[])
 (ha:s₁.heap.get? a=some {cls:= .type "list",data:= .seq vs.toArray}) (hi:IntsAre vs ns) (hl:ns.length<=sizeLine) (hr:c8 k callerA)
 (F:∀base:Heap,K.In base->base.Ns mainGlobals mg->bE P w K mg base (λ _ _ _ _ _ _=>False) k fa fd [x] sp) (hbind:∀(s:Shared) (u:Value),BindsTo s fd ⟨[u],[]⟩ [(x,u)])
 (hsp:∀H:Hp,Entry K ts a ns H->sp [.ref a] H (λ v _=>v= .bl true) λ _ _ _=>False):
 codeAny (model P w) callerA (.call (.ref fa) ⟨[.ref a],[]⟩) (λ r s'=>r= .ok (.ret (.bool true))/\OldK s₁.heap s'.heap/\s'.os=s₁.os/\AllBare s'.gens) s₁:=by
 have rv:=yE hi;have lenV:=hi.length
 have nta:∀q∈ts,q.2≠a:=λ q hq z=>by
  have:=hT.at' q hq;rw[z,ha]at this;cases this
 let sc:Option HO:=match K.lookup a with
  |some _=>none
  |none=>some (.mz {cls:= .type "list",data:= .seq vs.toArray} (.lst (ns.map V.int)))
 let H:Hp:=λ b=>if b=a then sc else if b∈ts.map (·.2)then some (.ll #[])else none
 have Ha:H a=sc:=RC rfl
 have Ht:∀q∈ts,H q.2=some (.ll #[]):=λ q hq=>by
  show(if q.2=a then sc else if q.2∈ts.map (·.2)then some (HO.ll #[])else none)=_;rw[Rx (nta q hq),RC (V6 hq)]
 have Hs:∀b u,H b=some u->(b=a/\K.lookup a=none/\u= .mz {cls:= .type "list",data:= .seq vs.toArray} (.lst (ns.map V.int)))\/(∃q∈ts,q.2=b/\u= .ll #[]):=λ b u e=>by
  have e':(if b=a then sc else if b∈ts.map (·.2)then some (HO.ll #[])else none)=some u:=e;by_cases hba:b=a
  . rw[RC hba]at e'
    have e2:(match K.lookup a with
     |some _=>none
     |none=>some (HO.mz {cls:= .type "list",data:= .seq vs.toArray} (.lst (ns.map V.int))))=some u:=e'
    cases q:K.lookup a with
    |some o=>rw[q]at e2;cases e2
    |none=>rw[q]at e2;cases e2;exact .inl ⟨hba,rfl,rfl⟩
  . rw[Rx hba]at e';by_cases hbt:b∈ts.map (·.2)
    . rw[RC hbt]at e';cases e';obtain⟨q,hq,e⟩:=Sl.mp hbt;exact .inr ⟨q,hq,e,rfl⟩
    . rw[Rx hbt]at e';cases e'
 have aM:je P w H s₁.heap:=λ b u e=>by
  rcases Hs b u e with⟨rfl,_,rfl⟩|⟨q,hq,rfl,rfl⟩
  . exact⟨ha,by rw[Rz];exact hl,vs,_,rv,ha⟩
  . exact hT.at' q hq
 have hE:Entry K ts a ns H:=by
  refine⟨?_,λ q hq=>⟨Ht q hq,nta q hq⟩⟩;cases q:K.lookup a with
  |some o=>
   have e:=KX a o q;rw[ha]at e;cases e;exact .inr ⟨_,vs.toArray,_,q,rfl,rfl,rfl,by rw[RM,lenV];exact hl,by simpa using rv⟩
  |none=>
   refine .inl (.inr ⟨{cls:= .type "list",data:= .seq vs.toArray},?_⟩);rw[Ha]
   show(match K.lookup a with
    |some _=>none
    |none=>some (HO.mz {cls:= .type "list",data:= .seq vs.toArray} (.lst (ns.map V.int))))=_
   rw[q]
 have dictNo:∀ {b:Addr} {o:Obj},s₁.heap.get? b=some o->(∀es ep,o.data≠ .seq es ep)->o.cls≠ .none->H b=none:=λ{b o} e d1 d2=>by
  cases q:H b with
  |none=>rfl
  |some u=>
   rcases Hs b u q with⟨rfl,_,_⟩|⟨t,ht,rfl,_⟩
   . rw[ha]at e;cases e;exact absurd rfl (d1 _ _)
   . rw[hT.at' t ht]at e;cases e;exact absurd rfl d2
 have nsK:∀ {b:Addr} {m:Str->Option Value},s₁.heap.Ns b m->(qr s₁.heap H).Ns b m:=λ{b m} ⟨o,es,ep,e,d,r⟩=>by
  refine⟨o,es,ep,rE e ?_,d,r⟩;cases q:H b with
  |none=>rfl
  |some u=>
   rcases Hs b u q with⟨rfl,_,_⟩|⟨t,ht,rfl,_⟩
   . rw[ha]at e;cases e;cases d
   . rw[hT.at' t ht]at e;cases e;cases d
 have hKb:K.In (qr s₁.heap H):=λ b o e=>rE (KX b o e) (by
  cases q:H b with
  |none=>rfl
  |some u=>
   rcases Hs b u q with⟨rfl,z,_⟩|⟨t,ht,rfl,_⟩
   . rw[z]at e;cases e
   . rw[hT.no t ht]at e;cases e)
 obtain⟨bm,ob,b1,b2,b3,b4,b5,b6⟩:=hbm;have hbmK:(qr s₁.heap H).get? bm=some ob:=rE b3 (dictNo b3 (λ es ep z=>by rw[b6]at z;cases z) (λ z=>by rw[b4]at z;cases z))
 have seK:(qr s₁.heap H).NoSeer:=by
  obtain⟨⟨m1,a1,a2⟩,⟨m2,c1,c2⟩,⟨m3,d1,d2⟩,⟨mg',bm',ob',e1,e2,e3,e4,e5⟩⟩:=hse;refine⟨⟨m1,nsK a1,a2⟩,⟨m2,nsK c1,c2⟩,⟨m3,nsK d1,d2⟩,⟨mg',bm',ob',nsK e1,e2,rE e3 ?_,e4,e5⟩⟩;cases q:H bm' with
  |none=>rfl
  |some u=>
   rcases Hs bm' u q with⟨rfl,_,_⟩|⟨t,ht,rfl,_⟩
   . rw[ha]at e3;cases e3;exact absurd (show Value.type "list"=Value.type "module" from e4) (by intro z;injection z with z;exact absurd z (by decide))
   . rw[hT.at' t ht]at e3;cases e3;cases e4
 have hM:Mod K mg (qr s₁.heap H):=⟨hKb,nsK hns,⟨mb,nsK hb,hbb⟩,let⟨mc,h1,h2⟩:=hlim;⟨mc,nsK h1,h2⟩,seK,⟨bm,ob,b1,b2,hbmK,b4,b5,b6⟩⟩
 have e0:vx P w K mg (qr s₁.heap H) callerA [] s₁ H:=⟨rfl,hM,λ b o e=>KN e,VU (EV _ _),trivial,λ b hb=>absurd (show b∈([]:List Addr)from hb) (by simp),aM,.of_eq hg,hgt⟩
 refine WA ((F _ hKb (nsK hns)).run callerA [] s₁ H ⟨[.ref a],[]⟩ [.ref a] [.ref a] _ _ hr e0 (hbind s₁ (.ref a)) (.cons rfl .nil) (hsp H hE)) λ r s' h=>?_;cases r with
 |error e=>exact False.elim h
 |ok fl=>
  cases fl with
  |next=>exact False.elim h
  |brk=>exact False.elim h
  |cont=>exact False.elim h
  |ret u=>
   obtain⟨v,H',os,bare,un,hok',r',q⟩:=h;have q':v= .bl true:=q;subst q';obtain rfl:u=Value.bool true:=r';have noF:∀b:Addr,b∉qP ([]:List Env):=λ b z=>absurd (show b∈([]:List Addr)from z) (by simp);refine⟨rfl,⟨λ b o e=>?_,λ b o e=>un.there b o e (by simp)⟩,os,bare⟩;cases q:H b with
   |none=>exact .inl (un.keep b o e q (noF b) (by simp))
   |some u=>
    rcases Hs b u q with⟨rfl,_,rfl⟩|⟨t,ht,rfl,rfl⟩
    . obtain⟨e2,_⟩:=hok' b _ (un.o5 b _ _ q);rw[ha]at e;cases e;exact .inl e2
    . obtain⟨more,e1⟩:=un.oV _ _ q;have e2:s'.heap.get? t.2=some {cls:= .none,data:= .fields (#[]++more)}:=hok' _ _ e1;have e3:=hT.at' t ht;rw[e3]at e;cases e;have C:PySem.W.CodeHd s₁.heap t.1 t.2:=PySem.W.codeHd_of_K KX (hT.hd t ht);exact .inr (.inl ⟨(C.tab e3).isCodeTable,rfl,#[],more,rfl,e2⟩)
def OE{l:PySem.W.OpenLaw}{n k:Nat}{q:Program}{loose:List Str}{XP:(Str->Option Value)->Heap->Prop}{YP:World->Heap->Prop}{d:DefRec}{K:Params->PySem.W.Frag}{sp:World->Sp}{x:Str}{ts:List (Addr×Addr)}
 (hn:l.most=some n) (hn2:n<=sizeLine) (hdf:d.params.defaults=[]) (hr:c8 k callerA) (hq:importsNone q=true) (hgt:l.prog.given.tree=none)
 (hY:∀(w:World) (h:Heap),YP w h->(K w.params).In h/\Md (K w.params) ts h)
 (F:∀(w:World) (mg:Str->Option Value) (fa:Addr) (h:Heap),(K w.params).In h->h.Ns mainGlobals mg->mg d.name=some (.ref fa)->
   ∃fd:FuncData,(∀(s:Shared) (u:Value),BindsTo s fd ⟨[u],[]⟩ [(x,u)])/\
    ∀base:Heap,(K w.params).In base->base.Ns mainGlobals mg->bE l.prog w (K w.params) mg base (λ _ _ _ _ _ _=>False) k fa fd [x] (sp w))
 (hsp:∀(w:World) (H:Hp) (a:Addr) (ns:List Int),ns.length<=n->Entry (K w.params) ts a ns H->sp w [.ref a] H (λ v _=>v= .bl true) λ _ _ _=>False):
 PySem.W.WalkO q loose XP YP l.row.toRowW d [] (λ f vs=>PySem.call f vs):=by
 refine Att.BK hn hdf λ w s₀ s₁ mg mb fa o pm cd doc a vs ns G Y ho hd hcd hmg hobj hints hlen hg=>?_;obtain⟨KX,hT⟩:=hY w _ Y;obtain⟨fd,hb,hF⟩:=F w mg fa _ KX G.T.g hmg;exact FQ KX G.T.g G.T.b G.T.builtins G.T.nolimit (G.T.seer hq) hgt G.T.bmain hT hg hobj hints (RH hlen hn2) hr hF hb λ H hE=>hsp w H a ns hlen hE
end L2
namespace L3
open PySem PySem.Spec L2
open PyProof.Rows hiding St
section
variable {X:Cx}{pins:List (Addr×Obj)}{σ:L2.St}{H:Hp}{s:Shared}{p:Addr}{o o':Obj}{h':Heap}
def mZ{t':Nat}(I:Inv X pins σ H s)(hd:∀v,o.data≠ .cell v)(hfr:o.isFreed=false:=by rfl):Inv X (pins++[(s.heap.objs.size,o)]) σ H {s with heap:=s.heap.push o,toks:=t'}:=by
 have I':=I.kept (h':=s.heap.push o) (t':=t') (λ b u e=>RE _ e);refine I'.ux λ q hq=>?_;rcases SH.mp hq with hq|hq
 . exact I'.pin q (RZ _ hq)
 . have e:q=(s.heap.objs.size,o):=by simpa using hq
   subst e;exact⟨R_ _ hfr,I.aM.fresh (Rv _),TL I.lt,I.Mo (Rv _),hd⟩
def gH(I:Inv X (pins++[(p,o)]) σ H s):s.heap.get? p=some o/\H p=none/\p≠X.env.locals/\p∉X.fs/\∀v,o.data≠ .cell v:=
 I.pin (p,o) (RZ _ (RZ _ (TR.mpr rfl)))
def Bc(I:Inv X (pins++[(p,o)]) σ H s):∀x c,X.env.cells.lookup x=some c->c≠p:=λ x c e z=>by
 obtain⟨v,u,hu,hd⟩:=I.cell x c e;obtain⟨h1,_,_,_,h5⟩:=gH I;rw[z,h1]at hu;cases hu;exact h5 v hd
def oU{t':Nat}(I:Inv X (pins++[(p,o)]) σ H s)(hs:Heap.SameBut p s.heap h')(hn:h'.get? p=some o')(hd:∀v,o'.data≠ .cell v)(h0:X.s₀.heap.objs.size<=p)(hp:∀q∈X.pn++pins,q.1≠p):
 Inv X (pins++[(p,o')]) σ H {s with heap:=h',toks:=t'}:=by
 obtain⟨_,n,neL,nfs,_⟩:=gH I;have I0:Inv X pins σ H s:=I.i4;have I1:=I0.turned (t':=t') (h':=h') (it:=p) (λ b u hb e=>(hs.2 b hb).trans e) n neL (.inr h0) (Bc I) hp;refine I1.ux λ q hq=>?_;rcases SH.mp hq with hq|hq
 . exact I1.pin q (RZ _ hq)
 . have e:q=(p,o'):=by simpa using hq
   subst e;exact⟨hn,n,neL,nfs,hd⟩
def FC{u:HO}(I:Inv X (pins++[(p,o)]) σ H s)(h0:X.s₀.heap.objs.size<=p)(hp:∀q∈X.pn++pins,q.1≠p)(new:g_ X.prog X.w (upd H p u) s.heap p u):Inv X pins σ (upd H p u) s:=by
 obtain⟨e0,n,neL,nfs,_⟩:=gH I;have ne:∀ {b:Addr} {w:HO},H b=some w->b≠p:=λ e=>dP e n;have ne0:∀ {b:Addr} {w:Obj},X.s₀.heap.get? b=some w->b≠p:=λ e=>Se (RQ (RW e) h0);refine⟨I.ok,I.os,I.bare,⟨I.base.keep,I.base.slot,λ b w e q hx=>?_,I.base.there,λ b xs e=>?_,λ b w y e=>?_,λ b ps e=>?_⟩,I.loc,I.cell,?_,λ x c e=>?_,λ q hq=>?_,λ b w e=>?_,I.len⟩
 . rw[ay (ne0 e)];exact I.base.free b w e q hx
 . have:=I.base.qp b xs e;rw[ay (ne this)];exact this
 . have:=I.base.o5 b w y e;rw[ay (ne this)];exact this
 . obtain⟨m,q⟩:=I.base.oV b ps e;exact⟨m,by rw[ay (ne q)];exact q⟩
 . rw[ay (RK neL)];exact I.free
 . rw[ay (Bc I x c e)];exact I.jD x c e
 . have hq':q∈X.pn++(pins++[(p,o)]):=by
    rcases SH.mp hq with z|z
    . exact Tr _ z
    . exact RZ _ (Tr _ z)
   obtain⟨a1,a2,a3⟩:=I.pin q hq';exact⟨a1,by rw[ay (hp q hq)];exact a2,a3⟩
 . by_cases hb:b=p
   . subst hb;rw[a6]at e;cases e;exact new
   . rw[ay hb]at e;exact(I.aM b w e).qo (λ _ _ _ q=>q) (λ c q=>by rw[ay (ne q)];exact q) λ c xs q=>by rw[ay (ne q)];exact q
end
def oh(X:Cx)(pins:List (Addr×Obj))(σ:L2.St)(R:Hp->Prop)(own:List (Addr×Obj))(s:Shared):Prop:=∃H,Inv X (pins++own) σ H s/\R H
section
variable {X:Cx}{pins:List (Addr×Obj)}{σ:L2.St}{R:Hp->Prop}{s:Shared}{A:Around}{E:Value->Shared->Prop}{a kS:Addr}{e1 e:Nat}{keys:Array Value}{P:PySem.Fin->Shared->Prop}
structure Own(X:Cx)(pins:List (Addr×Obj))(p:Addr):Prop where
 ge:X.s₀.heap.objs.size<=p
 ne:∀q∈X.pn++pins,q.1≠p
def uS{H:Hp}(I:Inv X pins σ H s):Own X pins s.heap.objs.size:=⟨I.sz,λ q hq=>Se (RW (I.pin q hq).1)⟩
def AN{p:Addr}{q:Addr×Obj}(h:Own X pins p)(hq:q.1≠p):Own X (pins++[q]) p:=⟨h.ge,λ r hr=>by
 rcases SH.mp hr with z|z
 . exact h.ne r (Tr _ z)
 . rcases SH.mp z with z|z
   . exact h.ne r (RZ _ z)
   . have e:r=q:=by simpa using z
     rw[e];exact hq⟩
def AQ{x y:Addr×Obj}(J:oh X pins σ R [x,y] s):∃H,Inv X ((pins++[x])++[y]) σ H s/\R H:=by
 obtain⟨H,I,r⟩:=J;exact⟨H,by rw[Vf];exact I,r⟩
def EW{x y:Addr×Obj}{H:Hp}(I:Inv X ((pins++[x])++[y]) σ H s)(r:R H):oh X pins σ R [x,y] s:=⟨H,by rw[Vf]at I;exact I,r⟩
def Am{st:SortSt}(J:oh X pins σ R [(a,seqObj "list" #[] e1),(kS,seqObj "list" keys e)] s)(ha:Own X pins a)(hk:Own X pins kS)(hka:kS≠a)(hz1:keys.size<=sizeLine)(hz2:(arrOf st).size<=sizeLine)(hf:failedOf st=none)
 (h:∀s' c,oh X pins σ R [(a,seqObj "list" ((arrOf st).map (·.2)) c)] s'->P (.done (.ret .none)) s'):
 wpAny (model X.prog X.w) A (PyProof.Rows.ksk_tail a false e1 (.ref kS) st) P E s:=by
 obtain⟨H,I,r⟩:=AQ J;have k1:=(gH I).1;have s1:=T6 s.heap kS (Obj.mapSeq λ _=>(#[]:Array Value));have I1:=oU (t':=s.toks) I s1 (Vs k1 λ _=> #[]) (λ v z=>by cases z) hk.ge (AN hk hka.symm).ne;have I2:Inv X (pins++[(a,seqObj "list" #[] e1)]) σ H {s with heap:=s.heap.update kS (Obj.mapSeq λ _=>(#[]:Array Value)),toks:=s.toks}:=I1.i4;have a1:=(gH I2).1;have s2:=T6 (s.heap.update kS (Obj.mapSeq λ _=>(#[]:Array Value))) a (Obj.mapSeq λ _=>(arrOf st).map (·.2));have I3:=oU (t':=s.toks) I2 s2 (Vs a1 λ _=>(arrOf st).map (·.2)) (λ v z=>by cases z) ha.ge ha.ne;unfold ksk_tail;simp only[Ts,Uq];refine Rw (Wm k1 rfl ?_ hz1 (RX _));refine Rw (WU ?_);refine Rw (seqEpoch_at a1 rfl ?_);refine Rw (Wm a1 rfl ?_ (RX _) (Nat.le_succ_of_le (by rw[Array.size_map];exact hz2)));rw[hf];simp only[bne_self_eq_false,Ts,Uq];exact RO (h _ _ ⟨H,I3,r⟩)
def C6(kz:List Int)(vs out:List Value):Prop:=
 ∃ps:List (Int×Value),ps.Perm (kz.zip vs)/\out=ps.map Prod.snd/\ps.Pairwise λ p q=>p.1<q.1\/(p.1=q.1/\numOf p.2<numOf q.2)
def BY{kz:List Int}{vs:List Value}(hk:IntsAre keys.toList kz){xs:Array Keyed}(hp:xs.Perm (keys.zip vs.toArray))(hs:kG xs xs.size):C6 kz vs (xs.map (·.2)).toList:=by
 have hl:xs.toList.Perm (keys.toList.zip vs):=by rw[<-ksk_zip];exact Array.perm_iff_toList_perm.mp hp
 refine⟨xs.toList.map λ p=>(numOf p.1,p.2),?_,?_,?_⟩
 . have e2:(keys.toList.zip vs).map (λ p:Keyed=>(numOf p.1,p.2))=kz.zip vs:=by
    rw[<-hk.nums,List.zip_map_left];exact SQ λ⟨x,y⟩ _=>rfl
   rw[<-e2];exact hl.map _
 . rw[Array.toList_map,Sn];rfl
 . rw[Wy];intro i j hi hj hij;have hi':i<xs.size:=by simpa using hi
   have hj':j<xs.size:=by simpa using hj
   have q:=hs i j hij hj';unfold nK Jn at q;rw[K_eq hi',K_eq hj',getElem?_pos xs i hi',getElem?_pos xs j hj']at q;simpa using q
def Ju{kz:List Int}{vs:List Value}(J:oh X pins σ R [(a,seqObj "list" #[] e1),(kS,seqObj "list" keys e)] s)(ha:Own X pins a)(hk:Own X pins kS)(hka:kS≠a)(hi:IntsAre keys.toList kz)(hl:kz.length=vs.length)(h64:vs.length<64)
 (hup:vs.Pairwise λ x y=>numOf x<numOf y)
 (h:∀s' out c,oh X pins σ R [(a,seqObj "list" out c)] s'->C6 kz vs out.toList->P (.done (.ret .none)) s'):
 wpAny (model X.prog X.w) A (ksk_end a false vs.toArray e1 (.ref kS) keys) P E s:=by
 have hsz:keys.size=vs.length:=by have:=hi.length;rw[TB]at this;omega
 have hzs:(keys.zip vs.toArray).size=vs.length:=by rw[Array.size_zip,hsz,RM,Xi]
 have hbig:vs.length<=sizeLine:=RH (Tq h64) (by decide)
 have hta:jI (keys.zip vs.toArray).size (keys.zip vs.toArray) 1:=λ i j hij _ hj=>by
  rw[hzs]at hj
  have e1:(keys.zip vs.toArray)[i]?=some (keys.toList[i]'(by rw[TB];omega),vs[i]'(by omega)):=by
   rw[<-W5,ksk_zip,RJ (by rw[WN,TB];omega),List.getElem_zip]
  have e2:(keys.zip vs.toArray)[j]?=some (keys.toList[j]'(by rw[TB];omega),vs[j]'(by omega)):=by
   rw[<-W5,ksk_zip,RJ (by rw[WN,TB];omega),List.getElem_zip]
  unfold Jn;rw[e1,e2];exact Wy.mp hup i j (by omega) (by omega) hij
 unfold ksk_end;simp only[Ts,Uq];by_cases h2:vs.toArray.size<2
 . rw[RC h2,RC h2];refine Rw (RO ?_);rw[StateT.run_pure];refine Rw (RO ?_);refine Am (st:=SortSt.mk' general' (keys.zip vs.toArray) #[] 7 none) J ha hk hka (by omega) (by show(keys.zip vs.toArray).size<=_;omega) rfl λ s' c J'=>h s' _ c J' ?_;refine BY hi (Array.Perm.refl _) λ i j hij hj=>?_;have hj':j<(keys.zip vs.toArray).size:=hj;rw[RM]at h2;omega
 . rw[Rx h2,Rx h2];rw[RM]at h2;rw[ksk_kind hi (by omega)];refine Rw (RO ?_)
   refine Rw (T8 (Gi (a₀:=keys.zip vs.toArray) (st:=SortSt.mk' oneType' (keys.zip vs.toArray) #[] 7 none)
    (Q:=λ _ st'=>(arrOf st').Perm (keys.zip vs.toArray)/\failedOf st'=none/\kG (arrOf st') (keys.zip vs.toArray).size)
    (ksk_intKeys hi) ⟨Array.Perm.refl _,rfl,rfl,rfl⟩ hta (by omega) (by omega) λ st' b1 b2 b3=>⟨b1,b2,b3⟩) ?_ λ _ _ z=>z)
   rintro⟨⟨⟩,st'⟩ s' ⟨rfl,hp,hf,hs⟩;have hz2:=hp.size_eq;refine Am (st:=st') J ha hk hka (by omega) (by rw[hz2];omega) hf λ s' c J'=>h s' _ c J' (BY hi hp (by rw[hz2];exact hs))
def GL{f:Value}{kz:List Int}{vs:List Value}(J:oh X pins σ R [(a,seqObj "list" #[] e1),(kS,seqObj "list" #[] 0)] s)(ha:Own X pins a)(hk:Own X pins kS)(hka:kS≠a)(hl:kz.length=vs.length)(h64:vs.length<64)
 (hup:vs.Pairwise λ x y=>numOf x<numOf y)
 (turn:∀(i:Nat) (v:Value) (k:Int),vs[i]?=some v->kz[i]?=some k->∀(own:List (Addr×Obj)) (s:Shared),oh X pins σ R own s->wpAny (model X.prog X.w) A (call f [v]) (λ u s'=>(∃t,u= .int k t)/\oh X pins σ R own s') (λ _ _=>False) s)
 (h:∀s' out c,oh X pins σ R [(a,seqObj "list" out c)] s'->C6 kz vs out.toList->P (.done (.ret .none)) s'):
 wpAny (model X.prog X.w) A (ksk_rest a f false vs.toArray e1 (.ref kS)) P E s:=by
 have hbig:vs.length<=sizeLine:=RH (Tq h64) (by decide);unfold ksk_rest;refine Rw (Vk ?_)
 first
  |rw[List.forIn_toArray]
  |(rw[<-Array.forIn_toList];simp only[List.toList_toArray])
  |rw[<-Array.forIn_toList]
 refine Rw (ksk_fold (λ i s'=>∃kA e,oh X pins σ R [(a,seqObj "list" #[] e1),(kS,seqObj "list" kA e)] s'/\IntsAre kA.toList (kz.take i)) vs 0 s ⟨#[],0,J,by simpa using IntsAre.nil⟩ ?st ?en)
 case st=>
  rintro j x s' hx ⟨kA,e,J',hk'⟩;simp only[Uw]at hk'⊢;have hj:j<vs.length:=(RB.mp hx).1;have hkj:kz[j]?=some (kz[j]'(by omega)):=RJ _
  have hz:kA.size<=vs.length:=by
   have:=hk'.length;rw[TB,TK]at this;omega
  refine Rw (Wl (T8 (turn j x _ hx hkj _ s' J') (λ v s2 he=>?_) λ _ _ z=>z.elim));obtain⟨⟨t,rfl⟩,J2⟩:=he;obtain⟨H,I,r⟩:=AQ J2;have k1:=(gH I).1;have s1:=T6 s2.heap kS (Obj.mapSeq (·.push (.int (kz[j]'(by omega)) t)));have I1:=oU (t':=s2.toks) I s1 (Vs k1 (·.push (.int (kz[j]'(by omega)) t))) (λ v z=>by cases z) hk.ge (AN hk hka.symm).ne;refine Rw (Wm k1 rfl ?_ (by omega) (RH (VU (Array.size_push ..)) (by omega)));refine RO ⟨rfl,_,_,EW I1 r,?_⟩;have ek:kz.take (j+1)=kz.take j++[kz[j]'(by omega)]:=by rw[List.take_add_one,hkj];simp
  rw[ek,Array.toList_push];exact ksk_snoc hk'
 case en=>
  rintro s' ⟨kA,e,J',hk'⟩;rw[show kz.take (0+vs.length)=kz from TN (by omega)]at hk';obtain⟨H,I,r⟩:=AQ J';refine Rw (listItems_at (gH I).1 rfl ?_);exact Ju J' ha hk hka hk' hl h64 hup h
def CP{f:Addr}{l:Addr}{kz:List Int}{vs:List Value}{H:Hp}{Q:Value->Shared->Prop}(I:Inv X pins σ H s)(r:R H)(hli:s.heap.IsList l vs.toArray)(hl:kz.length=vs.length)(h64:vs.length<64)
 (hup:vs.Pairwise λ x y=>numOf x<numOf y)
 (turn:∀(i:Nat) (v:Value) (k:Int),vs[i]?=some v->kz[i]?=some k->∀(own:List (Addr×Obj)) (s:Shared),oh X pins σ R own s->wpAny (model X.prog X.w) A.in1.in1 (call (.ref f) [v]) (λ u s'=>(∃t,u= .int k t)/\oh X pins σ R own s') (λ _ _=>False) s)
 (h:∀D s' out c,Own X pins D->oh X pins σ R [(D,seqObj "list" out c)] s'->C6 kz vs out.toList->Q (.ref D) s'):
 wpAny (model X.prog X.w) A (call (.builtin "sorted") [.ref l] [(Str.ofString "key",.ref f)]) Q E s:=by
 have hbig:vs.length<=sizeLine:=RH (Tq h64) (by decide);refine call_function_entry_kw kind_sorted plain_sorted entry_sorted (ksk_s1 _ _) ?_;unfold Builtin.«sorted»;refine Rw (m:=checkCount "sorted" 1 1 _) (RO ?_);refine Rw (collect_list hli ?_ hbig);have I1:=mZ (o:=seqObj "list" #[] 0) (t':=s.toks) I (λ v z=>by cases z);have s1:=T6 (s.heap.push (seqObj "list" #[] 0)) s.heap.objs.size (Obj.mapSeq (· ++vs.toArray));have I2:=oU (t':=s.toks) I1 s1 (Vs (gH I1).1 (· ++vs.toArray)) (λ v z=>by cases z) (uS I).ge (uS I).ne;have I3:Inv X pins σ H {s with heap:=(s.heap.push (seqObj "list" #[] 0)).update s.heap.objs.size (Obj.mapSeq (· ++vs.toArray)),toks:=s.toks}:=I2.i4;refine Rw (Xb ?_ hbig);generalize hs3:({s with heap:=(s.heap.push (seqObj "list" #[] 0)).update s.heap.objs.size (Obj.mapSeq (· ++vs.toArray))}:Shared)=s3;have I3':Inv X pins σ H s3:=by rw[<-hs3];exact I3
 have oD:=uS I3';have I4:=mZ (o:=seqObj "list" vs.toArray 0) (t':=s3.toks) I3' (λ v z=>by cases z);have hD:=(gH I4).1;refine Rw (UT (wpAny_call_entry_kw slot_list_sort ⟨_,hD,rfl⟩ entry_list_sort ?body (ksk_l1 _ _)))
 case body=>
  show wpAny (model X.prog X.w) A.in1.in1 (Builtin.«list.sort» ⟨[.ref s3.heap.objs.size],[(Str.ofString "key",.ref f)]⟩) _ _ _;rw[ksk_t1];unfold ksk_tree;refine Rw (listItems_at hD rfl ?_);have s5:=T6 (s3.heap.push (seqObj "list" vs.toArray 0)) s3.heap.objs.size (Obj.mapSeq λ _=>(#[]:Array Value));have I5:=oU (t':=s3.toks) I4 s5 (Vs hD λ _=> #[]) (λ v z=>by cases z) oD.ge oD.ne;have hD5:=(gH I5).1;refine Rw (Wm hD rfl ?_ (by rw[RM];exact hbig) (RX _));refine Rw (seqEpoch_at hD5 rfl ?_);refine Rw (wpAny_newTuple ?_ (by show vs.length<=_;exact hbig));have I6:=(mZ (o:=seqObj "tuple" vs.toArray 0) (t':=s3.toks) I5 (λ v z=>by cases z)).i4;refine Rw (Xb ?_ (RX _));have ok:=uS I6;have I7:=mZ (o:=seqObj "list" #[] 0) (t':=s3.toks) I6 (λ v z=>by cases z);refine UT ?_
  have okp:Own X pins _:=⟨ok.ge,λ q hq=>ok.ne q (by
   rcases SH.mp hq with z|z
   . exact Tr _ z
   . exact RZ _ (Tr _ z))⟩
  refine GL (EW I7 r) oD okp (λ z=>ok.ne (s3.heap.objs.size,_) (RZ _ (RZ _ (TR.mpr rfl))) z.symm) hl h64 hup turn λ s' out c J' so=>⟨_,rfl,?_⟩
  exact RO ⟨_,rfl,h _ s' out c oD J' so⟩
end
structure oG(X:Cx)(scope:Scope)(Nc:List Str)(fr:List (Option Nat))(p:Str):Prop where
 sc:bH X scope Nc fr
 Fx:∀x∈scope.names,x.2≠ .cell
 co:scope.isCoroutine=false
 gen:scope.isGenerator=false
 p0:Nc[0]?=some p
 f0:fr[0]?=some none
 loc:scope.names.lookup p=some .local
abbrev D7(X:Cx)(scope:Scope)(qual:Str)(f c:Addr)(s:Shared):Env:=PySem.W.envX qual scope s.heap.objs.size f (.ref c) (dz X.env.cells scope.names [])
def FU(X:Cx)(scope:Scope)(Nc:List Str)(qual:Str)(f c:Addr)(s:Shared)(H:Hp):Cx:=
 {X with A:=X.A.in1.in1.deeper (D7 X scope qual f c s),N:=Nc,s₀:=s,H₀:=H,env:=D7 X scope qual f c s,outer:=X.stack,stack:=D7 X scope qual f c s::X.stack,ex:=[],fn:=λ _=>false,calm:=true,pn:=[],xe:=λ _ _=>False}
section
variable {X:Cx}{scope:Scope}{Nc:List Str}{fr:List (Option Nat)}{p qual:Str}{f c:Addr}{pins:List (Addr×Obj)}{σ:L2.St}{H:Hp}{s:Shared}
def Mr(S:oG X scope Nc fr p)(I:Inv X pins σ H s)(hc:X.calm=true):(FU X scope Nc qual f c s H).Ok where
 mod:=I.ok.mod
 kind:=S.sc.kind
 glob:=rfl
 blt:=rfl
 above:=Rv _
 inj:=λ x y a h1 h2=>I.ok.inj x y a (c7 _ [] (λ _ _ e=>by cases e) x a h1) (c7 _ [] (λ _ _ e=>by cases e) y a h2)
 has:=λ x hx=>by
  have hx':scope.names.lookup x=some .cell\/scope.names.lookup x=some .free:=hx;rcases hx' with hx|hx
  . exact absurd rfl (S.Fx _ (SE hx))
  . exact jK scope.names [] (I.ok.has x (S.sc.free _ (SE hx) rfl)) (.inl (SE hx))
 A9:=λ x a hf _=>by cases hf
 hd:=λ _=>I.ok.hd hc
 frames:=Around.frames_deeper (by show X.A.frames=_;exact I.ok.frames)
 BU:= .inr ⟨rfl,rfl⟩
 EN:=λ b hb=>by cases hb
 bs:=I.bs
 uo:=RH I.ok.uo I.sz
 vT:=λ b o e hb=>by cases hb
 vA:=λ b hb=>by cases hb
 lP:=I.stack
 w9:=I.xG
 gt:=I.ok.gt
def JQ{h':Heap}{t':Nat}{v:V}{u:Value}(S:oG X scope Nc fr p)(I:Inv X pins σ H s)(hc:X.calm=true)(r:RelV v u)(hn:h'.Ns s.heap.objs.size (λ x=>[(p,u)].reverse.lookup x))
 (k:∀b o,s.heap.get? b=some o->h'.get? b=some o):Inv (FU X scope Nc qual f c s H) [] ((σC fr σ).set 0 (some v)) H {s with heap:=h',toks:=t'} where
 ok:=Mr S I hc
 os:=rfl
 bare:=I.bare
 base:=Un.kept k
 loc:=⟨_,hn,λ i x w h1 h2 h3=>by
  by_cases hi:i=0
  . subst hi;have hp:=S.p0;have e:p=x:=SS (hp.symm.trans h1);subst e
    have hl:0<(σC fr σ).length:=by
     have:=(RB.mp h2).1;rw[RV]at this;exact this
    rw[RL hl]at h2;cases h2;exact⟨u,r,.inl ⟨S.loc,by simp⟩⟩
  . rw[RD (RK hi)]at h2;obtain⟨j,q1,q2⟩:=BS h2;obtain⟨n1,n2,n3⟩:=S.sc.map i j x h1 q1;obtain⟨m,hm,hl⟩:=I.loc;obtain⟨u',r',lk⟩:=hl j x w n1 q2 (n3.elim (λ z=> .inr (.inl z)) λ z=> .inr (.inr z));refine⟨u',r',?_⟩;rcases lk with⟨z,_⟩|⟨_,a,e,ic⟩
    . rcases n3 with y|y<;>(rw[y]at z;cases z)
    . obtain⟨a',e'⟩:=jK scope.names [] ⟨a,e⟩ (.inl (SE n2));have e2:=c7 _ [] (λ _ _ e=>by cases e) x a' e';rw[e]at e2;cases e2;exact .inr ⟨.inr n2,a,e',ic.keeps k⟩⟩
 cell:=λ x a h=>by
  obtain⟨v,q⟩:=I.cell x a (c7 _ [] (λ _ _ e=>by cases e) x a h);exact⟨v,q.keeps k⟩
 free:=I.aM.fresh (Rv _)
 jD:=λ x a h=>I.jD x a (c7 _ [] (λ _ _ e=>by cases e) x a h)
 pin:=λ q hq=>by cases hq
 aM:=I.aM.kept k
 len:=by rw[RV];unfold σC;rw[Rz];exact S.sc.len
def HJ{R:Hp->Prop}{params:Arguments}{body:Expr}{tb:TE}{own:List (Addr×Obj)}{k:Int}{v:V}{u pm ctv:Value}(S:oG X scope Nc fr p)(hc:X.calm=true)(hr:X.A.depth<recursionLimit)
 (hb:∀(s:Shared) (H:Hp),PE (FU X scope Nc qual f c s H) body tb)
 (hbind:∀(cl:List (Str×Addr)) (pm cd ct v:Value),bindArgs (PySem.W.kla_fn "<lambda>" qual params body scope cl pm cd ct) ⟨[v],[]⟩=pure [(p,v)])
 (r:RelV v u) (hf:(f,PySem.W.kla_obj "<lambda>" qual params body scope (dz X.env.cells scope.names []) pm c ctv)∈pins)
 (hcr:∀(H:Hp) (s:Shared),Inv X (pins++own) σ H s->R H->s.heap.CodeRec (.ref c) qual)
 (hq:∀H,R H->tb ((σC fr σ).set 0 (some v)) H λ x H'=>x= .int k/\R H') (J:oh X pins σ R own s):
 wpAny (model X.prog X.w) X.A.in1.in1 (call (.ref f) [u]) (λ u' s'=>(∃t,u'= .int k t)/\oh X pins σ R own s') (λ _ _=>False) s:=by
 obtain⟨H,I,rH⟩:=J;have ho:=(I.pin _ (RZ _ (Tr _ hf))).1;refine wpAny_call (PySem.W.kla_callFunE (fd:=PySem.W.kla_fn "<lambda>" qual params body scope (dz X.env.cells scope.names []) pm (.ref c) ctv) (by show X.A.depth<_;exact hr) ho rfl S.co S.gen rfl (hcr H s I rH) ?_);rw[hbind]
 refine RO (wpAny_newFunctionEnv S.Fx (λ y hy=>by
  have e:y=(p,u):=by simpa using hy
  rw[e];exact S.loc) (λ h₁ hns hsb=>?_) S.sc.kind)
 have hk:∀b o,s.heap.get? b=some o->h₁.get? b=some o:=λ b o e=>hsb.extBut b o (Se (RW e)) (RE _ e);refine⟨I.nolimit.keeps hk,?_⟩;show codeAny _ X.A.in1.in1 (.expr body (D7 X scope qual f c s)) _ _;refine PySem.W.kla_codeExpr (T8 (hb s H [] _ _ H _ (JQ S I hc r hns hk) (hq H rH)) (λ w s' he=>?_) λ e s' z=>False.elim z);obtain⟨x,H',I',rx,rfl,rH'⟩:=he;exact⟨rx,H',I.DB (s':=s') (ch:=[]) I'.os I'.base I'.aM I'.bare (λ b z=>absurd z (by simp)),rH'⟩
def set_same{α:Type}:∀ {l:List α} {n:Nat} {x:α},l[n]?=some x->l.set n x=l
 | [],n,x,h=>by simp at h
 |a::l,0,x,h=>by simp at h;subst h;rfl
 |a::l,n+1,x,h=>by
  rw[List.set_cons_succ,set_same (n:=n) (by simpa using h)]
def Hl{params:Arguments}{body:Expr}{lpos:Pos}{c0 T:Addr}{α:List (Option Addr)}{G F:Hp}{st:af}{n0:Nat}{b:Bool}{E:Value->Shared->Prop}{Q:Value->Shared->Prop}(S:oG X scope Nc fr p)(hcode:X.env.code= .ref c0)(hC:PySem.W.codeHdIn X.K c0 T=true)
 (hdef:defaultsOf params X.env=([],[])) (hql:X.env.qual++"<lambda>"=qual) (I:Inv X pins σ H s) (Sp:cn G F H) (SR:aZ α st G) (hn0:st[n0]?=some (.tab T lpos qual b))
 (h:∀(f c:Addr) (ctv pm:Value) (G2 H2:Hp) (s2:Shared),Inv X (pins++[(f,PySem.W.kla_obj "<lambda>" qual params body scope (dz X.env.cells scope.names []) pm c ctv)]) σ H2 s2->Step α G α G2->cn G2 F H2->aZ α (st.set n0 (.tab T lpos qual true)) G2->
   (some c∉α/\∃o vs t,G2 c=some (.mz o (.own c))/\o.data= .fields vs/\vs[1]?=some (.str qual t))->Q (.ref f) s2):
 wpAny (model X.prog X.w) X.A (eval (.Lambda params body scope lpos) X.env) Q E s:=by
 refine PySem.W.kla_eval hdef ?_;rw[hql];rcases SR.at' n0 _ hn0 with⟨z,_⟩|⟨a,ha,rfl,ps,gP,tr,cs⟩
 . cases z
 have hP:=I.aM a _ (Sp.get gP);have hP:s.heap.get? a=some (PySem.W.tabObj ps):=hP;have hg:s.heap.Ns mainGlobals X.mg:=I.mod.glob.keeps I.bk;obtain⟨bm,ob,b1,b2,b3,b4,b5,b6⟩:=I.mod.bmain;have b3':=I.bk _ _ b3
 have hgP:mainGlobals≠a:=λ q=>by
  obtain⟨o,es,ep,e,hd,_⟩:=hg;rw[q,hP]at e;cases e;cases hd
 have n1:bm≠mainGlobals:=λ q=>by
  obtain⟨o,es,ep,e,hd,_⟩:=hg;rw[q,e]at b3';cases b3';rw[hd]at b6;cases b6
 have n2:bm≠a:=λ q=>by rw[q,hP]at b3';cases b3';cases b4
 have hB:s.heap.BuiltinsAt X.mg a:=⟨bm,ob,b1,b2,n1,n2,b3',b4,b5,b6⟩
 have hcl:closureFor scope X.env=pure (dz X.env.cells scope.names []):=nY λ x hx hk=>I.ok.has x.1 (S.sc.free x hx hk);have C:PySem.W.CodeHd s.heap c0 a:=PySem.W.codeHd_of_K I.pf hC;rcases cs with⟨rfl,hnf⟩|⟨rfl,c,o,vs,t,q1,q2,q3,q4,q5⟩
 . refine PySem.W.kla_makeFunction hcl I.ok.glob hg hcode C hP tr hnf hgP hB λ c' ctv h' tk hx hge hlt hrec htb=>?_;obtain⟨c2,oc,vs,t,e2,hoc,hd,hv⟩:=hrec;cases e2;have hHc:H c'=none:=I.aM.fresh hge;have hGc:G c'=none:=(Sp.none hHc).1;have hHa:H a=some (.ll ps):=Sp.get gP;have hac:a≠c':=dP hHa hHc
   let ps':=ps++ #[rawInt lpos.line,rawInt lpos.col,.ref c']
   have nb:∀ {b:Addr},H b=none->b≠a:=λ e z=>by rw[z,hHa]at e;cases e
   have I1:Inv X pins σ (upd (upd H c' (.mz oc (.own c'))) a (.ll ps')) {s with heap:=h',gens:=s.gens,drawn:=s.drawn,toks:=tk}:=by
    have old:∀ {b:Addr} {u:HO},H b=some u->b≠a->upd (upd H c' (.mz oc (.own c'))) a (.ll ps') b=some u:=λ e n=>by rw[ay n,ay (dP e hHc)];exact e
    refine I.step (ch:=[]) (λ _ z=>nomatch z) (λ b o _ _ _ e n=>hx b o (nb n) e) (λ b o _ _ _ e n=>⟨o.slots,hx b o (nb n) e⟩) (λ b o _ e n=>?_) (λ b o _ e=>?_) (λ b xs e=>?_) (λ b o u e=>?_) (λ b qs e=>?_) (λ m hm=>?_) (λ b u e=>?_) I.bare
    . rw[ay (nb n),ay (Se (RQ (RW e) hge))];exact n
    . by_cases hb:b=a
      . exact⟨_,by rw[hb];exact htb⟩
      . exact⟨o,hx b o hb e⟩
    . exact old e λ z=>by rw[z,hHa]at e;cases e
    . exact old e λ z=>by rw[z,hHa]at e;cases e
    . by_cases hb:b=a
      . subst hb;rw[hHa]at e;cases e;exact⟨_,a6⟩
      . exact⟨#[],by rw[old e hb];simp⟩
    . obtain⟨o,es,ep,ho,r⟩:=hm;exact⟨o,es,ep,hx _ o (nb I.free) ho,r⟩
    . by_cases hb:b=a
      . subst hb;rw[a6]at e;cases e;exact htb
      . rw[ay hb]at e;by_cases hbc:b=c'
        . subst hbc;rw[a6]at e;cases e;exact⟨hoc,_,hoc⟩
        . rw[ay hbc]at e;refine(I.aM b u e).qo (λ d w hd q=>hx d w ?_ q) (λ d q=>old q λ z=>by rw[z,hHa]at q;cases q) λ d xs q=>old q λ z=>by rw[z,hHa]at q;cases q
          rcases hd with rfl|hd
          . exact hb
          . intro z;rw[z,hHa]at hd;cases hd
   have I2:=mZ (o:=PySem.W.kla_obj "<lambda>" qual params body scope (dz X.env.cells scope.names []) ((X.mg "__name__").getD .none) c' ctv) (t':=tk) I1 (λ v z=>by cases z);have gP':upd G c' (.mz oc (.own c')) a=some (.ll ps):=by rw[ay hac];exact gP
   refine h _ c' ctv _ (upd (upd G c' (.mz oc (.own c'))) a (.ll ps')) _ _ I2 ((Step.laid hGc).trans (Step.write (Sg ha))) ((Sp.laid hHc).write gP') ((SR.laid hGc).write ha ⟨rfl,ps',a6,?_,.inr ⟨rfl,c',oc,vs,t,?_,SR.lZ hGc,?_,hd,hv⟩⟩) ⟨SR.lZ hGc,oc,vs,t,?_,hd,hv⟩
   . show TriplesOk (ps++ #[rawInt lpos.line,rawInt lpos.col,.ref c']).toList;rw[Array.toList_append];exact TriplesOk_snoc _ _ _ _ tr
   . show codeAmong lpos (ps++ #[rawInt lpos.line,rawInt lpos.col,.ref c']).toList=_;rw[Array.toList_append];exact codeAmong_snoc _ tr hnf
   . rw[ay hac.symm,a6]
   . rw[ay hac.symm,a6]
 . refine PySem.W.kla_makeFunctionHit hcl I.ok.glob hg hcode C hP tr q1 hB λ ctv h' tk hk hsz=>?_;have I1:=I.kept (t':=tk) hk;have I2:=mZ (o:=PySem.W.kla_obj "<lambda>" qual params body scope (dz X.env.cells scope.names []) ((X.mg "__name__").getD .none) c ctv) (t':=tk) I1 (λ v z=>by cases z);refine h _ c ctv _ G H _ I2 Step.refl Sp (by rw[set_same hn0];exact SR) ⟨q2,o,vs,t,q3,q4,q5⟩
end
def slt(p q:Int×Int):Prop:=p.1<q.1\/(p.1=q.1/\p.2<q.2)
def Ac(n0:Nat)(T:Addr)(lpos:Pos)(qual:Str)(fr:List (Option Nat))(tb te:DE):DE:=λ σ st K=>te σ st λ d st1=>∃(ns ks:List Int) (b:Bool),d= .lst (ns.map .int)/\ns.length<64/\ns.Pairwise (· < ·)/\ks.length=ns.length/\
 st1[n0]?=some (.tab T lpos qual b)/\(∀(i:Nat) (n k:Int),ns[i]?=some n->ks[i]?=some k->tb ((iJ fr σ).set 0 (some (.int n))) (st1.set n0 (.tab T lpos qual true)) λ v st2=>v= .int k/\st2=st1.set n0 (.tab T lpos qual true))/\
 ∀os:List (Int×Int),os.Perm (ks.zip ns)->os.Pairwise slt->K (.lst (os.map λ p=> .int p.2)) (st1.set n0 (.tab T lpos qual true))
def AX{α:List (Option Addr)}{H:Hp}:∀ {ns:List Int} {vs:List V},aL α H (ns.map D.int) vs->vs=ns.map V.int
 | [],vs,h=>by unfold aL at h;exact h
 |n::ns,vs,h=>by
  unfold aL at h;obtain⟨v,r,rfl,h1,h2⟩:=h;unfold Rep at h1;rw[h1,AX h2];rfl
def AV{α:List (Option Addr)}{H:Hp}:∀(ns:List Int),aL α H (ns.map D.int) (ns.map V.int)
 | []=>by unfold aL;rfl
 |n::ns=>by unfold aL;exact⟨_,_,rfl,by unfold Rep;rfl,AV ns⟩
def Bq:∀ {ns:List Int} {us:List Value},Vals (ns.map V.int) us->IntsAre us ns
 | [],_,.nil=> .nil
 |n::ns,_,.cons ⟨t,rfl⟩ h=> .cons n t (Bq h)
section
variable {X:Cx}{scope:Scope}{Nc:List Str}{fr:List (Option Nat)}{p x qual:Str}{params:Arguments}{e body:Expr}{te tb:DE}{lpos kpos pos ppos:Pos}{c0 T:Addr}{n0:Nat}
def J3(S:oG X scope Nc fr p)(hc:X.calm=true)(hr:c8 2 X.A)(hcode:X.env.code= .ref c0)(hC:PySem.W.codeHdIn X.K c0 T=true)(hdef:defaultsOf params X.env=([],[]))(hql:X.env.qual++"<lambda>"=qual)
 (hbind:∀(cl:List (Str×Addr)) (pm cd ct v:Value),bindArgs (PySem.W.kla_fn "<lambda>" qual params body scope cl pm cd ct) ⟨[v],[]⟩=pure [(p,v)])
 (hb:∀(f c:Addr) (s:Shared) (H:Hp),PE (FU X scope Nc qual f c s H) body (LE tb)) (ha:PA X [e] (LA (ae te ao)))
 (hg:Gl X "sorted") (hm:X.mg "sorted"=none) (hv:bootBuiltins "sorted"=some (.builtin "sorted"))
 (he:backTo pos (starEach [e] X.env)=(false,eval e X.env)::backTo pos (starEach [] X.env):=by rfl) (hpl:(backTo pos (starEach [e] X.env)).any (·.1)=false:=by rfl):
 PE X (.Call (.Name "sorted" ppos) [e] [⟨some "key",.Lambda params body scope lpos,kpos⟩] pos) (LE (Ac n0 T lpos qual fr tb te)):=by
 intro pins s σ H Q I h;obtain⟨α,σd,st,K,G,F,Sp,RS,SR,t,k⟩:=h;refine UW (o_ I hg hm hv ?_);refine callWith_kw ?_ he hpl
 let K1:DK:=λ d st1=>∃(ns ks:List Int) (b:Bool),d= .lst (ns.map .int)/\ns.length<64/\ns.Pairwise (· < ·)/\ks.length=ns.length/\
  st1[n0]?=some (.tab T lpos qual b)/\(∀(i:Nat) (n k:Int),ns[i]?=some n->ks[i]?=some k->tb ((iJ fr σd).set 0 (some (.int n))) (st1.set n0 (.tab T lpos qual true)) λ v st2=>v= .int k/\st2=st1.set n0 (.tab T lpos qual true))/\
  ∀os:List (Int×Int),os.Perm (ks.zip ns)->os.Pairwise slt->K (.lst (os.map λ p=> .int p.2)) (st1.set n0 (.tab T lpos qual true))
 refine cu (ha pos pins s σ H (λ vs H1=>∃d v st1 α1 G1,vs=[v]/\K1 d st1/\Step α G α1 G1/\cn G1 F H1/\aZ α1 st1 G1/\Rep α1 G1 d v) I
  ⟨α,σd,st,λ ds st1=>match ds with| [d]=>K1 d st1|_=>False,G,F,Sp,RS,SR,t,λ ds st1 q α1 G1 H1 vs s1 P1 S1 r1=>?_⟩) λ us s1 ⟨vs,H1,I1,rv,d,v,st1,α1,G1,hvs,kd,s1',P1,S1,r1⟩=>?_
 . match ds,q,r1 with
   | [d],q,r1=>
     unfold aL at r1;obtain⟨v,r,rfl,h1,h2⟩:=r1;unfold aL at h2;subst h2;exact⟨d,v,st1,α1,G1,rfl,q,s1,P1,S1,h1⟩
 subst hvs;obtain⟨ns,ks,b,rfl,h64,hup,hlen,hn0,hkey,hK⟩:=kd;show wpAny _ _ (evalAll ((do let v <-eval (.Lambda params body scope lpos) X.env;standAt pos;pure v)::[])) _ _ s1;refine wpAny_evalAll_cons (Rw (Hl S hcode hC hdef hql I1 P1 S1 hn0 λ f c ctv pm G2 H2 s2 I2 st2 P2 S2 ⟨hc1,o,vs,tq,hc2,hc3,hc4⟩=>Rw (VH (RO (wpAny_evalAll_nil ?_)))));have r2:=r1.step st2;unfold Rep at r2;obtain⟨l,xs,rfl,hl1,hl2,hl3⟩:=r2;have exs:=AX hl3;subst exs;cases rv with
 |cons ru rn=>
  cases rn;cases ru
  have hrd:Rd H2 l (.lst (ns.map V.int)):=by
   rcases hl2 with z|⟨w,z⟩
   . exact .inl (P2.get z)
   . exact .inr ⟨w,P2.get z⟩
  obtain⟨_,its,nn,vv,hobj⟩:=hrd.ok I2.aM;have hints:=Bq vv;have hlen2:=hints.length;have key:∀(H':Hp),(∃α' G',Step α1 G2 α' G'/\cn G' F H'/\aZ α' (st1.set n0 (.tab T lpos qual true)) G')->H' c=some (.mz o (.own c)):=λ H' ⟨α',G',q1,q2,q3⟩=>q2.get (q1.ext c _ hc1 hc2);show wpAny _ _ (call (.builtin "sorted") [.ref l] [(Str.ofString "key",.ref f)]) _ _ _
  refine CP (X:=X) (pins:=pins++[(f,PySem.W.kla_obj "<lambda>" qual params body scope (dz X.env.cells scope.names []) pm c ctv)]) (R:=λ H'=>∃α' G',Step α1 G2 α' G'/\cn G' F H'/\aZ α' (st1.set n0 (.tab T lpos qual true)) G') (kz:=ks) (vs:=its)
   I2 ⟨α1,G2,Step.refl,P2,S2⟩ ⟨_,hobj,rfl,nn,rfl⟩ (by omega) (by omega) ?_ (λ i u kk hu hk own s' J=>?_) λ D s' out cc oD J so=>?_
  . rw[<-UI,hints.nums];exact hup
  . have hi:i<ns.length:=by
     have:=(RB.mp hu).1;omega
    obtain⟨tt,ht⟩:=hints.get i ns[i] (RJ hi);have ht:some u=some (Value.int ns[i] tt):=by rw[<-hu];exact ht
    cases ht;refine HJ (v:= .int ns[i]) (u:= .int ns[i] tt) S hc (by have:=hr.dp;omega) (hb f c) hbind ⟨tt,rfl⟩ (RZ _ (TR.mpr rfl)) (λ H' s'' J' r'=>?_) (λ H' r'=>?_) J
    . have q:=J'.aM c _ (key H' r');exact⟨c,o,vs,tq,rfl,q.1,hc3,hc4⟩
    . obtain⟨α',G',q1,q2,q3⟩:=r';refine⟨α',(iJ fr σd).set 0 (some (.int ns[i])),_,_,G',F,q2,?_,q3,hkey i ns[i] kk (RJ hi) hk,λ d' st' hd α'' G'' H'' v' s'' P'' S'' r''=>?_⟩
      . exact((RS.step ((s1'.trans st2).trans q1)).comp).set 0 (by unfold Rep;rfl)
      . obtain⟨rfl,rfl⟩:=hd;unfold Rep at r'';exact⟨r'',α'',G'',q1.trans s'',P'',S''⟩
  . obtain⟨H',I',α',G',q1,q2,q3⟩:=J;obtain⟨ps,hp,ho,hs⟩:=so
    have hps:∀q∈ps,∃t,q.2= .int (numOf q.2) t:=λ q hq=>by
     have h1:=hp.mem_iff.mp hq;have h2:q.2∈its:=(VV (show(q.1,q.2)∈ks.zip its from h1)).2;obtain⟨n,t,e⟩:=hints.all _ h2;exact⟨t,by rw[e];rfl⟩
    have hos:(ps.map λ q=>(q.1,numOf q.2)).Perm (ks.zip ns):=by
     have h1:=hp.map λ q:Int×Value=>(q.1,numOf q.2)
     have e:(ks.zip its).map (λ q:Int×Value=>(q.1,numOf q.2))=ks.zip ns:=by
      rw[<-hints.nums,List.zip_map_right];exact SQ λ⟨a,b⟩ _=>rfl
     rw[e]at h1;exact h1
    have hpw:(ps.map λ q=>(q.1,numOf q.2)).Pairwise slt:=by rw[UI];exact hs
    have kk:=hK _ hos hpw;rw[Sn]at kk;have hD0:=gH I'
    have vout:Vals ((ps.map λ q=>numOf q.2).map V.int) out.toList:=by
     rw[ho];clear hos hpw kk hs hp ho;induction ps with
     |nil=>exact .nil
     |cons q r ih=>
      obtain⟨t,e⟩:=hps q (R6 ..);exact .cons ⟨t,e⟩ (ih λ z hz=>hps z (RU _ hz))
    have hlo:(ps.map λ q=>numOf q.2).length<=sizeLine:=by
     rw[Rz,hp.length_eq,WN];exact RH (Nat.min_le_left _ _) (RH (show ks.length<=64 by omega) (by decide))
    have I3:=FC (u:= .lst ((ps.map λ q=>numOf q.2).map V.int)) I' oD.ge oD.ne ⟨by rw[Rz];exact hlo,out.toList,cc,vout,hD0.1⟩;have hG:=(q2.none hD0.2.1).1;refine⟨.ref D,_,I3.i4,rfl,k _ _ kk α' _ _ _ ((s1'.trans st2).trans (q1.trans (Step.laid hG))) (q2.laid hD0.2.1) (q3.laid hG) ?_⟩;unfold Rep;refine⟨D,_,rfl,q3.lZ hG,.inl a6,?_⟩;have e:List.map ((λ p:Int×Int=>L3.D.int p.snd)∘λ q:Int×Value=>(q.fst,numOf q.snd)) ps=(ps.map λ q=>numOf q.2).map L3.D.int:=by rw[Sn];rfl
    rw[e];exact AV _
end
end L3
namespace L3
open PySem L2
open PySem.Spec hiding items?
open PyProof.Rows hiding St
def HI(sc:Scope)(N gl:List Str):Bool:=
 N.all (λ x=>(sc.names.lookup x==some .local||sc.names.lookup x==some .cell)&&x != "__debug__"&&x != "__classdict__")&&gl.all (λ x=>sc.names.lookup x==some .globalImplicit&&x != "__debug__")
structure VS(sc:Scope)(N gl:List Str):Prop where
 ok:HI sc N gl=true
def VS.at_{sc:Scope}{N gl:List Str}(V:VS sc N gl){i:Nat}{x:Str}(h:N[i]?=some x):Loc sc x/\(x==("__debug__":Str))=false/\(x==("__classdict__":Str))=false:=by
 have o:=V.ok;unfold HI at o;have:=Tx.mp (Bool.and_eq_true_iff.mp o).1 x (Sg h);simp only[SV,Bool.or_eq_true,UU,bne_iff_ne,ne_eq]at this;exact⟨this.1.1,WO this.1.2,WO this.2⟩
def VS.PC{sc:Scope}{N gl:List Str}(V:VS sc N gl){i:Nat}{x:Str}(h:gl[i]?=some x):sc.names.lookup x=some .globalImplicit/\(x==("__debug__":Str))=false:=by
 have o:=V.ok;unfold HI at o;have:=Tx.mp (Bool.and_eq_true_iff.mp o).2 x (Sg h);simp only[SV,UU,bne_iff_ne,ne_eq]at this;exact⟨this.1,WO this.2⟩
section
variable {X:Cx}{sc:Scope}{N gl:List Str}{x:Str}{pos:Pos}
def VS.nm(V:VS X.env.scope X.N gl)(i:Nat)(h:X.N[i]?=some x:=by rfl):JE X (.Name x pos) (aa i):=
 let q:=V.at_ h
 EG q.2.1 q.2.2 (q.1.elim .inl λ z=> .inr (.inl z)) h
def VS.l(V:VS sc N gl)(i:Nat)(h:N[i]?=some x:=by rfl):Loc sc x:=(V.at_ h).1
def VS.g(V:VS sc N gl)(i:Nat)(h:gl[i]?=some x:=by rfl):sc.names.lookup x=some .globalImplicit:=(V.PC h).1
def VS.d(V:VS sc N gl)(i:Nat)(h:gl[i]?=some x:=by rfl):(x==("__debug__":Str))=false:=(V.PC h).2
def cK{n:Nat}(hN:X.N[n]?=some x:=by rfl)(hd:((x==("__debug__":Str))||(x==("__classdict__":Str)))=false:=by decide+kernel)
 (hv:Bu X.env.scope x:=by first|exact Or.inl rfl|exact Or.inr (Or.inl rfl)|exact Or.inr (Or.inr rfl)):JE X (.Name x pos) (aa n):=
 EG (Bool.or_eq_false_iff.mp hd).1 (Bool.or_eq_false_iff.mp hd).2 hv hN
@[irreducible] def qL:dy:=wN (λ _ j=>j≠0) λ i j=> .int (i.fdiv j)
def Ct{k:Nat}(hr:c8 k X.A)(hs:X.stack=X.env::X.outer)(hgen:X.env.scope.isGenerator=false)(hco:X.env.scope.isCoroutine=false):cf X (binaryOp .FloorDiv) (LR qL):=by
 unfold qL;refine nB (g':=λ i j=> .int (i.fdiv j)) (λ _ _ _ _=>by unfold Rep;rfl) ?_;intro pins s σ H x y v u Q I rx ry h;obtain⟨i,j,rfl,rfl,hc,q⟩:=h;obtain⟨t,rfl⟩:=rx;obtain⟨t',rfl⟩:=ry;refine floordiv_int hc ⟨.int (i.fdiv j),H,I.tok _,⟨_,rfl⟩,q⟩ (.inr (PySem.PylongRoom.of I.nolimit ?_ ?_))
 . have:=hr.dp;show X.A.depth+100<_;omega
 . exact PySem.SeerAt.of (env:=X.env) (l:=X.outer) (I.mod.seer.keeps I.bk) I.ok.gt (by rw[I.ok.frames,hs]) hgen hco I.ok.blt I.ok.glob
def AJ{st:af}{K:DK}{i j:Int}(h0:j≠0)(k:K (.int (i.fdiv j)) st):qL (.int i) (.int j) st K:=by unfold qL;exact⟨h0,k⟩
def oG.look{scope:Scope}{Nc:List Str}{fr:List (Option Nat)}{p:Str}(S:bH X scope Nc fr)(h:(scope.names.all (λ x=>x.2 != .cell)&&(!scope.isCoroutine&& !scope.isGenerator)&&(scope.names.lookup p==some .local))=true:=by decide+kernel)
 (p0:Nc[0]?=some p:=by rfl) (f0:fr[0]?=some none:=by rfl):oG X scope Nc fr p:=by
 simp only[SV,Bool.not_eq_true',UU]at h;exact⟨S,λ x hx=>by simpa using Tx.mp h.1.1 x hx,h.1.2.1,h.1.2.2,p0,f0,h.2⟩
def J4{scope:Scope}{Nc:List Str}{fr:List (Option Nat)}{p qual:Str}{params:Arguments}{e body:Expr}{te tb:DE}{lpos kpos pos ppos:Pos}{c0 T:Addr}{n0 k:Nat}(S:oG X scope Nc fr p)(hc:X.calm=true)(hr:c8 k X.A)(hcode:X.env.code= .ref c0)(hC:PySem.W.codeHdIn X.K c0 T=true)
 (hb:∀(f c:Addr) (s:Shared) (H:Hp),JE (FU X scope Nc qual f c s H) body tb) (he:JE X e te) (hg:X.env.kindOf "sorted"=some .globalImplicit) (hm:X.mg "sorted"=none)
 (hdef:defaultsOf params X.env=([],[]):=by rfl) (hql:X.env.qual++"<lambda>"=qual:=by rfl)
 (hbind:∀(cl:List (Str×Addr)) (pm cd ct v:Value),bindArgs (PySem.W.kla_fn "<lambda>" qual params body scope cl pm cd ct) ⟨[v],[]⟩=pure [(p,v)]:=by(intros;rfl)) (hk:2<=k:=by decide)
 (he1:starEach [e] X.env=(false,eval e X.env)::starEach [] X.env:=by rfl):
 JE X (.Call (.Name "sorted" ppos) [e] [⟨some "key",.Lambda params body scope lpos,kpos⟩] pos) (Ac n0 T lpos qual fr tb te):=by
 unfold JE at he hb⊢;refine J3 S hc (hr.mono hk) hcode hC hdef hql hbind hb (uF he xo he1) hg hm rfl ?_ ?_
 . rw[he1];rfl
 . rw[he1];rfl
end
structure Mz(K:PySem.W.Frag)(x qual:Str)(st:Stmt)(f:Addr)(fd:FuncData)(c:Addr):Prop where
 ex:∃(oc:Value) (od:Option Addr) (kV doc pm:Value) (an:Option Addr) (ct:Value) (osl:Array (Option Value)),
  fd=PySem.W.fnOf x qual (lK st) (iI st) (ai st) .none kV doc pm an (.ref c) ct/\K.lookup f=some ⟨oc,od,.func fd,osl⟩/\PySem.W.codeIn K (.ref c) qual=true
def Mq{P:Program}{w:World}{K:PySem.W.Frag}{mg:Str->Option Value}{base:Heap}{x qual:Str}{st:Stmt}{f c:Addr}{fd:FuncData}{N ps:List Str}{k:Nat}{sp:cL}{t:DS}(F:Mz K x qual st f fd c)(S:aX N ps (ai st))
 (hbody:∀(A:Around) (outer:List Env) (s:Shared) (H:Hp) (E:XK),c8 k (A.deeper (envOfC qual (ai st) s.heap.objs.size f (.ref c)))->JB (rT cM P w K mg base N qual (ai st) f (.ref c) A outer s H E).xi (iI st) t)
 (hsp:∀ds st K,sp ds st K->ds.length=ps.length/\t {nx:=λ _ st'=>K .aB st',rt:=K} (bc N ds) st):bE P w K mg base cM (k+1) f fd ps (cP sp):=by
 obtain⟨oc,od,kV,doc,pm,an,ct,osl,rfl,lk,hcd⟩:=F.ex;unfold JB at hbody;refine Jd lk hcd S (λ vs H Q E h=>?_) λ A outer s H vs Q E hr h=>?_
 . obtain⟨α,ds,st,K,G,F,P,R,S,q,k⟩:=h;rw[<-R.length];exact(hsp ds st K q).1
 . obtain⟨α,ds,st,K,G,F',P,R,SR,q,k⟩:=h;refine⟨_,(hbody A outer s H E hr).xi,α,bc N ds,st,_,G,F',P,eH.start R,SR,(hsp ds st K q).2,?_,k,?_,?_⟩
   . intro σd' st' kk α' G' H' σ' s' P' R' S';exact k .aB st' kk α' G' H' .aB s' P' S' (by unfold Rep;rfl)
   . intro σd' st' kk;exact kk.elim
   . intro σd' st' kk;exact kk.elim
def EI(tl:List (Addr×Pos×Str)):cL:=λ ds st K=>∃ns:List Int,ds=[.lst (ns.map .int)]/\ns.length<=63/\st=tl.map (λ q=> .tab q.1 q.2.1 q.2.2 false)/\∀st',K (.bl true) st'
def FN(K:PySem.W.Frag)(ts:List (Addr×Addr)):Sp:=λ vs H Q _=>∃(a:Addr) (ns:List Int),vs=[.ref a]/\Entry K ts a ns H/\ns.length<=63/\∀H',Q (.bl true) H'
def FA{K:PySem.W.Frag}{ts:List (Addr×Addr)}{tl:List (Addr×Pos×Str)}(nl:Fl K=true)(hts:ts.map (·.2)=tl.map (·.1))(nd:(tl.map (·.1)).Nodup){vs:List V}{H:Hp}{Q:VK}{E:XK}(h:FN K ts vs H Q E):cP (EI tl) vs H Q E:=by
 obtain⟨a,ns,rfl,hE,hl,q⟩:=h
 have tabs:∀q∈tl,H q.1=some (.ll #[])/\q.1≠a:=λ q hq=>by
  have h1:q.1∈ts.map (·.2):=by rw[hts];exact V6 hq
  obtain⟨t,ht,e⟩:=Sl.mp h1;rw[<-e];exact hE.tab t ht
 have at_:∀(i:Nat) (x:Addr),(tl.map λ q=>some q.1)[i]?=some (some x)->∃q,tl[i]?=some q/\q.1=x:=λ i x e=>by
  rw[RP]at e;cases z:tl[i]? with
  |none=>rw[z]at e;cases e
  |some w=>rw[z]at e;simp at e;exact⟨w,rfl,e⟩
 have nota:some a∉tl.map λ q=>some q.1:=λ z=>by
  obtain⟨w,hw,e⟩:=Sl.mp z;exact(tabs w hw).2 (SS e)
 rcases hE.lst with hS|⟨o,its,n,e,hc,_⟩
 . refine⟨tl.map λ q=>some q.1,[.lst (ns.map .int)],tl.map (λ q=> .tab q.1 q.2.1 q.2.2 false),λ d _=>d= .bl true,H,λ _=>none,⟨λ b=>by cases H b<;>rfl,λ _ _ _=>rfl⟩,?_,⟨by simp,λ i j x e1 e2=>?_,λ n c e=>?_⟩,⟨ns,rfl,hl,rfl,λ _=>rfl⟩,?_⟩
   . unfold aL;refine⟨.ref a,[],rfl,?_,by unfold aL;rfl⟩;unfold Rep;exact⟨a,ns.map V.int,rfl,nota,hS,yJ ns⟩
   . obtain⟨p,hp,e3⟩:=at_ i x e1;obtain⟨r,hr,e4⟩:=at_ j x e2;have k1:(tl.map (·.1))[i]?=some x:=by rw[RP,hp,<-e3];rfl
     have k2:(tl.map (·.1))[j]?=some x:=by rw[RP,hr,<-e4];rfl
     have hi:=(RB.mp k1).1;exact(List.getElem?_inj hi nd).mp (k1.trans k2.symm)
   . rw[RP]at e;cases z:tl[n]? with
     |none=>rw[z]at e;cases e
     |some w=>
      rw[z]at e;have e':Cell.tab w.1 w.2.1 w.2.2 false=c:=SS e;subst e';refine .inr ⟨w.1,by rw[RP,z];rfl,rfl,#[],(tabs w (Sg z)).1,trivial,.inl ⟨rfl,rfl⟩⟩
   . rintro d st' rfl α' G' H' v _ _ _ r;unfold Rep at r;subst r;exact q H'
 . exact absurd hc (zh nl e)
section
variable {K:PySem.W.Frag}{x qual p1 p2 p3 p4 p5:Str}{st:Stmt}{f:Addr}{fd:FuncData}
abbrev sy(x qual:Str)(st:Stmt)(kV doc pm:Value)(an:Option Addr)(cdv ct:Value):FuncData:=PySem.W.fnOf x qual (lK st) (iI st) (ai st) .none kV doc pm an cdv ct
def h_{α:Type}{n:Nat}{us:List α}(h:us.length=n+1):∃a r,us=a::r/\r.length=n:=by
 cases us with
 |nil=>cases h
 |cons a r=>exact⟨a,r,rfl,Nat.succ.inj h⟩
def uD{α:Type}{us:List α}(h:us.length=0):us=[]:=Tj.mp h
def Pz(F:o8 K x qual st f fd)(h:∀kV doc pm an cdv ct a,bindArgs (sy x qual st kV doc pm an cdv ct) ⟨[a],[]⟩=pure [(p1,a)]):Binds K fd [p1] []:=
 F.binds λ kV doc pm an cdv ct us hl=>by
  obtain⟨a,r1,rfl,h1⟩:=h_ hl;cases uD h1;exact h kV doc pm an cdv ct a
def Qb(F:o8 K x qual st f fd)(h:∀kV doc pm an cdv ct a b,bindArgs (sy x qual st kV doc pm an cdv ct) ⟨[a,b],[]⟩=pure [(p1,a),(p2,b)]):Binds K fd [p1,p2] []:=
 F.binds λ kV doc pm an cdv ct us hl=>by
  obtain⟨a,r1,rfl,h1⟩:=h_ hl;obtain⟨b,r2,rfl,h2⟩:=h_ h1;cases uD h2;exact h kV doc pm an cdv ct a b
def PQ(F:o8 K x qual st f fd)(h:∀kV doc pm an cdv ct a b c,bindArgs (sy x qual st kV doc pm an cdv ct) ⟨[a,b,c],[]⟩=pure [(p1,a),(p2,b),(p3,c)]):Binds K fd [p1,p2,p3] []:=
 F.binds λ kV doc pm an cdv ct us hl=>by
  obtain⟨a,r1,rfl,h1⟩:=h_ hl;obtain⟨b,r2,rfl,h2⟩:=h_ h1;obtain⟨c,r3,rfl,h3⟩:=h_ h2;cases uD h3;exact h kV doc pm an cdv ct a b c
def PV(F:o8 K x qual st f fd)(h:∀kV doc pm an cdv ct a b c d,bindArgs (sy x qual st kV doc pm an cdv ct) ⟨[a,b,c,d],[]⟩=pure [(p1,a),(p2,b),(p3,c),(p4,d)]):Binds K fd [p1,p2,p3,p4] []:=
 F.binds λ kV doc pm an cdv ct us hl=>by
  obtain⟨a,r1,rfl,h1⟩:=h_ hl;obtain⟨b,r2,rfl,h2⟩:=h_ h1;obtain⟨c,r3,rfl,h3⟩:=h_ h2;obtain⟨d,r4,rfl,h4⟩:=h_ h3;cases uD h4;exact h kV doc pm an cdv ct a b c d
end
section
variable {X:Cx}
end
def sv{A B:Type}{F:A->B->Prop}:∀ {xs zs:List A} {ys us:List B},Paired F xs ys->Paired F zs us->Paired F (xs++zs) (ys++us)
 |_,_,_,_,.nil,h=>h
 |_,_,_,_,.cons r t,h=> .cons r (sv t h)
section
variable {X:Cx}
def M3:V->List V->Hp->VK->Prop:=λ x vs H Q=>∃(l b:Addr) (xs ys:List V),x= .ref l/\vs=[.ref b]/\H l=some (.lst xs)/\Rd H b (.lst ys)/\xs.length+ys.length<=sizeLine/\Q .aB (upd H l (.lst (xs++ys)))
def LL:Qc X "list.extend" M3:=by
 intro pins s σ H x vs v us Q I rx rv h;obtain⟨l,b,xs,ys,rfl,rfl,hH,hb,hz,q⟩:=h;cases rx;obtain⟨u,rfl,ru⟩:=vals1 rv;cases ru;obtain⟨z,its,n,r,hl,e⟩:=I.MB hH;obtain⟨z2,its2,n2,r2,hl2,e2⟩:=Inv.wa I hb;have hsz:its.toArray.size+its2.toArray.size<=sizeLine:=by rw[RM,RM,<-hl,<-hl2];exact hz
 have M:=AutoSeq1.list_extend_list_list_0 l its.toArray n b its2.toArray n2 (extend_door hsz) (RH (Nat.le_add_right _ _) hsz) (Nat.le_succ_of_le hsz);refine Vl F.slot_list_extend ⟨_,e,rfl⟩ F.entry_list_extend (F.args_list_extend_2 _ _) M ⟨e,e2,?_⟩;refine⟨.aB,_,I.L_ (its':=its++its2) hH e (by rw[List.append_toArray]) (sv r r2) ?_,rfl,q⟩;rw[Sy];exact hz
def pZ:DM:=λ n ds st K=>match ds with
 | [.lst ys]=>(match st[n]? with|some (.lst xs)=>xs.length+ys.length<=sizeLine/\K .aB (st.set n (.lst (xs++ys)))|_=>False)
 |_=>False
def Gk:LiftM pZ M3:=by
 intro α G F H st K Q n a ds ws P S ea rs q k;unfold pZ at q;split at q
 . rename_i ys;split at q
   . rename_i xs e;obtain⟨h3,q⟩:=q;obtain⟨v,rfl,r1⟩:=ja rs rfl;unfold Rep at r1;obtain⟨b,us,rfl,nb,hb,r2⟩:=r1;obtain⟨a',ea',vs,g1,g2⟩:=S.i8 e;rw[ea]at ea';cases ea';have hl:=g2.length;have hl2:=r2.length;have hm:some a∈α:=Sg ea;refine⟨a,b,vs,us,rfl,rfl,P.get g1,fF P hb,by omega,?_⟩;refine k .aB _ q α (upd G a (.lst (vs++us))) _ .aB (Step.write hm) (P.write g1) ?_ (by unfold Rep;rfl);exact S.write ea ⟨vs++us,a6,(aT.mpr (sv (aT.mp g2) (aT.mp r2))).step (Step.write hm)⟩
   . exact q.elim
 . exact q.elim
def Ow{o e:Expr}{to te:DE}{apos cpos:Pos}(ho:JE X o to)(he:JE X e te)(hbase:attributeBase o "extend" X.env (eval o X.env)=eval o X.env:=by rfl)(hline:(apos.endLine==cpos.line)=true:=by rfl)(hs:notStar e=true:=by rfl):JE X (.Call (.Attribute o "extend" apos) [e] [] cpos) (rO pZ to (ae te ao)):=by
 unfold JE at*;refine Lh Gk PySem.F.slot_list_extend PySem.F.type_list_extend LL ho (uF he xo (cE hs)) hbase ?_ hline (cE hs) rfl;rw[cE hs];rfl
end
def Nh{σ:bQ}{st:af}{K:DK}{n:Nat}{xs:List D}{to:DE}{ta:DA}(ho:∀K',K' (.ref n) st->to σ st K')(e:st[n]?=some (.lst xs))(ha:ta σ st λ ds st2=>(∃ys,st2[n]?=some (.lst ys))/\pZ n ds st2 K):rO pZ to ta σ st K:=by
 unfold rO;refine ho _ ?_;simp only[e];exact ha
def Qw{st2:af}{K:DK}{n:Nat}{xs ys:List D}(e2:st2[n]?=some (.lst xs))(h:xs.length+ys.length<=sizeLine)(k:K .aB (st2.set n (.lst (xs++ys)))):(∃ys,st2[n]?=some (.lst ys))/\pZ n [.lst ys] st2 K:=by
 refine⟨⟨xs,e2⟩,?_⟩;unfold pZ;simp only[e2];exact⟨h,k⟩
section
variable {X:Cx}
def xi(X:Cx):Cx:={X with xe:=λ _ _=>False}
end
variable {st:af}{K:D->af->Prop}{i j:Int}
section
variable {X:Cx}{pos:Pos}
end
end L3
namespace L3
open PySem L2
structure ClsAt(K:PySem.W.Frag)(mg:Str->Option Value)(x:Str)(C:Addr):Prop where
 cl:om K C
 mg:mg x=some (.ref C)
 P8:PySem.W.makesIn K C=true
 kp:PySem.W.keepIn K (.ref C)=true
structure MethAt(K:PySem.W.Frag)(C:Addr)(m qual:Str)(st:Stmt)(ps:List Str)(f:Addr)(fd:FuncData):Prop where
 fn:o8 K m qual st f fd
 me:Meth K C m f
 bd:Binds K fd ps []
end L3
namespace Hd
open PySem PySem.W L2 L3
open PySem.Spec hiding items?
open PyProof.Rows hiding St
section
variable {K:Frag}{mg:Str->Option Value}{h:Heap}{x q:Str}{st:Stmt}{f c C:Addr}{pm:Value}{p1 p2 p3 p4 p5 p6:Str}
abbrev Ed(K:Frag)(x:Str)(st:Stmt)(f:Addr)(pm:Value)(c:Addr):Prop:=(nsIn K mainGlobals x,K.lookup f,codeIn K (.ref c) x,keepIn K (.ref f))=(some (some (.ref f)),some (fq st x x pm c),true,true)
abbrev Em(K:Frag)(C:Addr)(x q:Str)(st:Stmt)(f:Addr)(pm:Value)(c:Addr):Prop:=(findIn K (.ref C) x,isFn K (.ref f),K.lookup f,codeIn K (.ref c) q,keepIn K (.ref f))=(some (some (.ref f)),true,some (fq st x q pm c),true,true)
def Ed.fn(e:Ed K x st f pm c):o8 K x x st f (fd st x x pm c)/\nsIn K mainGlobals x=some (some (.ref f)):=by
 obtain⟨e1,e2,e3,e4⟩:_/\_/\_/\_:=by simpa only[Xd]using e
 exact⟨Gf (st:=st) e2 e3 e4,e1⟩
def Em.fn(e:Em K C x q st f pm c):o8 K x q st f (fd st x q pm c)/\Meth K C x f:=by
 obtain⟨e1,e2,e3,e4,e5⟩:_/\_/\_/\_/\_:=by simpa only[Xd]using e
 exact⟨Gf (st:=st) e3 e4 e5,e1,e2,e5⟩
def sE(X:K.In h)(G:h.Ns mainGlobals mg)(e:Ed K x st f pm c)(b:∀kV doc pm an cdv ct a,bindArgs (sy x x st kV doc pm an cdv ct) ⟨[a],[]⟩=pure [(p1,a)]):cD K mg x x st [p1] f (fd st x x pm c):=⟨e.fn.1,mg_of X G e.fn.2,Pz e.fn.1 b⟩
def p_(X:K.In h)(G:h.Ns mainGlobals mg)(e:Ed K x st f pm c)(b:∀kV doc pm an cdv ct a1 a2,bindArgs (sy x x st kV doc pm an cdv ct) ⟨[a1,a2],[]⟩=pure [(p1,a1),(p2,a2)]):cD K mg x x st [p1,p2] f (fd st x x pm c):=⟨e.fn.1,mg_of X G e.fn.2,Qb e.fn.1 b⟩
def Mw(X:K.In h)(G:h.Ns mainGlobals mg)(e:Ed K x st f pm c)(b:∀kV doc pm an cdv ct a1 a2 a3,bindArgs (sy x x st kV doc pm an cdv ct) ⟨[a1,a2,a3],[]⟩=pure [(p1,a1),(p2,a2),(p3,a3)]):cD K mg x x st [p1,p2,p3] f (fd st x x pm c):=⟨e.fn.1,mg_of X G e.fn.2,PQ e.fn.1 b⟩
def Q5(X:K.In h)(G:h.Ns mainGlobals mg)(e:Ed K x st f pm c)(b:∀kV doc pm an cdv ct a1 a2 a3 a4,bindArgs (sy x x st kV doc pm an cdv ct) ⟨[a1,a2,a3,a4],[]⟩=pure [(p1,a1),(p2,a2),(p3,a3),(p4,a4)]):cD K mg x x st [p1,p2,p3,p4] f (fd st x x pm c):=⟨e.fn.1,mg_of X G e.fn.2,PV e.fn.1 b⟩
def NT(e:Em K C x q st f pm c)(b:∀kV doc pm an cdv ct a,bindArgs (sy x q st kV doc pm an cdv ct) ⟨[a],[]⟩=pure [(p1,a)]):MethAt K C x q st [p1] f (fd st x q pm c):=⟨e.fn.1,e.fn.2,Pz e.fn.1 b⟩
def Li(e:Em K C x q st f pm c)(b:∀kV doc pm an cdv ct a1 a2,bindArgs (sy x q st kV doc pm an cdv ct) ⟨[a1,a2],[]⟩=pure [(p1,a1),(p2,a2)]):MethAt K C x q st [p1,p2] f (fd st x q pm c):=⟨e.fn.1,e.fn.2,Qb e.fn.1 b⟩
def Aw(e:Em K C x q st f pm c)(b:∀kV doc pm an cdv ct a1 a2 a3,bindArgs (sy x q st kV doc pm an cdv ct) ⟨[a1,a2,a3],[]⟩=pure [(p1,a1),(p2,a2),(p3,a3)]):MethAt K C x q st [p1,p2,p3] f (fd st x q pm c):=⟨e.fn.1,e.fn.2,PQ e.fn.1 b⟩
def QZ(e:Em K C x q st f pm c)(b:∀kV doc pm an cdv ct a1 a2 a3 a4,bindArgs (sy x q st kV doc pm an cdv ct) ⟨[a1,a2,a3,a4],[]⟩=pure [(p1,a1),(p2,a2),(p3,a3),(p4,a4)]):MethAt K C x q st [p1,p2,p3,p4] f (fd st x q pm c):=⟨e.fn.1,e.fn.2,PV e.fn.1 b⟩
def fc(e:(K.lookup f,codeIn K (.ref c) q)=(some (fq st x q pm c),true)):Mz K x q st f (fd st x q pm c) c:=by
 obtain⟨e1,e2⟩:_/\_:=by simpa only[Xd]using e
 exact⟨_,_,_,_,_,_,_,_,rfl,e1,e2⟩
def na{a:Str}(e:findIn K (.ref C) a=some none):d_ K C a:=e
end
end Hd
namespace L3
open PySem L2
open PySem.Spec hiding items?
open PyProof.Rows hiding St
section
variable {X:Cx}{pos:Pos}
end
end L3
namespace L3
open PySem L2
open PySem.Spec hiding items?
end L3
namespace L3
open PySem PySem.Spec L2
open PyProof.Rows hiding St
section
variable {X:Cx}{pos:Pos}
end
end L3
namespace L3
open PySem L2
open PySem.Spec hiding items?
open PyProof.Rows hiding St
section
variable {X:Cx}
end
section
variable {X:Cx}{pos:Pos}
end
section
variable {X:Cx}
end
namespace RF
end RF
section
variable {prog:Program}{w:World}{A:Around}{E:Value->Shared->Prop}{s:Shared}
end
section
variable {X:Cx}{tg:Expr}
end
section
variable {X:Cx}
end
end L3
namespace L3
open PySem L2
open PySem.Spec hiding items?
open PyProof.Rows hiding St
section
variable {X:Cx}
def CS:dy:=λ x y st K=>match x,y with
 | .aB,.lst xs=>(match m9 xs with|some _=>K (.bl false) st|none=>False)
 |_,_=>False
def uT:dy:=λ x y st K=>match x,y with
 | .int k,.lst xs=>(match m9 xs with|some ns=>K (.bl (!(ns.any (· ==k)))) st|none=>False)
 |_,_=>False
def BV:∀ns:List Int,Cb .aB (ns.map V.int)=false
 | []=>rfl
 |_::ns=>by
  have:=BV ns;unfold Cb at this⊢;rw[R0,UG,this];rfl
def Cv{k:Int}:∀ns:List Int,Cb (.int k) (ns.map V.int)=ns.any (· ==k)
 | []=>rfl
 |n::ns=>by
  have:=Cv (k:=k) ns;unfold Cb at this⊢;rw[R0,UG,UG,this];rfl
def tD:∀ns:List Int,(ns.map V.int).all oA=true
 | []=>rfl
 |_::ns=>by rw[R0,UE,tD ns];rfl
def O4:cf X (compareOp .In) (LR CS):=λ pins s σ H x y v u Q I rx ry ⟨α,d,e,st,K,G,F',P,r1,r2,S,q,kk⟩=>by
 unfold CS at q;split at q
 . rename_i xs;split at q
   . rename_i ns en;unfold Rep at r1;subst r1;unfold Rep at r2;obtain⟨a,vs,rfl,na,ha,ra⟩:=r2;have hw:=tj ra en;subst hw;refine E6 pins s σ H .aB (.ref a) v u Q I rx ry ⟨a,_,rfl,.inl (.inl (fF P ha)),rfl,tD ns,?_⟩;rw[Rx Sb,BV];exact kk.here P q S (by unfold Rep;rfl)
   . exact q.elim
 . exact q.elim
def Gp:cf X (compareOp .NotIn) (LR uT):=λ pins s σ H x y v u Q I rx ry ⟨α,d,e,st,K,G,F',P,r1,r2,S,q,kk⟩=>by
 unfold uT at q;split at q
 . rename_i k xs;split at q
   . rename_i ns en;unfold Rep at r1;subst r1;unfold Rep at r2;obtain⟨a,vs,rfl,na,ha,ra⟩:=r2;have hw:=tj ra en;subst hw;refine Bd pins s σ H (.int k) (.ref a) v u Q I rx ry ⟨a,_,rfl,.inl (.inl (fF P ha)),rfl,tD ns,?_⟩;rw[RC rfl,Cv];exact kk.here P q S (by unfold Rep;rfl)
   . exact q.elim
 . exact q.elim
@[irreducible] def A4:dy:=CS
def OP:cf X (compareOp .In) (LR A4):=by unfold A4;exact O4
@[irreducible] def qR:dy:=uT
def Hv:cf X (compareOp .NotIn) (LR qR):=by unfold qR;exact Gp
end
def MO{st:af}{K:DK}{xs:List D}{ns:List Int}(h:m9 xs=some ns)(q:K (.bl false) st):A4 .aB (.lst xs) st K:=by unfold A4 CS;simp only[h];exact q
def ED{st:af}{K:DK}{k:Int}{xs:List D}{ns:List Int}(h:m9 xs=some ns)(q:K (.bl (!(ns.any (· ==k)))) st):qR (.int k) (.lst xs) st K:=by unfold qR uT;simp only[h];exact q
end L3
namespace Mx
def S:Nat->(Nat->Int)->Int
 |0,_=>0
 |n+1,f=>S n f+f n
def aC{n:Nat}{f g:Nat->Int}(h:∀i,i<n->f i=g i):S n f=S n g:=by
 induction n with
 |zero=>rfl
 |succ n ih=>unfold S;rw[ih λ i hi=>h i (by omega),h n (by omega)]
def iF{n:Nat}{f:Nat->Int}(h:∀i,i<n->f i=0):S n f=0:=by
 induction n with
 |zero=>rfl
 |succ n ih=>unfold S;rw[ih λ i hi=>h i (by omega),h n (by omega)];rfl
def gJ(n:Nat)(f g:Nat->Int):S n (λ i=>f i+g i)=S n f+S n g:=by
 induction n with
 |zero=>rfl
 |succ n ih=>unfold S;rw[ih];dsimp only;omega
def dO(n:Nat)(c:Int)(f:Nat->Int):S n (λ i=>c*f i)=c*S n f:=by
 induction n with
 |zero=>unfold S;rw[RN]
 |succ n ih=>unfold S;rw[ih,Int.mul_add]
def pG(n:Nat)(c:Int)(f:Nat->Int):S n (λ i=>f i*c)=S n f*c:=by
 induction n with
 |zero=>unfold S;rw[TU]
 |succ n ih=>unfold S;rw[ih,Int.add_mul]
def wV(n:Nat)(f:Nat->Int):S n (λ i=> -f i)= -S n f:=by
 induction n with
 |zero=>rfl
 |succ n ih=>unfold S;rw[ih];dsimp only;omega
def nC(m n:Nat)(f:Nat->Nat->Int):S m (λ i=>S n λ j=>f i j)=S n λ j=>S m λ i=>f i j:=by
 induction m with
 |zero=>exact(iF (n:=n) (λ i _=>rfl)).symm
 |succ m ih=>
  have:S n (λ j=>S (m+1) λ i=>f i j)=S n λ j=>(S m λ i=>f i j)+f m j:=aC λ j _=>rfl;rw[this,gJ,<-ih];rfl
def my{n:Nat}{k:Nat}(hk:k<n){f:Nat->Int}(h:∀i,i<n->i≠k->f i=0):S n f=f k:=by
 induction n with
 |zero=>omega
 |succ n ih=>
  unfold S;by_cases e:k=n
  . subst e;rw[iF λ i hi=>h i (by omega) (by omega),Vh]
  . rw[ih (by omega) λ i hi hn=>h i (by omega) hn,h n (by omega) (by omega),TV]
def Fq(n:Nat)(f:Nat->Int):S (n+1) f=f 0+S n λ i=>f (i+1):=by
 induction n with
 |zero=>unfold S S;omega
 |succ n ih=>
  have:S (n+1+1) f=S (n+1) f+f (n+1):=rfl;rw[this,ih];have:S (n+1) (λ i=>f (i+1))=S n (λ i=>f (i+1))+f (n+1):=rfl;rw[this];omega
def dl(i j:Nat):Int:=if i=j then 1 else 0
def bP(i:Nat):dl i i=1:=RC rfl
def bK{i j:Nat}(h:i≠j):dl i j=0:=Rx h
def nP{n k:Nat}(hk:k<n)(f:Nat->Int):S n (λ i=>dl k i*f i)=f k:=by
 rw[my hk (λ i _ h=>by rw[bK (RK h),TU]),bP,UK]
def jf{n k:Nat}(hk:k<n)(f:Nat->Int):S n (λ i=>f i*dl i k)=f k:=by
 rw[my hk (λ i _ h=>by rw[bK h,RN]),bP,Tv]
abbrev Row:=List Int
abbrev Rows:=List (List Int)
def g(A:Rows)(i j:Nat):Int:=(A.getD i []).getD j 0
structure aP(m n:Nat)(A:Rows):Prop where
 len:A.length=m
 jH:∀r∈A,r.length=n
def aN{α:Type}{l:List α}{i:Nat}{d:α}(h:i<l.length):l.getD i d=l[i]:=by
 rw[RI,RJ h];rfl
def mT{α:Type}{l:List α}{i:Nat}{d:α}(h:l.length<=i):l.getD i d=d:=by
 rw[RI,Uc h];rfl
def KQ{a b:Row}{n:Nat}(ha:a.length=n)(hb:b.length=n)(h:∀j,j<n->a.getD j 0=b.getD j 0):a=b:=by
 refine VL (by omega) λ i h1 h2=>?_;have:=h i (by omega);rwa [aN h1,aN h2]at this
def aP.row{m n:Nat}{A:Rows}(h:aP m n A){i:Nat}(hi:i<m):(A.getD i []).length=n:=by
 have hl:=h.len;rw[aN (by omega)];exact h.jH _ (Tz _)
def aP.ext{m n:Nat}{A B:Rows}(ha:aP m n A)(hb:aP m n B)(h:∀i j,i<m->j<n->g A i j=g B i j):A=B:=by
 have h1:=ha.len;have h2:=hb.len;refine VL (by omega) λ i hi hj=>?_;have e1:=ha.row (i:=i) (by omega);have e2:=hb.row (i:=i) (by omega);have:=KQ e1 e2 λ j hj=>h i j (by omega) hj;rwa [aN hi,aN hj]at this
def gq(r:Row)(t:Int)(s:Row):Row:=List.zipWith (λ a b=>a+t*b) r s
def mN{r s:Row}{t:Int}(h:r.length=s.length):(gq r t s).length=r.length:=by unfold gq;simp[h]
def uE{r s:Row}{t:Int}(h:r.length=s.length)(j:Nat):(gq r t s).getD j 0=r.getD j 0+t*s.getD j 0:=by
 unfold gq;by_cases hj:j<r.length
 . rw[aN (by simp;omega),aN hj,aN (by omega)];simp
 . rw[mT (by simp;omega),mT (by omega),mT (by omega)];simp
def gZ:Row->Rows->Row->Row
 |w::ws,r::rs,acc=>gZ ws rs (gq acc w r)
 |_,_,acc=>acc
def yQ{n:Nat}:∀ {ws:Row} {rs:Rows} {acc:Row},acc.length=n->(∀r∈rs,r.length=n)->(gZ ws rs acc).length=n
 | [],_,acc,h,_=>by unfold gZ;exact h
 |_::_,[],acc,h,_=>by unfold gZ;exact h
 |w::ws,r::rs,acc,h,hr=>by
  unfold gZ;refine yQ ?_ λ r hr'=>hr r (RU _ hr');rw[mN (by rw[h,hr r R6]),h]
def z8{n:Nat}:∀ {ws:Row} {rs:Rows} {acc:Row} (j:Nat),acc.length=n->(∀r∈rs,r.length=n)->ws.length=rs.length->(gZ ws rs acc).getD j 0=acc.getD j 0+S rs.length λ k=>ws.getD k 0*g rs k j
 | [],[],acc,j,h,_,_=>by unfold gZ;show _=_+(0:Int);rw[TV]
 | [],_::_,acc,j,h,_,hl=>by cases hl
 |_::_,[],acc,j,h,_,hl=>by cases hl
 |w::ws,r::rs,acc,j,h,hr,hl=>by
  have e1:acc.length=r.length:=by rw[h,hr r R6]
  unfold gZ;rw[z8 j (by rw[mN e1,h]) (λ r hr'=>hr r (RU _ hr')) (by simpa using hl),uE e1,So,Fq]
  have:(λ k=>(w::ws).getD (k+1) 0*g (r::rs) (k+1) j)=λ k=>ws.getD k 0*g rs k j:=by
   funext k;unfold g;simp
  rw[this];unfold g;simp;omega
def mulM(A B:Rows)(n:Nat):Rows:=A.map λ w=>gZ w B (List.replicate n 0)
def fb(n j:Nat):(List.replicate n (0:Int)).getD j 0=0:=by
 by_cases h:j<n
 . rw[aN (by simpa using h)];simp
 . rw[mT (by simp;omega)]
def bT{m p n:Nat}{A B:Rows}(ha:aP m p A)(hb:aP p n B):aP m n (mulM A B n):=by
 refine⟨by unfold mulM;rw[Rz];exact ha.len,λ r hr=>?_⟩;unfold mulM at hr;obtain⟨w,_,rfl⟩:=Sl.mp hr;exact yQ (by simp) hb.jH
def map_getD{α:Type}{f:Row->List α}{A:Rows}{i:Nat}(h:i<A.length):(A.map f).getD i []=f (A.getD i []):=by
 rw[aN (by simpa using h),aN h];simp
def d5{m p n:Nat}{A B:Rows}(ha:aP m p A)(hb:aP p n B){i:Nat}(hi:i<m)(j:Nat):g (mulM A B n) i j=S p λ k=>g A i k*g B k j:=by
 have hl:=ha.len;show((mulM A B n).getD i []).getD j 0=_;unfold mulM;rw[map_getD (by omega),z8 (n:=n) j (by simp) hb.jH (by rw[ha.row hi,hb.len]),fb,Vh,hb.len];rfl
def cU{m p q n:Nat}{A B C:Rows}(ha:aP m p A)(hb:aP p q B)(hc:aP q n C):mulM (mulM A B q) C n=mulM A (mulM B C n) n:=by
 refine(bT (bT ha hb) hc).ext (bT ha (bT hb hc)) λ i j hi hj=>?_;rw[d5 (bT ha hb) hc hi,d5 ha (bT hb hc) hi];have e1:S q (λ k=>g (mulM A B q) i k*g C k j)=S q λ k=>S p λ l=>g A i l*g B l k*g C k j:=aC λ k _=>by rw[d5 ha hb hi,pG]
 have e2:S p (λ l=>g A i l*g (mulM B C n) l j)=S p λ l=>S q λ k=>g A i l*g B l k*g C k j:=aC λ l hl=>by
  rw[d5 hb hc hl,<-dO];exact aC λ k _=>by rw[Sw]
 rw[e1,e2,nC]
def j7(n i:Nat):Row:=(List.range n).map λ k=>dl k i
def units(n:Nat):Rows:=(List.range n).map λ i=>j7 n i
def range_getD{α:Type}{f:Nat->α}{n i:Nat}{d:α}(h:i<n):((List.range n).map f).getD i d=f i:=by
 rw[aN (by simpa using h)];simp
def b_(n:Nat):aP n n (units n):=⟨by simp[units],λ r hr=>by unfold units at hr;obtain⟨i,_,rfl⟩:=Sl.mp hr;simp[j7]⟩
def cQ{n i j:Nat}(hi:i<n)(hj:j<n):g (units n) i j=dl i j:=by
 unfold g units j7;rw[range_getD hi,range_getD hj];unfold dl;by_cases h:i=j
 . subst h;rfl
 . rw[Rx (RK h),Rx h]
def dJ{m n:Nat}{A:Rows}(ha:aP m n A):mulM (units m) A n=A:=
 (bT (b_ m) ha).ext ha λ i j hi hj=>by
   rw[d5 (b_ m) ha hi];have:S m (λ k=>g (units m) i k*g A k j)=S m λ k=>dl i k*g A k j:=aC λ k hk=>by rw[cQ hi hk]
   rw[this,nP hi]
def vt{m n:Nat}{A:Rows}(ha:aP m n A):mulM A (units n) n=A:=
 (bT ha (b_ n)).ext ha λ i j hi hj=>by
   rw[d5 ha (b_ n) hi];have:S n (λ k=>g A i k*g (units n) k j)=S n λ k=>g A i k*dl k j:=aC λ k hk=>by rw[cQ hk hj]
   rw[this,jf hj]
def rP(A:Rows)(j:Nat):Row:=A.map λ r=>r.getD j 0
def bq(A:Rows)(n:Nat):Rows:=(List.range n).map λ j=>rP A j
def cF{m n:Nat}{A:Rows}(ha:aP m n A):aP n m (bq A n):=⟨by simp[bq],λ r hr=>by
 unfold bq at hr;obtain⟨j,_,rfl⟩:=Sl.mp hr;unfold rP;rw[Rz,ha.len]⟩
def Kj{A:Rows}{i:Nat}(j:Nat)(h:i<A.length):(rP A j).getD i 0=g A i j:=by
 unfold rP g;rw[aN (by simpa using h),aN h];simp
def cG{m n:Nat}{A:Rows}(ha:aP m n A){i j:Nat}(hi:i<m)(hj:j<n):g (bq A n) j i=g A i j:=by
 show((bq A n).getD j []).getD i 0=_;unfold bq;rw[range_getD hj,Kj j (by rw[ha.len];exact hi)]
def xH{m p n:Nat}{A B:Rows}(ha:aP m p A)(hb:aP p n B):bq (mulM A B n) n=mulM (bq B n) (bq A p) m:=
 (cF (bT ha hb)).ext (bT (cF hb) (cF ha)) λ i j hi hj=>by
   rw[cG (bT ha hb) hj hi,d5 ha hb hj,d5 (cF hb) (cF ha) hi];exact aC λ k hk=>by rw[cG hb hk hi,cG ha hj hk,SF]
def MG:Row->Row->Int
 |a::as,b::bs=>a*b+MG as bs
 |_,_=>0
def oP(i j:Nat):dl i j=dl j i:=by
 unfold dl;by_cases h:i=j
 . rw[RC h,RC h.symm]
 . rw[Rx h,Rx (RK h)]
def sw(i j k:Nat):Nat:=if k=i then j else if k=j then i else k
def QA{n i j:Nat}(hi:i<n)(hj:j<n)(hij:i≠j)(f:Nat->Int):S n (λ k=>f (sw i j k))=S n f:=by
 have:S n (λ k=>f (sw i j k))=S n λ k=>f k+(f j-f i)*dl k i+(f i-f j)*dl k j:=aC λ k _=>by
  unfold sw;by_cases h1:k=i
  . subst h1;rw[RC rfl,bP,bK hij];omega
  . rw[Rx h1,bK h1];by_cases h2:k=j
    . subst h2;rw[RC rfl,bP];omega
    . rw[Rx h2,bK h2];omega
 rw[this,gJ,gJ,jf (f:=λ _=>f j-f i) hi,jf (f:=λ _=>f i-f j) hj];omega
def qz{A:Rows}{i:Nat}{r:Row}(hi:i<A.length)(a k:Nat):g (A.set i r) a k=if a=i then r.getD k 0 else g A a k:=by
 have e:(A.set i r).getD a []=if a=i then r else A.getD a []:=by
  rw[RI,RI];by_cases h:a=i
  . subst h;rw[RC rfl,RL hi];rfl
  . rw[Rx h,RD (RK h)]
 unfold g;rw[e];by_cases h:a=i
 . rw[RC h,RC h]
 . rw[Rx h,Rx h]
def Al{m n i:Nat}{A:Rows}{r:Row}(h:aP m n A)(hr:r.length=n):aP m n (A.set i r):=⟨by rw[RV];exact h.len,λ q hq=>by
 rcases SG hq with z|rfl
 . exact h.jH q z
 . exact hr⟩
abbrev Fn:=Nat->Nat->Int
def sk(j c:Nat):Nat:=if c<j then c else c+1
def sg(j:Nat):Int:=if j%2=0 then 1 else-1
def xM(j:Nat):sg (j+1)= -sg j:=by unfold sg;split<;>split<;>omega
def Cf:sg 0=1:=rfl
def l8{j c n:Nat}(h:c<n):sk j c<n+1:=by unfold sk;split<;>omega
def Pb{j k c:Nat}(h:k<j):sk j (sk k c)=sk k (sk (j-1) c):=by unfold sk;grind
def D:Nat->Fn->Int
 |0,_=>1
 |n+1,M=>S (n+1) λ j=>sg j*M 0 j*D n λ r c=>M (r+1) (sk j c)
def M_(M:Fn):D 0 M=1:=rfl
def eL(n:Nat)(M:Fn):D (n+1) M=S (n+1) λ j=>sg j*M 0 j*D n λ r c=>M (r+1) (sk j c):=rfl
def di:∀ {n:Nat} {M M':Fn},(∀r c,r<n->c<n->M r c=M' r c)->D n M=D n M'
 |0,_,_,_=>rfl
 |n+1,M,M',h=>by
  rw[eL,eL];refine aC λ j hj=>?_;have e:D n (λ r c=>M (r+1) (sk j c))=D n (λ r c=>M' (r+1) (sk j c)):=di λ r c hr hc=>h (r+1) (sk j c) (by omega) (l8 hc);rw[h 0 j (by omega) hj,e]
def IH:∀ {n:Nat} {M P Q:Fn} {a b:Int} {i:Nat},i<n->(∀c,c<n->M i c=a*P i c+b*Q i c)->(∀r c,r<n->c<n->r≠i->M r c=P r c/\M r c=Q r c)->D n M=a*D n P+b*D n Q
 |0,_,_,_,_,_,_,h,_,_=>by omega
 |n+1,M,P,Q,a,b,0,_,h0,h=>by
  rw[eL,eL,eL,<-dO,<-dO,<-gJ];refine aC λ j hj=>?_;have e1:D n (λ r c=>M (r+1) (sk j c))=D n (λ r c=>P (r+1) (sk j c)):=di λ r c hr hc=>(h (r+1) (sk j c) (by omega) (l8 hc) (by omega)).1;have e2:D n (λ r c=>M (r+1) (sk j c))=D n (λ r c=>Q (r+1) (sk j c)):=di λ r c hr hc=>(h (r+1) (sk j c) (by omega) (l8 hc) (by omega)).2;rw[h0 j hj,<-e1,<-e2];grind
 |n+1,M,P,Q,a,b,i+1,hi,h0,h=>by
  rw[eL,eL,eL,<-dO,<-dO,<-gJ];refine aC λ j hj=>?_;have e:=IH (n:=n) (M:=λ r c=>M (r+1) (sk j c)) (P:=λ r c=>P (r+1) (sk j c)) (Q:=λ r c=>Q (r+1) (sk j c)) (a:=a) (b:=b) (i:=i) (by omega) (λ c hc=>h0 (sk j c) (l8 hc)) λ r c hr hc hne=>h (r+1) (sk j c) (by omega) (l8 hc) (by omega);have p:=h 0 j (by omega) hj (by omega);rw[e,<-p.1,<-p.2];grind
def QE{n:Nat}{M:Fn}(h:∀c,c<n+2->M 0 c=M 1 c):D (n+2) M=0:=by
 let T:Nat->Nat->Int:=λ j k=>sg j*M 0 j*(sg k*M 1 (sk j k)*D n λ r c=>M (r+2) (sk j (sk k c)))
 have e1:∀j,j<n+2->sg j*M 0 j*D (n+1) (λ r c=>M (r+1) (sk j c))=S (n+1) λ k=>T j k:=λ j hj=>by
  rw[eL,<-dO]
 rw[eL,aC e1]
 have e2:∀j,j<n+2->S (n+1) (λ k=>T j k)=S (n+1) (λ k=>if k<j then T j k else 0)+S (n+1) (λ k=>if k<j then 0 else T j k):=λ j _=>by
  rw[<-gJ];refine aC λ k _=>?_;split<;>omega
 rw[aC e2,gJ]
 have e3:∀j k,j<n+2->k<n+1->¬k<j->T j k= -T (k+1) j:=λ j k hj hk hjk=>by
  have s1:sk (k+1) j=j:=by unfold sk;rw[RC (by omega)]
  have s2:sk j k=k+1:=by unfold sk;rw[Rx hjk]
  have s3:(λ r c=>M (r+2) (sk (k+1) (sk j c)))=λ r c=>M (r+2) (sk j (sk k c)):=by
   funext r c;rw[Pb (show j<k+1 by omega)];rfl
  show sg j*M 0 j*(sg k*M 1 (sk j k)*D n λ r c=>M (r+2) (sk j (sk k c)))= -(sg (k+1)*M 0 (k+1)*(sg j*M 1 (sk (k+1) j)*D n λ r c=>M (r+2) (sk (k+1) (sk j c))));rw[s1,s2,s3,xM,<-h j hj,<-h (k+1) (by omega)];grind
 have e4:S (n+2) (λ j=>S (n+1) λ k=>if k<j then 0 else T j k)= -S (n+2) (λ j=>S (n+1) λ k=>if k<j then T j k else 0):=by
  rw[nC,Fq (n+1) (λ j=>S (n+1) λ k=>if k<j then T j k else 0)];have z:S (n+1) (λ k=>if k<0 then T 0 k else 0)=0:=iF λ k _=>Rx (by omega);rw[z,Vh,<-wV];refine aC λ k hk=>?_;have:S (n+2) (λ j=>if k<j then 0 else T j k)=S (n+1) (λ j=>if k<j then 0 else T j k)+(if k<n+1 then 0 else T (n+1) k):=rfl;rw[this,RC hk,TV,<-wV];refine aC λ j hj=>?_;by_cases hkj:k<j
  . rw[RC hkj,Rx (by omega)];rfl
  . rw[Rx hkj,RC (by omega)];exact e3 j k (by omega) hk hkj
 rw[e4];omega
def Io:∀ {n:Nat} {M:Fn} {i:Nat},i+1<n->(∀c,c<n->M i c=M (i+1) c)->D n M=0
 |0,_,_,h,_=>by omega
 |1,_,_,h,_=>by omega
 |n+2,M,0,_,h=>QE h
 |n+2,M,i+1,hi,h=>by
  rw[eL];refine iF λ j hj=>?_;rw[Io (n:=n+1) (M:=λ r c=>M (r+1) (sk j c)) (i:=i) (by omega) λ c hc=>h (sk j c) (l8 hc),RN]
structure Alt(n:Nat)(φ:Fn->Int):Prop where
 cg:∀M M':Fn,(∀r c,r<n->c<n->M r c=M' r c)->φ M=φ M'
 mB:∀(i:Nat) (M P Q:Fn) (a b:Int),i<n->(∀c,c<n->M i c=a*P i c+b*Q i c)->(∀r c,r<n->c<n->r≠i->M r c=P r c/\M r c=Q r c)->φ M=a*φ P+b*φ Q
 alt:∀(i j:Nat) (M:Fn),i<n->j<n->i≠j->(∀c,c<n->M i c=M j c)->φ M=0
def upd(M:Fn)(i:Nat)(x:Nat->Int):Fn:=λ r c=>if r=i then x c else M r c
def cJ(M:Fn)(i:Nat)(x:Nat->Int)(c:Nat):upd M i x i c=x c:=RC rfl
def ay{M:Fn}{i r:Nat}{x:Nat->Int}(h:r≠i)(c:Nat):upd M i x r c=M r c:=Rx h
def PU{n i j:Nat}{φ:Fn->Int}(cg:∀M M':Fn,(∀r c,r<n->c<n->M r c=M' r c)->φ M=φ M')
 (mB:∀(i:Nat) (M P Q:Fn) (a b:Int),i<n->(∀c,c<n->M i c=a*P i c+b*Q i c)->(∀r c,r<n->c<n->r≠i->M r c=P r c/\M r c=Q r c)->φ M=a*φ P+b*φ Q)
 (hi:i<n) (hj:j<n) (hij:i≠j) (alt:∀N:Fn,(∀c,c<n->N i c=N j c)->φ N=0) (M:Fn):φ (λ r=>M (sw i j r))= -φ M:=by
 have l1:φ (upd (upd M i λ c=>M i c+M j c) j λ c=>M i c+M j c)=1*φ (upd (upd M i (M i)) j λ c=>M i c+M j c)+1*φ (upd (upd M i (M j)) j λ c=>M i c+M j c):=
  mB i _ _ _ 1 1 hi (λ c _=>by rw[ay hij,ay hij,ay hij,cJ,cJ,cJ];omega) λ r c _ _ hr=>by
   unfold upd;grind
 have l2:∀x:Nat->Int,φ (upd (upd M i x) j λ c=>M i c+M j c)=1*φ (upd (upd M i x) j (M i))+1*φ (upd (upd M i x) j (M j)):=λ x=>
  mB j _ _ _ 1 1 hj (λ c _=>by rw[cJ,cJ,cJ];omega) λ r c _ _ hr=>by
   rw[ay hr,ay hr,ay hr];exact⟨rfl,rfl⟩
 have z0:φ (upd (upd M i λ c=>M i c+M j c) j λ c=>M i c+M j c)=0:=alt _ λ c _=>by rw[ay hij,cJ,cJ]
 have z1:φ (upd (upd M i (M i)) j (M i))=0:=alt _ λ c _=>by rw[ay hij,cJ,cJ]
 have z2:φ (upd (upd M i (M j)) j (M j))=0:=alt _ λ c _=>by rw[ay hij,cJ,cJ]
 have s1:φ (upd (upd M i (M i)) j (M j))=φ M:=cg _ _ λ r c _ _=>by
  unfold upd;split
  . rename_i e;rw[e]
  . split
    . rename_i e;rw[e]
    . rfl
 have s2:φ (upd (upd M i (M j)) j (M i))=φ (λ r=>M (sw i j r)):=cg _ _ λ r c _ _=>by
  unfold upd sw;by_cases h1:r=j
  . rw[RC h1];by_cases h2:r=i
    . omega
    . rw[Rx h2,RC h1]
  . rw[Rx h1];by_cases h2:r=i
    . rw[RC h2,RC h2]
    . rw[Rx h2,Rx h2,Rx h1]
 have a1:=l2 (M i);have a2:=l2 (M j);rw[z1,s1]at a1;rw[z2,s2]at a2;rw[z0,a1,a2]at l1;omega
def Alt.swap{n i j:Nat}{φ:Fn->Int}(A:Alt n φ)(hi:i<n)(hj:j<n)(hij:i≠j)(M:Fn):φ (λ r=>M (sw i j r))= -φ M:=
 PU A.cg A.mB hi hj hij (λ N h=>A.alt i j N hi hj hij h) M
def wR{n:Nat}{φ:Fn->Int}(cg:∀M M':Fn,(∀r c,r<n->c<n->M r c=M' r c)->φ M=φ M')
 (mB:∀(i:Nat) (M P Q:Fn) (a b:Int),i<n->(∀c,c<n->M i c=a*P i c+b*Q i c)->(∀r c,r<n->c<n->r≠i->M r c=P r c/\M r c=Q r c)->φ M=a*φ P+b*φ Q)
 (adj:∀(i:Nat) (M:Fn),i+1<n->(∀c,c<n->M i c=M (i+1) c)->φ M=0):Alt n φ:=by
 have far:∀(d i:Nat) (M:Fn),i+d+1<n->(∀c,c<n->M i c=M (i+d+1) c)->φ M=0:=by
  intro d;induction d with
  |zero=>exact λ i M h1 h2=>adj i M h1 h2
  |succ d ih=>
   intro i M h1 h2;have hs:=PU cg mB (i:=i+d+1) (j:=i+d+1+1) (by omega) (by omega) (by omega) (λ N h=>adj (i+d+1) N (by omega) h) M
   have:φ (λ r=>M (sw (i+d+1) (i+d+1+1) r))=0:=ih i _ (by omega) λ c hc=>by
    have e1:sw (i+d+1) (i+d+1+1) i=i:=by unfold sw;rw[Rx (by omega),Rx (by omega)]
    have e2:sw (i+d+1) (i+d+1+1) (i+d+1)=i+d+1+1:=by unfold sw;rw[RC rfl]
    rw[e1,e2];exact h2 c hc
   omega
 refine⟨cg,mB,λ i j M hi hj hij h=>?_⟩;by_cases hlt:i<j
 . obtain⟨d,rfl⟩:∃d,j=i+d+1:=⟨j-i-1,by omega⟩
   exact far d i M hj h
 . obtain⟨d,rfl⟩:∃d,i=j+d+1:=⟨i-j-1,by omega⟩
   exact far d j M hi λ c hc=>(h c hc).symm
def uK(n:Nat):Alt n (D n):=wR (λ _ _ h=>di h) (λ _ _ _ _ _ _ hi h0 h=>IH hi h0 h) λ _ _ h1 h2=>Io h1 h2
def Alt.QB{n i:Nat}{φ:Fn->Int}(A:Alt n φ)(hi:i<n){M:Fn}(h:∀c,c<n->M i c=0):φ M=0:=by
 have:=A.mB i M M M 0 0 hi (λ c hc=>by rw[h c hc];rfl) λ _ _ _ _ _=>⟨rfl,rfl⟩
 omega
def Alt.EA{n i:Nat}{φ:Fn->Int}(A:Alt n φ)(hi:i<n)(M:Fn)(t:Int)(x:Nat->Int):φ (upd M i λ c=>t*x c)=t*φ (upd M i x):=by
 have:=A.mB i (upd M i λ c=>t*x c) (upd M i x) (upd M i x) t 0 hi (λ c hc=>by rw[cJ,cJ];omega) λ r c _ _ hr=>by rw[ay hr,ay hr];exact⟨rfl,rfl⟩
 omega
def Alt.F4{n i:Nat}{φ:Fn->Int}(A:Alt n φ)(hi:i<n)(M:Fn)(x y:Nat->Int):φ (upd M i λ c=>x c+y c)=φ (upd M i x)+φ (upd M i y):=by
 have:=A.mB i (upd M i λ c=>x c+y c) (upd M i x) (upd M i y) 1 1 hi (λ c hc=>by rw[cJ,cJ,cJ];omega) λ r c _ _ hr=>by rw[ay hr,ay hr,ay hr];exact⟨rfl,rfl⟩
 omega
def Alt.wU{n i:Nat}{φ:Fn->Int}(A:Alt n φ)(hi:i<n)(M:Fn)(a:Nat->Int)(x:Nat->Nat->Int):∀m,φ (upd M i λ c=>S m λ j=>a j*x j c)=S m λ j=>a j*φ (upd M i (x j))
 |0=>A.QB hi λ c _=>by rw[cJ];rfl
 |m+1=>by
  have:(λ c=>S (m+1) λ j=>a j*x j c)=λ c=>(S m λ j=>a j*x j c)+a m*x m c:=rfl;rw[this,A.F4 hi,A.wU hi M a x m,A.EA hi];rfl
def un(j c:Nat):Nat:=if c<j then c else c-1
def grow(j:Nat)(B:Fn):Fn:=λ r c=>if r=0 then dl j c else if c=j then 0 else B (r-1) (un j c)
def w_{n j c:Nat}(hj:j<n+1)(hc:c<n+1)(h:c≠j):un j c<n:=by unfold un;split<;>omega
def DF{j c:Nat}(h:c≠j):sk j (un j c)=c:=by unfold sk un;grind
def Alt.grow{n j:Nat}{φ:Fn->Int}(A:Alt (n+1) φ)(hj:j<n+1):Alt n λ B=>φ (Mx.grow j B) where
 cg:=λ M M' h=>A.cg _ _ λ r c hr hc=>by
  have:=h (r-1) (un j c);have:=w_ (c:=c) hj hc;unfold Mx.grow;grind
 mB:=λ i M P Q a b hi h0 h=>A.mB (i+1) _ _ _ a b (by omega) (λ c hc=>by
  have:=h0 (un j c);have:=w_ (c:=c) hj hc;have e:i+1-1=i:=by omega
  unfold Mx.grow;rw[e];grind) λ r c hr hc hne=>by
  have:=h (r-1) (un j c);have:=w_ (c:=c) hj hc;unfold Mx.grow;grind
 alt:=λ i k M hi hk hik h=>A.alt (i+1) (k+1) _ (by omega) (by omega) (by omega) λ c hc=>by
  have:=h (un j c);have:=w_ (c:=c) hj hc;have e:i+1-1=i:=by omega
  have e2:k+1-1=k:=by omega
  unfold Mx.grow;rw[e,e2];grind
def Alt.units{n:Nat}{φ:Fn->Int}(A:Alt (n+1) φ):∀j,j<n+1->φ (Mx.grow j dl)=sg j*φ dl
 |0,_=>by
  rw[Cf,UK];refine A.cg _ _ λ r c hr hc=>?_;unfold Mx.grow un dl;grind
 |j+1,hj=>by
  have ih:=A.units j (by omega);have s:=A.swap (i:=0) (j:=j+1) (by omega) hj (by omega) (Mx.grow j dl);rw[xM,Vb,<-ih,<-s];refine A.cg _ _ λ r c hr hc=>?_;unfold Mx.grow un dl sw;grind
def Alt.Qn{n i k:Nat}{φ:Fn->Int}(A:Alt n φ)(hi:i<n)(hk:k<n)(hik:i≠k)(M:Fn)(x:Nat->Int)(t:Int):φ (upd M i λ c=>x c+t*M k c)=φ (upd M i x):=by
 rw[A.F4 hi,A.EA hi M t (M k),A.alt i k (upd M i (M k)) hi hk hik λ c _=>by rw[cJ,ay (RK hik)],RN,TV]
def zr(j m:Nat)(M:Fn):Fn:=λ r c=>if r=0 then dl j c else if r<=m/\c=j then 0 else M r c
def Alt.zr{n j:Nat}{φ:Fn->Int}(A:Alt (n+1) φ)(M:Fn):∀m,m<=n->φ (Mx.zr j m M)=φ (upd M 0 (dl j))
 |0,_=>A.cg _ _ λ r c hr hc=>by unfold Mx.zr upd;grind
 |m+1,hm=>by
  rw[<-A.zr M m (by omega)];have e:=A.Qn (i:=m+1) (k:=0) (by omega) (by omega) (by omega) (Mx.zr j m M) (M (m+1)) (-M (m+1) j)
  have e1:φ (Mx.zr j (m+1) M)=φ (upd (Mx.zr j m M) (m+1) λ c=>M (m+1) c+ -M (m+1) j*Mx.zr j m M 0 c):=A.cg _ _ λ r c hr hc=>by
   unfold upd Mx.zr dl;by_cases h0:r=m+1
   . subst h0;by_cases h1:c=j
     . subst h1;simp;omega
     . have:¬j=c:=λ z=>h1 z.symm;simp[h1,this]
   . rw[Rx h0];grind
  have e2:φ (upd (Mx.zr j m M) (m+1) (M (m+1)))=φ (Mx.zr j m M):=A.cg _ _ λ r c hr hc=>by
   unfold upd Mx.zr;grind
  rw[e1,e,e2]
def DX:∀ {n:Nat} {φ:Fn->Int},Alt n φ->∀M,φ M=φ dl*D n M
 |0,φ,A,M=>by rw[M_,Tv];exact A.cg _ _ λ r c hr=>by omega
 |n+1,φ,A,M=>by
  have h1:φ M=S (n+1) λ j=>M 0 j*φ (upd M 0 (dl j)):=by
   rw[<-A.wU (by omega) M (M 0) dl (n+1)];refine A.cg _ _ λ r c hr hc=>?_;by_cases h0:r=0
   . subst h0;rw[cJ,jf hc]
   . rw[ay h0]
  have h2:∀j,j<n+1->φ (upd M 0 (dl j))=φ (Mx.grow j λ r c=>M (r+1) (sk j c)):=λ j hj=>by
   rw[<-A.zr M n (Rv _)];refine A.cg _ _ λ r c hr hc=>?_;unfold Mx.grow Mx.zr;by_cases h0:r=0
   . rw[RC h0,RC h0]
   . rw[Rx h0,Rx h0];by_cases h3:c=j
     . rw[RC ⟨by omega,h3⟩,RC h3]
     . rw[Rx (by omega),Rx h3];dsimp only;rw[DF h3,show r-1+1=r by omega]
  rw[h1,eL,<-dO];refine aC λ j hj=>?_;have h3:=DX (A.grow hj) λ r c=>M (r+1) (sk j c);have h4:=A.units j hj;have h5:φ (Mx.grow j λ r c=>M (r+1) (sk j c))=φ (Mx.grow j dl)*D n λ r c=>M (r+1) (sk j c):=h3;rw[h2 j hj,h5,h4];grind
def x3:∀n,D n dl=1
 |0=>rfl
 |n+1=>by
  rw[eL,my (k:=0) (by omega) λ j hj h0=>by rw[bK (RK h0),RN,TU]]
  have:D n (λ r c=>dl (r+1) (sk 0 c))=D n dl:=di λ r c _ _=>by
   unfold dl sk;grind
  rw[this,x3 n,bP];rfl
def IU(n:Nat)(A B:Fn):D n (λ r c=>S n λ k=>A r k*B k c)=D n A*D n B:=by
 have al:Alt n λ A=>D n (λ r c=>S n λ k=>A r k*B k c):=by
  refine⟨λ M M' h=>di λ r c hr hc=>aC λ k hk=>by rw[h r k hr hk],λ i M P Q a b hi h0 h=>(uK n).mB i _ _ _ a b hi (λ c hc=>?_) λ r c hr hc hne=>⟨aC λ k hk=>by rw[(h r k hr hk hne).1],aC λ k hk=>by rw[(h r k hr hk hne).2]⟩,λ i j M hi hj hij h=>(uK n).alt i j _ hi hj hij λ c hc=>aC λ k hk=>by rw[h k hk]⟩;show(S n λ k=>M i k*B k c)=a*(S n λ k=>P i k*B k c)+b*S n λ k=>Q i k*B k c;rw[<-dO,<-dO,<-gJ];refine aC λ k hk=>?_;rw[h0 k hk];grind
 have h:=DX al A;have e:D n (λ r c=>S n λ k=>dl r k*B k c)=D n B:=di λ r c hr hc=>nP hr λ k=>B k c;rw[h,e,SF]
def Fb:∀ {n:Nat} {M P Q:Fn} {a b:Int} {i:Nat},i<n->(∀r,r<n->M r i=a*P r i+b*Q r i)->(∀r c,r<n->c<n->c≠i->M r c=P r c/\M r c=Q r c)->D n M=a*D n P+b*D n Q
 |0,_,_,_,_,_,_,h,_,_=>by omega
 |n+1,M,P,Q,a,b,i,hi,h0,h=>by
  rw[eL,eL,eL,<-dO,<-dO,<-gJ];refine aC λ j hj=>?_;by_cases hij:j=i
  . subst hij;have hs:∀c,sk j c≠j:=λ c=>by unfold sk;split<;>omega
    have e1:D n (λ r c=>M (r+1) (sk j c))=D n (λ r c=>P (r+1) (sk j c)):=di λ r c hr hc=>(h (r+1) (sk j c) (by omega) (l8 hc) (hs c)).1;have e2:D n (λ r c=>M (r+1) (sk j c))=D n (λ r c=>Q (r+1) (sk j c)):=di λ r c hr hc=>(h (r+1) (sk j c) (by omega) (l8 hc) (hs c)).2;rw[h0 0 (by omega),<-e1,<-e2];grind
  . have p:=h 0 j (by omega) hj hij;have hu:sk j (un j i)=i:=DF (RK hij);have hs:∀c,c≠un j i->sk j c≠i:=λ c hc=>by unfold sk;unfold un at hc;grind
    have hlt:un j i<n:=w_ hj hi (RK hij)
    have e:=Fb (n:=n) (M:=λ r c=>M (r+1) (sk j c)) (P:=λ r c=>P (r+1) (sk j c)) (Q:=λ r c=>Q (r+1) (sk j c)) (a:=a) (b:=b) (i:=un j i) hlt (λ r hr=>by
     rw[hu];exact h0 (r+1) (by omega)) λ r c hr hc hne=>h (r+1) (sk j c) (by omega) (l8 hc) (hs c hne)
    rw[e,<-p.1,<-p.2];grind
def EK:∀ {n:Nat} {M:Fn} {i:Nat},i+1<n->(∀r,r<n->M r i=M r (i+1))->D n M=0
 |0,_,_,h,_=>by omega
 |n+1,M,i,hi,h=>by
  rw[eL]
  have key:∀j,j<n+1->j≠i->j≠i+1->D n (λ r c=>M (r+1) (sk j c))=0:=λ j hj h1 h2=>by
   refine EK (i:=un j i) (by unfold un;split<;>omega) λ r hr=>?_;have e1:sk j (un j i)=i:=DF (RK h1);have e2:sk j (un j i+1)=i+1:=by unfold sk un;grind
   rw[e1,e2];exact h (r+1) (by omega)
  have e:D n (λ r c=>M (r+1) (sk i c))=D n (λ r c=>M (r+1) (sk (i+1) c)):=di λ r c hr hc=>by
   by_cases hc2:c=i
   . subst hc2;have a1:sk c c=c+1:=by unfold sk;rw[Rx (by omega)]
     have a2:sk (c+1) c=c:=by unfold sk;rw[RC (by omega)]
     rw[a1,a2];exact(h (r+1) (by omega)).symm
   . have a1:sk i c=sk (i+1) c:=by unfold sk;grind
     rw[a1]
  have two:∀(m:Nat) (f:Nat->Int),i+1<m->(∀j,j<m->j≠i->j≠i+1->f j=0)->S m f=f i+f (i+1):=λ m=>by
   induction m with
   |zero=>intro f h;omega
   |succ m ih=>
    intro f hm hf;show S m f+f m=_;by_cases hmi:m=i+1
    . subst hmi;rw[my (k:=i) (by omega) λ j hj hne=>hf j (by omega) hne (by omega)]
    . rw[ih f (by omega) λ j hj h1 h2=>hf j (by omega) h1 h2,hf m (by omega) (by omega) hmi,TV]
  rw[two (n+1) _ hi λ j hj h1 h2=>by rw[key j hj h1 h2,RN],e,xM,h 0 (by omega)];grind
def tr(M:Fn):Fn:=λ r c=>M c r
def G7(n:Nat)(M:Fn):D n (tr M)=D n M:=by
 have al:Alt n λ A=>D n (tr A):=wR (λ M M' h=>di λ r c hr hc=>h c r hc hr)
  (λ i M P Q a b hi h0 h=>Fb hi (λ r hr=>h0 r hr) λ r c hr hc hne=>h c r hc hr hne)
  λ i M hi h=>EK hi λ r hr=>h r hr
 have h:=DX al M;have e:D n (tr dl)=D n dl:=di λ r c _ _=>oP c r;have h2:D n (tr M)=D n (tr dl)*D n M:=h;rw[h2,e,x3,UK]
def Pr:Nat->(Nat->Int)->Int
 |0,_=>1
 |n+1,f=>Pr n f*f n
def B_:∀(n:Nat) (f:Nat->Int),Pr (n+1) f=f 0*Pr n λ i=>f (i+1)
 |0,f=>by show 1*f 0=f 0*1;omega
 |n+1,f=>by
  have:Pr (n+1+1) f=Pr (n+1) f*f (n+1):=rfl;rw[this,B_ n f];have:Pr (n+1) (λ i=>f (i+1))=Pr n (λ i=>f (i+1))*f (n+1):=rfl;rw[this,Sw]
def wj:∀ {n:Nat} {M:Fn},(∀r c,r<n->c<n->r<c->M r c=0)->D n M=Pr n λ i=>M i i
 |0,_,_=>rfl
 |n+1,M,h=>by
  rw[eL,my (k:=0) (by omega) λ j hj h0=>by rw[h 0 j (by omega) hj (by omega),RN,TU],B_,Cf,UK];have s:∀c,sk 0 c=c+1:=λ c=>by unfold sk;rw[Rx (by omega)]
  have e:D n (λ r c=>M (r+1) (sk 0 c))=Pr n λ i=>M (i+1) (i+1):=by
   rw[wj λ r c hr hc hrc=>by rw[s];exact h (r+1) (c+1) (by omega) (by omega) (by omega)];simp only[s]
  rw[e]
def Nl{n:Nat}{M:Fn}(h:∀r c,r<n->c<n->c<r->M r c=0):D n M=Pr n λ i=>M i i:=by
 rw[<-G7 n M,wj (M:=tr M) λ r c hr hc hrc=>h c r hc hr hrc];rfl
def gx(R:Fn)(p:Nat)(x:Nat->Int)(j:Nat):Int:=D (p+1) λ r c=>if r<p then R r (if c<p then c else j)else x (if c<p then c else j)
def bt(R:Fn)(p:Nat)(x:Nat->Int)(k:Nat):Int:=D (p+1) (upd (λ c r=>if r<p then R r c else x c) p (dl k))
def cl(p j1 j2 c:Nat):Nat:=if c<p then c else if c=p then j1 else j2
def IS{n:Nat}{f:Nat->Int}{m:Nat}(h:∀i,i<n->(f i).natAbs<=m):(S n f).natAbs<=n*m:=by
 induction n with
 |zero=>simp[S]
 |succ n ih=>
  have h1:=ih λ i hi=>h i (by omega);have h2:=h n (by omega);show(S n f+f n).natAbs<=_;rw[WD];omega
def Ig{m:Nat}:∀ {n:Nat} {M:Fn},n<=8->(∀r c,r<n->c<n->(M r c).natAbs<=m)->(D n M).natAbs<=(8*m)^n
 |0,_,_,_=>by simp[D]
 |n+1,M,hn,h=>by
  rw[eL]
  have key:∀j,j<n+1->(sg j*M 0 j*D n λ r c=>M (r+1) (sk j c)).natAbs<=m*(8*m)^n:=λ j hj=>by
   have a:=Ig (n:=n) (M:=λ r c=>M (r+1) (sk j c)) (by omega) λ r c hr hc=>h (r+1) (sk j c) (by omega) (l8 hc);have b:=h 0 j (by omega) hj;have s:(sg j).natAbs=1:=by unfold sg;split<;>rfl
   rw[SM,SM,s,Vo];exact SN b a
  have e:=IS key;refine RH e ?_;rw[T7,Uj ((8*m)^n),Ss];have:(n+1)*(m*(8*m)^n)<=8*(m*(8*m)^n):=R9 _ hn;exact this
def lam(G:Fn)(i j:Nat):Int:=gx G j (G i) j
def QX(A:Rows):Fn:=λ i j=>MG (A.getD i []) (A.getD j [])
def Pd(G:Fn)(i:Nat):Row:=(List.range (i+1)).map λ j=>lam G i j
def NS(G:Fn)(n:Nat):Rows:=(List.range n).map (Pd G)
def RA(A:Rows)(N:Nat):Fn:=λ i j=>if j<N then QX A i j else(A.getD i []).getD (j-N) 0
def ev(A:Rows)(N i k c:Nat):Int:=gx (RA A N) k (RA A N i) (N+c)
def Ds(n:Nat)(a b:Int)(f g:Nat->Int):S n (λ c=>a*f c-b*g c)=a*S n f-b*S n g:=by
 induction n with
 |zero=>show(0:Int)=a*0-b*0;omega
 |succ n ih=>
  show S n (λ c=>a*f c-b*g c)+(a*f n-b*g n)=a*(S n f+f n)-b*(S n g+g n);rw[ih,Int.mul_add,Int.mul_add];omega
section
variable {A:Rows}{N w:Nat}
end
def Rr(M:Fn)(k j:Nat)(q:Int):Fn:=λ a b=>if a=k then M a b-q*M j b else M a b
def Ro(M:Fn)(k j:Nat)(q:Int):Fn:=λ a b=>if b=k then M a b-q*M a j else M a b
def tk(G:Fn)(k j:Nat)(q:Int):Fn:=Ro (Rr G k j q) k j q
section
variable {G:Fn}{t:Nat}(sym:∀i j,G i j=G j i)
include sym
end
section
variable {A:Rows}{N w:Nat}
def c6(hA:aP N w A){i:Nat}(hi:i<N):(A.getD i []).length=w:=hA.jH _ (by have:=hA.len;rw[aN (by omega)];exact Tz _)
end
def aV(A:Rows)(k:Nat)(q:Int)(j:Nat):Rows:=A.set k (gq (A.getD k []) (-q) (A.getD j []))
def bC(A:Rows)(k o:Nat):Rows:=(A.set k (A.getD o [])).set o (A.getD k [])
def mQ{A:Rows}{k i:Nat}{r:Row}(hk:k<A.length):(A.set k r).getD i []=if i=k then r else A.getD i []:=by
 rw[RI,List.getElem?_set];by_cases h:k=i
 . rw[RC h,RC (by omega),RC h.symm];rfl
 . rw[Rx h,Rx (RK h),RI]
def Fv{A:Rows}{k j:Nat}{q:Int}:(aV A k q j).length=A.length:=by unfold aV;rw[RV]
def mM{A:Rows}{N w k j:Nat}{q:Int}(hA:aP N w A)(hk:k<N)(hj:j<N):aP N w (aV A k q j):=by
 refine⟨Fv.trans hA.len,λ r hr=>?_⟩;unfold aV at hr;rcases SG hr with h|rfl
 . exact hA.jH r h
 . rw[mN (by rw[c6 hA hk,c6 hA hj]),c6 hA hk]
structure Tn(A0 A U C:Rows)(N w:Nat):Prop where
 isA:aP N w A
 gd:aP N N U
 gN:aP N N C
 ua:∀i c,i<N->c<w->g A i c=S N λ k=>g U i k*g A0 k c
 ub:∀i j,i<N->j<N->S N (λ k=>g U i k*g C j k)=dl i j
 bu:∀i j,i<N->j<N->S N (λ k=>g C k i*g U k j)=dl i j
def dH{A:Rows}{N w k j:Nat}{q:Int}(hA:aP N w A)(hk:k<N)(hj:j<N)(i c:Nat):g (aV A k q j) i c=if i=k then g A k c-q*g A j c else g A i c:=by
 unfold g aV;have hl:=hA.len;rw[mQ (by omega)];by_cases h:i=k
 . rw[RC h,RC h,uE (by rw[c6 hA hk,c6 hA hj]),Vb];omega
 . rw[Rx h,Rx h]
def wu(n:Nat)(a b:Int)(f h:Nat->Int):S n (λ c=>a*f c+b*h c)=a*S n f+b*S n h:=by
 rw[gJ,dO,dO]
def Tn.take{A0 A U C:Rows}{N w k j:Nat}{q:Int}(T:Tn A0 A U C N w)(hk:k<N)(hj:j<N)(hkj:j≠k):Tn A0 (aV A k q j) (aV U k q j) (aV C j (-q) k) N w where
 isA:=mM T.isA hk hj
 gd:=mM T.gd hk hj
 gN:=mM T.gN hj hk
 ua:=λ i c hi hc=>by
  rw[dH T.isA hk hj];have e:S N (λ m=>g (aV U k q j) i m*g A0 m c)=S N λ m=>(if i=k then g U k m-q*g U j m else g U i m)*g A0 m c:=aC λ m _=>by rw[dH T.gd hk hj]
  rw[e];by_cases h:i=k
  . simp only[RC h];rw[T.ua k c hk hc,T.ua j c hj hc];have e2:S N (λ m=>(g U k m-q*g U j m)*g A0 m c)=S N λ m=>1*(g U k m*g A0 m c)-q*(g U j m*g A0 m c):=aC λ m _=>by grind
    rw[e2,Ds];omega
  . simp only[Rx h];exact T.ua i c hi hc
 ub:=λ i l hi hl=>by
  have e:S N (λ m=>g (aV U k q j) i m*g (aV C j (-q) k) l m)=S N λ m=>(if i=k then g U k m-q*g U j m else g U i m)*(if l=j then g C j m- -q*g C k m else g C l m):=aC λ m _=>by rw[dH T.gd hk hj,dH T.gN hj hk]
  rw[e];have djk:dl j k=0:=bK hkj;by_cases h:i=k
  . by_cases h2:l=j
    . simp only[RC h,RC h2];have e2:S N (λ m=>(g U k m-q*g U j m)*(g C j m- -q*g C k m))=S N λ m=>1*(1*(g U k m*g C j m)+q*(g U k m*g C k m))-q*(1*(g U j m*g C j m)+q*(g U j m*g C k m)):=aC λ m _=>by grind
      rw[e2,Ds,wu,wu,T.ub k j hk hj,T.ub k k hk hk,T.ub j j hj hj,T.ub j k hj hk,h,h2,bP,bP,djk,oP k j,djk];omega
    . simp only[RC h,Rx h2];have e2:S N (λ m=>(g U k m-q*g U j m)*g C l m)=S N λ m=>1*(g U k m*g C l m)-q*(g U j m*g C l m):=aC λ m _=>by grind
      rw[e2,Ds,T.ub k l hk hl,T.ub j l hj hl,h,bK (RK h2)];omega
  . by_cases h2:l=j
    . simp only[Rx h,RC h2];have e2:S N (λ m=>g U i m*(g C j m- -q*g C k m))=S N λ m=>1*(g U i m*g C j m)+q*(g U i m*g C k m):=aC λ m _=>by grind
      rw[e2,wu,T.ub i j hi hj,T.ub i k hi hk,h2,bK h];omega
    . simp only[Rx h,Rx h2];exact T.ub i l hi hl
 bu:=λ i l hi hl=>by
  have e:S N (λ m=>g (aV C j (-q) k) m i*g (aV U k q j) m l)=S N λ m=>g C m i*g U m l+((q*(g C k i*g U j l))*dl m j+(-(q*(g C k i*g U j l)))*dl m k):=aC λ m _=>by
   rw[dH T.gd hk hj,dH T.gN hj hk];by_cases h1:m=j
   . have h2:m≠k:=by omega
     rw[RC h1,Rx h2,h1,bP,bK hkj];grind
   . rw[Rx h1,bK h1];by_cases h2:m=k
     . rw[RC h2,h2,bP];grind
     . rw[Rx h2,bK h2];grind
  rw[e,gJ,wu,T.bu i l hi hl]
  have e1:S N (λ c=>dl c j)=1:=by
   rw[my hj λ i _ h=>bK h,bP]
  have e2:S N (λ c=>dl c k)=1:=by
   rw[my hk λ i _ h=>bK h,bP]
  rw[e1,e2];omega
def zJ{A:Rows}{k o i:Nat}(hk:k<A.length)(ho:o<A.length):(bC A k o).getD i []=A.getD (sw k o i) []:=by
 unfold bC;rw[mQ (by rw[RV];exact ho),mQ hk];unfold sw;by_cases h1:i=k
 . rw[RC h1,RC h1];by_cases h2:i=o
   . rw[RC h2,<-h1,<-h2]
   . rw[Rx h2]
 . rw[Rx h1,Rx h1];by_cases h2:i=o
   . rw[RC h2,RC h2]
   . rw[Rx h2,Rx h2]
def mK{A:Rows}{N w k o:Nat}(hA:aP N w A)(hk:k<N)(ho:o<N):aP N w (bC A k o):=by
 refine⟨by unfold bC;rw[RV,RV];exact hA.len,λ r hr=>?_⟩;unfold bC at hr;rcases SG hr with h|rfl
 . rcases SG h with h|rfl
   . exact hA.jH r h
   . exact c6 hA ho
 . exact c6 hA hk
def jo{A:Rows}{N w k o:Nat}(hA:aP N w A)(hk:k<N)(ho:o<N)(i c:Nat):g (bC A k o) i c=g A (sw k o i) c:=by
 unfold g;rw[zJ (by have:=hA.len;omega) (by have:=hA.len;omega)]
def nI{k o N i:Nat}(hk:k<N)(ho:o<N)(hi:i<N):sw k o i<N:=by unfold sw;split<;>(try split)<;>assumption
def Ef(k o x:Nat):sw k o (sw k o x)=x:=by
 unfold sw;by_cases h1:x=k
 . subst h1;rw[RC rfl];by_cases h2:o=x
   . rw[RC h2];exact h2
   . rw[Rx h2,RC rfl]
 . rw[Rx h1];by_cases h2:x=o
   . subst h2;rw[RC rfl,RC rfl]
   . rw[Rx h2,Rx h1,Rx h2]
def OX{k o a b:Nat}:dl (sw k o a) (sw k o b)=dl a b:=by
 by_cases h:a=b
 . rw[h,bP,bP]
 . rw[bK h,bK λ z=>h (by rw[<-Ef k o a,<-Ef k o b,z])]
def Ku(k x:Nat):sw k k x=x:=by
 unfold sw;by_cases h:x=k
 . rw[RC h,h]
 . rw[Rx h,Rx h]
def Pn{n i j:Nat}(hi:i<n)(hj:j<n)(f:Nat->Int):S n (λ k=>f (sw i j k))=S n f:=by
 by_cases h:i=j
 . subst h;exact aC λ k _=>by rw[Ku]
 . exact QA hi hj h f
def Tn.Ij{A0 A U C:Rows}{N w k o:Nat}(T:Tn A0 A U C N w)(hk:k<N)(ho:o<N):Tn A0 (bC A k o) (bC U k o) (bC C k o) N w where
 isA:=mK T.isA hk ho
 gd:=mK T.gd hk ho
 gN:=mK T.gN hk ho
 ua:=λ i c hi hc=>by
  rw[jo T.isA hk ho,T.ua _ c (nI hk ho hi) hc];exact aC λ m _=>by rw[jo T.gd hk ho]
 ub:=λ i j hi hj=>by
  rw[<-OX (k:=k) (o:=o),<-T.ub _ _ (nI hk ho hi) (nI hk ho hj)];exact aC λ m _=>by rw[jo T.gd hk ho,jo T.gN hk ho]
 bu:=λ i j hi hj=>by
  rw[<-T.bu i j hi hj,<-Pn hk ho λ m=>g C m i*g U m j];exact aC λ m _=>by rw[jo T.gd hk ho,jo T.gN hk ho]
def gy(A:Rows)(k:Nat):Rows:=A.set k ((A.getD k []).map λ x=> -x)
def qv{A:Rows}{N w k:Nat}(hA:aP N w A)(hk:k<N):aP N w (gy A k):=by
 refine⟨by unfold gy;rw[RV];exact hA.len,λ r hr=>?_⟩;unfold gy at hr;rcases SG hr with h|rfl
 . exact hA.jH r h
 . rw[Rz];exact c6 hA hk
def GZ(r:Row)(c:Nat):(r.map λ x=> -x).getD c 0= -r.getD c 0:=by
 rw[RI,RI,RP];cases r[c]?<;>rfl
def ki{A:Rows}{N w k:Nat}(hA:aP N w A)(hk:k<N)(i c:Nat):g (gy A k) i c=if i=k then-g A k c else g A i c:=by
 unfold g gy;rw[mQ (by have:=hA.len;omega)];by_cases h:i=k
 . rw[RC h,RC h,GZ]
 . rw[Rx h,Rx h]
def Tn.neg{A0 A U C:Rows}{N w k:Nat}(T:Tn A0 A U C N w)(hk:k<N):Tn A0 (gy A k) (gy U k) (gy C k) N w where
 isA:=qv T.isA hk
 gd:=qv T.gd hk
 gN:=qv T.gN hk
 ua:=λ i c hi hc=>by
  rw[ki T.isA hk];by_cases h:i=k
  . rw[RC h,T.ua k c hk hc,<-wV];exact aC λ m _=>by rw[ki T.gd hk,RC h,Vb]
  . rw[Rx h,T.ua i c hi hc];exact aC λ m _=>by rw[ki T.gd hk,Rx h]
 ub:=λ i j hi hj=>by
  have e:S N (λ m=>g (gy U k) i m*g (gy C k) j m)=S N λ m=>(if i=k then-1 else 1)*(if j=k then-1 else 1)*(g U i m*g C j m):=aC λ m _=>by
   rw[ki T.gd hk,ki T.gN hk];by_cases h1:i=k<;>by_cases h2:j=k<;>simp only[h1,h2,UB,Uq]<;>grind
  rw[e,dO,T.ub i j hi hj];by_cases h1:i=k
  . by_cases h2:j=k
    . simp[h1,h2]
    . rw[bK (by omega)];simp
  . by_cases h2:j=k
    . rw[bK (by omega)];simp
    . simp[h1,h2]
 bu:=λ i j hi hj=>by
  rw[<-T.bu i j hi hj]
  exact aC λ m _=>by
   rw[ki T.gd hk,ki T.gN hk];by_cases h:m=k
   . subst h;rw[RC rfl,RC rfl];grind
   . rw[Rx h,Rx h]
structure kB(A:Rows)(N top p:Nat)(L:List Nat):Prop where
 mem:∀k,k∈L↔top<=k/\k<N/\g A k p≠0
 ord:L.Pairwise λ i j=>(g A i p).natAbs<(g A j p).natAbs\/((g A i p).natAbs=(g A j p).natAbs/\i<j)
structure B3 where
 A:Rows
 U:Rows
 C:Rows
def qn(x y:Int):Int:=(2*x+y).fdiv (2*y)
def sx(b:B3)(p k j:Nat):B3:=⟨aV b.A k (qn (g b.A k p) (g b.A j p)) j,aV b.U k (qn (g b.A k p) (g b.A j p)) j,aV b.C j (-(qn (g b.A k p) (g b.A j p))) k⟩
def Il(N top p:Nat)(b c:B3):Prop:=∃(L:List Nat) (k j:Nat),kB b.A N top p (L++[j,k])/\c=sx b p k j
inductive fJ(N top p:Nat):B3->B3->Prop
 |refl (b:B3):fJ N top p b b
 |head {b c d:B3} (h:Il N top p b c) (t:fJ N top p c d):fJ N top p b d
def fJ.tail{N top p:Nat}{b c d:B3}(h:fJ N top p b c)(t:Il N top p c d):fJ N top p b d:=by
 induction h with
 |refl b=>exact .head t (.refl _)
 |head x _ ih=>exact .head x (ih t)
def gO(X:Rows)(N top m:Nat):Prop:=∀i c,top<=i->i<N->(g X i c).natAbs<=m
def qw{x y:Int}(hy:y≠0):2*(x-qn x y*y).natAbs<=y.natAbs:=by
 unfold qn;have h1:=VQ (2*x+y) (2*y);have h2:(2*x+y).fmod (2*y)=2*x+y-2*y*(2*x+y).fdiv (2*y):=by omega
 generalize(2*x+y).fdiv (2*y)=q at*;have e:2*(x-q*y)=(2*x+y).fmod (2*y)-y:=by rw[h2];grind
 rcases Int.lt_or_gt_of_ne hy with h|h
 . have a0:=Int.neg_fmod_neg (2*x+y) (2*y);have a1:=S9 (-(2*x+y)) (show 0< -(2*y) by omega);have a2:=TH (-(2*x+y)) (show 0< -(2*y) by omega);omega
 . have a1:=S9 (2*x+y) (show 0<2*y by omega);have a2:=TH (2*x+y) (show 0<2*y by omega);omega
def lH{X:Rows}{k j i:Nat}{q:Int}(hk:k<X.length)(h:i≠k):(aV X k q j).getD i []=X.getD i []:=by
 unfold aV;rw[mQ hk,Rx h]
structure oi(A0:Rows)(N w:Nat)(b:B3)(top p:Nat)(ld:Nat->Nat)(e u:Nat):Prop where
 tn:Tn A0 b.A b.U b.C N w
 le:top<=N
 lo:gO b.A N top (2^e)/\gO b.U N top (2^e)/\gO b.C N top (2^e)
 hi:∀i c,i<top->(g b.A i c).natAbs<=2^u/\(g b.U i c).natAbs<=2^u/\(g b.C i c).natAbs<=2^u
 zs:∀i c,top<=i->i<N->c<p->g b.A i c=0
 lead:∀i,i<top->ld i<p/\0<g b.A i (ld i)/\∀c,c<ld i->g b.A i c=0
 mono:∀i j,i<j->j<top->ld i<ld j
 red:∀i j,i<j->j<top->0<=g b.A i (ld j)/\g b.A i (ld j)<g b.A j (ld j)
def setB(b:B3)(p top r:Nat):B3:=
 if g (bC b.A top r) top p<0 then⟨gy (bC b.A top r) top,gy (bC b.U top r) top,gy (bC b.C top r) top⟩else⟨bC b.A top r,bC b.U top r,bC b.C top r⟩
def vJ{X:Rows}{N w top r m:Nat}(hX:aP N w X)(ht:top<N)(hr:r<N)(hrt:top<=r)(h:gO X N top m):gO (bC X top r) N top m:=λ i c hi hN=>by
 rw[jo hX ht hr];refine h _ c ?_ (nI ht hr hN);unfold sw;split
 . exact hrt
 . split
   . exact Rv _
   . exact hi
def By{X:Rows}{N w top m:Nat}(hX:aP N w X)(ht:top<N)(h:gO X N top m):gO (gy X top) N top m:=λ i c hi hN=>by
 rw[ki hX ht];split
 . rw[Vi];exact h top c (Rv _) ht
 . exact h i c hi hN
def vz{X:Rows}{N w top r i:Nat}(hX:aP N w X)(ht:top<N)(hr:r<N)(hrt:top<=r)(hi:i<top):(bC X top r).getD i []=X.getD i []:=by
 rw[zJ (by have:=hX.len;omega) (by have:=hX.len;omega)];unfold sw;rw[Rx (by omega),Rx (by omega)]
def Bb{X:Rows}{N w top i:Nat}(hX:aP N w X)(ht:top<N)(hi:i<top):(gy X top).getD i []=X.getD i []:=by
 unfold gy;rw[mQ (by have:=hX.len;omega),Rx (by omega)]
structure vK(A0:Rows)(N w top p m:Nat)(b0 b:B3):Prop where
 tn:Tn A0 b.A b.U b.C N w
 up:∀i,i<top->b.A.getD i []=b0.A.getD i []/\b.U.getD i []=b0.U.getD i []/\b.C.getD i []=b0.C.getD i []
 lo:gO b.A N top m/\gO b.U N top m/\gO b.C N top m
 zs:∀i c,top<=i->i<N->c<p->g b.A i c=0
 tp:0<g b.A top p
 z1:∀i,top<i->i<N->g b.A i p=0
def jy(p top:Nat):Nat->B3->B3
 |0,b=>b
 |k+1,b=>
  let c:=jy p top k b
  ⟨aV c.A k ((g c.A k p).fdiv (g c.A top p)) top,aV c.U k ((g c.A k p).fdiv (g c.A top p)) top,aV c.C top (-((g c.A k p).fdiv (g c.A top p))) k⟩
def Ap(a:Int){b:Int}(hb:0<b):(a.fdiv b).natAbs<=a.natAbs:=by
 have h1:=VQ a b;have h2:=S9 a hb;have h3:=TH a hb;generalize a.fdiv b=q at*;rcases Int.lt_trichotomy q 0 with h|h|h
 . have h4:0<=(b-1)*(-q-1):=Int.mul_nonneg (by omega) (by omega);have e:(b-1)*(-q-1)= -(b*q)-b+q+1:=by grind
   omega
 . subst h;simp
 . have:q<=b*q:=by
    have:0<=(b-1)*q:=Int.mul_nonneg (by omega) (by omega);grind
   omega
def BA{a b c:Nat}(h1:a<=2^c)(h2:b<=2^c):a+b<=2^(c+1):=by rw[T7];omega
def Tn.start{A:Rows}{N w:Nat}(hA:aP N w A):Tn A A (units N) (units N) N w where
 isA:=hA
 gd:=b_ N
 gN:=b_ N
 ua:=λ i c hi hc=>by
  rw[<-nP hi λ k=>g A k c];exact aC λ m hm=>by rw[cQ hi hm]
 ub:=λ i j hi hj=>by
  rw[oP i j,<-nP hi λ k=>dl j k]
  . exact aC λ m hm=>by rw[cQ hi hm,cQ hj hm]
 bu:=λ i j hi hj=>by
  rw[<-jf hi λ k=>dl k j];exact aC λ m hm=>by rw[cQ hm hi,cQ hm hj,SF]
def oi.start{A:Rows}{N w e:Nat}(hA:aP N w A)(h:gO A N 0 (2^e)):oi A N w ⟨A,units N,units N⟩ 0 0 (λ _=>0) e 0:=by
 have hu:gO (units N) N 0 (2^e):=λ i c _ hi=>by
  by_cases hc:c<N
  . rw[cQ hi hc];unfold dl;split
    . exact UZ
    . exact RX _
  . unfold g;rw[mT (l:=(units N).getD i []) (by rw[c6 (b_ N) hi];omega)];exact RX _
 exact⟨Tn.start hA,RX _,⟨h,hu,hu⟩,λ _ _ h=>absurd h (Sh _),λ _ _ _ _ h=>absurd h (Sh _),λ _ h=>absurd h (Sh _),λ _ _ _ h=>absurd h (Sh _),λ _ _ _ h=>absurd h (Sh _)⟩
def SU(f:Nat->Nat):Nat->Nat
 |0=>0
 |n+1=>SU f n+f n
def zo{f f':Nat->Nat}:∀ {n:Nat},(∀i,i<n->f' i<=f i)->SU f' n<=SU f n
 |0,_=>Rv _
 |n+1,h=>UL (zo λ i hi=>h i (SD hi)) (h n (Sq n))
def II{f f':Nat->Nat}{k:Nat}(hlt:f' k<f k):∀ {n:Nat},k<n->(∀i,i<n->f' i<=f i)->SU f' n<SU f n
 |0,hk,_=>absurd hk (Sh _)
 |n+1,hk,h=>by
  by_cases e:k=n
  . subst e;exact Nat.add_lt_add_of_le_of_lt (zo λ i hi=>h i (SD hi)) hlt
  . exact Nat.add_lt_add_of_lt_of_le (II hlt (by omega) λ i hi=>h i (SD hi)) (h n (Sq n))
def mu(A:Rows)(N p:Nat):Nat:=SU (λ i=>(g A i p).natAbs) N
inductive Mu(N p:Nat):Nat->B3->Nat->B3->Prop
 |none {top:Nat} {b:B3} (h:kB b.A N top p []):Mu N p top b top b
 |one {top r:Nat} {b c:B3} (h:fJ N top p b c) (l:kB c.A N top p [r]):Mu N p top b (top+1) (jy p top top (setB c p top r))
inductive eQ(A:Rows)(N:Nat):Nat->Nat->B3->Prop
 |start:eQ A N 0 0 ⟨A,units N,units N⟩
 |next {p t t':Nat} {b b':B3} (h:eQ A N p t b) (c:Mu N p t b t' b'):eQ A N (p+1) t' b'
def Ez(N e0:Nat):Nat->Nat
 |0=>e0
 |t+1=>(N-t+1)*(Ez N e0 t+1)
def ax(X:Rows)(n w:Nat)(v:Nat->Int):Prop:=∃z:Nat->Int,∀c,c<w->v c=S n λ k=>z k*g X k c
def ax.row{X:Rows}{n w k:Nat}(hk:k<n):ax X n w (g X k):=⟨λ i=>dl k i,λ c _=>(nP hk λ i=>g X i c).symm⟩
def ax.sub{X:Rows}{n w:Nat}{u v:Nat->Int}(hu:ax X n w u)(hv:ax X n w v):ax X n w λ c=>u c-v c:=by
 obtain⟨y,hy⟩:=hu;obtain⟨z,hz⟩:=hv;refine⟨λ k=>y k-z k,λ c hc=>?_⟩;show u c-v c=S n λ k=>(y k-z k)*g X k c;rw[hy c hc,hz c hc,Ux,<-wV,<-gJ];exact aC λ k _=>by rw[Int.sub_mul,Ux]
def ax.trans{X Y:Rows}{m n w:Nat}{v:Nat->Int}(h:∀k,k<m->ax Y n w (g X k))(hv:ax X m w v):ax Y n w v:=by
 obtain⟨z,hz⟩:=hv
 have h':∀k,∃y:Nat->Int,k<m->∀c,c<w->g X k c=S n λ i=>y i*g Y i c:=λ k=>by
  by_cases hk:k<m
  . obtain⟨y,hy⟩:=h k hk;exact⟨y,λ _=>hy⟩
  . exact⟨λ _=>0,λ h=>absurd h hk⟩
 refine⟨λ i=>S m λ k=>z k*Classical.choose (h' k) i,λ c hc=>?_⟩;rw[hz c hc]
 have e1:S m (λ k=>z k*g X k c)=S m λ k=>S n λ i=>z k*Classical.choose (h' k) i*g Y i c:=aC λ k hk=>by
  rw[Tg (h' k) hk c hc,<-dO];exact aC λ i _=>(Sw _ _ _).symm
 rw[e1,nC];exact aC λ i _=>pG _ _ _
structure bU(X:Rows)(n w:Nat)(ld:Nat->Nat):Prop where
 lead:∀i,i<n->ld i<w/\0<g X i (ld i)/\∀c,c<ld i->g X i c=0
 mono:∀i j,i<j->j<n->ld i<ld j
def bU.inj{X:Rows}{n w:Nat}{ld:Nat->Nat}(s:bU X n w ld){i j:Nat}(hi:i<n)(hj:j<n)(h:ld i=ld j):i=j:=by
 rcases Vg i j with q|q|q
 . exact absurd h (Se (s.mono i j q hj))
 . exact q
 . exact absurd h.symm (Se (s.mono j i q hi))
def bU.lt{X:Rows}{n w:Nat}{ld:Nat->Nat}(s:bU X n w ld){i j:Nat}(hi:i<n)(hj:j<n)(h:ld i<ld j):i<j:=by
 rcases Vg i j with q|q|q
 . exact q
 . rw[q]at h;exact absurd h (TY _)
 . exact absurd (Uk h (s.mono j i q hi)) (TY _)
def bU.gone{X:Rows}{n w q:Nat}{ld:Nat->Nat}{v z:Nat->Int}(s:bU X n w ld)(hz:∀c,c<w->v c=S n λ k=>z k*g X k c)(h0:∀c,c<q->v c=0)(k:Nat):k<n->ld k<q->z k=0:=by
 induction k using Nat.strongRecOn with
 |ind k ih=>
  intro hk hq;obtain⟨h1,h2,h3⟩:=s.lead k hk;have e:=hz (ld k) h1;rw[h0 _ hq,my hk λ i hi ne=>?_]at e
  . exact(WQ.mp e.symm).resolve_right (Ul h2)
  . rcases We ne with l|l
    . rw[ih i l hi (Uk (s.mono i k l hk) hq),TU]
    . rw[(s.lead i hi).2.2 _ (s.mono k i l hi),RN]
def bU.at{X:Rows}{n w q:Nat}{ld:Nat->Nat}{v:Nat->Int}(s:bU X n w ld)(hv:ax X n w v)(hq:q<w)(h0:∀c,c<q->v c=0):(∃i,i<n/\ld i=q/\g X i q∣v q)\/v q=0:=by
 obtain⟨z,hz⟩:=hv
 have go:∀k,k<n->ld k≠q->z k*g X k q=0:=λ k hk ne=>by
  rcases We ne with l|l
  . rw[s.gone hz h0 k hk l,TU]
  . rw[(s.lead k hk).2.2 _ l,RN]
 by_cases h:∃i,i<n/\ld i=q
 . obtain⟨i,hi,e⟩:=h;refine .inl ⟨i,hi,e,z i,?_⟩;rw[hz q hq,my hi λ k hk ne=>go k hk λ z=>ne (s.inj hk hi (z.trans e.symm)),SF]
 . refine .inr ?_;rw[hz q hq];exact iF λ k hk=>go k hk λ e=>h ⟨k,hk,e⟩
def bU.sees{X Y:Rows}{n m w:Nat}{ld ld':Nat->Nat}(sX:bU X n w ld)(sY:bU Y m w ld')(h:∀k,k<n->ax Y m w (g X k))(i:Nat)(hi:i<n):∃j,j<m/\ld' j=ld i/\g Y j (ld i)∣g X i (ld i):=by
 obtain⟨h1,h2,h3⟩:=sX.lead i hi;rcases sY.at (h i hi) h1 h3 with q|q
 . exact q
 . rw[q]at h2;exact absurd h2 (by decide)
def bU.same{X Y:Rows}{n m w:Nat}{ld ld':Nat->Nat}(sX:bU X n w ld)(sY:bU Y m w ld')(h1:∀k,k<n->ax Y m w (g X k))(h2:∀k,k<m->ax X n w (g Y k))(i:Nat):i<n->i<m/\ld' i=ld i/\g Y i (ld i)=g X i (ld i):=by
 induction i using Nat.strongRecOn with
 |ind i ih=>
  intro hi;obtain⟨j,hj,ej,dj⟩:=sX.sees sY h1 i hi
  have e:j=i:=by
   rcases Vg j i with l|l|l
   . have:=(ih j l (Uk l hi)).2.1;exact absurd (this.symm.trans ej) (Se (sX.mono j i l hi))
   . exact l
   . obtain⟨k,hk,ek,_⟩:=sY.sees sX h2 i (Uk l hj);have lk:k<i:=sX.lt hk hi (by rw[ek,<-ej];exact sY.mono i j l hj);have:=(ih k lk hk).2.1;exact absurd (this.trans ek) (Se (sY.mono k i lk (Uk l hj)))
  subst e;refine⟨hj,ej,?_⟩;obtain⟨k,hk,ek,dk⟩:=sY.sees sX h2 j hj;have:=sX.inj hk hi (ek.trans ej);subst this;rw[ej]at dk;exact UO (by rw[<-ej];exact TX (sY.lead k hj).2.1) (TX (sX.lead k hi).2.1) dj dk
def bU.many{X Y:Rows}{n m w:Nat}{ld ld':Nat->Nat}(sX:bU X n w ld)(sY:bU Y m w ld')(h1:∀k,k<n->ax Y m w (g X k))(h2:∀k,k<m->ax X n w (g Y k)):n=m:=by
 refine UC ?_ ?_
 . cases n with
   |zero=>exact RX _
   |succ n=>exact(sX.same sY h1 h2 n (Sq n)).1
 . cases m with
   |zero=>exact RX _
   |succ m=>exact(sY.same sX h2 h1 m (Sq m)).1
def ug(X:Rows)(n:Nat)(ld:Nat->Nat):Prop:=∀i j,i<j->j<n->0<=g X i (ld j)/\g X i (ld j)<g X j (ld j)
def bU.only{X Y:Rows}{n m w:Nat}{ld ld':Nat->Nat}(sX:bU X n w ld)(sY:bU Y m w ld')(h1:∀k,k<n->ax Y m w (g X k))(h2:∀k,k<m->ax X n w (g Y k))(rX:ug X n ld)(rY:ug Y m ld'){i:Nat}(hi:i<n)(c:Nat):c<w->g X i c=g Y i c:=by
 induction c using Nat.strongRecOn with
 |ind c ih=>
  intro hc;obtain⟨im,il,ig⟩:=sX.same sY h1 h2 i hi;have hv:ax X n w λ c=>g X i c-g Y i c:=(ax.row hi).sub (h2 i im);rcases sX.at hv hc λ d hd=>by rw[ih d hd (Uk hd hc),Vj]with⟨j,hj,rfl,d⟩|q
  . obtain⟨jm,jl,jg⟩:=sX.same sY h1 h2 j hj;rcases Vg i j with l|l|l
    . have a:=rX i j l hj;have b:=rY i j l jm;rw[jl,jg]at b;exact W6 (Tf d (by omega))
    . subst l;exact ig.symm
    . rw[(sX.lead i hi).2.2 _ (sX.mono j i l hi),(sY.lead i im).2.2 _ (by rw[il];exact sX.mono j i l hi)]
  . exact W6 q
def vK.Iq{A0:Rows}{N w top p m:Nat}{b0 b:B3}(s:vK A0 N w top p m b0 b){i:Nat}(hi:i<top)(q:Nat):g b.A i q=g b0.A i q/\g b.U i q=g b0.U i q/\g b.C i q=g b0.C i q:=by
 obtain⟨a1,a2,a3⟩:=s.up i hi;unfold g;rw[a1,a2,a3];exact⟨rfl,rfl,rfl⟩
def Sm(b:B3)(N m:Nat):Prop:=∀i c,i<N->(g b.A i c).natAbs<=m/\(g b.U i c).natAbs<=m/\(g b.C i c).natAbs<=m
structure Dn(N p t z:Nat)(b:B3):Prop where
 ga:∀c,fJ N t p b c->Sm c N (2^z)
 lo:∀c r k,fJ N t p b c->kB c.A N t p [r]->k<=t->Sm (jy p t k (setB c p t r)) N (2^z)
def Pp{x y:Int}(hy:y≠0):(qn x y).natAbs<=x.natAbs+y.natAbs:=by
 have h:=qw (x:=x) hy;have h2:(qn x y*y).natAbs=(qn x y).natAbs*y.natAbs:=SM _ _;have h3:(qn x y).natAbs<=(qn x y).natAbs*y.natAbs:=S7 _ (Int.natAbs_pos.mpr hy);generalize qn x y*y=t at h h2;omega
def nl(A:Rows)(N t p:Nat):Nat:=SU (λ i=>if t<=i/\g A i p≠0 then 1 else 0) N
def CW{n:Nat}{f:Nat->Int}:∀ {N:Nat},n<=N->(∀i,n<=i->i<N->f i=0)->S N f=S n f
 |0,h,_=>by rw[Nat.le_zero.mp h]
 |N+1,h,z=>by
  by_cases e:n=N+1
  . rw[e]
  . have hn:n<=N:=by omega
    show S N f+f N=_;rw[z N hn (Sq N),TV];exact CW hn λ i h1 h2=>z i h1 (SD h2)
def oi.rq{A:Rows}{N w top e u:Nat}{c:B3}{ld:Nat->Nat}(s:oi A N w c top w ld e u):bU c.A top w ld/\ug c.A top ld:=⟨⟨s.lead,s.mono⟩,s.red⟩
def oi.in{A:Rows}{N w top e u:Nat}{c:B3}{ld:Nat->Nat}(s:oi A N w c top w ld e u)(k:Nat)(hk:k<top):ax A N w (g c.A k):=
 ⟨g c.U k,λ q hq=>s.tn.ua k q (RQ hk s.le) hq⟩
def oi.out{A:Rows}{N w top e u:Nat}{c:B3}{ld:Nat->Nat}(s:oi A N w c top w ld e u)(k:Nat)(hk:k<N):ax c.A top w (g A k):=by
 refine⟨λ i=>g c.C i k,λ q hq=>?_⟩
 have e1:S N (λ i=>g c.C i k*g c.A i q)=g A k q:=by
  have:S N (λ i=>g c.C i k*g c.A i q)=S N λ i=>S N λ j=>g c.C i k*g c.U i j*g A j q:=aC λ i hi=>by
   rw[s.tn.ua i q hi hq,<-dO];exact aC λ j _=>(Sw _ _ _).symm
  rw[this,nC]
  have e2:S N (λ j=>S N λ i=>g c.C i k*g c.U i j*g A j q)=S N λ j=>dl k j*g A j q:=aC λ j hj=>by
   rw[pG,s.tn.bu k j hk hj]
  rw[e2,nP hk λ j=>g A j q]
 rw[<-e1];exact CW s.le λ i h1 h2=>by rw[s.zs i q h1 h2 hq,RN]
def KD{X:Rows}{n i q:Nat}(h:i<n):g (X.take n) i q=g X i q:=by
 unfold g;rw[RI (l:=X.take n),RI (l:=X),Vu h]
def HV{X:Rows}{N w n:Nat}(hX:aP N w X)(h:n<=N):aP n w (X.take n):=
 ⟨by rw[TK,hX.len];omega,λ r hr=>hX.jH r (List.mem_of_mem_take hr)⟩
def oi.EC{A F:Rows}{N w n top e u:Nat}{c:B3}{ld ld':Nat->Nat}(s:oi A N w c top w ld e u)(hF:aP n w F)(sF:bU F n w ld')(rF:ug F n ld')(h1:∀k,k<N->ax F n w (g A k))(h2:∀k,k<n->ax A N w (g F k)):c.A.take top=F:=by
 have l1:∀k,k<top->ax F n w (g c.A k):=λ k hk=>ax.trans h1 (s.in k hk);have l2:∀k,k<n->ax c.A top w (g F k):=λ k hk=>ax.trans s.out (h2 k hk);have e:=s.rq.1.many sF l1 l2;subst e;refine(HV s.tn.isA s.le).ext hF λ i q hi hq=>?_;rw[KD hi];exact s.rq.1.only sF l1 l2 s.rq.2 rF hi q hq
def ax.vL{X:Rows}{n w:Nat}{u v:Nat->Int}(x:Int)(hu:ax X n w u)(hv:ax X n w v):ax X n w λ c=>u c+x*v c:=by
 obtain⟨y,hy⟩:=hu;obtain⟨z,hz⟩:=hv;refine⟨λ k=>y k+x*z k,λ c hc=>?_⟩;show u c+x*v c=S n λ k=>(y k+x*z k)*g X k c;rw[hy c hc,hz c hc,<-dO,<-gJ];exact aC λ k _=>by rw[Int.add_mul,Sw]
def ax.eq{X:Rows}{n w:Nat}{u v:Nat->Int}(hu:ax X n w u)(h:∀c,c<w->v c=u c):ax X n w v:=by
 obtain⟨y,hy⟩:=hu;exact⟨y,λ c hc=>(h c hc).trans (hy c hc)⟩
structure cR(X:Rows)(n:Nat)(Y:Rows)(m w:Nat):Prop where
 to:∀k,k<n->ax Y m w (g X k)
 of:∀k,k<m->ax X n w (g Y k)
def cR.refl(X:Rows)(n w:Nat):cR X n X n w:=⟨λ _ h=>ax.row h,λ _ h=>ax.row h⟩
def cR.symm{X Y:Rows}{n m w:Nat}(h:cR X n Y m w):cR Y m X n w:=⟨h.of,h.to⟩
def cR.trans{X Y Z:Rows}{n m l w:Nat}(h:cR X n Y m w)(h':cR Y m Z l w):cR X n Z l w:=
 ⟨λ k hk=>ax.trans h'.to (h.to k hk),λ k hk=>ax.trans h.of (h'.of k hk)⟩
def cR.add{X Y:Rows}{n w k o:Nat}{x:Int}(hk:k<n)(ho:o<n)(hko:k≠o)(e:∀q,q<w->g Y k q=g X k q+x*g X o q)(h:∀i q,i<n->i≠k->q<w->g Y i q=g X i q):cR X n Y n w:=by
 refine⟨λ i hi=>?_,λ i hi=>?_⟩
 . by_cases hik:i=k
   . subst hik;refine((ax.row hk).vL (-x) (ax.row ho)).eq λ q hq=>?_;rw[e q hq,h o q ho (RK hko) hq,Vb];omega
   . exact(ax.row hi).eq λ q hq=>(h i q hi hik hq).symm
 . by_cases hik:i=k
   . subst hik;exact((ax.row hk).vL x (ax.row ho)).eq e
   . exact(ax.row hi).eq λ q hq=>h i q hi hik hq
def cR.perm{X Y:Rows}{n w:Nat}{f:Nat->Nat}(hf:∀i,i<n->f i<n)(hff:∀i,f (f i)=i)(e:∀i q,i<n->q<w->g Y i q=g X (f i) q):cR X n Y n w:=
 ⟨λ i hi=>(ax.row (hf i hi)).eq λ q hq=>by rw[e (f i) q (hf i hi) hq,hff],λ i hi=>(ax.row (hf i hi)).eq λ q hq=>e i q hi hq⟩
def cR.neg{X Y:Rows}{n w k:Nat}(hk:k<n)(e:∀q,q<w->g Y k q= -g X k q)(h:∀i q,i<n->i≠k->q<w->g Y i q=g X i q):cR X n Y n w:=by
 have ng:∀ {Z:Rows} {u:Nat->Int},ax Z n w u->ax Z n w λ q=> -u q:=λ{Z u} hu=>(hu.vL (-2) hu).eq λ q _=>by omega
 refine⟨λ i hi=>?_,λ i hi=>?_⟩
 . by_cases hik:i=k
   . subst hik;exact(ng (ax.row hk)).eq λ q hq=>by rw[e q hq,Int.neg_neg]
   . exact(ax.row hi).eq λ q hq=>(h i q hi hik hq).symm
 . by_cases hik:i=k
   . subst hik;exact(ng (ax.row hk)).eq e
   . exact(ax.row hi).eq λ q hq=>h i q hi hik hq
def ax.zero{X:Rows}{n w:Nat}{v:Nat->Int}(h:∀c,c<w->v c=0):ax X n w v:=
 ⟨λ _=>0,λ c hc=>by rw[h c hc,iF λ k _=>TU _]⟩
def oi.IJ{A:Rows}{N w top e u:Nat}{c:B3}{ld:Nat->Nat}(s:oi A N w c top w ld e u):cR A N c.A top w:=⟨s.out,s.in⟩
structure lJ(A:Rows)(N w M:Nat)(X:Rows)(m:Nat):Prop where
 is:aP m w X
 lo:1<=m
 hi:m<=8
 bd:∀r∈X,∀x∈r,x.natAbs<=M
 same:cR A N X m w
def lJ.more{A X:Rows}{N w M M' m:Nat}(h:lJ A N w M X m)(l:M<=M'):lJ A N w M' X m:=⟨h.is,h.lo,h.hi,λ r hr x hx=>RH (h.bd r hr x hx) l,h.same⟩
def lJ.mem{A X:Rows}{N w M m k:Nat}(h:lJ A N w M X m)(hk:k<m):X.getD k []∈X:=by
 rw[aN (by rw[h.is.len];exact hk)];exact Tz _
def Gs{M:Nat}{r s:Row}{c:Int}(hr:∀x∈r,x.natAbs<=M)(hs:∀x∈s,x.natAbs<=M)(hc:c.natAbs<=7):∀x∈gq r c s,x.natAbs<=M*8:=λ x hx=>by
 unfold gq at hx;obtain⟨k,hk,e⟩:=SJ.mp hx;rw[List.getElem_zipWith]at e;rw[List.length_zipWith]at hk;have h1:=hr _ (Tz (RQ hk (Nat.min_le_left _ _)));have h2:=hs _ (Tz (RQ hk (WC _ _)));rw[<-e];refine RH (Ws _ _) ?_;rw[SM];have:=SN hc h2;omega
def lJ.put{A X:Rows}{N w M M' m k:Nat}{r:Row}(h:lJ A N w M X m)(l:M<=M')(hr:r.length=w)(hb:∀x∈r,x.natAbs<=M')(s:cR X m (X.set k r) m w):lJ A N w M' (X.set k r) m:=
 ⟨Al h.is hr,h.lo,h.hi,λ q hq x hx=>(SG hq).elim (λ z=>RH (h.bd q z x hx) l) (λ z=>hb x (z▸hx)),h.same.trans s⟩
def lJ.add{A X:Rows}{N w M m k o:Nat}{c:Int}(h:lJ A N w M X m)(hk:k<m)(ho:o<m)(hko:k≠o)(hc:c.natAbs<=7):lJ A N w (M*8) (X.set k (gq (X.getD k []) c (X.getD o []))) m:=by
 have lX:k<X.length:=by rw[h.is.len];exact hk
 have e:(X.getD k []).length=(X.getD o []).length:=(h.is.row hk).trans (h.is.row ho).symm;refine h.put (S7 _ (by decide)) (by rw[mN e];exact h.is.row hk) (Gs (h.bd _ (h.mem hk)) (h.bd _ (h.mem ho)) hc) (cR.add (x:=c) hk ho hko (λ q _=>?_) λ i q _ hi _=>?_)
 . rw[qz lX,RC rfl,uE e];rfl
 . rw[qz lX,Rx hi]
def lJ.neg{A X:Rows}{N w M m k:Nat}(h:lJ A N w M X m)(hk:k<m):lJ A N w M (X.set k ((X.getD k []).map λ x=> -x)) m:=by
 have lX:k<X.length:=by rw[h.is.len];exact hk
 refine h.put (Rv _) (by rw[Rz];exact h.is.row hk) (λ x hx=>?_) (cR.neg hk (λ q _=>?_) λ i q _ hi _=>?_)
 . obtain⟨y,hy,rfl⟩:=Sl.mp hx;rw[Vi];exact h.bd _ (h.mem hk) y hy
 . rw[qz lX,RC rfl];unfold g;generalize X.getD k []=r;rw[RI,RP,RI];cases r[q]?<;>rfl
 . rw[qz lX,Rx hi]
def lJ.swap{A X:Rows}{N w M m k o:Nat}(h:lJ A N w M X m)(hk:k<m)(ho:o<m):lJ A N w M ((X.set k (X.getD o [])).set o (X.getD k [])) m:=by
 have lX:k<X.length:=by rw[h.is.len];exact hk
 have lo:o<(X.set k (X.getD o [])).length:=by rw[RV,h.is.len];exact ho
 refine⟨Al (Al h.is (h.is.row ho)) (h.is.row hk),h.lo,h.hi,λ q hq x hx=>?_,h.same.trans (cR.perm (f:=λ i=>if i=o then k else if i=k then o else i) (λ i hi=>?_) (λ i=>?_) λ i q _ _=>?_)⟩
 . rcases SG hq with z|z
   . rcases SG z with z|z
     . exact h.bd q z x hx
     . exact h.bd _ (h.mem ho) x (z▸hx)
   . exact h.bd _ (h.mem hk) x (z▸hx)
 . show(if i=o then k else if i=k then o else i)<m;split
   . exact hk
   . split
     . exact ho
     . exact hi
 . show(if(if i=o then k else if i=k then o else i)=o then k else if(if i=o then k else if i=k then o else i)=k then o else(if i=o then k else if i=k then o else i))=i;by_cases h1:i=o
   . rw[RC h1,RC rfl];split
     . rename_i z;rw[z,h1]
     . exact h1.symm
   . rw[Rx h1];by_cases h2:i=k
     . rw[RC h2,RC rfl];exact h2.symm
     . rw[Rx h2,Rx h1,Rx h2]
 . show _=g X (if i=o then k else if i=k then o else i) q;rw[qz lo,qz lX];split
   . rfl
   . split<;>rfl
def uL{X:Rows}{r:Row}{k:Nat}(hk:k<=X.length)(i:Nat):(X.take k++r::X.drop k).getD i []=if i<k then X.getD i []else if i=k then r else X.getD (i-1) []:=by
 have lt:(X.take k).length=k:=by rw[TK];omega
 rw[RI,RI,RI];by_cases h:i<k
 . rw[RC h,RG (by rw[lt];exact h),Vu h]
 . rw[Rx h,RY (by rw[lt];omega),lt];by_cases h2:i=k
   . rw[RC h2,h2,Tc];rfl
   . rw[Rx h2];have:i-k=(i-1-k)+1:=by omega
     rw[this,VB,List.getElem?_drop];congr 2;omega
def pick{t N:Nat}{U B:Fn}(h:∀k l,k<t->l<t->S N (λ i=>U k i*B i l)=dl k l):∃I:Nat->Nat,(∀k,k<t->I k<N)/\D t (λ k l=>B (I k) l)≠0:=by
 apply UJ;intro no
 have go:∀s,s<=t->∀I:Nat->Nat,(∀k,k<t->s<=k->I k<N)->D t (λ k l=>if k<s then dl k l else B (I k) l)=0:=by
  intro s;induction s with
  |zero=>
   intro _ I hI;exact UJ λ z=>no ⟨I,λ k hk=>hI k hk (RX _),z⟩
  |succ s ih=>
   intro hs I hI
   have e:D t (λ k l=>if k<s+1 then dl k l else B (I k) l)=D t (upd (λ k l=>if k<s then dl k l else B (I k) l) s λ l=>S N λ j=>U s j*B j l):=di λ k l hk hl=>by
    unfold upd;by_cases h1:k=s
    . subst h1;rw[RC rfl,RC (Sq _)];exact(h k l hk hl).symm
    . rw[Rx h1];show _=if k<s then dl k l else B (I k) l
      by_cases h2:k<s
      . rw[RC (by omega),RC h2]
      . rw[Rx (by omega),Rx h2]
   rw[e,(uK t).wU (by omega)];refine iF λ j hj=>?_
   have e2:=ih (by omega) (λ k=>if k=s then j else I k) λ k hk hsk=>by
    by_cases h1:k=s
    . rw[RC h1];exact hj
    . rw[Rx h1];exact hI k hk (by omega)
   have e3:D t (upd (λ k l=>if k<s then dl k l else B (I k) l) s (B j))=D t (λ k l=>if k<s then dl k l else B (if k=s then j else I k) l):=di λ k l hk hl=>by
    unfold upd;by_cases h1:k=s
    . subst h1;rw[RC rfl,Rx (TY _),RC rfl]
    . rw[Rx h1,Rx h1]
   rw[e3,e2,RN]
 have z:=go t (Rv _) (λ _=>0) λ k h1 h2=>absurd h1 (Nat.not_lt.mpr h2);rw[di (M':=dl) λ r c hr hc=>RC hr,x3]at z;exact absurd z (by decide)
def nN:∀ {n:Nat} {f:Nat->Int},(∀i,i<n->0<f i)->0<Pr n f
 |0,_,_=>show(0:Int)<1 by decide
 |n+1,f,h=>Int.mul_pos (nN λ i hi=>h i (SD hi)) (h n (Sq n))
def zu:∀ {n:Nat} {f:Nat->Int},(∀i,i<n->0<f i)->∀k,k<n->f k<=Pr n f
 |n+1,f,h,k,hk=>by
  have p:=nN λ i hi=>h i (SD hi);have q:=h n (Sq n);show f k<=Pr n f*f n;by_cases e:k=n
  . subst e;have:=V1 (show(1:Int)<=Pr k f from p) (TX q);omega
  . have a:=zu (λ i hi=>h i (SD hi)) k (by omega);have:=V4 (show(1:Int)<=f n from q) (TX p);omega
def CY{w x:Int}{m:Nat}(hw:w≠0)(h:(w*x).natAbs<=m):x.natAbs<=m:=by
 rw[SM]at h;exact RH (Vc _ (by omega)) h
def oi.back{A0:Rows}{N w top e u:Nat}{c:B3}{ld:Nat->Nat}(H:oi A0 N w c top w ld e u){i q:Nat}(hi:i<N)(hq:q<w):g A0 i q=S top λ k=>g c.C k i*g c.A k q:=by
 have T:=H.tn
 have e1:S N (λ k=>g c.C k i*g c.A k q)=g A0 i q:=by
  have:S N (λ k=>g c.C k i*g c.A k q)=S N λ k=>S N λ m=>g c.C k i*g c.U k m*g A0 m q:=aC λ k hk=>by
   rw[T.ua k q hk hq,<-dO];exact aC λ m _=>(Sw _ _ _).symm
  rw[this,nC];have:(S N λ m=>S N λ k=>g c.C k i*g c.U k m*g A0 m q)=S N λ m=>dl i m*g A0 m q:=aC λ m hm=>by rw[pG,T.bu i m hi hm]
  rw[this,nP hi]
 have cut:∀n,top<=n->n<=N->S n (λ k=>g c.C k i*g c.A k q)=S top λ k=>g c.C k i*g c.A k q:=λ n=>by
  induction n with
  |zero=>intro h _;rw[Nat.le_zero.mp h]
  |succ n ih=>
   intro h h2;by_cases e:top=n+1
   . rw[e]
   . show S n _+g c.C n i*g c.A n q=_;rw[ih (by omega) (by omega),H.zs n q (by omega) (by omega) hq,RN,TV]
 rw[<-e1,cut N H.le (Rv _)]
structure fj(A0:Rows)(N w:Nat)(b:B3)(top p:Nat)(ld:Nat->Nat)(e u v:Nat):Prop where
 tn:Tn A0 b.A b.U b.C N w
 le:top<=N
 lo:gO b.A N top (2^e)/\gO b.U N top (2^e)/\gO b.C N top (2^e)
 hi:∀i c,i<top->(g b.A i c).natAbs<=2^u/\(g b.U i c).natAbs<=2^u/\(g b.C i c).natAbs<=2^v
 zs:∀i c,top<=i->i<N->c<p->g b.A i c=0
 lead:∀i,i<top->ld i<p/\0<g b.A i (ld i)/\∀c,c<ld i->g b.A i c=0
 mono:∀i j,i<j->j<top->ld i<ld j
 red:∀i j,i<j->j<top->0<=g b.A i (ld j)/\g b.A i (ld j)<g b.A j (ld j)
def fj.skip{A0:Rows}{N w top p e u v:Nat}{b:B3}{ld:Nat->Nat}(S:fj A0 N w b top p ld e u v)(h:kB b.A N top p []):fj A0 N w b top (p+1) ld e u v:=
 ⟨S.tn,S.le,S.lo,S.hi,λ i c h1 h2 h3=>by
  by_cases hc:c=p
  . subst hc;exact UJ λ z=>absurd ((h.mem i).mpr ⟨h1,h2,z⟩) (by simp)
  . exact S.zs i c h1 h2 (by omega),λ i hi=>⟨SD (S.lead i hi).1,(S.lead i hi).2⟩,S.mono,S.red⟩
structure nk(A0:Rows)(N w top p e u v:Nat)(b:B3)(k:Nat)(c:B3):Prop where
 tn:Tn A0 c.A c.U c.C N w
 rA:∀i,k<=i->c.A.getD i []=b.A.getD i []/\c.U.getD i []=b.U.getD i []
 rC:∀i,i≠top->c.C.getD i []=b.C.getD i []
 ah:∀i q,i<k->q<p->g c.A i q=g b.A i q
 rd:∀i,i<k->0<=g c.A i p/\g c.A i p<g c.A top p
 sz:∀i q,i<k->(g c.A i q).natAbs<=2^(u+e+1)/\(g c.U i q).natAbs<=2^(u+e+1)
 sC:∀q,(g c.C top q).natAbs<=2^e+k*2^(u+v)
def nk.step{A0:Rows}{N w top p e u v k:Nat}{b c:B3}(I:nk A0 N w top p e u v b k c)(hk:k<top)(ht:top<N)(hp:p<w)(htp:0<g b.A top p)(hz:∀q,q<p->g b.A top q=0)
 (hlo:∀q,(g b.A top q).natAbs<=2^e/\(g b.U top q).natAbs<=2^e) (hhi:∀i q,i<top->(g b.A i q).natAbs<=2^u/\(g b.U i q).natAbs<=2^u/\(g b.C i q).natAbs<=2^v):
 nk A0 N w top p e u v b (k+1) ⟨aV c.A k ((g c.A k p).fdiv (g c.A top p)) top,aV c.U k ((g c.A k p).fdiv (g c.A top p)) top,aV c.C top (-((g c.A k p).fdiv (g c.A top p))) k⟩:=by
 have hkN:k<N:=by omega
 have gA:∀i q,k<=i->g c.A i q=g b.A i q:=λ i q hi=>by unfold g;rw[(I.rA i hi).1]
 have gU:∀i q,k<=i->g c.U i q=g b.U i q:=λ i q hi=>by unfold g;rw[(I.rA i hi).2]
 have gC:∀i q,i≠top->g c.C i q=g b.C i q:=λ i q hi=>by unfold g;rw[I.rC i hi]
 have qe:((g c.A k p).fdiv (g c.A top p)).natAbs<=2^u:=by
  rw[gA k p (Rv _),gA top p (by omega)];exact RH (Ap _ htp) (hhi k p hk).1
 have hq:∀x:Int,x.natAbs<=2^e->((g c.A k p).fdiv (g c.A top p)*x).natAbs<=2^(u+e):=λ x hx=>by
  rw[SM,Ug];exact SN qe hx
 have le1:2^u<=2^(u+e):=Sa (by decide) (by omega);refine⟨I.tn.take hkN ht (by omega),λ i hi=>?_,λ i hi=>?_,λ i q hi hqp=>?_,λ i hi=>?_,λ i q hi=>?_,λ q=>?_⟩
 . exact⟨(lH (by rw[I.tn.isA.len];exact hkN) (by omega)).trans (I.rA i (by omega)).1,(lH (by rw[I.tn.gd.len];exact hkN) (by omega)).trans (I.rA i (by omega)).2⟩
 . exact(lH (by rw[I.tn.gN.len];exact ht) hi).trans (I.rC i hi)
 . show g (aV c.A k _ top) i q=_;rw[dH I.tn.isA hkN ht];split
   . rename_i h;rw[gA top q (by omega),hz q hqp,RN,gA k q (Rv _),h];omega
   . exact I.ah i q (by omega) hqp
 . show 0<=g (aV c.A k _ top) i p/\g (aV c.A k _ top) i p<g (aV c.A k _ top) top p;rw[dH I.tn.isA hkN ht,dH I.tn.isA hkN ht,Rx (show¬top=k by omega)];split
   . have h1:=VQ (g c.A k p) (g c.A top p);have htp':0<g c.A top p:=by rw[gA top p (by omega)];exact htp
     have h2:=S9 (g c.A k p) htp';have h3:=TH (g c.A k p) htp';rw[SF]at h1;omega
   . exact I.rd i (by omega)
 . show(g (aV c.A k _ top) i q).natAbs<=_/\(g (aV c.U k _ top) i q).natAbs<=_;rw[dH I.tn.isA hkN ht,dH I.tn.gd hkN ht];split
   . have a1:=hq (g c.A top q) (by rw[gA top q (by omega)];exact(hlo q).1);have a2:=hq (g c.U top q) (by rw[gU top q (by omega)];exact(hlo q).2);rw[gA k q (Rv _),gU k q (Rv _)];have b1:=(hhi k q hk).1;have b2:=(hhi k q hk).2.1;rw[T7];omega
   . exact I.sz i q (by omega)
 . show(g (aV c.C top _ k) top q).natAbs<=_;rw[dH I.tn.gN ht hkN,RC rfl,gC k q (by omega),Vb];have a1:=I.sC q
   have a2:((g c.A k p).fdiv (g c.A top p)*g b.C k q).natAbs<=2^(u+v):=by
    rw[SM,Ug];exact SN qe (hhi k q hk).2.2
   rw[Uh,Vo];omega
def nk.start{A0:Rows}{N w top p e u v:Nat}{b:B3}(T:Tn A0 b.A b.U b.C N w)(h:∀q,(g b.C top q).natAbs<=2^e):nk A0 N w top p e u v b 0 b:=
 ⟨T,λ _ _=>⟨rfl,rfl⟩,λ _ _=>rfl,λ _ _ h=>absurd h (Sh _),λ _ h=>absurd h (Sh _),λ _ _ h=>absurd h (Sh _),λ q=>by rw[Nat.zero_mul];exact h q⟩
def fj.start{A:Rows}{N w e:Nat}(hA:aP N w A)(h:gO A N 0 (2^e)):fj A N w ⟨A,units N,units N⟩ 0 0 (λ _=>0) e 0 0:=by
 have S:=oi.start hA h;exact⟨S.tn,S.le,S.lo,S.hi,S.zs,S.lead,S.mono,S.red⟩
def fj.Cg{A0:Rows}{N w top p e u v:Nat}{b:B3}{ld:Nat->Nat}(S:fj A0 N w b top p ld e u v):oi A0 N w b top p ld e (u+v):=
 ⟨S.tn,S.le,S.lo,λ i c hi=>⟨RH (S.hi i c hi).1 (Sa (by decide) (by omega)),RH (S.hi i c hi).2.1 (Sa (by decide) (by omega)),RH (S.hi i c hi).2.2 (Sa (by decide) (by omega))⟩,S.zs,S.lead,S.mono,S.red⟩
def Uz(N e0:Nat):Nat->Nat
 |0=>0
 |t+1=>Uz N e0 t+Ez N e0 (t+1)+1
def Cz(N e0:Nat):Nat->Nat
 |0=>0
 |t+1=>Uz N e0 t+Cz N e0 t+Ez N e0 (t+1)+4
def Rm(N w e0:Nat):Prop:=∀t,t<N->t<w->Ez N e0 (t+1)<60000000/\Uz N e0 t+Ez N e0 (t+1)<=120000000/\Uz N e0 t+Cz N e0 t<=120000000
def zX{r:Row}{x:Int}(q:Nat):(r.map λ y=>x*y).getD q 0=x*r.getD q 0:=by
 rw[RI,RP,RI];cases r[q]? with
 |none=>exact(RN x).symm
 |some y=>rfl
def ax.smul{X:Rows}{n w:Nat}{v:Nat->Int}(x:Int)(h:ax X n w v):ax X n w λ c=>x*v c:=
 ((ax.zero (v:=λ _=>0) λ _ _=>rfl).vL x h).eq λ c _=>(Vh _).symm
def ax.more{X:Rows}{k n w:Nat}{v:Nat->Int}(h:ax X k w v)(l:k<=n):ax X n w v:=ax.trans (λ j hj=>ax.row (RQ hj l)) h
def ax.split{X:Rows}{i w:Nat}{v:Nat->Int}(h:ax X (i+1) w v):∃(u:Nat->Int) (t:Int),ax X i w u/\∀c,c<w->v c=u c+t*g X i c:=by
 obtain⟨z,hz⟩:=h;exact⟨λ c=>S i λ k=>z k*g X k c,z i,⟨z,λ _ _=>rfl⟩,λ c hc=>hz c hc⟩
def bU.IZ{X:Rows}{n w i:Nat}{ld:Nat->Nat}{v:Nat->Int}(s:bU X n w ld)(hi:i<=n)(hv:ax X i w v)(h0:∀k,k<i->v (ld k)=0)(c:Nat)(hc:c<w):v c=0:=by
 obtain⟨z,hz⟩:=hv
 have zz:∀k,k<i->z k=0:=λ k=>by
  induction k using Nat.strongRecOn with
  |ind k ih=>
   intro hk;obtain⟨h1,h2,_⟩:=s.lead k (RQ hk hi);have e:=hz (ld k) h1;rw[h0 k hk,my hk λ j hj ne=>?_]at e
   . exact(WQ.mp e.symm).resolve_right (Ul h2)
   . rcases We ne with l|l
     . rw[ih j l hj,TU]
     . have hj':=RQ hj hi;rw[(s.lead j hj').2.2 _ (s.mono k j l hj'),RN]
 rw[hz c hc];exact iF λ k hk=>by rw[zz k hk,TU]
structure jM(F:Rows)(w:Nat)(ld:Nat->Nat)(row:Nat->Int)(i:Nat)(o:Int)(L:Nat->Int):Prop where
 pos:0<o
 sum:ax F i w λ c=>o*row c-L c
 off:∀k,k<i->L (ld k)=0
 least:∀(m:Int) (v:Nat->Int),ax F i w v->(∀k,k<i->m*row (ld k)=v (ld k))->o∣m
def jM.start{F:Rows}{w:Nat}{ld:Nat->Nat}{row:Nat->Int}:jM F w ld row 0 1 row:=
 ⟨by decide,ax.zero λ c _=>by rw[UK,Vj],λ _ h=>absurd h (Sh _),λ m _ _ _=>Int.one_dvd m⟩
def jM.step{F:Rows}{n w i:Nat}{ld:Nat->Nat}{row L:Nat->Int}{o q t:Int}(s:bU F n w ld)(hi:i<n)(f:jM F w ld row i o L)(hq:0<q)(h1:q*L (ld i)=t*g F i (ld i))(h2:∀y,g F i (ld i)∣y*L (ld i)->q∣y):jM F w ld row (i+1) (o*q) λ c=>q*L c-t*g F i c:=by
 obtain⟨l1,l2,l3⟩:=s.lead i hi;refine⟨Int.mul_pos f.pos hq,?_,λ k hk=>?_,λ m v hv he=>?_⟩
 . refine(((f.sum.smul q).more (U_ i)).vL t (ax.row (Sq i))).eq λ c _=>?_;rw[WY,SF o q,Sw];omega
 . show q*L (ld k)-t*g F i (ld k)=0;rcases Tt k i with h|h
   . rw[f.off k h,l3 _ (s.mono k i h hi)];omega
   . have:k=i:=UC (Nat.le_of_lt_succ hk) h;subst this;rw[h1,Vj]
 . obtain⟨u,t',hu,hs⟩:=hv.split;have hld:∀k,k<i->ld k<w:=λ k hk=>(s.lead k (Uk hk hi)).1
   have eu:∀k,k<i->m*row (ld k)=u (ld k):=λ k hk=>by
    rw[he k (SD hk),hs _ (hld k hk),l3 _ (s.mono k i hk hi),RN,TV]
   obtain⟨y,rfl⟩:=f.least m u hu eu
   have z:=s.IZ (Tq hi) (hu.sub (f.sum.smul y)) (λ k hk=>by
    show u (ld k)-y*(o*row (ld k)-L (ld k))=0;rw[f.off k hk,<-eu k hk,Vx,SF o y,Sw,Vj]) (ld i) l1
   have e1:=he i (Sq i);rw[hs _ l1]at e1;have z':u (ld i)-y*(o*row (ld i)-L (ld i))=0:=z;rw[SF o y,Sw]at e1;rw[WY]at z';have e2:y*L (ld i)=t'*g F i (ld i):=by omega
   obtain⟨x,rfl⟩:=h2 y ⟨t',by rw[e2,SF]⟩;exact⟨x,(Sw _ _ _).symm⟩
def jM.some{F:Rows}{n w:Nat}{ld:Nat->Nat}{row L:Nat->Int}{o:Int}(s:bU F n w ld)(f:jM F w ld row n o L)(h:∀c,c<w->L c=0)(m:Int):ax F n w (λ c=>m*row c)↔o∣m:=by
 constructor
 . exact λ hv=>f.least m _ hv λ k _=>rfl
 . rintro⟨y,rfl⟩;refine(f.sum.smul y).eq λ c hc=>?_;rw[h c hc,Vx,SF o y,Sw]
def jM.no{F:Rows}{n w c:Nat}{ld:Nat->Nat}{row L:Nat->Int}{o:Int}(s:bU F n w ld)(f:jM F w ld row n o L)(hc:c<w)(h:L c≠0)(m:Int)(hm:m≠0):¬ax F n w λ c=>m*row c:=λ hv=>by
 obtain⟨y,rfl⟩:=f.least m _ hv λ k _=>rfl
 have z:=s.IZ (Rv n) (hv.sub (f.sum.smul y)) (λ k hk=>by
  show o*y*row (ld k)-y*(o*row (ld k)-L (ld k))=0;rw[f.off k hk,Vx,SF o y,Sw,Vj]) c hc
 have z':o*y*row c-y*(o*row c-L c)=0:=z;rw[WY,SF o y,Sw]at z';have e:y*L c=0:=by omega
 rcases WQ.mp e with h'|h'
 . rw[h',RN]at hm;exact hm rfl
 . exact h h'
def D_{d:Nat}(hd:0<d)(x m:Int):(d:Int)∣m*x↔((d/Nat.gcd d x.natAbs:Nat):Int)∣m:=by
 rw[Int.ofNat_dvd_left,Int.ofNat_dvd_left,SM];generalize x.natAbs=y;generalize m.natAbs=k;have g0:0<Nat.gcd d y:=VC _ hd;have cp:=Wf g0;have e1:=Wg (UP d y);have e2:=Wg (Nat.gcd_dvd_right d y);generalize Nat.gcd d y=q at g0 cp e1 e2⊢;have e3:k*y=k*(y/q)*q:=by rw[Ss,e2]
 constructor
 . intro h;refine cp.dvd_of_dvd_mul_right ?_;rw[e3]at h;rw[<-e1]at h;exact Nat.dvd_of_mul_dvd_mul_right g0 h
 . intro h;rw[e3];conv=>lhs;rw[<-e1]
   exact Nat.mul_dvd_mul_right (Nat.dvd_trans h (Nat.dvd_mul_right _ _)) q
def bU.Oz{F:Rows}{n w:Nat}{ld:Nat->Nat}{v:Nat->Int}(s:bU F n w ld)(hv:ax F n w v)(h:∀k,k<n->0<=v (ld k)/\v (ld k)<g F k (ld k))(c:Nat):c<w->v c=0:=by
 induction c using Nat.strongRecOn with
 |ind c ih=>
  intro hc;rcases s.at hv hc λ d hd=>ih d hd (Uk hd hc)with⟨k,hk,rfl,d⟩|q
  . have:=h k hk;exact Tf d (by omega)
  . exact q
structure vq(F:Rows)(n w:Nat)(ld:Nat->Nat)(row:Nat->Int)(i:Nat)(L:Nat->Int):Prop where
 sum:ax F n w λ c=>row c-L c
 red:∀k,k<i->0<=L (ld k)/\L (ld k)<g F k (ld k)
def vq.start{F:Rows}{n w:Nat}{ld:Nat->Nat}{row:Nat->Int}:vq F n w ld row 0 row:=⟨ax.zero λ c _=>Vj _,λ _ h=>absurd h (Sh _)⟩
def vq.step{F:Rows}{n w i:Nat}{ld:Nat->Nat}{row L:Nat->Int}(s:bU F n w ld)(hi:i<n)(f:vq F n w ld row i L):vq F n w ld row (i+1) λ c=>L c-(L (ld i)).fdiv (g F i (ld i))*g F i c:=by
 obtain⟨l1,l2,l3⟩:=s.lead i hi;refine⟨(f.sum.vL ((L (ld i)).fdiv (g F i (ld i))) (ax.row hi)).eq λ c _=>by omega,λ k hk=>?_⟩;show 0<=L (ld k)-_*g F i (ld k)/\L (ld k)-_*g F i (ld k)<_;rcases Tt k i with h|h
 . rw[l3 _ (s.mono k i h hi),RN,Vx];exact f.red k h
 . have:k=i:=UC (Nat.le_of_lt_succ hk) h;subst this;have e:=Int.fmod_add_mul_fdiv (L (ld k)) (g F k (ld k));have a:=S9 (L (ld k)) l2;have b:=TH (L (ld k)) l2;rw[SF]at e;omega
def Iv(F:Rows)(i:Nat):Nat:=(F.getD i []).findIdx (λ x=>x != 0)
section
variable {F:Rows}{r:Row}{m w:Nat}(vf:aP m w F)(lr:r.length=w)
include vf lr
end
def wo:Int->Int->List Rat->Row->Int×Int
 |T,B,p::ps,n::r=>wo (T*p.den+p.num*n*B) (B*p.den) ps r
 |T,B,_,_=>(T,B)
def PN:List Int->Int
 | []=>1
 |x::xs=>x*PN xs
def A5:∀ {ls:List Int},(∀x∈ls,1<=x)->1<=PN ls
 | [],_=>VF _
 |x::xs,h=>by
  have h1:=h x R6;have h2:=A5 λ y hy=>h y (RU _ hy);have:=V_ h1 h2 (by decide) (Td (by decide) h1);exact this
def z9:∀ {ls:List Int} {x:Int},(∀x∈ls,1<=x)->x∈ls->x<=PN ls
 |y::ys,x,h,hx=>by
  have h1:=h y R6;have h':∀z∈ys,1<=z:=λ z hz=>h z (RU _ hz);have h2:=A5 h';rcases R7.mp hx with rfl|hx
  . have:=V4 h2 (Td (by decide) h1);rw[Tv]at this;exact this
  . have h3:=z9 h' hx;have:=V1 h1 (Td (by decide) h2);rw[UK]at this;exact Td h3 this
def Gd:∀ {ls:List Int} {k:Nat} {f:Int},k<ls.length->PN (ls.set k (ls.getD k 0*f))=PN ls*f
 | [],_,_,h=>absurd h (Sh _)
 |x::xs,0,f,_=>by
  show x*f*PN xs=x*PN xs*f;rw[Sw,Sw,SF f]
 |x::xs,k+1,f,h=>by
  show x*PN (xs.set k (xs.getD k 0*f))=x*PN xs*f;rw[Gd (Nat.lt_of_succ_lt_succ h),Sw]
def Fg:∀w:Nat,PN (List.replicate w 1)=1
 |0=>rfl
 |w+1=>by
  rw[SY];show 1*PN (List.replicate w 1)=1;rw[Fg w];rfl
structure UR(ls:List Int)(w k:Nat)(r:Row):Prop where
 len:r.length=w
 lo:∀c,c<k->r.getD c 0=0
 at':r.getD k 0=ls.getD k 0
 up:∀c,k<c->c<w->0<=r.getD c 0/\r.getD c 0<ls.getD c 0
def bU.Px{F:Rows}{n w:Nat}{ld:Nat->Nat}{v:Nat->Int}(s:bU F n w ld)(hv:ax F n w v)(h:∀k,k<n->(v (ld k)).natAbs<(g F k (ld k)).natAbs)(c:Nat):c<w->v c=0:=by
 induction c using Nat.strongRecOn with
 |ind c ih=>
  intro hc;rcases s.at hv hc λ d hd=>ih d hd (Uk hd hc)with⟨k,hk,rfl,d⟩|q
  . exact Tf d (h k hk)
  . exact q
def xV(a:Nat)(f:Nat->Int):∀b,S (a+b) f=S a f+S b λ i=>f (a+i)
 |0=>(TV _).symm
 |b+1=>by
  show S (a+b) f+f (a+b)=S a f+(S b (λ i=>f (a+i))+f (a+b));rw[xV a f b,Int.add_assoc]
def ax.mB{X:Rows}{n w:Nat}{u v:Nat->Int}(a:Int)(hu:ax X n w u)(hv:ax X n w v):ax X n w λ c=>u c+a*v c:=by
 obtain⟨y,hy⟩:=hu;obtain⟨z,hz⟩:=hv;refine⟨λ k=>y k+a*z k,λ c hc=>?_⟩;show u c+a*v c=S n λ k=>(y k+a*z k)*g X k c;rw[hy c hc,hz c hc,<-dO,<-gJ];exact aC λ k _=>by rw[Int.add_mul,Sw]
def ax.comb{X:Rows}{n w:Nat}{a:Nat->Int}{v:Nat->Nat->Int}:∀ {m:Nat},(∀l,l<m->ax X n w (v l))->ax X n w λ c=>S m λ l=>a l*v l c
 |0,_=>⟨λ _=>0,λ c _=>(iF λ k _=>TU _).symm⟩
 |m+1,h=>ax.mB (a m) (ax.comb (m:=m) λ l hl=>h l (by omega)) (h m (Sq m))
def cR.picked{A F:Rows}{N m w:Nat}{ld:Nat->Nat}(st:bU F m w ld)(same:cR A N F m w):∃(I:Nat->Nat) (B:Fn),(∀k,k<m->I k<N)/\(∀i c,i<m->c<w->g A (I i) c=S m λ k=>B i k*g F k c)/\D m B≠0:=by
 have hB:∀i,∃z:Nat->Int,i<N->∀c,c<w->g A i c=S m λ k=>z k*g F k c:=λ i=>by
  by_cases h:i<N
  . obtain⟨z,hz⟩:=same.to i h;exact⟨z,λ _=>hz⟩
  . exact⟨λ _=>0,λ z=>absurd z h⟩
 have hU:∀k,∃z:Nat->Int,k<m->∀c,c<w->g F k c=S N λ i=>z i*g A i c:=λ k=>by
  by_cases h:k<m
  . obtain⟨z,hz⟩:=same.of k h;exact⟨z,λ _=>hz⟩
  . exact⟨λ _=>0,λ z=>absurd z h⟩
 let B:Fn:=λ i=>Classical.choose (hB i)
 let U:Fn:=λ k=>Classical.choose (hU k)
 have eB:∀i,i<N->∀c,c<w->g A i c=S m λ k=>B i k*g F k c:=λ i=>Tg (hB i);have eU:∀k,k<m->∀c,c<w->g F k c=S N λ i=>U k i*g A i c:=λ k=>Tg (hU k)
 obtain⟨I,h1,h2⟩:=pick (t:=m) (N:=N) (U:=U) (B:=B) λ k l hk hl=>by
  have e1:∀c,c<w->S m (λ l=>(S N λ i=>U k i*B i l)*g F l c)=g F k c:=λ c hc=>by
   rw[eU k hk c hc]
   have:(S N λ i=>U k i*g A i c)=S N λ i=>S m λ l=>U k i*B i l*g F l c:=aC λ i hi=>by
    rw[eB i hi c hc,<-dO];exact aC λ l _=>(Sw _ _ _).symm
   rw[this,nC];exact aC λ l _=>(pG _ _ _).symm
  have e2:∀c,c<w->(0:Int)=S m λ l=>((S N λ i=>U k i*B i l)-dl k l)*g F l c:=λ c hc=>by
   have h1:(S m λ l=>((S N λ i=>U k i*B i l)-dl k l)*g F l c)=S m (λ l=>(S N λ i=>U k i*B i l)*g F l c)-S m λ l=>dl k l*g F l c:=by
    rw[Ux,<-wV,<-gJ];exact aC λ l _=>by rw[Int.sub_mul,Ux]
   rw[h1,e1 c hc,nP hk,Vj]
  have e3:(S N λ i=>U k i*B i l)-dl k l=0:=st.gone (v:=λ _=>0) (z:=λ l=>(S N λ i=>U k i*B i l)-dl k l) (q:=w) e2 (λ _ _=>rfl) l hl (st.lead l hl).1;omega
 exact⟨I,λ i=>B (I i),h1,λ i c hi hc=>eB _ (h1 i hi) c hc,h2⟩
def Ln(A:Rows)(N:Nat):Rows:=(List.range N).map λ n=>A.getD n []++j7 N n
structure Q1(A F:Rows)(N w m h:Nat):Prop where
 hA:aP N w A
 is:aP m (w+N) F
 st:bU F m (w+N) (Iv F)
 red:ug F m (Iv F)
 same:cR (Ln A N) N F m (w+N)
 le:h<=m
 lo:∀i,i<h->Iv F i<w
 hi:∀i,h<=i->i<m->w<=Iv F i
section
variable {A F:Rows}{N w m h:Nat}(L:Q1 A F N w m h)
include L
end
def GK{a b a' q s t s' C:Nat}(hb:0<b)(hba:b<=a)(hq:2*(q*b)<=2*a+b)(ha':2*a'<=b)(hs:s*(a*(a*a))<=C)(ht:t*(a*(b*b))<=C)(h:s'<=s+q*t):s'*(b*(a'*a'))<=C/\2*s'<=5*C:=by
 have ha:0<a:=RQ hb hba;have e1:2*(q*b)*t<=3*a*t:=R9 t (by omega)
 have e2:2*(q*b)*t*(b*b)<=3*C:=by
  refine RH (R9 (b*b) e1) ?_
  have:3*a*t*(b*b)=3*(t*(a*(b*b))):=by
   rw[Ss 3 a t,Uj a t,Ss 3,Ss t a]
  rw[this];exact Sj 3 ht
 have e3:s*(b*(b*b))<=C:=RH (Sj s (SN hba (SN hba hba))) hs;constructor
 . have f1:4*(a'*a')<=b*b:=by
    have:=SN ha' ha'
    have e:2*a'*(2*a')=4*(a'*a'):=by
     rw[Ss,<-Ss a' 2 a',Uj a' 2,Ss 2 a' a',<-Ss]
    rwa [e]at this
   have f2:s'*(b*(b*b))<=s*(b*(b*b))+q*t*(b*(b*b)):=by
    rw[<-Uh];exact R9 _ h
   have f3:2*(q*t*(b*(b*b)))=2*(q*b)*t*(b*b):=by
    rw[<-Ss (q*t) b (b*b),<-Ss 2,Wh q t b,<-Ss 2]
   have f4:4*(s'*(b*(a'*a')))<=s'*(b*(b*b)):=by
    have e:4*(s'*(b*(a'*a')))=s'*(b*(4*(a'*a'))):=by
     rw[Up 4 s',Up 4 b]
    rw[e];exact Sj _ (Sj _ f1)
   omega
 . have g1:s<=C:=RH (S7 s (WZ ha (WZ ha ha))) hs
   have g2:q*t<=q*b*t*(b*b):=by
    have h1:q*t<=q*b*t:=by
     rw[Wh];exact S7 _ hb
    exact RH h1 (S7 _ (WZ hb hb))
   have g3:2*(q*b*t*(b*b))=2*(q*b)*t*(b*b):=by
    rw[<-Ss 2,<-Ss 2]
   omega
def Hb{a b a' q cg cs:Nat}(hb:0<b)(hba:b<=a)(ha':2*a'<=b)(hq:a=q*b+a'\/q*b=a+a'):b*b*(cg*a'+(cs+q*cg)*b)<=a*a*(cg*a+cs*b):=by
 have bb:b*b<=a*a:=SN hba hba
 have e0:cg*a'+(cs+q*cg)*b=cg*(a'+q*b)+cs*b:=by
  rw[Uh,Vd,Wh q cg b,Uj (q*b) cg];omega
 rw[e0];by_cases z:a'=0
 . subst z;have:a=q*b:=by omega
   rw[Uw,<-this];exact R9 _ bb
 rcases hq with h|h
 . rw[show a'+q*b=a by omega];exact R9 _ bb
 have q2:2<=q:=by
  rcases Tt q 2 with y|y
  . have:q=0\/q=1:=by omega
    rcases this with rfl|rfl
    . omega
    . omega
  . exact y
 have qb:2*b<=q*b:=R9 b q2;have a3:3*b<=2*a:=by omega
 have sq:9*(b*b)<=4*(a*a):=by
  have:=SN a3 a3;have e1:3*b*(3*b)=9*(b*b):=by rw[Ss,Up b 3 b,<-Ss]
  have e2:2*a*(2*a)=4*(a*a):=by rw[Ss,Up a 2 a,<-Ss]
  rwa [e1,e2]at this
 have key:b*b*(a'+q*b)<=a*a*a:=by
  have h1:a'+q*b<=a+b:=by omega
  have h2:b*b*(a'+q*b)<=b*b*(a+b):=Sj _ h1;have h3:9*(b*b)*a<=4*(a*a)*a:=R9 a sq;have h4:b*b*b<=b*b*a:=Sj _ hba;rw[Vd (b*b) a b]at h2;rw[Ss 9,Ss 4]at h3;omega
 rw[Vd (b*b),Vd (a*a)];refine UL ?_ (R9 _ bb);rw[Up (b*b) cg,Up (a*a) cg];exact Sj cg key
def xX{x y:Int}(hy:y≠0)(hxy:y.natAbs<=x.natAbs):x.natAbs=(qn x y).natAbs*y.natAbs+(x-qn x y*y).natAbs\/(qn x y).natAbs*y.natAbs=x.natAbs+(x-qn x y*y).natAbs:=by
 have h:=qw (x:=x) hy;rw[<-SM];generalize qn x y*y=z at h;omega
def Gz(X A:Rows)(N top p gm K:Nat):Prop:=∀i c,top<=i->i<N->(g X i c).natAbs*(gm*((g A i p).natAbs*(g A i p).natAbs))<=K/\2*(g X i c).natAbs<=5*K
def Gz.step{X A:Rows}{N w wA top p gm K k j:Nat}(hX:aP N w X)(hA:aP N wA A)(hk:k<N)(hj:j<N)(hkt:top<=k)(hjt:top<=j)(hj0:g A j p≠0)(hle:(g A j p).natAbs<=(g A k p).natAbs)(hgm:(g A k p).natAbs<=gm)(h:Gz X A N top p gm K):Gz (aV X k (qn (g A k p) (g A j p)) j) (aV A k (qn (g A k p) (g A j p)) j) N top p (g A j p).natAbs K:=λ i c hi hN=>by
 by_cases hik:i=k
 . rw[hik,dH hX hk hj,RC rfl,dH hA hk hj,RC rfl];have r:=qw (x:=g A k p) hj0
   have q2:2*((qn (g A k p) (g A j p)).natAbs*(g A j p).natAbs)<=2*(g A k p).natAbs+(g A j p).natAbs:=by
    rcases xX hj0 hle with z|z<;>omega
   refine GK (by omega) hle q2 r (RH (Sj _ (R9 _ hgm)) (h k c hkt hk).1) (RH (Sj _ (R9 _ hgm)) (h j c hjt hj).1) ?_;have h1:=Int.natAbs_sub_le (g X k c) (qn (g A k p) (g A j p)*g X j c);rw[SM]at h1;exact h1
 . rw[dH hX hk hj,Rx hik,dH hA hk hj,Rx hik];exact⟨RH (Sj _ (R9 _ (RH hle hgm))) (h i c hi hN).1,(h i c hi hN).2⟩
def Ao{f f':Nat->Nat}{k:Nat}(h:∀i,i≠k->f' i=f i):∀ {n:Nat},k<n->SU f' n+f k=SU f n+f' k
 |0,hk=>absurd hk (Sh _)
 |n+1,hk=>by
  show SU f' n+f' n+f k=SU f n+f n+f' k;by_cases e:k=n
  . subst e;have:SU f' k=SU f k:=UC (zo λ i hi=>by rw[h i (by omega)];exact Rv _) (zo λ i hi=>by rw[h i (by omega)];exact Rv _);omega
  . have:=Ao h (n:=n) (by omega);have:=h n (by omega);omega
def FJ{f f':Nat->Nat}{j k n:Nat}(hj:j<n)(hk:k<n)(hjk:j≠k)(h:∀i,i≠j->i≠k->f' i=f i):SU f' n+(f j+f k)=SU f n+(f' j+f' k):=by
 have h1:=Ao (f:=f) (f':=λ i=>if i=j then f' j else f i) (k:=j) (λ i hi=>Rx hi) hj
 have h2:=Ao (f:=λ i=>if i=j then f' j else f i) (f':=f') (k:=k) (λ i hi=>by
  by_cases z:i=j
  . rw[RC z,z]
  . rw[Rx z];exact h i z hi) hk
 rw[RC rfl]at h1;rw[Rx (RK hjk)]at h2;omega
def IM{f:Nat->Nat}{k:Nat}:∀ {n:Nat},k<n->f k<=SU f n
 |0,hk=>absurd hk (Sh _)
 |n+1,hk=>by
  show f k<=SU f n+f n;by_cases e:k=n
  . subst e;omega
  . have:=IM (f:=f) (k:=k) (n:=n) (by omega);omega
def Fc(C A:Rows)(top p c i:Nat):Nat:=if top<=i then(g C i c).natAbs*(g A i p).natAbs else 0
structure Sc(C A:Rows)(N top p gm K:Nat):Prop where
 sum:∀c,gm*gm*SU (Fc C A top p c) N<=K
 all:∀i c,top<=i->i<N->(g C i c).natAbs<=K
def Sc.step{C A:Rows}{N w wA top p gm K k j:Nat}(hC:aP N w C)(hA:aP N wA A)(hk:k<N)(hj:j<N)(hkt:top<=k)(hjt:top<=j)(hjk:j≠k)(hj0:g A j p≠0)(hle:(g A j p).natAbs<=(g A k p).natAbs)(hgm:(g A k p).natAbs<=gm)(h:Sc C A N top p gm K):Sc (aV C j (-(qn (g A k p) (g A j p))) k) (aV A k (qn (g A k p) (g A j p)) j) N top p (g A j p).natAbs K:=by
 have r:=qw (x:=g A k p) hj0;have side:=xX hj0 hle;have b0:0<(g A j p).natAbs:=by omega
 have gC:∀i c,g (aV C j (-(qn (g A k p) (g A j p))) k) i c=if i=j then g C j c- -(qn (g A k p) (g A j p))*g C k c else g C i c:=λ i c=>dH hC hj hk i c
 have gA:∀i c,g (aV A k (qn (g A k p) (g A j p)) j) i c=if i=k then g A k c-qn (g A k p) (g A j p)*g A j c else g A i c:=λ i c=>dH hA hk hj i c
 have sum:∀c,(g A j p).natAbs*(g A j p).natAbs*SU (Fc (aV C j (-(qn (g A k p) (g A j p))) k) (aV A k (qn (g A k p) (g A j p)) j) top p c) N<=K:=λ c=>by
  have k1:Fc (aV C j (-(qn (g A k p) (g A j p))) k) (aV A k (qn (g A k p) (g A j p)) j) top p c k=(g C k c).natAbs*(g A k p-qn (g A k p) (g A j p)*g A j p).natAbs:=by
   unfold Fc;rw[RC hkt,gC,Rx (RK hjk),gA,RC rfl]
  have j1:Fc (aV C j (-(qn (g A k p) (g A j p))) k) (aV A k (qn (g A k p) (g A j p)) j) top p c j<=((g C j c).natAbs+(qn (g A k p) (g A j p)).natAbs*(g C k c).natAbs)*(g A j p).natAbs:=by
   unfold Fc;rw[RC hjt,gC,RC rfl,gA,Rx hjk];refine R9 _ ?_;have h1:=Int.natAbs_sub_le (g C j c) (-(qn (g A k p) (g A j p))*g C k c);rw[SM,Vi]at h1;exact h1
  have k0:Fc C A top p c k=(g C k c).natAbs*(g A k p).natAbs:=by unfold Fc;rw[RC hkt]
  have j0:Fc C A top p c j=(g C j c).natAbs*(g A j p).natAbs:=by unfold Fc;rw[RC hjt]
  have same:∀i,i≠j->i≠k->Fc (aV C j (-(qn (g A k p) (g A j p))) k) (aV A k (qn (g A k p) (g A j p)) j) top p c i=Fc C A top p c i:=λ i h1 h2=>by
   unfold Fc;rw[gC,Rx h1,gA,Rx h2]
  have main:=Hb (cg:=(g C k c).natAbs) (cs:=(g C j c).natAbs) b0 hle r side;have H:=h.sum c;generalize Fc (aV C j (-(qn (g A k p) (g A j p))) k) (aV A k (qn (g A k p) (g A j p)) j) top p c=f' at k1 j1 same;generalize Fc C A top p c=f at k0 j0 same H;have t1:=FJ (f:=λ i=>if i=j\/i=k then 0 else f i) (f':=f) hj hk hjk λ i h1 h2=>(Rx (by omega)).symm;have t2:=FJ (f:=λ i=>if i=j\/i=k then 0 else f i) (f':=f') hj hk hjk λ i h1 h2=>(same i h1 h2).trans (Rx (by omega)).symm;rw[RC (.inl rfl),RC (.inr rfl)]at t1 t2;generalize SU (λ i=>if i=j\/i=k then 0 else f i) N=R at t1 t2;have e1:SU f' N=R+(f' k+f' j):=by omega
  have e2:SU f N=R+(f k+f j):=by omega
  rw[e2,k0,j0]at H;rw[e1];refine RH ?_ H;have bg:(g A j p).natAbs*(g A j p).natAbs<=gm*gm:=SN (RH hle hgm) (RH hle hgm);have ag:(g A k p).natAbs*(g A k p).natAbs<=gm*gm:=SN hgm hgm;rw[Vd _ R,Vd (gm*gm) R];refine UL (R9 _ bg) ?_;refine RH (Sj _ (UL (VU k1) j1)) (RH main (R9 _ ag))
 refine⟨sum,λ i c hi hN=>?_⟩;by_cases hij:i=j
 . rw[hij];refine RH ?_ (sum c)
   have h1:Fc (aV C j (-(qn (g A k p) (g A j p))) k) (aV A k (qn (g A k p) (g A j p)) j) top p c j=(g (aV C j (-(qn (g A k p) (g A j p))) k) j c).natAbs*(g A j p).natAbs:=by
    unfold Fc;rw[RC hjt,gA,Rx hjk]
   have h2:=IM (f:=Fc (aV C j (-(qn (g A k p) (g A j p))) k) (aV A k (qn (g A k p) (g A j p)) j) top p c) hj;rw[h1]at h2;refine RH (RH (S7 _ b0) h2) (Vc _ (WZ b0 b0))
 . rw[gC,Rx hij];exact h.all i c hi hN
structure Gb(A0:Rows)(N w top p K KC gm:Nat)(b0 b:B3):Prop where
 tn:Tn A0 b.A b.U b.C N w
 up:∀i,i<top->b.A.getD i []=b0.A.getD i []/\b.U.getD i []=b0.U.getD i []/\b.C.getD i []=b0.C.getD i []
 mx:∀i,top<=i->i<N->(g b.A i p).natAbs<=gm
 sA:Gz b.A b.A N top p gm K
 sU:Gz b.U b.A N top p gm K
 sC:Sc b.C b.A N top p gm KC
 zs:∀i c,top<=i->i<N->c<p->g b.A i c=0
 Ol:b=b0\/∃j,top<=j/\j<N/\g b.A j p≠0
def Gb.step{A0:Rows}{N w top p K KC gm:Nat}{b0 b:B3}{L:List Nat}{k j:Nat}(G:Gb A0 N w top p K KC gm b0 b)(hL:kB b.A N top p (L++[j,k])):
 Gb A0 N w top p K KC (g b.A j p).natAbs b0 (sx b p k j)/\(g (sx b p k j).A k p).natAbs<(g b.A k p).natAbs/\(∀i,i≠k->g (sx b p k j).A i p=g b.A i p)/\top<=k/\k<N/\top<=j/\j<N/\j≠k/\g b.A j p≠0/\(qn (g b.A k p) (g b.A j p)).natAbs<=2*(g b.A k p).natAbs:=by
 obtain⟨hk1,hk2,hk3⟩:=(hL.mem k).mp (by simp);obtain⟨hj1,hj2,hj3⟩:=(hL.mem j).mp (by simp);have hord:=hL.ord;rw[List.pairwise_append]at hord;have o2:=(Wi.mp hord.2.1).1 k (by simp);have hjk:j≠k:=by intro z;subst z;omega
 have hle:(g b.A j p).natAbs<=(g b.A k p).natAbs:=by omega
 have hgm:=G.mx k hk1 hk2
 have gk:g (sx b p k j).A k p=g b.A k p-qn (g b.A k p) (g b.A j p)*g b.A j p:=by
  show g (aV b.A k _ j) k p=_;rw[dH G.tn.isA hk2 hj2,RC rfl]
 have gi:∀i,i≠k->g (sx b p k j).A i p=g b.A i p:=λ i hi=>by
  show g (aV b.A k _ j) i p=_;rw[dH G.tn.isA hk2 hj2,Rx hi]
 have hrest:=qw (x:=g b.A k p) hj3;refine⟨⟨G.tn.take hk2 hj2 hjk,λ i hi=>?_,λ i h1 h2=>?_,G.sA.step G.tn.isA G.tn.isA hk2 hj2 hk1 hj1 hj3 hle hgm,G.sU.step G.tn.gd G.tn.isA hk2 hj2 hk1 hj1 hj3 hle hgm,G.sC.step G.tn.gN G.tn.isA hk2 hj2 hk1 hj1 hjk hj3 hle hgm,λ i c hi hN hc=>?_,.inr ⟨j,hj1,hj2,by rw[gi j hjk];exact hj3⟩⟩,?_,gi,hk1,hk2,hj1,hj2,hjk,hj3,?_⟩
 . obtain⟨a1,a2,a3⟩:=G.up i hi;refine⟨(lH (by rw[G.tn.isA.len];exact hk2) (by omega)).trans a1,(lH (by rw[G.tn.gd.len];exact hk2) (by omega)).trans a2,(lH (by rw[G.tn.gN.len];exact hj2) (by omega)).trans a3⟩
 . by_cases h:i=k
   . rw[h,gk];omega
   . rw[gi i h];by_cases z:g b.A i p=0
     . rw[z];exact RX _
     . have m:=(hL.mem i).mpr ⟨h1,h2,z⟩;rcases SH.mp m with y|y
       . have:=hord.2.2 i y j (by simp);omega
       . rcases R7.mp y with y|y
         . rw[y];exact Rv _
         . exact absurd (TR.mp y) h
 . show g (aV b.A k _ j) i c=0;rw[dH G.tn.isA hk2 hj2];by_cases h:i=k
   . rw[RC h,G.zs k c hk1 hk2 hc,G.zs j c hj1 hj2 hc,RN];rfl
   . rw[Rx h];exact G.zs i c hi hN hc
 . rw[gk];omega
 . have b1:1<=(g b.A j p).natAbs:=by omega
   have:=Sj (qn (g b.A k p) (g b.A j p)).natAbs b1;rcases xX hj3 hle with z|z<;>omega
def Jm{f:Nat->Nat}{M:Nat}:∀ {n:Nat},(∀i,i<n->f i<=M)->SU f n<=n*M
 |0,_=>RX _
 |n+1,h=>by
  have h1:=Jm (n:=n) λ i hi=>h i (SD hi);have h2:=h n (Sq n);rw[WD];exact UL h1 h2
def Gb.start{A0:Rows}{N w top p e u v:Nat}{b:B3}{ld:Nat->Nat}(S:fj A0 N w b top p ld e u v):Gb A0 N w top p (2^(4*e)) (N*2^(4*e)) (2^e) b b:=by
 obtain⟨lA,lU,lC⟩:=S.lo
 have e4:2^e*(2^e*(2^e*2^e))=2^(4*e):=by
  rw[<-Ug,<-Ug,<-Ug];congr 1;omega
 have e1:2^e<=2^(4*e):=Sa (by decide) (by omega)
 have gz:∀X:Rows,gO X N top (2^e)->Gz X b.A N top p (2^e) (2^(4*e)):=λ X h i c hi hN=>by
  have h1:=h i c hi hN;have h2:=lA i p hi hN;refine⟨?_,by omega⟩;rw[<-e4];exact SN h1 (Sj _ (SN h2 h2))
 refine⟨S.tn,λ _ _=>⟨rfl,rfl,rfl⟩,λ i hi hN=>lA i p hi hN,gz _ lA,gz _ lU,⟨λ c=>?_,λ i c hi hN=>?_⟩,S.zs,.inl rfl⟩
 . have h1:SU (Fc b.C b.A top p c) N<=N*(2^e*2^e):=Jm λ i hi=>by
    unfold Fc;by_cases h:top<=i
    . rw[RC h];exact SN (lC i c h hi) (lA i p h hi)
    . rw[Rx h];exact RX _
   refine RH (Sj _ h1) ?_;rw[Up,Ss,e4];exact Rv _
 . refine RH (lC i c hi hN) (RH e1 ?_);exact Vc _ (by omega)
def Gb.low{A0:Rows}{N w top p e gm:Nat}{b0 b:B3}(G:Gb A0 N w top p (2^(4*e)) (N*2^(4*e)) gm b0 b)(hN:N<=16):gO b.A N top (2^(4*e+4))/\gO b.U N top (2^(4*e+4))/\gO b.C N top (2^(4*e+4)):=by
 have e4:2^(4*e+4)=16*2^(4*e):=by rw[Ug,Uj]
 rw[e4];refine⟨λ i c hi h=>?_,λ i c hi h=>?_,λ i c hi h=>?_⟩
 . have:=(G.sA i c hi h).2;omega
 . have:=(G.sU i c hi h).2;omega
 . exact RH (G.sC.all i c hi h) (R9 _ hN)
def Gb.set{A0:Rows}{N w top p K KC gm m r:Nat}{b0 b:B3}(G:Gb A0 N w top p K KC gm b0 b)(lw:gO b.A N top m/\gO b.U N top m/\gO b.C N top m)(hL:kB b.A N top p [r]):vK A0 N w top p m b0 (setB b p top r)/\top<=r/\r<N:=by
 obtain⟨hr1,hr2,hr3⟩:=(hL.mem r).mp (by simp);have ht:top<N:=by omega
 have z:∀i,top<=i->i<N->i≠r->g b.A i p=0:=λ i h1 h2 h3=>UJ λ y=>h3 (by simpa using(hL.mem i).mpr ⟨h1,h2,y⟩);have swg:∀i c,g (bC b.A top r) i c=g b.A (sw top r i) c:=λ i c=>jo G.tn.isA ht hr2 i c;have gt:g (bC b.A top r) top p=g b.A r p:=by rw[swg];unfold sw;rw[RC rfl]
 have T1:=G.tn.Ij ht hr2
 have z1:∀i,top<i->i<N->g (bC b.A top r) i p=0:=λ i h1 h2=>by
  rw[swg];unfold sw;rw[Rx (by omega)];by_cases h:i=r
  . rw[RC h];exact z top (Rv _) ht (by omega)
  . rw[Rx h];exact z i (by omega) h2 h
 have zs:∀i c,top<=i->i<N->c<p->g (bC b.A top r) i c=0:=λ i c h1 h2 h3=>by
  rw[swg];refine G.zs _ c ?_ (nI ht hr2 h2) h3;unfold sw;split
  . exact hr1
  . split
    . exact Rv _
    . exact h1
 have up:∀i,i<top->(bC b.A top r).getD i []=b0.A.getD i []/\(bC b.U top r).getD i []=b0.U.getD i []/\(bC b.C top r).getD i []=b0.C.getD i []:=λ i hi=>by
  obtain⟨a1,a2,a3⟩:=G.up i hi;exact⟨(vz G.tn.isA ht hr2 hr1 hi).trans a1,(vz G.tn.gd ht hr2 hr1 hi).trans a2,(vz G.tn.gN ht hr2 hr1 hi).trans a3⟩
 have lo:=And.intro (vJ G.tn.isA ht hr2 hr1 lw.1) (And.intro (vJ G.tn.gd ht hr2 hr1 lw.2.1) (vJ G.tn.gN ht hr2 hr1 lw.2.2));refine⟨?_,hr1,hr2⟩;unfold setB;by_cases hs:g (bC b.A top r) top p<0
 . rw[RC hs];refine⟨T1.neg ht,λ i hi=>?_,⟨By T1.isA ht lo.1,By T1.gd ht lo.2.1,By T1.gN ht lo.2.2⟩,λ i c h1 h2 h3=>?_,?_,λ i h1 h2=>?_⟩
   . obtain⟨a1,a2,a3⟩:=up i hi;exact⟨(Bb T1.isA ht hi).trans a1,(Bb T1.gd ht hi).trans a2,(Bb T1.gN ht hi).trans a3⟩
   . show g (gy (bC b.A top r) top) i c=0;rw[ki T1.isA ht];split
     . rw[zs top c (Rv _) ht h3];rfl
     . exact zs i c h1 h2 h3
   . show 0<g (gy (bC b.A top r) top) top p;rw[ki T1.isA ht,RC rfl];omega
   . show g (gy (bC b.A top r) top) i p=0;rw[ki T1.isA ht,Rx (by omega)];exact z1 i h1 h2
 . rw[Rx hs];exact⟨T1,up,lo,zs,by show 0<g (bC b.A top r) top p;rw[gt]at hs⊢;omega,z1⟩
def Ey(e0:Nat):Nat->Nat
 |0=>e0
 |t+1=>4*Ey e0 t+4
def Uy(e0:Nat):Nat->Nat
 |0=>0
 |t+1=>Uy e0 t+Ey e0 (t+1)+1
def Cy(e0:Nat):Nat->Nat
 |0=>0
 |t+1=>Uy e0 t+Cy e0 t+Ey e0 (t+1)+4
def Ry(N w e0:Nat):Prop:=∀t,t<N->t<w->Ey e0 (t+1)<60000000/\Uy e0 t+Ey e0 (t+1)<=120000000/\Uy e0 t+Cy e0 t<=120000000
instance (N w e0:Nat):Decidable (Ry N w e0):=by
 unfold Ry;exact decidable_of_iff (∀t,t<N->t<w->(Ey e0 (t+1)<60000000/\Uy e0 t+Ey e0 (t+1)<=120000000/\Uy e0 t+Cy e0 t<=120000000)) Iff.rfl
def vK.OO{A0:Rows}{N w top p e u v e' u' v':Nat}{b0 b c:B3}{ld:Nat->Nat}(S:fj A0 N w b0 top p ld e u v)(s:vK A0 N w top p (2^e') b0 b)(ht:top<N)(I:nk A0 N w top p e' u v b top c)(hN:top<=16)
 (h1:u+e'+1<=u') (h2:u+v+5<=v') (h9:e'+1<=v'):fj A0 N w c (top+1) (p+1) (λ i=>if i=top then p else ld i) e' u' v':=by
 have hup:∀i q,i<top->g b.A i q=g b0.A i q:=λ i q hi=>by unfold g;rw[(s.up i hi).1]
 have hA:∀i q,top<=i->g c.A i q=g b.A i q:=λ i q hi=>by unfold g;rw[(I.rA i hi).1]
 have hU:∀i q,top<=i->g c.U i q=g b.U i q:=λ i q hi=>by unfold g;rw[(I.rA i hi).2]
 have hC:∀i q,i≠top->g c.C i q=g b.C i q:=λ i q hi=>by unfold g;rw[I.rC i hi]
 have le:∀ {a x:Nat},a<=2^x->x<=u'->a<=2^u':=λ h hx=>RH h (Sa (by decide) hx);refine⟨I.tn,ht,⟨λ i q hi hN=>?_,λ i q hi hN=>?_,λ i q hi hN=>?_⟩,λ i q hi=>?_,λ i q hi hN hq=>?_,λ i hi=>?_,λ i j hij hj=>?_,λ i j hij hj=>?_⟩
 . rw[hA i q (by omega)];exact s.lo.1 i q (by omega) hN
 . rw[hU i q (by omega)];exact s.lo.2.1 i q (by omega) hN
 . rw[hC i q (by omega)];exact s.lo.2.2 i q (by omega) hN
 . by_cases h:i=top
   . subst h;refine⟨?_,?_,?_⟩
     . rw[hA i q (Rv _)];exact le (s.lo.1 i q (Rv _) ht) (by omega)
     . rw[hU i q (Rv _)];exact le (s.lo.2.1 i q (Rv _) ht) (by omega)
     . have h3:=I.sC q;have h4:i*2^(u+v)<=2^(u+v+4):=by rw[Ug _ _ 4,Uj];exact Sj _ (by omega)
       have h5:2^(u+v+4)*2<=2^v':=by rw[<-T7];exact Sa (by decide) h2
       have h6:2^e'*2<=2^v':=by rw[<-T7];exact Sa (by decide) h9
       omega
   . have hi':i<top:=by omega
     refine⟨le (I.sz i q hi').1 h1,le (I.sz i q hi').2 h1,?_⟩;rw[hC i q h];have:g b.C i q=g b0.C i q:=by unfold g;rw[(s.up i hi').2.2]
     rw[this];exact RH (S.hi i q hi').2.2 (Sa (by decide) (by omega))
 . rw[hA i q (by omega)];by_cases h:q=p
   . rw[h];exact s.z1 i (by omega) hN
   . exact s.zs i q (by omega) hN (by omega)
 . by_cases h:i=top
   . subst h;rw[RC rfl];refine⟨Sq p,?_,λ q hq=>?_⟩
     . rw[hA i p (Rv _)];exact s.tp
     . rw[hA i q (Rv _)];exact s.zs i q (Rv _) ht hq
   . have hi':i<top:=by omega
     rw[Rx h];obtain⟨a1,a2,a3⟩:=S.lead i hi';refine⟨SD a1,?_,λ q hq=>?_⟩
     . rw[I.ah i _ hi' a1,hup i _ hi'];exact a2
     . rw[I.ah i _ hi' (Uk hq a1),hup i _ hi'];exact a3 q hq
 . by_cases h:j=top
   . rw[RC h,Rx (by omega)];exact(S.lead i (by omega)).1
   . rw[Rx h,Rx (by omega)];exact S.mono i j hij (by omega)
 . by_cases h:j=top
   . subst h;rw[RC rfl];exact I.rd i hij
   . have hj':j<top:=by omega
     rw[Rx h];have:=S.red i j hij hj';have hl:=(S.lead j hj').1;rw[I.ah i _ (by omega) hl,I.ah j _ hj' hl,hup i _ (by omega),hup j _ hj'];exact this
def Cx(e0:Nat):Nat->Nat
 |0=>0
 |t+1=>Uy e0 t+Cx e0 t+Ey e0 (t+1)+5
def fJ.gb{A0:Rows}{N w top p K KC:Nat}{b0 b c:B3}(h:fJ N top p b c):∀ {gm:Nat},Gb A0 N w top p K KC gm b0 b->∃gm',Gb A0 N w top p K KC gm' b0 c:=by
 induction h with
 |refl b=>exact λ G=>⟨_,G⟩
 |head s _ ih=>
  intro gm G;obtain⟨L,k,j,hL,rfl⟩:=s;exact ih (G.step hL).1
def fj.Hk{A0:Rows}{N w t p e u v r:Nat}{b c:B3}{ld:Nat->Nat}(S:fj A0 N w b t p ld e u v)(hN:N<=16)(hp:p<w)(h:fJ N t p b c)(l:kB c.A N t p [r]):
 vK A0 N w t p (2^(4*e+4)) b (setB c p t r)/\t<N/\∀k,k<=t->nk A0 N w t p (4*e+4) u v (setB c p t r) k (jy p t k (setB c p t r)):=by
 obtain⟨gm,G⟩:=h.gb (Gb.start S);obtain⟨s1,h1,h2⟩:=G.set (G.low hN) l;have ht:t<N:=Vy h1 h2;refine⟨s1,ht,λ k=>?_⟩;induction k with
 |zero=>exact λ _=>nk.start s1.tn λ q=>s1.lo.2.2 t q (Rv _) ht
 |succ k ih=>
  intro hk;refine(ih (Tq hk)).step hk ht hp s1.tp (λ q hq=>s1.zs t q (Rv _) ht hq) (λ q=>⟨s1.lo.1 t q (Rv _) ht,s1.lo.2.1 t q (Rv _) ht⟩) λ i q hi=>?_;obtain⟨a1,a2,a3⟩:=s1.Iq hi q;rw[a1,a2,a3];exact S.hi i q hi
def eQ.str{A:Rows}{N w e0:Nat}(hA:aP N w A)(hlo:gO A N 0 (2^e0))(hN:N<=16){p t:Nat}{b:B3}(h:eQ A N p t b):p<=w->∃ld,fj A N w b t p ld (Ey e0 t) (Uy e0 t) (Cx e0 t):=by
 induction h with
 |start=>exact λ _=>⟨_,fj.start hA hlo⟩
 |next _ c ih=>
  intro hp;obtain⟨ld,S⟩:=ih (Tq hp);cases c with
  |none l=>exact⟨ld,S.skip l⟩
  |one g l=>
   obtain⟨s1,ht,I⟩:=S.Hk hN hp g l;exact⟨_,vK.OO (e':=Ey e0 (_+1)) (u':=Uy e0 (_+1)) (v':=Cx e0 (_+1)) S s1 ht (I _ (Rv _)) (by omega) (Rv _) (by show _<=Uy e0 _+Cx e0 _+Ey e0 (_+1)+5;omega) (by show _<=Uy e0 _+Cx e0 _+Ey e0 (_+1)+5;omega)⟩
def fj.O8{A0:Rows}{N w t p e u v z:Nat}{b:B3}{ld:Nat->Nat}(S:fj A0 N w b t p ld e u v)(hp:p<w)(hN:N<=16)(hu:u<=z)(hv:v<=z)(hz:t<N->u+v+(4*e+4)+6<=z):Dn N p t z b:=by
 have up:∀ {a x:Nat},a<=2^x->x<=z->a<=2^z:=λ h hx=>RH h (Sa (by decide) hx);refine⟨λ c h i q hi=>?_,λ c r k h l hk i q hi=>?_⟩
 . obtain⟨gm,G⟩:=h.gb (Gb.start S);by_cases ht:i<t
   . obtain⟨a1,a2,a3⟩:=G.up i ht;have:=S.hi i q ht;unfold g at this⊢;rw[a1,a2,a3];exact⟨up this.1 hu,up this.2.1 hu,up this.2.2 hv⟩
   . have ht':=SI ht;have hz:=hz (by omega);have w1:=G.low hN;exact⟨up (w1.1 i q ht' hi) (by omega),up (w1.2.1 i q ht' hi) (by omega),up (w1.2.2 i q ht' hi) (by omega)⟩
 . obtain⟨s,ht,I'⟩:=S.Hk hN hp h l;have hz9:=hz ht;have I:=I' k hk
   have aA:(g (jy p t k (setB c p t r)).A i q).natAbs<=2^z/\(g (jy p t k (setB c p t r)).U i q).natAbs<=2^z:=by
    by_cases hik:i<k
    . exact⟨up (I.sz i q hik).1 (by omega),up (I.sz i q hik).2 (by omega)⟩
    . obtain⟨b1,b2⟩:=I.rA i (SI hik);unfold g;rw[b1,b2];by_cases hit:i<t
      . obtain⟨a1,a2,a3⟩:=s.Iq hit q;have:=S.hi i q hit;rw[<-a1,<-a2]at this;exact⟨up this.1 hu,up this.2.1 hu⟩
      . have hit':=SI hit;exact⟨up (s.lo.1 i q hit' hi) (by omega),up (s.lo.2.1 i q hit' hi) (by omega)⟩
   refine⟨aA.1,aA.2,?_⟩;by_cases hit:i=t
   . subst hit;refine RH (I.sC q) ?_;have f1:2^(4*e+4)<=2^(u+v+(4*e+4)):=Sa (by decide) (by omega);have f2:k*2^(u+v)<=16*2^(u+v+(4*e+4)):=SN (by omega) (Sa (by decide) (by omega));have f3:2^(u+v+(4*e+4)+6)<=2^z:=Sa (by decide) hz9;rw[Ug _ _ 6]at f3;omega
   . have:=I.rC i hit;unfold g;rw[this];by_cases hlt:i<t
     . have a:=(s.Iq hlt q).2.2;have:=(S.hi i q hlt).2.2;rw[<-a]at this;exact up this hv
     . exact up (s.lo.2.2 i q (SI hlt) hi) (by omega)
def wY(n w:Nat)(f:Nat->Nat->Int):Rows:=(List.range n).map λ i=>(List.range w).map (f i)
def ME{n w:Nat}{f:Nat->Nat->Int}:aP n w (wY n w f):=⟨by simp[wY],λ r hr=>by
 obtain⟨i,_,rfl⟩:=Sl.mp hr;simp⟩
def DV{n w i c:Nat}{f:Nat->Nat->Int}(hi:i<n)(hc:c<w):g (wY n w f) i c=f i c:=by
 have h1:(wY n w f).getD i []=(List.range w).map (f i):=by
  unfold wY;rw[aN (by simpa using hi),Te,Ud]
 unfold g;rw[h1,aN (by simpa using hc),Te,Ud]
section
variable (F:Rows)(m w t s:Nat)
def Q0(i c:Nat):Int:=
 if i<m then(if c<w then g F i c else if i<s then 0 else g F i (c-w))
 else if c<w then(if i-m<t then 0 else g F (i-m) c)
 else if i-m<s then g F (i-m) (c-w)else if i-m<t then-g F (i-m) (c-w)else 0
def Q2(i c:Nat):Int:=
 if i<m then(if i<s then dl (m+i) c else dl i c)
 else if i-m<s then dl (i-m) c-dl i c else if i-m<t then dl i c-dl (i-m) c else dl i c
def Rj(i c:Nat):Int:=
 if i<m then(if i<t then dl i c+dl (m+i) c else dl i c)
 else if i-m<s then dl (i-m) c else dl i c
def tw:B3:=⟨wY (m+m) (w+w) (Q0 F m w t s),wY (m+m) (m+m) (Q2 m t s),wY (m+m) (m+m) (Rj m t s)⟩
end
section
variable {F:Rows}{m w t s:Nat}{ld:Nat->Nat}
def tv(F:Rows)(m w s:Nat):B3:=⟨gy (tw F m w m s).A (m+s),gy (tw F m w m s).U (m+s),gy (tw F m w m s).C (m+s)⟩
end
def tl(H:Rows)(a w:Nat):Rows:=(H.drop a).map (List.drop w)
section
variable {X Y:Rows}{N w r top:Nat}{ld f:Nat->Nat}
def Cq(rw_:r<=w)(hf:∀q,q<r->f q<N)(out:∀i c,i<N->c<w->r<=c->g X i c=0)(kC:∀q c,q<r->c<r->q<c->g X (f q) c=0)(nz:∀q,q<r->g X (f q) q≠0):∀q,q<=r->∃P:Int,P≠0/\∀j,j<q->ax X N w λ c=>P*dl j c
 |0,_=>⟨1,by decide,λ j hj=>absurd hj (Sh _)⟩
 |q+1,hq=>by
  obtain⟨P,hP,h⟩:=Cq rw_ hf out kC nz q (by omega);refine⟨P*g X (f q) q,Int.mul_ne_zero hP (nz q hq),λ j hj=>?_⟩;by_cases hjq:j<q
  . refine(ax.smul (g X (f q) q) (h j hjq)).eq λ c _=>?_;show P*g X (f q) q*dl j c=g X (f q) q*(P*dl j c);rw[SF P,Sw]
  . have e:j=q:=by omega
    subst e;have h1:=ax.mB (-1) (ax.smul P (ax.row (X:=X) (w:=w) (hf j hq))) (ax.comb (X:=X) (n:=N) (w:=w) (a:=λ l=>g X (f j) l) (v:=λ l c=>P*dl l c) λ l hl=>h l hl);refine h1.eq λ c hc=>?_;show P*g X (f j) j*dl j c=P*g X (f j) c+ -1*S j λ l=>g X (f j) l*(P*dl l c)
    have e1:(S j λ l=>g X (f j) l*(P*dl l c))=if c<j then g X (f j) c*P else 0:=by
     by_cases h2:c<j
     . rw[RC h2,<-jf h2 λ l=>g X (f j) l*P];exact aC λ l _=>by rw[Sw]
     . rw[Rx h2];exact iF λ l hl=>by rw[bK (show l≠c by omega),RN,RN]
    rw[e1];by_cases h2:c<j
    . rw[RC h2,bK (show j≠c by omega),SF (g X (f j) c)];omega
    . rw[Rx h2];by_cases h3:c=j
      . subst h3;rw[bP];omega
      . rw[bK (show j≠c by omega)]
        have:g X (f j) c=0:=by
         by_cases h4:c<r
         . exact kC j c hq h4 (by omega)
         . exact out _ c (hf j hq) hc (by omega)
        rw[this];omega
def OF(st:bU Y top w ld)(same:cR X N Y top w)(rw_:r<=w)(hf:∀q,q<r->f q<N)(out:∀i c,i<N->c<w->r<=c->g X i c=0)(kC:∀q c,q<r->c<r->q<c->g X (f q) c=0)(nz:∀q,q<r->g X (f q) q≠0):top=r/\(∀q,q<r->ld q=q)/\∀i c,i<top->c<w->r<=c->g Y i c=0:=by
 obtain⟨P,hP,hu⟩:=Cq rw_ hf out kC nz r (Rv _)
 have ge:∀i,i<top->i<=ld i:=λ i=>by
  induction i with
  |zero=>exact λ _=>RX _
  |succ i ih=>exact λ hi=>Vy (ih (by omega)) (st.mono i (i+1) (Sq i) hi)
 have yo:∀i c,i<top->c<w->r<=c->g Y i c=0:=λ i c hi hc hr=>by
  obtain⟨z,hz⟩:=same.of i hi;rw[hz c hc];exact iF λ k hk=>by rw[out k c hk hc hr,RN]
 have lt:∀i,i<top->ld i<r:=λ i hi=>VM λ z=>by
  obtain⟨h1,h2,_⟩:=st.lead i hi;rw[yo i _ hi h1 z]at h2;exact absurd h2 (by decide)
 have key:∀q,q<r->q<top/\ld q=q:=λ q=>by
  induction q using Nat.strongRecOn with
  |ind q ih=>
   intro hq;have hv:=ax.trans same.to (hu q hq);rcases st.at (q:=q) hv (by omega) (λ c hc=>by show P*dl q c=0;rw[bK (by omega),RN])with⟨i,h1,h2,_⟩|h0
   . have h3:=ge i h1;by_cases e:i=q
     . subst e;exact⟨h1,h2⟩
     . have:=(ih i (by omega) (by omega)).2;omega
   . exact absurd h0 (by show P*dl q q≠0;rw[bP,Tv];exact hP)
 refine⟨UC (SI λ z=>?_) (SI λ z=>?_),λ q hq=>(key q hq).2,yo⟩
 . have h1:=lt r z;have h2:=ge r z;omega
 . have h1:=(key top z).1;omega
end
structure Fr(X Y:Rows)(N w r:Nat):Prop where
 is:aP N w Y
 rN:r<=N
 rW:r<=w
 zs:∀i c,r<=i->i<N->c<w->g Y i c=0
 out:∀i c,i<N->c<w->r<=c->g Y i c=0
 up:∀i c,i<r->c<i->g Y i c=0
 pos:∀i,i<r->0<g Y i i
 red:∀i j,i<j->j<r->0<=g Y i j/\g Y i j<g Y j j
 ko:∀v:Nat->Int,ax X N w v↔ax Y r w v
def Fr.rq{X Y:Rows}{N w r:Nat}(h:Fr X Y N w r):bU Y r w λ i=>i:=⟨λ i hi=>⟨RQ hi h.rW,h.pos i hi,λ c hc=>h.up i c hi hc⟩,λ i j hij _=>hij⟩
def IL{X:Rows}{N w r top e u v:Nat}{c:B3}{ld f:Nat->Nat}(H:fj X N w c top w ld e u v)(rw_:r<=w)(hf:∀q,q<r->f q<N)(out:∀i c,i<N->c<w->r<=c->g X i c=0)(kC:∀q c,q<r->c<r->q<c->g X (f q) c=0)(nz:∀q,q<r->g X (f q) q≠0):top=r/\Fr X c.A N w r:=by
 have S1:=H.Cg;have same:=S1.IJ;obtain⟨e,el,yo⟩:=OF ⟨S1.lead,S1.mono⟩ same rw_ hf out kC nz;subst e;have zs:∀i c',top<=i->i<N->c'<w->g c.A i c'=0:=λ i c' h1 h2 h3=>S1.zs i c' h1 h2 h3;refine⟨rfl,S1.tn.isA,S1.le,rw_,zs,λ i c' h1 h2 h3=>?_,λ i c' h1 h2=>?_,λ i hi=>?_,λ i j hij hj=>?_,λ v=>⟨ax.trans same.to,ax.trans same.of⟩⟩
 . by_cases h:i<top
   . exact yo i c' h h2 h3
   . exact zs i c' (by omega) h1 h2
 . exact(S1.lead i h1).2.2 c' (by rw[el i h1];exact h2)
 . have:=(S1.lead i hi).2.1;rwa [el i hi]at this
 . have:=S1.red i j hij hj;rwa [el j hj]at this
def Fr.prod{X Y:Rows}{N w r:Nat}{f:Nat->Nat}(h:Fr X Y N w r)(hf:∀q,q<r->f q<N)(kC:∀q c,q<r->c<r->q<c->g X (f q) c=0):(Pr r λ q=>g Y q q)∣Pr r λ q=>g X (f q) q:=by
 have hz:∀q,∃z:Nat->Int,q<r->∀c,c<w->g X (f q) c=S r λ k=>z k*g Y k c:=λ q=>by
  by_cases hq:q<r
  . obtain⟨z,hz⟩:=(h.ko _).mp (ax.row (X:=X) (w:=w) (hf q hq));exact⟨z,λ _=>hz⟩
  . exact⟨λ _=>0,λ z=>absurd z hq⟩
 let B:Fn:=λ q=>Classical.choose (hz q)
 have eB:∀q,q<r->∀c,c<w->g X (f q) c=S r λ k=>B q k*g Y k c:=λ q=>Tg (hz q)
 have e1:D r (λ q c=>g X (f q) c)=D r B*D r (g Y):=by
  rw[<-IU];exact di λ q c hq hc=>eB q hq c (by have:=h.rW;omega)
 rw[wj (λ q c hq hc hqc=>kC q c hq hc hqc),Nl (λ q c hq hc hqc=>h.up q c hq hqc)]at e1;exact⟨D r B,by rw[e1,SF]⟩
def Fr.fix{X Y:Rows}{N w r q:Nat}{a:Int}(h:Fr X Y N w r)(hq:q<r)(ha:0<a)(h1:∀i,i<N->a∣g X i q)(h2:ax X N w λ c=>a*dl q c):g Y q q=a/\(∀i,i<r->i≠q->g Y i q=0)/\∀c,c<w->c≠q->g Y q c=0:=by
 have rW:=h.rW
 have dv:∀v:Nat->Int,ax X N w v->a∣v q:=λ v ⟨z,hz⟩=>by
  rw[hz q (by omega)]
  have:∀n,n<=N->a∣S n λ k=>z k*g X k q:=λ n=>by
   induction n with
   |zero=>exact λ _=>⟨0,by rw[RN];rfl⟩
   |succ n ih=>exact λ hn=>Int.dvd_add (ih (by omega)) (T9 (h1 n (by omega)) (VN _ _))
  exact this N (Rv _)
 have row:∀i,i<r->ax X N w (g Y i):=λ i hi=>(h.ko _).mpr (ax.row hi)
 have e1:g Y q q=a:=by
  have d1:=dv _ (row q hq)
  have d2:g Y q q∣a:=by
   rcases h.rq.at (q:=q) ((h.ko _).mp h2) (by omega) (λ c hc=>by show a*dl q c=0;rw[bK (by omega),RN])with⟨i,_,e,hd⟩|h0
   . have e:i=q:=e;subst e;have:g Y i i∣a*dl i i:=hd;rwa [bP,Tv]at this
   . have h0:a*dl q q=0:=h0;rw[bP]at h0;omega
  exact UO (TX (h.pos q hq)) (TX ha) d2 d1
 have e2:∀i,i<r->i≠q->g Y i q=0:=λ i hi hne=>by
  by_cases hlt:q<i
  . exact h.up i q hi hlt
  . obtain⟨r1,r2⟩:=h.red i q (by omega) hq;have d:=dv _ (row i hi);rw[e1]at r2;exact Tf d (by omega)
 refine⟨e1,e2,λ c hc hne=>?_⟩;have hv:ax Y r w λ c=>g Y q c-a*dl q c:=(h.ko _).mp (ax.sub (row q hq) h2)
 have:=h.rq.Oz hv (λ k hk=>by
  show 0<=g Y q k-a*dl q k/\g Y q k-a*dl q k<g Y k k;have hp:=h.pos k hk;by_cases e:q=k
  . subst e;rw[bP,e1];omega
  . rw[bK e,RN,Vx];by_cases hlt:q<k
    . exact h.red q k hlt hk
    . rw[h.up q k hq (by omega)];omega) c hc
 have:g Y q c-a*dl q c=0:=this;rw[bK (RK hne)]at this;omega
def Fr.dvd{X Y:Rows}{N w r q:Nat}{v:Nat->Int}(h:Fr X Y N w r)(hq:q<r)(hv:ax X N w v)(h0:∀c,c<q->v c=0):g Y q q∣v q:=by
 rcases h.rq.at (q:=q) ((h.ko _).mp hv) (by have:=h.rW;omega) h0 with⟨i,_,e,hd⟩|h0
 . have e:i=q:=e;subst e;exact hd
 . rw[h0];exact⟨0,by rw[RN]⟩
structure Lo(X:Rows)(N w r:Nat):Prop where
 is:aP N w X
 rN:r<=N
 rW:r<=w
 out:∀i c,i<N->c<w->r<=i\/r<=c->g X i c=0
 kC:∀i c,i<r->c<r->i<c->g X i c=0
 pos:∀i,i<r->0<g X i i
 le:∀i c,c<i->i<r->0<=g X i c/\g X i c<=g X i i
def Fr.lo{X Y:Rows}{N w r:Nat}(h:Fr X Y N w r):Lo (bq Y w) w N r:=by
 have rN:=h.rN;have rW:=h.rW;have at_:∀i c,i<N->c<w->g (bq Y w) c i=g Y i c:=λ i c hi hc=>cG h.is hi hc;refine⟨cF h.is,rW,rN,λ i c hi hc ho=>?_,λ i c hi hc hic=>?_,λ i hi=>?_,λ i c hci hi=>?_⟩
 . rw[at_ c i hc hi];rcases ho with z|z
   . exact h.out c i hc hi z
   . exact h.zs c i z hc hi
 . rw[at_ c i (by omega) (by omega)];exact h.up c i hc hic
 . rw[at_ i i (by omega) (by omega)];exact h.pos i hi
 . rw[at_ c i (by omega) (by omega),at_ i i (by omega) (by omega)];obtain⟨a,b⟩:=h.red c i hci hi;exact⟨a,TX b⟩
def Lo.fr{X:Rows}{N w r top e u v:Nat}{c:B3}{ld:Nat->Nat}(L:Lo X N w r)(H:fj X N w c top w ld e u v):top=r/\Fr X c.A N w r/\(Pr r λ q=>g c.A q q)∣Pr r λ q=>g X q q:=by
 have rN:=L.rN;have h:=IL (f:=λ q=>q) H L.rW (λ q hq=>by omega) (λ i c hi hc hr=>L.out i c hi hc (.inr hr)) (λ q c hq hc=>L.kC q c hq hc) λ q hq=>Ul (L.pos q hq);exact⟨h.1,h.2,h.2.prod (f:=λ q=>q) (λ q hq=>by omega) λ q c hq hc=>L.kC q c hq hc⟩
def Lo.abs{X:Rows}{N w r M:Nat}(L:Lo X N w r)(hM:(Pr r λ q=>g X q q)<=(M:Int))(i c:Nat)(hi:i<N)(hc:c<w):(g X i c).natAbs<=M:=by
 by_cases hir:i<r
 . by_cases hcr:c<r
   . have h1:=zu (λ q hq=>L.pos q hq) i hir;by_cases h2:i<c
     . rw[L.kC i c hir hcr h2];exact RX _
     . by_cases h3:c=i
       . subst h3;have:=L.pos c hir;omega
       . have:=L.le i c (by omega) hir;omega
   . rw[L.out i c hi hc (.inr (by omega))];exact RX _
 . rw[L.out i c hi hc (.inl (by omega))];exact RX _
def Lr{r M:Nat}{X:Fn}{t y:Nat->Int}(kC:∀i c,i<r->c<r->i<c->X i c=0)(pos:∀i,i<r->0<X i i)(le:∀i c,c<i->i<r->0<=X i c/\X i c<=X i i)(hy:∀c,c<r->(y c).natAbs<=M)(e:∀c,c<r->y c=S r λ j=>t j*X j c):∀d c,c<r->r-1-c=d->(t c*X c c).natAbs<=2^d*M:=λ d=>by
 induction d using Nat.strongRecOn with
 |ind d ih=>
  intro c hc hd;have h1:=e c hc
  have sp:(S r λ j=>t j*X j c)=t c*X c c+S (r-1-c) λ k=>t (c+1+k)*X (c+1+k) c:=by
   have er:r=(c+1)+(r-1-c):=by omega
   conv=>lhs;rw[er]
   rw[xV];congr 1;show S c (λ j=>t j*X j c)+t c*X c c=_;rw[iF λ j hj=>by rw[kC j c (by omega) hc hj,RN],Vh]
  have bd:∀n,n<=r-1-c->(S n λ k=>t (c+1+k)*X (c+1+k) c).natAbs<=(2^d-2^(d-n))*M:=λ n=>by
   induction n with
   |zero=>intro _;exact RX _
   |succ n ih2=>
    intro hn;have h3:=ih2 (by omega);have h4:=ih (d-1-n) (by omega) (c+1+n) (by omega) (by omega)
    have h5:(t (c+1+n)*X (c+1+n) c).natAbs<=2^(d-1-n)*M:=by
     refine RH ?_ h4;rw[SM,SM];refine Sj _ ?_;have:=le (c+1+n) c (by omega) (by omega);omega
    have h6:(S (n+1) λ k=>t (c+1+k)*X (c+1+k) c).natAbs<=(S n λ k=>t (c+1+k)*X (c+1+k) c).natAbs+(t (c+1+n)*X (c+1+n) c).natAbs:=Ws _ _;refine RH h6 (RH (UL h3 h5) ?_);rw[<-Uh];refine R9 _ ?_;have p1:2^(d-n)=2*2^(d-1-n):=by rw[show d-n=(d-1-n)+1 by omega,T7,Uj]
    have p2:2^(d-n)<=2^d:=Sa (by decide) (by omega);rw[show d-(n+1)=d-1-n by omega];omega
  have h2:=bd (r-1-c) (Rv _);rw[hd,Tc]at h2;have h3:=hy c hc;rw[h1,sp]at h3;have h4:(t c*X c c).natAbs<=M+(2^d-2^0)*M:=by rw[hd]at h3;omega
  refine RH h4 ?_
  have:(2^d-2^0)*M+M=2^d*M:=by
   have p:1<=2^d:=UZ;rw[show(2^d-2^0)*M+M=((2^d-1)+1)*M by rw[Uh,Vo],Nat.sub_add_cancel p]
  omega
def NN{r M:Nat}{Y:Fn}{t x:Nat->Int}(up:∀i c,i<r->c<i->Y i c=0)(pos:∀i,i<r->0<Y i i)(red:∀i j,i<j->j<r->0<=Y i j/\Y i j<Y j j)(hx:∀c,c<r->(x c).natAbs<=M)(e:∀c,c<r->x c=S r λ k=>t k*Y k c):∀c,c<r->(t c).natAbs<=2^c*M:=λ c=>by
 induction c using Nat.strongRecOn with
 |ind c ih=>
  intro hc;have h1:=e c hc
  have sp:(S r λ k=>t k*Y k c)=S c (λ k=>t k*Y k c)+t c*Y c c:=by
   have er:r=(c+1)+(r-1-c):=by omega
   conv=>lhs;rw[er]
   rw[xV,iF (n:=r-1-c) λ k hk=>by rw[up (c+1+k) c (by omega) (by omega),RN],TV];rfl
  have bd:∀n,n<=c->(S n λ k=>t k*Y k c).natAbs<=(2^n-1)*M*(Y c c).natAbs:=λ n=>by
   induction n with
   |zero=>intro _;exact RX _
   |succ n ih2=>
    intro hn;have h3:=ih2 (by omega);have h4:=ih n (by omega) (by omega)
    have h5:(t n*Y n c).natAbs<=2^n*M*(Y c c).natAbs:=by
     rw[SM];refine SN h4 ?_;have:=red n c (by omega) hc;omega
    have h6:(S (n+1) λ k=>t k*Y k c).natAbs<=(S n λ k=>t k*Y k c).natAbs+(t n*Y n c).natAbs:=Ws _ _;refine RH h6 (RH (UL h3 h5) ?_);rw[<-Uh,<-Uh];refine R9 _ (R9 _ ?_);have p:1<=2^n:=UZ;rw[T7];omega
  have h2:=bd c (Rv _);have h3:=hx c hc;have hp:=pos c hc;rw[h1,sp]at h3;have h4:(t c*Y c c).natAbs<=M+(2^c-1)*M*(Y c c).natAbs:=by omega
  have h5:(t c).natAbs*(Y c c).natAbs<=2^c*M*(Y c c).natAbs:=by
   rw[<-SM];refine RH h4 ?_;have p:1<=2^c:=UZ
   have e1:2^c*M*(Y c c).natAbs=(2^c-1)*M*(Y c c).natAbs+M*(Y c c).natAbs:=by
    rw[<-Uh];congr 1;rw[show(2^c-1)*M+M=((2^c-1)+1)*M by rw[Uh,Vo],Nat.sub_add_cancel p]
   rw[e1];have:M<=M*(Y c c).natAbs:=S7 _ (by omega);omega
  exact Nat.le_of_mul_le_mul_right h5 (by omega)
def rD{X B:Rows}{n w w' a b:Nat}(hX:aP n w X)(hB:aP w w' B)(w8:w<=8)(bX:∀i c,i<n->c<w->(g X i c).natAbs<=2^a)(bB:∀i c,i<w->c<w'->(g B i c).natAbs<=2^b):∀i c,i<n->c<w'->(g (mulM X B w') i c).natAbs<=2^(a+b+3):=λ i c hi hc=>by
 rw[d5 hX hB hi]
 have:=IS (n:=w) (f:=λ k=>g X i k*g B k c) (m:=2^a*2^b) λ k hk=>by
  rw[SM];exact SN (bX i k hi hk) (bB k c hk hc)
 refine RH this ?_;rw[show a+b+3=3+(a+b) by omega,Ug _ 3,Ug];exact R9 _ w8
structure Zr(N w r:Nat)(b:B3):Prop where
 iA:aP N w b.A
 iU:aP N N b.U
 iC:aP N N b.C
 a:∀i c,r<=i->i<N->g b.A i c=0
 u:∀i c,i<N->c<N->r<=i\/r<=c->g b.U i c=dl i c
 c:∀i c,i<N->c<N->r<=i\/r<=c->g b.C i c=dl i c
section
variable {N w r p top:Nat}{b:B3}
def Ci{Y:Rows}{k j:Nat}{q:Int}(iY:aP N N Y)(hk:k<N)(hj:j<N)(kr:k<r)(jr:j<r)(h:∀i c,i<N->c<N->r<=i\/r<=c->g Y i c=dl i c)(i c:Nat)(hi:i<N)(hc:c<N)(ho:r<=i\/r<=c):g (aV Y k q j) i c=dl i c:=by
 rw[dH iY hk hj];by_cases e:i=k
 . subst e;rw[RC rfl,h i c hi hc ho,h j c hj hc (.inr (by omega)),bK (show j≠c by omega),RN,Vx]
 . rw[Rx e];exact h i c hi hc ho
def Zr.take(z:Zr N w r b){k j:Nat}{q q':Int}(hk:k<N)(hj:j<N)(kr:k<r)(jr:j<r):Zr N w r ⟨aV b.A k q j,aV b.U k q j,aV b.C j q' k⟩:=by
 refine⟨mM z.iA hk hj,mM z.iU hk hj,mM z.iC hj hk,λ i c h1 h2=>?_,Ci z.iU hk hj kr jr z.u,Ci z.iC hj hk jr kr z.c⟩;show g (aV b.A k q j) i c=0;rw[dH z.iA hk hj,Rx (by omega)];exact z.a i c h1 h2
def Zr.lt(z:Zr N w r b){L:List Nat}(hL:kB b.A N top p L){k:Nat}(hk:k∈L):top<=k/\k<N/\k<r:=by
 obtain⟨h1,h2,h3⟩:=(hL.mem k).mp hk;exact⟨h1,h2,VM λ y=>h3 (z.a k p y h2)⟩
def Zr.reach{c:B3}(h:fJ N top p b c):Zr N w r b->Zr N w r c:=by
 induction h with
 |refl b=>exact λ z=>z
 |head s _ ih=>
  intro z;obtain⟨L,k,j,hL,rfl⟩:=s;obtain⟨_,k2,k3⟩:=z.lt hL (k:=k) (by simp);obtain⟨_,j2,j3⟩:=z.lt hL (k:=j) (by simp);exact ih (z.take k2 j2 k3 j3)
def IC{Y:Rows}{k o:Nat}(iY:aP N N Y)(hk:k<N)(ho:o<N)(kr:k<r)(or_:o<r)(h:∀i c,i<N->c<N->r<=i\/r<=c->g Y i c=dl i c)(i c:Nat)(hi:i<N)(hc:c<N)(hh:r<=i\/r<=c):g (bC Y k o) i c=dl i c:=by
 rw[jo iY hk ho];by_cases hr:r<=i
 . have e:sw k o i=i:=by unfold sw;rw[Rx (by omega),Rx (by omega)]
   rw[e];exact h i c hi hc hh
 . have hs:sw k o i<r:=nI kr or_ (by omega);rw[h _ c (nI hk ho hi) hc (.inr (by omega)),bK (by omega),bK (by omega)]
def Jj{Y:Rows}{k:Nat}(iY:aP N N Y)(hk:k<N)(kr:k<r)(h:∀i c,i<N->c<N->r<=i\/r<=c->g Y i c=dl i c)(i c:Nat)(hi:i<N)(hc:c<N)(hh:r<=i\/r<=c):g (gy Y k) i c=dl i c:=by
 rw[ki iY hk];by_cases e:i=k
 . subst e;rw[RC rfl,h i c hi hc hh,bK (show i≠c by omega)];rfl
 . rw[Rx e];exact h i c hi hc hh
def Zr.set{c:B3}{s:Nat}(z:Zr N w r c)(hL:kB c.A N top p [s]):Zr N w r (setB c p top s)/\top<r/\top<N:=by
 obtain⟨s1,s2,s3⟩:=z.lt hL (k:=s) (by simp);have tr:top<r:=by omega
 have tN:top<N:=by omega
 have z1:Zr N w r ⟨bC c.A top s,bC c.U top s,bC c.C top s⟩:=by
  refine⟨mK z.iA tN s2,mK z.iU tN s2,mK z.iC tN s2,λ i q h1 h2=>?_,IC z.iU tN s2 tr s3 z.u,IC z.iC tN s2 tr s3 z.c⟩;show g (bC c.A top s) i q=0;rw[jo z.iA tN s2,show sw top s i=i by unfold sw;rw[Rx (by omega),Rx (by omega)]];exact z.a i q h1 h2
 refine⟨?_,tr,tN⟩;unfold setB;split
 . refine⟨qv z1.iA tN,qv z1.iU tN,qv z1.iC tN,λ i q h1 h2=>?_,Jj z1.iU tN tr z1.u,Jj z1.iC tN tr z1.c⟩;show g (gy (bC c.A top s) top) i q=0;rw[ki z1.iA tN,Rx (by omega)];exact z1.a i q h1 h2
 . exact z1
def Zr.low(z:Zr N w r b)(tr:top<r)(tN:top<N):∀k,k<=top->Zr N w r (jy p top k b)
 |0,_=>z
 |k+1,hk=>by
  have ih:=Zr.low z tr tN k (by omega);unfold jy;exact ih.take (by omega) tN (by omega) tr
def eQ.zr{X:Rows}(iX:aP N w X)(h0:∀i c,r<=i->i<N->c<w->g X i c=0){p t:Nat}{c:B3}(h:eQ X N p t c):Zr N w r c:=by
 induction h with
 |start=>
  refine⟨iX,b_ N,b_ N,λ i c h1 h2=>?_,λ i c hi hc _=>cQ hi hc,λ i c hi hc _=>cQ hi hc⟩;by_cases hc:c<w
  . exact h0 i c h1 h2 hc
  . unfold g;rw[mT (by rw[iX.row h2];omega)]
 |next _ cl ih=>
  cases cl with
  |none l=>exact ih
  |one gr l=>
   obtain⟨z,tr,tN⟩:=(Zr.reach gr ih).set l;exact z.low tr tN _ (Rv _)
end
def qd{f h:Nat->Int}:∀ {n:Nat},(∀i,i<n->f i=h i)->Pr n f=Pr n h
 |0,_=>rfl
 |n+1,e=>by
  show Pr n f*f n=Pr n h*h n;rw[qd λ i hi=>e i (SD hi),e n (Sq n)]
def Lo.turn{X:Rows}{N w r top e u v b:Nat}{c:B3}{ld:Nat->Nat}(L:Lo X N w r)(r8:r<=8)(hC:eQ X N w top c)(H:fj X N w c top w ld e u v)(hM:(Pr r λ q=>g X q q)<=((2^b:Nat):Int)):∀i j,i<N->j<N->(g c.U i j).natAbs<=2^(b+8)/\(g c.C i j).natAbs<=2^(b+8):=by
 have rN:=L.rN;have rW:=L.rW;have z:=hC.zr L.is (r:=r) λ i c h1 h2 h3=>L.out i c h2 h3 (.inl h1);obtain⟨et,F,dv⟩:=L.fr H;subst et;have pX:0<Pr top λ q=>g X q q:=nN λ q hq=>L.pos q hq;have hY:(Pr top λ q=>g c.A q q)<=((2^b:Nat):Int):=Td (VI pX dv) hM;have bX:=L.abs hM
 have bY:∀i j,i<N->j<w->(g c.A i j).natAbs<=2^b:=λ i j hi hj=>by
  have hT:(Pr top λ q=>g (bq c.A w) q q)<=((2^b:Nat):Int):=by
   have e1:(Pr top λ q=>g (bq c.A w) q q)=Pr top λ q=>g c.A q q:=qd λ q hq=>cG F.is (by omega) (by omega);rw[e1];exact hY
  have:=F.lo.abs hT j i hj hi;rwa [cG F.is hi hj]at this
 have one:1<=2^(b+8):=UZ;have d1:∀a b',(dl a b').natAbs<=2^(b+8):=λ a b'=>by unfold dl;split<;>(try exact one);exact RX _
 have up:∀ {d:Nat},d<=8->2^d*2^b<=2^(b+8):=λ{d} h=>by rw[<-Ug];exact Sa (by decide) (by omega)
 refine λ i j hi hj=>⟨?_,?_⟩
 . by_cases ho:top<=i\/top<=j
   . rw[z.u i j hi hj ho];exact d1 _ _
   . have hi':i<top:=by omega
     have hj':j<top:=by omega
     have s:=Lr (r:=top) (M:=2^b) (X:=g X) (t:=g c.U i) (y:=g c.A i) L.kC L.pos L.le (λ c' hc'=>bY i c' hi (by omega)) (λ c' hc'=>by
      rw[H.tn.ua i c' hi (by omega)];exact CW rN λ k h1 h2=>by rw[L.out k c' h2 (by omega) (.inl h1),RN]) (top-1-j) j hj' rfl
     have hp:=L.pos j hj'
     have:(g c.U i j).natAbs<=(g c.U i j*g X j j).natAbs:=by
      rw[SM];exact S7 _ (by omega)
     exact RH this (RH s (up (by omega)))
 . by_cases ho:top<=i\/top<=j
   . rw[z.c i j hi hj ho];exact d1 _ _
   . have hi':i<top:=by omega
     have hj':j<top:=by omega
     have s:=NN (r:=top) (M:=2^b) (Y:=g c.A) (t:=λ k=>g c.C k j) (x:=g X j) F.up F.pos F.red (λ c' hc'=>bX j c' (by omega) (by omega)) (λ c' hc'=>H.Cg.back hj (by omega)) i hi';exact RH s (up (by omega))
structure Sd(A B L Lb R Rb:Rows)(N w x:Nat):Prop where
 iA:aP N w A
 iB:aP N w B
 iL:aP N N L
 pV:aP N N Lb
 iR:aP w w R
 jJ:aP w w Rb
 eq:mulM (mulM L A w) R w=B
 l1:mulM L Lb N=units N
 l2:mulM Lb L N=units N
 r1:mulM R Rb w=units w
 r2:mulM Rb R w=units w
 sL:∀i j,i<N->j<N->(g L i j).natAbs<=2^x
 IF:∀i j,i<N->j<N->(g Lb i j).natAbs<=2^x
 sR:∀i j,i<w->j<w->(g R i j).natAbs<=2^x
 Ic:∀i j,i<w->j<w->(g Rb i j).natAbs<=2^x
def Sd.start{A:Rows}{N w:Nat}(hA:aP N w A):Sd A A (units N) (units N) (units w) (units w) N w 0:=by
 have d1:∀n i j,i<n->j<n->(g (units n) i j).natAbs<=2^0:=λ n i j hi hj=>by
  rw[cQ hi hj];unfold dl;split<;>decide
 exact⟨hA,hA,b_ _,b_ _,b_ _,b_ _,by rw[dJ hA,vt hA],dJ (b_ _),dJ (b_ _),dJ (b_ _),dJ (b_ _),d1 N,d1 N,d1 w,d1 w⟩
def Sd.mono{A B L Lb R Rb:Rows}{N w x x':Nat}(h:Sd A B L Lb R Rb N w x)(l:x<=x'):Sd A B L Lb R Rb N w x':=by
 have up:∀ {a:Nat},a<=2^x->a<=2^x':=λ h=>RH h (Sa (by decide) l);exact⟨h.iA,h.iB,h.iL,h.pV,h.iR,h.jJ,h.eq,h.l1,h.l2,h.r1,h.r2,λ i j hi hj=>up (h.sL i j hi hj),λ i j hi hj=>up (h.IF i j hi hj),λ i j hi hj=>up (h.sR i j hi hj),λ i j hi hj=>up (h.Ic i j hi hj)⟩
def Sd.left{A B L Lb R Rb T Tb:Rows}{N w x y:Nat}(h:Sd A B L Lb R Rb N w x)(n8:N<=8)(iT:aP N N T)(iTb:aP N N Tb)(t1:mulM T Tb N=units N)(t2:mulM Tb T N=units N)(sT:∀i j,i<N->j<N->(g T i j).natAbs<=2^y)(sTb:∀i j,i<N->j<N->(g Tb i j).natAbs<=2^y):Sd A (mulM T B w) (mulM T L N) (mulM Lb Tb N) R Rb N w (x+y+3):=by
 have h':=h.mono (show x<=x+y+3 by omega);refine⟨h.iA,bT iT h.iB,bT iT h.iL,bT h.pV iTb,h.iR,h.jJ,?_,?_,?_,h.r1,h.r2,?_,?_,h'.sR,h'.Ic⟩
 . rw[cU iT h.iL h.iA,cU iT (bT h.iL h.iA) h.iR,h.eq]
 . rw[cU iT h.iL (bT h.pV iTb),<-cU h.iL h.pV iTb,h.l1,dJ iTb,t1]
 . rw[cU h.pV iTb (bT iT h.iL),<-cU iTb iT h.iL,t2,dJ h.iL,h.l2]
 . intro i j hi hj;have:=rD iT h.iL n8 sT h.sL i j hi hj;rwa [show y+x+3=x+y+3 by omega]at this
 . exact λ i j hi hj=>rD h.pV iTb n8 h.IF sTb i j hi hj
def Sd.right{A B L Lb R Rb T Tb:Rows}{N w x y:Nat}(h:Sd A B L Lb R Rb N w x)(w8:w<=8)(iT:aP w w T)(iTb:aP w w Tb)(t1:mulM T Tb w=units w)(t2:mulM Tb T w=units w)(sT:∀i j,i<w->j<w->(g T i j).natAbs<=2^y)(sTb:∀i j,i<w->j<w->(g Tb i j).natAbs<=2^y):Sd A (mulM B T w) L Lb (mulM R T w) (mulM Tb Rb w) N w (x+y+3):=by
 have h':=h.mono (show x<=x+y+3 by omega);refine⟨h.iA,bT h.iB iT,h.iL,h.pV,bT h.iR iT,bT iTb h.jJ,?_,h.l1,h.l2,?_,?_,h'.sL,h'.IF,?_,?_⟩
 . rw[<-cU (bT h.iL h.iA) h.iR iT,h.eq]
 . rw[cU h.iR iT (bT iTb h.jJ),<-cU iT iTb h.jJ,t1,dJ h.jJ,h.r1]
 . rw[cU iTb h.jJ (bT h.iR iT),<-cU h.jJ h.iR iT,h.r2,dJ iT,t2]
 . exact λ i j hi hj=>rD h.iR iT w8 h.sR sT i j hi hj
 . intro i j hi hj;have:=rD iTb h.jJ w8 sTb h.Ic i j hi hj;rwa [show y+x+3=x+y+3 by omega]at this
def Tn.Ll{X A U C:Rows}{N w:Nat}(T:Tn X A U C N w)(hX:aP N w X):mulM U X w=A/\mulM U (bq C N) N=units N/\mulM (bq C N) U N=units N/\mulM (bq U N) C N=units N/\mulM C (bq U N) N=units N:=by
 have iU:=T.gd;have iC:=T.gN;refine⟨(bT iU hX).ext T.isA λ i c hi hc=>?_,(bT iU (cF iC)).ext (b_ _) λ i j hi hj=>?_,(bT (cF iC) iU).ext (b_ _) λ i j hi hj=>?_,(bT (cF iU) iC).ext (b_ _) λ i j hi hj=>?_,(bT iC (cF iU)).ext (b_ _) λ i j hi hj=>?_⟩
 . rw[d5 iU hX hi,T.ua i c hi hc]
 . rw[d5 iU (cF iC) hi,cQ hi hj,<-T.ub i j hi hj];exact aC λ k hk=>by rw[cG iC hj hk]
 . rw[d5 (cF iC) iU hi,cQ hi hj,<-T.bu i j hi hj];exact aC λ k hk=>by rw[cG iC hk hi];try rw[SF]
 . rw[d5 (cF iU) iC hi,cQ hi hj,oP,<-T.bu j i hj hi];exact aC λ k hk=>by rw[cG iU hk hi];try rw[SF]
 . rw[d5 iC (cF iU) hi,cQ hi hj,oP,<-T.ub j i hj hi];exact aC λ k hk=>by rw[cG iU hj hk,SF]
def xN{A:Rows}{N w:Nat}(hA:aP N w A):bq (bq A w) N=A:=
 (cF (cF hA)).ext hA λ i j hi hj=>by rw[cG (cF hA) hj hi,cG hA hi hj]
def Ke{A:Rows}{N w top e u v b:Nat}{c:B3}{ld:Nat->Nat}(H:fj A N w c top w ld e u v)(t8:top<=8)(hA:∀i c,i<N->c<w->(g A i c).natAbs<=b):(Pr top λ q=>g c.A q (ld q))<=(((8*b)^top:Nat):Int):=by
 have S1:=H.Cg;obtain⟨I,B,h1,h2,h3⟩:=S1.IJ.picked ⟨S1.lead,S1.mono⟩
 have e1:D top (λ i k=>g A (I i) (ld k))=D top B*D top λ i k=>g c.A i (ld k):=by
  rw[<-IU];exact di λ i k hi hk=>h2 i (ld k) hi (S1.lead k hk).1
 rw[Nl (M:=λ i k=>g c.A i (ld k)) λ i k hi hk hki=>(S1.lead i hi).2.2 _ (S1.mono k i hki hi)]at e1;have h4:=Ig t8 (M:=λ i k=>g A (I i) (ld k)) (m:=b) λ i k hi hk=>hA _ _ (h1 i hi) (S1.lead k hk).1;rw[e1]at h4;have h5:=CY h3 h4;have h6:0<Pr top λ q=>g c.A q (ld q):=nN λ q hq=>(S1.lead q hq).2.1;omega
def Fp{A:Rows}{N w t1 t2 e1 u1 v1 e2 u2 v2 b:Nat}{c1 c2:B3}{l1 l2:Nat->Nat}(H1:fj A N w c1 t1 w l1 e1 u1 v1)(H2:fj (bq c1.A w) w N c2 t2 N l2 e2 u2 v2)(t8:t1<=8)(hA:∀i c,i<N->c<w->(g A i c).natAbs<=b):t2=t1/\Lo (bq c2.A N) N w t1/\(Pr t1 λ q=>g (bq c2.A N) q q)<=(((8*b)^t1:Nat):Int):=by
 have S1:=H1.Cg;have iA:=S1.tn.isA;have le:=S1.le;have at_:∀i c,i<N->c<w->g (bq c1.A w) c i=g c1.A i c:=λ i c hi hc=>cG iA hi hc;have lw:∀q,q<t1->l1 q<w:=λ q hq=>(S1.lead q hq).1
 have kC:∀q c,q<t1->c<t1->q<c->g (bq c1.A w) (l1 q) c=0:=λ q c hq hc hqc=>by
  rw[at_ c _ (by omega) (lw q hq)];exact(S1.lead c hc).2.2 _ (S1.mono q c hqc hc)
 obtain⟨e,F⟩:=IL (f:=l1) H2 le lw (λ i c hi hc hr=>by rw[at_ c i hc hi];exact S1.zs c i hr hc hi) kC (λ q hq=>by rw[at_ q _ (by omega) (lw q hq)];exact Ul (S1.lead q hq).2.1);refine⟨e,F.lo,?_⟩;have d:=F.prod (f:=l1) lw kC;have e3:(Pr t1 λ q=>g (bq c1.A w) (l1 q) q)=Pr t1 λ q=>g c1.A q (l1 q):=qd λ q hq=>at_ q _ (by omega) (lw q hq);have e4:(Pr t1 λ q=>g (bq c2.A N) q q)=Pr t1 λ q=>g c2.A q q:=qd λ q hq=>cG F.is (by have:=F.rN;omega) (by omega);rw[e4];rw[e3]at d;exact Td (VI (nN λ q hq=>(S1.lead q hq).2.1) d) (Ke H1 t8 hA)
def Cl(X:Rows)(r t:Nat):Prop:=∀i j,j<t->j<i->i<r->g X i j=0
def Dg(X:Rows)(N w:Nat):Prop:=∀i c,i<N->c<w->i≠c->g X i c=0
def Lo.dg{X:Rows}{N w r:Nat}(L:Lo X N w r)(h:Cl X r r):Dg X N w:=λ i c hi hc hne=>by
 by_cases ho:r<=i\/r<=c
 . exact L.out i c hi hc ho
 . by_cases hic:i<c
   . exact L.kC i c (by omega) (by omega) hic
   . exact h i c (by omega) (by omega) (by omega)
section
variable {X Y Z:Rows}{N w r t:Nat}
def Cl.unit(L:Lo X N w r)(h:Cl X r t){q:Nat}(hqt:q<t)(hq:q<r):(∀i,i<N->g X q q∣g X i q)/\ax X N w λ c=>g X q q*dl q c:=by
 have rN:=L.rN;have rW:=L.rW
 have row:∀c,c<w->g X q c=g X q q*dl q c:=λ c hc=>by
  by_cases e:q=c
  . subst e;rw[bP,Tv]
  . rw[bK e,RN];by_cases hcr:c<r
    . by_cases hqc:q<c
      . exact L.kC q c hq hcr hqc
      . exact h q c (by omega) (by omega) hq
    . exact L.out q c (by omega) hc (.inr (by omega))
 refine⟨λ i hi=>?_,(ax.row (X:=X) (w:=w) (k:=q) (by omega)).eq λ c hc=>(row c hc).symm⟩;by_cases e:i=q
 . rw[e];exact TF _
 . have:g X i q=0:=by
    by_cases hir:i<r
    . by_cases hiq:i<q
      . exact L.kC i q hir hq hiq
      . exact h i q hqt (by omega) hir
    . exact L.out i q hi (by omega) (.inl (by omega))
   rw[this];exact⟨0,by rw[RN]⟩
def Cl.step(L:Lo X N w r)(F:Fr X Y N w r)(h:Cl X r t):Cl (bq Y w) r t/\(∀q,q<t->q<r->g Y q q=g X q q)/\(t<r->∀i,i<r->t<=i->g Y t t∣g X i t):=by
 have rN:=L.rN;have rW:=L.rW;refine⟨λ i j hj hji hi=>?_,λ q hqt hq=>?_,λ htr i hi hti=>?_⟩
 . obtain⟨u1,u2⟩:=h.unit L hj (by omega);rw[cG F.is (show j<N by omega) (by omega)];exact(F.fix (by omega) (L.pos j (by omega)) u1 u2).2.2 i (by omega) (by omega)
 . obtain⟨u1,u2⟩:=h.unit L hqt hq;exact(F.fix hq (L.pos q hq) u1 u2).1
 . exact F.dvd htr (ax.row (X:=X) (w:=w) (k:=i) (by omega)) λ c hc=>h i c hc (by omega) hi
def Lo.round(L:Lo X N w r)(F:Fr X Y N w r)(G:Fr (bq Y w) Z w N r)(h:Cl X r t)(htr:t<r):Cl (bq Z N) r t/\(g Z t t∣g X t t)/\(g Z t t=g X t t->Cl (bq Z N) r (t+1)):=by
 have rN:=L.rN;have rW:=L.rW;have L2:=F.lo;obtain⟨c1,_,d1⟩:=h.step L F;obtain⟨c2,_,d2⟩:=c1.step L2 G;have a1:=d1 htr t htr (Rv _);have at_:∀i c,i<N->c<w->g (bq Y w) c i=g Y i c:=λ i c hi hc=>cG F.is hi hc
 have a2:∀i,i<r->t<=i->g Z t t∣g Y t i:=λ i hi hti=>by
  have:=d2 htr i hi hti;rwa [at_ t i (by omega) (by omega)]at this
 have a3:=a2 t htr (Rv _);refine⟨c2,T9 a3 a1,λ e=>?_⟩
 have eY:g Z t t=g Y t t:=by
  rw[<-e]at a1;exact UO (TX (G.pos t htr)) (TX (F.pos t htr)) a3 a1
 have u1:∀i,i<w->g Y t t∣g (bq Y w) i t:=λ i hi=>by
  rw[at_ t i (by omega) hi];by_cases hir:i<r
  . by_cases hti:t<=i
    . rw[<-eY];exact a2 i hir hti
    . rw[F.up t i htr (by omega)];exact⟨0,by rw[RN]⟩
  . rw[F.out t i (by omega) hi (by omega)];exact⟨0,by rw[RN]⟩
 have u2:ax (bq Y w) w N λ c=>g Y t t*dl t c:=(ax.row (X:=bq Y w) (w:=N) (k:=t) (by omega)).eq λ c hc=>by
  rw[at_ c t hc (by omega)];by_cases e:t=c
  . subst e;rw[bP,Tv]
  . rw[bK e,RN];by_cases hcr:c<r
    . by_cases htc:t<c
      . exact(F.up c t hcr htc).symm
      . have:=c1 t c (by omega) (by omega) htr;rw[at_ c t hc (by omega)]at this;exact this.symm
    . exact(F.zs c t (by omega) hc (by omega)).symm
 have f:=G.fix htr (F.pos t htr) u1 u2;intro i j hj hji hi;by_cases e2:j=t
 . subst e2;rw[cG G.is (show j<w by omega) (by omega)];exact f.2.2 i (by omega) (by omega)
 . exact c2 i j (by omega) hji hi
end
def lf(X:Rows)(r t b:Nat):Nat:=(r-t)*(b+1)+if t<r then(g X t t).natAbs.log2 else 0
def HX{a b:Nat}(hb:0<b)(h:b∣a)(ha:0<a)(hne:b≠a):b.log2<a.log2:=by
 obtain⟨k,rfl⟩:=h
 have k2:2<=k:=by
  rcases k with _|_|k
  . simp at ha
  . simp at hne
  . omega
 have h1:2^(b.log2)<=b:=Nat.log2_self_le (by omega);have h2:b*2<=b*k:=Sj b k2;have h3:b.log2+1<=(b*k).log2:=(Nat.le_log2 (by omega)).mpr (by rw[T7];omega);omega
def Oc{X:Rows}{N w r t b:Nat}(L:Lo X N w r)(r8:r<=8)(hM:(Pr r λ q=>g X q q)<=((2^b:Nat):Int)):lf X r t b<=9*(b+1):=by
 unfold lf;have h1:(r-t)*(b+1)<=8*(b+1):=R9 _ (by omega);split
 . rename_i h;have h2:=zu (λ q hq=>L.pos q hq) t h;have h3:=L.pos t h;have h4:(g X t t).natAbs.log2<b+1:=(W0 (by omega)).mpr (by rw[T7];omega);omega
 . omega
def Lo.less{X Y Z:Rows}{N w r t b:Nat}(L:Lo X N w r)(F:Fr X Y N w r)(G:Fr (bq Y w) Z w N r)(h:Cl X r t)(htr:t<r)(hM:(Pr r λ q=>g (bq Z N) q q)<=((2^b:Nat):Int)):∃t',t'<=r/\Cl (bq Z N) r t'/\lf (bq Z N) r t' b<lf X r t b:=by
 obtain⟨h1,h2,h3⟩:=L.round F G h htr;have rN:=L.rN;have rW:=L.rW;have LZ:=G.lo;have eZ:g (bq Z N) t t=g Z t t:=cG G.is (by omega) (by omega);by_cases e:g Z t t=g X t t
 . refine⟨t+1,htr,h3 e,?_⟩;unfold lf;rw[RC htr]
   have h4:(if t+1<r then(g (bq Z N) (t+1) (t+1)).natAbs.log2 else 0)<=b:=by
    split
    . rename_i h;have h5:=zu (λ q hq=>LZ.pos q hq) (t+1) h;have h6:=LZ.pos (t+1) h;have h7:(g (bq Z N) (t+1) (t+1)).natAbs.log2<b+1:=(W0 (by omega)).mpr (by rw[T7];omega);omega
    . exact RX _
   have h5:(r-t)*(b+1)=(r-(t+1))*(b+1)+(b+1):=by rw[show r-t=(r-(t+1))+1 by omega,Uh,Vo]
   omega
 . refine⟨t,Tq htr,h1,?_⟩;unfold lf;rw[RC htr,RC htr,eZ];have:=HX (b:=(g Z t t).natAbs) (a:=(g X t t).natAbs) (by have:=G.pos t htr;omega) (Int.natAbs_dvd_natAbs.mpr h2) (by have:=L.pos t htr;omega) (by have:=G.pos t htr;have:=L.pos t htr;omega);omega
def ub(n k p:Nat)(x:Int):Rows:=wY n n λ i j=>if i=k/\j=p then x else dl i j
def mv{n k p:Nat}{x:Int}:aP n n (ub n k p x):=ME
def Di{n k p i j:Nat}{x:Int}(hi:i<n)(hj:j<n)(hkp:k≠p):g (ub n k p x) i j=dl i j+x*(dl i k*dl p j):=by
 unfold ub;rw[DV hi hj];by_cases h1:i=k
 . by_cases h2:j=p
   . rw[RC ⟨h1,h2⟩,h1,h2,bP,bP,bK hkp];omega
   . rw[Rx λ h=>h2 h.2,bK (RK h2)];simp
 . rw[Rx λ h=>h1 h.1,bK h1];simp
def Ep{n k p m:Nat}{x:Int}{B:Rows}(hB:aP m n B)(hk:k<n)(hkp:k≠p){i c:Nat}(hi:i<m)(hc:c<n):g (mulM B (ub n k p x) n) i c=g B i c+x*(g B i k*dl p c):=by
 rw[d5 hB mv hi]
 have e:(S n λ j=>g B i j*g (ub n k p x) j c)=S n (λ j=>g B i j*dl j c)+S n λ j=>x*dl p c*(g B i j*dl j k):=by
  rw[<-gJ]
  exact aC λ j hj=>by
   rw[Di hj hc hkp];grind
 rw[e,dO,jf hc λ j=>g B i j,jf hk λ j=>g B i j];grind
def CB{n k p:Nat}{x:Int}(hk:k<n)(hp:p<n)(hkp:k≠p):mulM (ub n k p x) (ub n k p (-x)) n=units n:=(bT mv mv).ext (b_ n) λ i c hi hc=>by
 rw[Ep mv hk hkp hi hc,Di hi hc hkp,Di hi hk hkp,cQ hi hc,bK (RK hkp)];grind
def FV{n k p i j:Nat}{x:Int}(hx:x.natAbs<=1)(hi:i<n)(hj:j<n):(g (ub n k p x) i j).natAbs<=2^0:=by
 unfold ub;rw[DV hi hj];split
 . exact hx
 . unfold dl;split<;>decide
def BW{X:Rows}{N w q:Nat}{a:Int}{v:Nat->Int}(hq:q<w)(h:∀i,i<N->a∣g X i q)(hv:ax X N w v):a∣v q:=by
 obtain⟨z,hz⟩:=hv;rw[hz q hq]
 have:∀n,n<=N->a∣S n λ k=>z k*g X k q:=λ n=>by
  induction n with
  |zero=>exact λ _=>⟨0,by rw[RN];rfl⟩
  |succ n ih=>exact λ hn=>Int.dvd_add (ih (by omega)) (T9 (h n (by omega)) (VN _ _))
 exact this N (Rv _)
section
variable {B Y Z:Rows}{N w r k o:Nat}
def Im(L:Lo B N w r)(dg:Dg B N w)(hko:k<o)(ho:o<r){i c:Nat}(hi:i<N)(hc:c<w):g (mulM B (ub w o k 1) w) i c=if i=c then g B i i else if i=o/\c=k then g B o o else 0:=by
 have rN:=L.rN;have rW:=L.rW;rw[Ep L.is (by omega) (by omega) hi hc,UK];by_cases h1:i=c
 . subst h1;rw[RC rfl];by_cases h2:k=i
   . subst h2;rw[dg k o hi (by omega) (by omega),TU,TV]
   . rw[bK h2,RN,TV]
 . rw[Rx h1,dg i c hi hc h1];by_cases h2:k=c
   . subst h2;rw[bP,Tv,Vh];by_cases h3:i=o
     . subst h3;rw[RC ⟨rfl,rfl⟩]
     . rw[Rx λ h=>h3 h.1];exact dg i o hi (by omega) h3
   . rw[bK h2,Rx λ h=>h2 h.2.symm];simp
def Jh(L:Lo B N w r)(dg:Dg B N w)(hko:k<o)(ho:o<r):Lo (mulM B (ub w o k 1) w) N w r/\(Pr r λ q=>g (mulM B (ub w o k 1) w) q q)=Pr r λ q=>g B q q:=by
 have rN:=L.rN;have rW:=L.rW;have at_:=λ{i c:Nat} (hi:i<N) (hc:c<w)=>Im L dg hko ho hi hc;refine⟨⟨bT L.is mv,rN,rW,λ i c hi hc ho'=>?_,λ i c hi hc hic=>?_,λ i hi=>?_,λ i c hci hi=>?_⟩,qd λ q hq=>by rw[at_ (by omega) (by omega),RC rfl]⟩
 . rw[at_ hi hc];split
   . rename_i e;subst e;exact L.out i i hi hc ho'
   . rw[Rx (by omega)]
 . rw[at_ (by omega) (by omega),Rx (by omega),Rx (by omega)]
 . rw[at_ (by omega) (by omega),RC rfl];exact L.pos i hi
 . have hp:=L.pos i hi;rw[at_ (by omega) (by omega),at_ (by omega) (by omega),Rx (by omega),RC rfl];split
   . rename_i h;rw[<-h.1];omega
   . omega
def FK(L:Lo B N w r)(dg:Dg B N w)(hko:k<o)(ho:o<r)(F:Fr (mulM B (ub w o k 1) w) Y N w r)(G:Fr (bq Y w) Z w N r):Dg (bq Z N) N w/\∀q,q<r->g (bq Z N) q q=if q=k then((Int.gcd (g B k k) (g B o o):Nat):Int)else if q=o then((Int.lcm (g B k k) (g B o o):Nat):Int)else g B q q:=by
 have rN:=L.rN;have rW:=L.rW;have at_:=λ{i c:Nat} (hi:i<N) (hc:c<w)=>Im L dg hko ho hi hc;have pk:=L.pos k (by omega);have po:=L.pos o ho;have LX:=(Jh L dg hko ho).1;have row:∀i,i<N->ax (mulM B (ub w o k 1) w) N w (g (mulM B (ub w o k 1) w) i):=λ i hi=>ax.row hi
 have oth:∀q,q<r->q≠k->q≠o->g Y q q=g B q q/\(∀i,i<r->i≠q->g Y i q=0)/\∀c,c<w->c≠q->g Y q c=0:=λ q hq hqk hqo=>F.fix hq (L.pos q hq) (λ i hi=>by
  rw[at_ hi (by omega)];by_cases e:i=q
  . rw[RC e,e];exact TF _
  . rw[Rx e,Rx (by omega)];exact⟨0,by rw[RN]⟩) ((row q (by omega)).eq λ c hc=>by
  rw[at_ (by omega) hc];by_cases e:q=c
  . rw[RC e,e,bP,Tv]
  . rw[Rx e,Rx (by omega),bK e,RN])
 have Xkk:g (mulM B (ub w o k 1) w) k k=g B k k:=by rw[at_ (by omega) (by omega),RC rfl]
 have Xok:g (mulM B (ub w o k 1) w) o k=g B o o:=by rw[at_ (by omega) (by omega),Rx (by omega),RC ⟨rfl,rfl⟩]
 have Xoo:g (mulM B (ub w o k 1) w) o o=g B o o:=by rw[at_ (by omega) (by omega),RC rfl]
 have Xko:g (mulM B (ub w o k 1) w) k o=0:=by rw[at_ (by omega) (by omega),Rx (by omega),Rx (by omega)]
 have hg:g Y k k=((Int.gcd (g B k k) (g B o o):Nat):Int):=by
  have d1:g Y k k∣g B k k:=by
   have:=F.dvd (q:=k) (by omega) (row k (by omega)) λ c hc=>by rw[at_ (by omega) (by omega),Rx (by omega),Rx (by omega)]
   rwa [Xkk]at this
  have d2:g Y k k∣g B o o:=by
   have:=F.dvd (q:=k) (by omega) (row o (by omega)) λ c hc=>by rw[at_ (by omega) (by omega),Rx (by omega),Rx (by omega)]
   rwa [Xok]at this
  have d3:((Int.gcd (g B k k) (g B o o):Nat):Int)∣g Y k k:=BW (by omega) (λ i hi=>by
   rw[at_ hi (by omega)];by_cases e:i=k
   . rw[RC e,e];exact Int.gcd_dvd_left ..
   . rw[Rx e];split
     . exact Wt ..
     . exact⟨0,by rw[RN]⟩) ((F.ko _).mpr (ax.row (by omega)))
  exact UO (TX (F.pos k (by omega))) (Vz _) (Int.dvd_coe_gcd d1 d2) d3
 have hl:g Y o o=((Int.lcm (g B k k) (g B o o):Nat):Int):=by
  obtain⟨α,hα⟩:=Int.dvd_lcm_left (g B k k) (g B o o);obtain⟨β,hβ⟩:=Int.dvd_lcm_right (g B k k) (g B o o)
  have d1:g Y o o∣((Int.lcm (g B k k) (g B o o):Nat):Int):=by
   have hv:ax (mulM B (ub w o k 1) w) N w λ c=>((Int.lcm (g B k k) (g B o o):Nat):Int)*dl o c:=(ax.mB (-α) (ax.smul β (row o (by omega))) (row k (by omega))).eq λ c hc=>by
    rw[at_ (by omega) hc,at_ (by omega) hc];by_cases e1:c=o
    . subst e1;rw[bP,RC rfl,Rx (by omega),Rx (by omega),hβ];grind
    . rw[bK (RK e1),Rx (by omega)];by_cases e2:c=k
      . subst e2;rw[RC ⟨rfl,rfl⟩,RC rfl];grind
      . rw[Rx (by omega),Rx (by omega),Rx (by omega)];grind
   have:=F.dvd ho hv λ c hc=>by rw[bK (by omega),RN]
   rwa [bP,Tv]at this
  have d2:((Int.lcm (g B k k) (g B o o):Nat):Int)∣g Y o o:=by
   obtain⟨z,hz⟩:=(F.ko _).mpr (ax.row (X:=Y) (n:=r) (w:=w) ho);have z1:=hz k (by omega);have z2:=hz o (by omega);rw[F.up o k ho hko]at z1
   have s1:(S N λ i=>z i*g (mulM B (ub w o k 1) w) i k)=z k*g B k k+z o*g B o o:=by
    have:(S N λ i=>z i*g (mulM B (ub w o k 1) w) i k)=S N (λ i=>g B k k*(z i*dl i k))+S N λ i=>g B o o*(z i*dl i o):=by
     rw[<-gJ]
     exact aC λ i hi=>by
      rw[at_ hi (by omega)];by_cases e1:i=k
      . subst e1;rw[RC rfl,bP,bK (show i≠o by omega)];grind
      . rw[Rx e1,bK e1];by_cases e2:i=o
        . subst e2;rw[RC ⟨rfl,rfl⟩,bP];grind
        . rw[Rx (by omega),bK e2];grind
    rw[this,dO,dO,jf (show k<N by omega) z,jf (show o<N by omega) z];grind
   have s2:(S N λ i=>z i*g (mulM B (ub w o k 1) w) i o)=z o*g B o o:=by
    rw[my (k:=o) (by omega) λ i hi hne=>by rw[at_ hi (by omega),Rx hne,Rx (by omega),RN],Xoo]
   rw[s1]at z1;rw[s2]at z2;rw[z2];refine Int.coe_lcm_dvd ⟨-(z k),?_⟩ ⟨z o,SF _ _⟩;have:g B k k* -(z k)= -(z k*g B k k):=by grind
   omega
  exact UO (TX (F.pos o ho)) (Vz _) d1 d2
 have gp:0<((Int.gcd (g B k k) (g B o o):Nat):Int):=by rw[<-hg];exact F.pos k (by omega)
 have lp:0<((Int.lcm (g B k k) (g B o o):Nat):Int):=by rw[<-hl];exact F.pos o ho
 have hx:((Int.gcd (g B k k) (g B o o):Nat):Int)∣g Y k o:=T9 (Wt ..) (BW (X:=mulM B (ub w o k 1) w) (N:=N) (w:=w) (by omega) (λ i hi=>by
  rw[at_ hi (by omega)];by_cases e:i=o
  . rw[RC e,e];exact TF _
  . rw[Rx e,Rx (by omega)];exact⟨0,by rw[RN]⟩) ((F.ko _).mpr (ax.row (by omega))))
 have tr_:∀i c,i<N->c<w->g (bq Y w) c i=g Y i c:=λ i c hi hc=>cG F.is hi hc;have zero:∀ {a:Int},a∣0:=λ{a}=>⟨0,by rw[RN]⟩
 have yk:∀c,c<w->c≠k->c≠o->g Y k c=0:=λ c hc h1 h2=>by
  by_cases hcr:c<r
  . exact(oth c hcr h1 h2).2.1 k (by omega) (RK h1)
  . exact F.out k c (by omega) hc (by omega)
 have yo:∀c,c<w->c≠o->g Y o c=0:=λ c hc h1=>by
  by_cases hcr:c<r
  . by_cases h2:c=k
    . subst h2;exact F.up o c ho hko
    . exact(oth c hcr h2 h1).2.1 o ho (RK h1)
  . exact F.out o c (by omega) hc (by omega)
 have ck:∀i,i<N->i≠k->g Y i k=0:=λ i hi h1=>by
  by_cases hir:i<r
  . by_cases h2:i=o
    . subst h2;exact F.up i k ho hko
    . exact(oth i hir h1 h2).2.2 k (by omega) (RK h1)
  . exact F.zs i k (by omega) hi (by omega)
 have co:∀i,i<N->i≠o->i≠k->g Y i o=0:=λ i hi h1 h2=>by
  by_cases hir:i<r
  . exact(oth i hir h2 h1).2.2 o (by omega) (RK h1)
  . exact F.zs i o (by omega) hi (by omega)
 have lk:ax (bq Y w) w N λ c=>((Int.gcd (g B k k) (g B o o):Nat):Int)*dl k c:=(ax.row (X:=bq Y w) (w:=N) (k:=k) (by omega)).eq λ c hc=>by
  rw[tr_ c k hc (by omega)];by_cases e:k=c
  . subst e;rw[hg,bP,Tv]
  . rw[bK e,ck c hc (RK e),RN]
 have all:∀q,q<r->g Z q q=(if q=k then((Int.gcd (g B k k) (g B o o):Nat):Int)else if q=o then((Int.lcm (g B k k) (g B o o):Nat):Int)else g B q q)/\∀c,c<N->c≠q->g Z q c=0:=λ q hq=>by
  by_cases h1:q=k
  . subst h1;rw[RC rfl]
    have f:=G.fix hq gp (λ i hi=>by
     rw[tr_ q i (by omega) hi];by_cases e1:i=q
     . subst e1;rw[hg];exact TF _
     . by_cases e2:i=o
       . subst e2;exact hx
       . rw[yk i hi e1 e2];exact zero) lk
    exact⟨f.1,f.2.2⟩
  . rw[Rx h1];by_cases h2:q=o
    . subst h2;rw[RC rfl];obtain⟨y,hy⟩:=hx
      have f:=G.fix hq lp (λ i hi=>by
       rw[tr_ q i (by omega) hi];by_cases e1:i=q
       . subst e1;rw[hl];exact TF _
       . rw[yo i hi e1];exact zero) ((ax.mB (-y) (ax.row (X:=bq Y w) (n:=w) (w:=N) (k:=q) (by omega)) lk).eq λ c hc=>by
       rw[tr_ c q hc (by omega)];by_cases e1:q=c
       . subst e1;rw[hl,bP,bK (show k≠q by omega)];grind
       . rw[bK e1];by_cases e2:k=c
         . subst e2;rw[hy,bP];grind
         . rw[bK e2,co c hc (RK e1) (RK e2)];grind)
      exact⟨f.1,f.2.2⟩
    . rw[Rx h2];obtain⟨o1,o2,o3⟩:=oth q hq h1 h2
      have f:=G.fix hq (L.pos q hq) (λ i hi=>by
       rw[tr_ q i (by omega) hi];by_cases e1:i=q
       . subst e1;rw[o1];exact TF _
       . rw[o3 i hi e1];exact zero) ((ax.row (X:=bq Y w) (w:=N) (k:=q) (by omega)).eq λ c hc=>by
       rw[tr_ c q hc (by omega)];by_cases e1:q=c
       . subst e1;rw[o1,bP,Tv]
       . rw[bK e1,RN];by_cases hcr:c<r
         . exact(o2 c hcr (RK e1)).symm
         . exact(F.zs c q (by omega) hc (by omega)).symm)
      exact⟨f.1,f.2.2⟩
 refine⟨λ i c hi hc hne=>?_,λ q hq=>?_⟩
 . rw[cG G.is hc hi];by_cases hcr:c<r
   . exact(all c hcr).2 i hi hne
   . exact G.zs c i (by omega) hc hi
 . rw[cG G.is (by omega) (by omega)];exact(all q hq).1
end
structure Aq(X:Rows)(N w y:Nat)(c:B3):Prop where
 sz:∀i j,i<N->j<N->(g c.U i j).natAbs<=2^y/\(g c.C i j).natAbs<=2^y
structure AM(B:Rows)(N w y:Nat)(Q:Nat->Rows->Prop):Prop where
 low:∀i j,i<N->j<w->(g B i j).natAbs<=2^350
 s1:∀t c,eQ B N w t c->Aq B N w y c
 a1:∀t c,eQ B N w t c->∀i j,i<N->j<w->(g c.A i j).natAbs<=2^350
 s2:∀t c,eQ B N w t c->∀t2 c2,eQ (bq c.A w) w N t2 c2->Aq (bq c.A w) w N y c2
 lo:∀t c,eQ B N w t c->∀t2 c2,eQ (bq c.A w) w N t2 c2->∃r,r<=8/\Lo (bq c2.A N) N w r/\(Pr r λ q=>g (bq c2.A N) q q)<=((2^343:Nat):Int)/\Q r (bq c2.A N)
def pq{A:Rows}{N w M:Nat}(hA:aP N w A)(h:∀i c,i<N->c<w->(g A i c).natAbs<=M):gO A N 0 M:=λ i c _ hi=>by
 by_cases hc:c<w
 . exact h i c hi hc
 . unfold g;rw[mT (by rw[hA.row hi];omega)];exact RX _
def nq{a b c:Nat}(h:a<=2^b)(l:b<=c):a<=2^c:=RH h (Sa (by decide) l)
def Lo.two{X:Rows}{N w r:Nat}{P:Rows->Prop}(L:Lo X N w r)(n8:N<=8)(w8:w<=8)(hM:(Pr r λ q=>g X q q)<=((2^343:Nat):Int))(h:∀Y Z,Fr X Y N w r->Fr (bq Y w) Z w N r->(Pr r λ q=>g (bq Z N) q q)<=((2^343:Nat):Int)->P (bq Z N)):AM X N w 351 (λ r' M=>r'=r/\P M):=by
 have rN:=L.rN;have rW:=L.rW;have bX:=L.abs hM;have lX:=pq L.is bX;have one:∀t c,eQ X N w t c->∃ld,fj X N w c t w ld (Ey 343 t) (Uy 343 t) (Cx 343 t):=λ t c hC=>hC.str L.is lX (by omega) (Rv _)
 have lo1:∀t c,eQ X N w t c->Fr X c.A N w r/\Lo (bq c.A w) w N r/\(Pr r λ q=>g (bq c.A w) q q)<=((2^343:Nat):Int):=λ t c hC=>by
  obtain⟨ld,H⟩:=one t c hC;obtain⟨_,F,dv⟩:=L.fr H;refine⟨F,F.lo,?_⟩;rw[qd (h:=λ q=>g c.A q q) λ q hq=>cG F.is (by omega) (by omega)];exact Td (VI (nN λ q hq=>L.pos q hq) dv) hM
 refine⟨λ i j hi hj=>nq (bX i j hi hj) (by decide),λ t c hC=>?_,λ t c hC i j hi hj=>?_,λ t c hC t2 c2 hC2=>?_,λ t c hC t2 c2 hC2=>?_⟩
 . obtain⟨ld,H⟩:=one t c hC;exact⟨L.turn (by omega) hC H hM⟩
 . obtain⟨F,L2,hM2⟩:=lo1 t c hC;have:=L2.abs hM2 j i hj hi;rw[cG F.is hi hj]at this;exact nq this (by decide)
 . obtain⟨F,L2,hM2⟩:=lo1 t c hC;obtain⟨ld,H⟩:=hC2.str L2.is (pq L2.is (L2.abs hM2)) (by omega) (Rv _);exact⟨L2.turn (by omega) hC2 H hM2⟩
 . obtain⟨F,L2,hM2⟩:=lo1 t c hC;obtain⟨ld,H⟩:=hC2.str L2.is (pq L2.is (L2.abs hM2)) (by omega) (Rv _);obtain⟨_,G,dv⟩:=L2.fr H
   have hM3:(Pr r λ q=>g (bq c2.A N) q q)<=((2^343:Nat):Int):=by
    rw[qd (h:=λ q=>g c2.A q q) λ q hq=>cG G.is (by omega) (by omega)];exact Td (VI (nN λ q hq=>L2.pos q hq) dv) hM2
   exact⟨r,by omega,G.lo,hM3,rfl,h _ _ F G hM3⟩
def N6:∀t,t<9->Uy 350 t<=60000000/\Cx 350 t<=60000000/\(t<8->Uy 350 t+Cx 350 t+(4*Ey 350 t+4)+6<=60000000):=by decide+kernel
def eQ.AL{A:Rows}{N w:Nat}(hA:aP N w A)(hlo:gO A N 0 (2^350))(hN:N<=8){p t:Nat}{b:B3}(hp:p<w)(h:eQ A N p t b):Dn N p t 60000000 b:=by
 obtain⟨ld,S⟩:=h.str hA hlo (by omega) (Tq hp);have le:=S.le;obtain⟨h1,h2,h3⟩:=N6 t (by omega);exact S.O8 hp (by omega) h1 h2 λ h=>h3 (by omega)
def fj.Iu{X:Rows}{N w top p e u v y:Nat}{c:B3}{ld:Nat->Nat}(H:fj X N w c top p ld e u v)(h1:e<=y)(h2:u<=y)(h3:v<=y):Aq X N w y c:=⟨λ i j hi hj=>by
 by_cases ht:i<top
 . have:=H.hi i j ht;exact⟨nq this.2.1 h2,nq this.2.2 h3⟩
 . have ht:=SI ht;exact⟨nq (H.lo.2.1 i j ht hi) h1,nq (H.lo.2.2 i j ht hi) h1⟩⟩
def Lo.again{X:Rows}{N w r:Nat}(L:Lo X N w r)(n8:N<=8)(w8:w<=8)(hM:(Pr r λ q=>g X q q)<=((2^343:Nat):Int)):AM X N w 351 (λ r' M=>r'=r/\∀t,t<r->Cl X r t->∃t',t'<=r/\Cl M r t'/\lf M r t' 343<lf X r t 343):=
 L.two n8 w8 hM λ Y Z F G hZ t ht h=>L.less F G h ht hZ
def HU{B:Rows}{N w r k o:Nat}(L:Lo B N w r)(n8:N<=8)(w8:w<=8)(hM:(Pr r λ q=>g B q q)<=((2^343:Nat):Int))(dg:Dg B N w)(hko:k<o)(ho:o<r):AM (mulM B (ub w o k 1) w) N w 351 (λ r' M=>r'=r/\Dg M N w/\∀q,q<r->g M q q=if q=k then((Int.gcd (g B k k) (g B o o):Nat):Int)else if q=o then((Int.lcm (g B k k) (g B o o):Nat):Int)else g B q q):=by
 obtain⟨LX,eP⟩:=Jh L dg hko ho;exact LX.two n8 w8 (by rw[eP];exact hM) λ Y Z F G _=>FK L dg hko ho F G
def Mn(A:Rows)(N w k:Nat)(d:Int):Prop:=∀I J:Nat->Nat,(∀r,r<k->I r<N)->(∀c,c<k->J c<w)->d∣D k λ r c=>g A (I r) (J c)
def CN{d:Int}{f:Nat->Int}:∀ {n:Nat},(∀i,i<n->d∣f i)->d∣S n f
 |0,_=>⟨0,by rw[RN];rfl⟩
 |n+1,h=>Int.dvd_add (CN λ i hi=>h i (SD hi)) (h n (Sq n))
def Mn.rows{A A':Rows}{N N' w k:Nat}{d:Int}(m:Mn A N w k d)(h:∀i,i<N'->ax A N w (g A' i)):Mn A' N' w k d:=by
 intro I J hI hJ
 have key:∀p,p<=k->∀rows:Nat->Nat->Int,(∀r,r<k->(r<p/\ax A N w (rows r))\/∃j,j<N/\rows r=g A j)->d∣D k λ r c=>rows r (J c):=λ p=>by
  induction p with
  |zero=>
   intro _ rows hr
   have hc:∀r,∃j,r<k->j<N/\rows r=g A j:=λ r=>by
    by_cases h1:r<k
    . rcases hr r h1 with⟨z,_⟩|⟨j,hj,e⟩
      . exact absurd z (Sh _)
      . exact⟨j,λ _=>⟨hj,e⟩⟩
    . exact⟨0,λ z=>absurd z h1⟩
   have:=m (λ r=>Classical.choose (hc r)) J (λ r h1=>(Tg (hc r) h1).1) hJ;rw[di (M':=λ r c=>g A (Classical.choose (hc r)) (J c)) λ r c h1 _=>congrFun (Tg (hc r) h1).2 (J c)];exact this
  |succ p ih=>
   intro hp rows hr;rcases hr p (by omega)with⟨_,z,hz⟩|⟨j,hj,e⟩
   . have e1:D k (λ r c=>rows r (J c))=D k (upd (λ r c=>rows r (J c)) p λ c=>S N λ j=>z j*g A j (J c)):=di λ r c _ hc=>by
      by_cases h1:r=p
      . subst h1;rw[cJ];exact hz (J c) (hJ c hc)
      . rw[ay h1]
     rw[e1,(uK k).wU (by omega) _ z λ j c=>g A j (J c)];refine CN λ j hj=>T9 ?_ (VN _ _)
     have e2:D k (upd (λ r c=>rows r (J c)) p λ c=>g A j (J c))=D k λ r c=>(if r=p then g A j else rows r) (J c):=di λ r c _ _=>by
      by_cases h1:r=p
      . subst h1;rw[cJ,RC rfl]
      . rw[ay h1,Rx h1]
     rw[e2];refine ih (by omega) _ λ r hrk=>?_;by_cases h1:r=p
     . rw[RC h1];exact .inr ⟨j,hj,rfl⟩
     . rw[Rx h1];rcases hr r hrk with⟨h2,h3⟩|h2
       . exact .inl ⟨by omega,h3⟩
       . exact .inr h2
   . refine ih (by omega) rows λ r hrk=>?_;by_cases h1:r=p
     . subst h1;exact .inr ⟨j,hj,e⟩
     . rcases hr r hrk with⟨h2,h3⟩|h2
       . exact .inl ⟨by omega,h3⟩
       . exact .inr h2
 exact key k (Rv _) (λ r=>g A' (I r)) λ r hr=> .inl ⟨hr,h _ (hI r hr)⟩
def Mn.same{A A':Rows}{N N' w k:Nat}{d:Int}(s:cR A N A' N' w):Mn A N w k d↔Mn A' N' w k d:=⟨λ m=>m.rows s.of,λ m=>m.rows s.to⟩
def Mn.tr{A:Rows}{N w k:Nat}{d:Int}(hA:aP N w A):Mn (bq A w) w N k d↔Mn A N w k d:=by
 have key:∀ {B:Rows} {n m:Nat},aP n m B->Mn B n m k d->Mn (bq B m) m n k d:=λ{B n m} hB h I J hI hJ=>by
  have:=h J I hJ hI;rw[<-G7]at this;rw[di (M':=Mx.tr λ r c=>g B (J r) (I c)) λ r c hr hc=>cG hB (hJ c hc) (hI r hr)];exact this
 refine⟨λ h=>?_,key hA⟩;have:=key (cF hA) h;rwa [xN hA]at this
def Er:∀ {k:Nat} {I:Nat->Nat},(∀r,r<=k->I r<k)->∃i j,i<j/\j<=k/\I i=I j
 |0,I,h=>absurd (h 0 (Rv _)) (Sh _)
 |k+1,I,h=>by
  by_cases hx:∃r,r<=k/\I r=I (k+1)
  . obtain⟨r,h1,h2⟩:=hx;exact⟨r,k+1,by omega,Rv _,h2⟩
  . have no:∀r,r<=k->I r≠I (k+1):=λ r h1 h2=>hx ⟨r,h1,h2⟩
    obtain⟨i,j,h1,h2,h3⟩:=Er (k:=k) (I:=λ r=>if I r=k then I (k+1)else I r) λ r hr=>by
     have a:=h r (by omega);have b:=h (k+1) (Rv _);have c:=no r hr;show(if I r=k then I (k+1)else I r)<k;split<;>omega
    refine⟨i,j,h1,by omega,?_⟩;have a:=no i (by omega);have b:=no j h2;have h3:(if I i=k then I (k+1)else I i)=if I j=k then I (k+1)else I j:=h3
    split at h3<;>split at h3<;>omega
def IP{B:Rows}{N w:Nat}{b:Nat->Int}(hB:∀i c,i<N->c<w->g B i c=if i=c then b i else 0)(ch:∀i j,i<=j->b i∣b j):∀k,Mn B N w k (Pr k b)
 |0=>λ I J _ _=>TF _
 |k+1=>λ I J hI hJ=>by
  by_cases hx:∃r,r<=k/\k<=I r
  . obtain⟨r,hr,hIr⟩:=hx
    have key:∀I':Nat->Nat,(∀r,r<k+1->I' r<N)->k<=I' 0->Pr (k+1) b∣D (k+1) λ r c=>g B (I' r) (J c):=λ I' hI' h0=>by
     rw[eL];refine CN λ j hj=>?_
     have d1:b k∣g B (I' 0) (J j):=by
      rw[hB _ _ (hI' 0 (by omega)) (hJ j hj)];split
      . exact ch k _ h0
      . exact⟨0,by rw[RN]⟩
     have d2:Pr k b∣D k λ r c=>g B (I' (r+1)) (J (sk j c)):=IP hB ch k (λ r=>I' (r+1)) (λ c=>J (sk j c)) (λ r hr=>hI' _ (by omega)) λ c hc=>hJ _ (l8 hc);obtain⟨x,hx⟩:=d1;obtain⟨y,hy⟩:=d2;refine⟨sg j*x*y,?_⟩;show sg j*g B (I' 0) (J j)*D k (λ r c=>g B (I' (r+1)) (J (sk j c)))=Pr k b*b k*(sg j*x*y);rw[hx,hy];grind
    by_cases h0:r=0
    . subst h0;exact key I hI hIr
    . have e:=(uK (k+1)).swap (i:=0) (j:=r) (by omega) (by omega) (RK h0) λ r c=>g B (I r) (J c);have:=key (λ x=>I (sw 0 r x)) (λ x hx=>hI _ (nI (by omega) (by omega) hx)) (by show k<=I (sw 0 r 0);unfold sw;rw[RC rfl];exact hIr);have e2:D (k+1) (λ x c=>g B (I (sw 0 r x)) (J c))= -D (k+1) λ r c=>g B (I r) (J c):=e;rw[e2]at this;exact Int.dvd_neg.mp this
  . obtain⟨i,j,h1,h2,h3⟩:=Er (k:=k) (I:=I) λ r hr=>VM λ z=>hx ⟨r,hr,z⟩;rw[(uK (k+1)).alt i j _ (by omega) (by omega) (by omega) λ c _=>by rw[h3]];exact⟨0,by rw[RN]⟩
def nb(B:Rows)(r q:Nat):Int:=if q<r then g B q q else 0
structure Ch(B:Rows)(N w r:Nat):Prop where
 lo:Lo B N w r
 dg:Dg B N w
 ch:∀i j,i<j->j<r->g B i i∣g B j j
def Ch.at{B:Rows}{N w r:Nat}(h:Ch B N w r)(i c:Nat)(hi:i<N)(hc:c<w):g B i c=if i=c then nb B r i else 0:=by
 by_cases e:i=c
 . subst e;rw[RC rfl];unfold nb;split
   . rfl
   . rename_i z;exact h.lo.out i i hi hc (.inl (by omega))
 . rw[Rx e];exact h.dg i c hi hc e
def Ch.all{B:Rows}{N w r:Nat}(h:Ch B N w r)(i j:Nat)(hij:i<=j):nb B r i∣nb B r j:=by
 unfold nb;by_cases hj:j<r
 . rw[RC hj,RC (by omega)];by_cases e:i=j
   . rw[e];exact TF _
   . exact h.ch i j (by omega) hj
 . rw[Rx hj];exact⟨0,by rw[RN]⟩
def Ch.mn{B:Rows}{N w r:Nat}(h:Ch B N w r)(k:Nat)(d:Int):Mn B N w k d↔d∣Pr k (nb B r):=by
 constructor
 . intro m;by_cases hk:k<=N/\k<=w
   . have:=m (λ r=>r) (λ c=>c) (λ r hr=>by omega) (λ c hc=>by omega);rw[wj λ i c hi hc hic=>by rw[h.at i c (by omega) (by omega),Rx (by omega)]]at this;rwa [qd (h:=nb B r) λ i hi=>by rw[h.at i i (by omega) (by omega),RC rfl]]at this
   . have z:Pr k (nb B r)=0:=by
      have rN:=h.lo.rN;have rW:=h.lo.rW;cases k with
      |zero=>exact absurd ⟨RX _,RX _⟩ hk
      |succ k=>
       show Pr k _*nb B r k=0;unfold nb;rw[Rx (by omega),RN]
     rw[z];exact⟨0,by rw[RN]⟩
 . intro hd I J hI hJ;exact T9 hd (IP h.at h.all k I J hI hJ)
def oQ{X A:Rows}{n m w:Nat}(hX:aP n m X)(hA:aP m w A):∀i,i<n->ax A m w (g (mulM X A w) i):=λ i hi=>⟨g X i,λ c _=>d5 hX hA hi c⟩
def Sd.mn{A B L Lb R Rb:Rows}{N w x:Nat}(h:Sd A B L Lb R Rb N w x)(k:Nat)(d:Int):Mn A N w k d↔Mn B N w k d:=by
 have iLA:=bT h.iL h.iA
 have s1:cR A N (mulM L A w) N w:=⟨λ i hi=>by
  have:=oQ h.pV iLA i hi;rwa [<-cU h.pV h.iL h.iA,h.l2,dJ h.iA]at this,oQ h.iL h.iA⟩
 have iRt:=cF h.iR;have iRbt:=cF h.jJ;have iT:=cF iLA;have e1:mulM (bq R w) (bq (mulM L A w) w) N=bq B w:=by rw[<-xH iLA h.iR,h.eq]
 have iBt:aP w N (bq B w):=cF h.iB
 have s2:cR (bq (mulM L A w) w) w (bq B w) w N:=⟨λ i hi=>by
  have:=oQ iRbt iBt i hi;rw[<-e1,<-cU iRbt iRt iT,<-xH h.iR h.jJ,h.r1]at this;have eU:bq (units w) w=units w:=(cF (b_ w)).ext (b_ w) λ i j hi hj=>by rw[cG (b_ w) hj hi,cQ hj hi,cQ hi hj,oP]
  rw[eU,dJ iT,e1]at this;exact this,λ i hi=>by
  have:=oQ iRt iT i hi;rwa [e1]at this⟩
 exact(Mn.same s1).trans ((Mn.tr iLA).symm.trans ((Mn.same s2).trans (Mn.tr h.iB)))
def Bh{α:Type}:∀ {l l':List α},l.Nodup->(∀x∈l,x∈l')->l.length<=l'.length
 | [],_,_,_=>RX _
 |x::l,l',h,s=>by
  obtain⟨a,b,e⟩:=List.append_of_mem (s x R6);have hx:=(Ui.mp h).1
  have:=Bh (l:=l) (l':=a++b) (Ui.mp h).2 λ y hy=>by
   have h1:=s y (RU _ hy);rw[e]at h1;rcases SH.mp h1 with h2|h2
   . exact Tr _ h2
   . rcases R7.mp h2 with h3|h3
     . rw[h3]at hy;exact absurd hy hx
     . exact RZ _ h3
  rw[e];simp at this⊢;omega
def FP{α β:Type}{l:List α}{l':List β}(f:α->β)(h:l.Nodup)(s:∀x∈l,f x∈l')(inj:∀x∈l,∀y∈l,f x=f y->x=y):l.length<=l'.length:=by
 have hn:(l.map f).Nodup:=by
  rw[T_,UI];exact(T_.mp h).imp_of_mem λ{a b} ha hb hab e=>hab (inj a ha b hb e)
 have:=Bh hn (l':=l') λ y hy=>by
  obtain⟨x,hx,rfl⟩:=Sl.mp hy;exact s x hx
 rwa [Rz]at this
def JK{e:Nat}(he:0<e)(k:Nat):((List.range' (e*k) e).filter λ i=>decide (e∣i)).length=1:=by
 obtain⟨e,rfl⟩:∃x,e=x+1:=⟨e-1,by omega⟩
 rw[List.range'_succ,TZ (p:=λ i=>decide (e+1∣i)) (S_ (Nat.dvd_mul_right (e+1) k))]
 have:(List.range' ((e+1)*k+1) e).filter (λ i=>decide (e+1∣i))=[]:=by
  rw[VG];intro i hi;have:=List.mem_range'_1.mp hi;simp only[decide_eq_true_eq];rintro⟨c,rfl⟩;have h1:(e+1)*k<(e+1)*c:=by omega
  have h2:(e+1)*c<(e+1)*(k+1):=by rw[Vd (e+1) k 1];omega
  have h3:=Wz h1;have h4:=Wz h2;omega
 rw[this];rfl
def zH{e:Nat}(he:0<e):∀k,((List.range (e*k)).filter λ i=>decide (e∣i)).length=k
 |0=>by simp
 |k+1=>by
  have h:List.range (e*(k+1))=List.range (e*k)++List.range' (e*k) e:=by
   rw[List.range_eq_range',List.range_eq_range',Vd,Nat.mul_one];have:=List.range'_append_1 (s:=0) (m:=e*k) (n:=e);rw[Uw]at this;exact this.symm
  rw[h,Ue,Sy,zH he k,JK he]
def KW{n d:Nat}(hn:0<n)(hd:0<d):((List.range d).filter λ i=>decide (d∣n*i)).length=Nat.gcd n d:=by
 have hg:0<Nat.gcd d n:=VC n hd;have e1:d=d/Nat.gcd d n*Nat.gcd d n:=(Wg (UP d n)).symm;have he:0<d/Nat.gcd d n:=Nat.div_pos (Xe hd (UP d n)) hg
 have key:∀i,d∣n*i↔d/Nat.gcd d n∣i:=λ m=>by
  have e2:n=Nat.gcd d n*(n/Nat.gcd d n):=(Nat.mul_div_cancel' (Nat.gcd_dvd_right d n)).symm;have e3:d=Nat.gcd d n*(d/Nat.gcd d n):=(Nat.mul_div_cancel' (UP d n)).symm;have co:=Wf hg;have eq:Nat.gcd d n*(n/Nat.gcd d n*m)=n*m:=by rw[<-Ss,<-e2]
  constructor
  . intro h;have h2:Nat.gcd d n*(d/Nat.gcd d n)∣Nat.gcd d n*(n/Nat.gcd d n*m):=by rw[eq,<-e3];exact h
    exact co.dvd_of_dvd_mul_left (Nat.dvd_of_mul_dvd_mul_left hg h2)
  . intro h;have h2:Nat.gcd d n*(d/Nat.gcd d n)∣Nat.gcd d n*(n/Nat.gcd d n*m):=Nat.mul_dvd_mul_left _ (Nat.dvd_trans h (Nat.dvd_mul_left _ _));rw[eq,<-e3]at h2;exact h2
 have:=zH he (Nat.gcd d n);rw[<-e1]at this;rw[V2,<-this];congr 1
 exact List.filter_congr λ i _=>by
  have:=key i;simp only[VJ];rwa [<-e1]at*
def bx:List Nat->List (List Nat)
 | []=>[[]]
 |d::ds=>(List.range d).flatMap λ i=>(bx ds).map (i:: ·)
def sG(n:Nat):List Nat->List Nat->Bool
 | [],[]=>true
 |d::ds,i::y=>decide (d∣n*i)&&sG n ds y
 |_,_=>false
def AB{n d:Nat}{ds:List Nat}:∀l:List Nat,((l.flatMap λ i=>(bx ds).map (i:: ·)).filter (sG n (d::ds))).length=(l.filter λ i=>decide (d∣n*i)).length*((bx ds).filter (sG n ds)).length
 | []=>by simp
 |i::l=>by
  have ih:=AB (n:=n) (d:=d) (ds:=ds) l;rw[List.flatMap_cons,Ue,Sy,ih,List.filter_map,Rz];by_cases h:d∣n*i
  . rw[TZ (by simpa using h),So,Uh,Vo,Xh];congr 2
    exact List.filter_congr λ y _=>by
     show(decide (d∣n*i)&&sG n ds y)=sG n ds y;rw[S_ h,Bool.true_and]
  . rw[US (by simpa using h)]
    have:(bx ds).filter (sG n (d::ds)∘(i:: ·))=[]:=by
     rw[VG];intro y _;show¬(decide (d∣n*i)&&sG n ds y)=true;rw[Sv h,Bool.false_and];exact Sb
    rw[this,UD,Uw]
def nO(n:Nat):List Nat->Nat
 | []=>1
 |d::ds=>Nat.gcd n d*nO n ds
def BX{n:Nat}(hn:0<n):∀ {ds:List Nat},(∀d∈ds,0<d)->((bx ds).filter (sG n ds)).length=nO n ds
 | [],_=>rfl
 |d::ds,h=>by
  show(((List.range d).flatMap λ i=>(bx ds).map (i:: ·)).filter (sG n (d::ds))).length=_;rw[AB,KW hn (h d R6),BX hn λ x hx=>h x (RU _ hx)];rfl
def kE:∀ {ds y:List Nat},y∈bx ds↔y.length=ds.length/\∀q,q<ds.length->y.getD q 0<ds.getD q 0
 | [],y=>by
   constructor
   . intro h;rw[TR.mp h];exact⟨rfl,λ q hq=>absurd hq (Sh _)⟩
   . rintro⟨h,_⟩;exact TR.mpr (Tj.mp h)
 |d::ds,y=>by
  constructor
  . intro h;obtain⟨i,hi,h2⟩:=WI.mp h;obtain⟨z,hz,rfl⟩:=Sl.mp h2;obtain⟨a,b⟩:=kE.mp hz;refine⟨by simp[a],λ q hq=>?_⟩;cases q with
    |zero=>exact TC.mp hi
    |succ q=>exact b q (by simpa using hq)
  . rintro⟨h1,h2⟩;cases y with
    |nil=>simp at h1
    |cons i z=>
     refine WI.mpr ⟨i,TC.mpr (h2 0 (by simp)),Sl.mpr ⟨z,kE.mpr ⟨by simpa using h1,λ q hq=>h2 (q+1) (by simpa using hq)⟩,rfl⟩⟩
def vM:∀ds:List Nat,(bx ds).Nodup
 | []=>by show([[]]:List (List Nat)).Nodup;simp
 |d::ds=>by
  show((List.range d).flatMap λ i=>(bx ds).map (i:: ·)).Nodup;rw[T_,List.pairwise_flatMap];refine⟨λ i _=>?_,?_⟩
  . rw[UI];exact(T_.mp (vM ds)).imp λ{a b} h e=>h (Ua e).2
  . exact(T_.mp (List.nodup_range (n:=d))).imp λ{a b} h x hx y hy e=>by
     obtain⟨u,_,rfl⟩:=Sl.mp hx;obtain⟨v,_,rfl⟩:=Sl.mp hy;exact h (Ua e).1
def ya{n:Nat}:∀ {ds y:List Nat},y.length=ds.length->(sG n ds y=true↔∀q,q<ds.length->ds.getD q 0∣n*y.getD q 0)
 | [],[],_=>⟨λ _ q hq=>absurd hq (Sh _),λ _=>rfl⟩
 |d::ds,i::y,h=>by
  have ih:=ya (n:=n) (ds:=ds) (y:=y) (by simpa using h);show(decide (d∣n*i)&&sG n ds y)=true↔_;rw[SV,decide_eq_true_eq,ih];constructor
  . rintro⟨a,b⟩ q hq;cases q with
    |zero=>exact a
    |succ q=>exact b q (by simpa using hq)
  . intro a;exact⟨a 0 (by simp),λ q hq=>a (q+1) (by simpa using hq)⟩
def vR(v:Nat->Int)(R:Rows)(w j:Nat):Int:=S w λ k=>v k*g R k j
def E7{X R:Rows}{n w:Nat}{v:Nat->Int}(iX:aP n w X)(iR:aP w w R)(h:ax X n w v):ax (mulM X R w) n w (vR v R w):=by
 obtain⟨z,hz⟩:=h;refine⟨z,λ j hj=>?_⟩;unfold vR;rw[aC (g:=λ c=>S n λ k=>z k*g X k c*g R c j) λ c hc=>by rw[hz c hc,<-pG],nC];refine aC λ k hk=>?_;rw[d5 iX iR hk j,<-dO];exact aC λ c _=>Sw _ _ _
def qV{R Rb:Rows}{w:Nat}{v:Nat->Int}(iR:aP w w R)(jJ:aP w w Rb)(h:mulM R Rb w=units w){j:Nat}(hj:j<w):vR (vR v R w) Rb w j=v j:=by
 unfold vR;rw[aC (g:=λ c=>S w λ k=>v k*g R k c*g Rb c j) λ c hc=>by rw[<-pG],nC];rw[aC (g:=λ k=>v k*dl k j) λ k hk=>?_]
 . exact jf hj v
 . have:=d5 iR jJ hk j;rw[h,cQ hk hj]at this;rw[this,<-dO];exact aC λ c _=>Sw _ _ _
def Sd.ko{A B L Lb R Rb:Rows}{N w x:Nat}(h:Sd A B L Lb R Rb N w x){v:Nat->Int}:ax A N w v↔ax B N w (vR v R w):=by
 have iLA:=bT h.iL h.iA;constructor
 . intro l;have l1:=E7 h.iA h.iR l;refine ax.trans (λ k hk=>?_) l1;have:=oQ h.pV h.iB k hk;rw[<-h.eq,<-cU h.pV iLA h.iR,<-cU h.pV h.iL h.iA,h.l2,dJ h.iA]at this;rw[h.eq]at this;exact this
 . intro l;have l1:=E7 h.iB h.jJ l
   have l2:ax A N w (vR (vR v R w) Rb w):=ax.trans (λ k hk=>by
    have:=oQ h.iL h.iA k hk;rw[<-h.eq,cU iLA h.iR h.jJ,h.r1,vt iLA];exact this) l1
   exact l2.eq λ c hc=>(qV h.iR h.jJ h.r1 hc).symm
def Ch.ko{B:Rows}{N w:Nat}(h:Ch B N w w){u:Nat->Int}:ax B N w u↔∀q,q<w->g B q q∣u q:=by
 have rN:=h.lo.rN
 have one:∀(z:Nat->Int) q,q<w->(S N λ k=>z k*g B k q)=z q*g B q q:=λ z q hq=>by
  rw[aC (g:=λ k=>z k*g B k k*dl k q) λ k hk=>?_]
  . exact jf (f:=λ k=>z k*g B k k) (by omega)
  . unfold dl;by_cases e:k=q
    . subst e;rw[RC rfl,Tv]
    . rw[Rx e,h.dg k q hk hq e,RN,RN]
 constructor
 . rintro⟨z,hz⟩ q hq;rw[hz q hq,one z q hq];exact VN _ _
 . intro hd;refine⟨λ q=>u q/g B q q,λ q hq=>?_⟩;rw[one _ q hq];exact(Int.ediv_mul_cancel (hd q hq)).symm
def tE{R:Rows}{w j:Nat}(a b:Int)(u v:Nat->Int):vR (λ c=>a*u c+b*v c) R w j=a*vR u R w j+b*vR v R w j:=by
 unfold vR;rw[<-dO,<-dO,<-gJ];exact aC λ k _=>by grind
def J8{n d u:Int}(h:d∣n*u):d∣n*(u%d):=by
 have e:n*(u%d)=n*u-d*(n*(u/d)):=by
  have:=Int.emod_add_mul_ediv u d;have e2:u%d=u-d*(u/d):=by omega
  rw[e2,WY];grind
 rw[e];exact Int.dvd_sub h (Int.dvd_mul_right _ _)
def GA{A B L Lb R Rb:Rows}{N w x:Nat}(sd:Sd A B L Lb R Rb N w x)(ch:Ch B N w w){ls:List Nat}(hl:ls.length=w){n:Nat}(hn:0<n)
 (rep:∀v:Nat->Int,∃y,y∈bx ls/\ax A N w λ c=>v c-((y.getD c 0:Nat):Int))
 (uni:∀y∈bx ls,∀y'∈bx ls,ax A N w (λ c=>((y.getD c 0:Nat):Int)-((y'.getD c 0:Nat):Int))->y=y')
 {p:List Nat->Bool} (hp:∀y∈bx ls,p y=true↔ax A N w λ c=>(n:Int)*((y.getD c 0:Nat):Int)):
 ((bx ls).filter p).length=nO n ((List.range w).map λ q=>(g B q q).toNat):=by
 have pos:∀q,q<w->0<g B q q:=λ q hq=>ch.lo.pos q hq;have ld:((List.range w).map λ q=>(g B q q).toNat).length=w:=by simp
 have ad:∀q,q<w->((List.range w).map λ q=>(g B q q).toNat).getD q 0=(g B q q).toNat:=λ q hq=>by
  rw[aN (by simpa using hq),Te,Ud]
 have ko:∀v:Nat->Int,ax A N w v↔∀q,q<w->g B q q∣vR v R w q:=λ v=>sd.ko.trans ch.ko
 rw[<-BX hn (ds:=(List.range w).map λ q=>(g B q q).toNat) λ d hd=>by
  obtain⟨q,hq,rfl⟩:=Sl.mp hd;have:=pos q (TC.mp hq);omega]
 generalize(List.range w).map (λ q=>(g B q q).toNat)=ds at ld ad;refine UC ?_ ?_
 . refine FP (λ y=>(List.range w).map λ q=>(vR (λ c=>((y.getD c 0:Nat):Int)) R w q%g B q q).toNat) ((vM ls).filter p) (λ y hy=>?_) λ y hy y' hy' e=>?_
   . obtain⟨hy,py⟩:=Tp.mp hy;have h1:=(ko _).mp ((hp y hy).mp py)
     have at_:∀q,q<w->((List.range w).map λ q=>(vR (λ c=>((y.getD c 0:Nat):Int)) R w q%g B q q).toNat).getD q 0=(vR (λ c=>((y.getD c 0:Nat):Int)) R w q%g B q q).toNat:=λ q hq=>by
      rw[aN (by simpa using hq),Te,Ud]
     have lm:((List.range w).map λ q=>(vR (λ c=>((y.getD c 0:Nat):Int)) R w q%g B q q).toNat).length=ds.length:=by simp[ld]
     refine Tp.mpr ⟨kE.mpr ⟨lm,λ q hq=>?_⟩,(ya lm).mpr λ q hq=>?_⟩
     . rw[ld]at hq;rw[at_ q hq,ad q hq];have h2:=pos q hq;have h3:=Int.emod_lt_of_pos (vR (λ c=>((y.getD c 0:Nat):Int)) R w q) h2;omega
     . rw[ld]at hq;rw[at_ q hq,ad q hq];have h2:=pos q hq;have h3:=WR (vR (λ c=>((y.getD c 0:Nat):Int)) R w q) (Ul h2);have h4:=h1 q hq
       have e1:vR (λ c=>(n:Int)*((y.getD c 0:Nat):Int)) R w q=(n:Int)*vR (λ c=>((y.getD c 0:Nat):Int)) R w q:=by
        have:=tE (R:=R) (w:=w) (j:=q) (n:Int) 0 (λ c=>((y.getD c 0:Nat):Int)) (λ _=>0);simpa using this
       rw[e1]at h4;have h5:=J8 h4;rw[<-Int.ofNat_dvd,U8,TQ h3,TQ (by omega)];exact h5
   . have hy1:=(Tp.mp hy).1;have hy2:=(Tp.mp hy').1;refine uni y hy1 y' hy2 ((ko _).mpr λ q hq=>?_);have e1:=Tu (λ l=>l.getD q 0) e;have at_:∀f:Nat->Nat,((List.range w).map f).getD q 0=f q:=λ f=>by rw[aN (by simpa using hq),Te,Ud]
     have e1:((List.range w).map λ q=>(vR (λ c=>((y.getD c 0:Nat):Int)) R w q%g B q q).toNat).getD q 0=((List.range w).map λ q=>(vR (λ c=>((y'.getD c 0:Nat):Int)) R w q%g B q q).toNat).getD q 0:=e1;rw[at_,at_]at e1;have h2:=pos q hq;have h3:=WR (vR (λ c=>((y.getD c 0:Nat):Int)) R w q) (Ul h2);have h4:=WR (vR (λ c=>((y'.getD c 0:Nat):Int)) R w q) (Ul h2);have e2:vR (λ c=>((y.getD c 0:Nat):Int)) R w q%g B q q=vR (λ c=>((y'.getD c 0:Nat):Int)) R w q%g B q q:=by omega
     have e3:vR (λ c=>((y.getD c 0:Nat):Int)-((y'.getD c 0:Nat):Int)) R w q=vR (λ c=>((y.getD c 0:Nat):Int)) R w q-vR (λ c=>((y'.getD c 0:Nat):Int)) R w q:=by
      have:=tE (R:=R) (w:=w) (j:=q) 1 (-1) (λ c=>((y.getD c 0:Nat):Int)) (λ c=>((y'.getD c 0:Nat):Int));simp only[UK,Vb]at this;simpa[Ux]using this
     rw[e3];exact Int.dvd_of_emod_eq_zero (Int.emod_eq_emod_iff_emod_sub_eq_zero.mp e2)
 . have cho:∀y:List Nat,∃z,z∈bx ls/\ax A N w λ c=>vR (λ c=>((y.getD c 0:Nat):Int)) Rb w c-((z.getD c 0:Nat):Int):=λ y=>rep _;refine FP (λ y=>Classical.choose (cho y)) ((vM ds).filter (sG n ds)) (λ y hy=>?_) λ y hy y' hy' e=>?_
   . obtain⟨hy,py⟩:=Tp.mp hy;obtain⟨hb,hr⟩:=Tg (cho y);have ly:=(kE.mp hy).1;have h1:=(ya ly).mp py;refine Tp.mpr ⟨hb,(hp _ hb).mpr ?_⟩
     have a1:ax A N w λ c=>(n:Int)*vR (λ c=>((y.getD c 0:Nat):Int)) Rb w c:=(ko _).mpr λ q hq=>by
      have e1:vR (λ c=>(n:Int)*vR (λ c=>((y.getD c 0:Nat):Int)) Rb w c) R w q=(n:Int)*vR (vR (λ c=>((y.getD c 0:Nat):Int)) Rb w) R w q:=by
       have:=tE (R:=R) (w:=w) (j:=q) (n:Int) 0 (vR (λ c=>((y.getD c 0:Nat):Int)) Rb w) (λ _=>0);simpa using this
      rw[e1,qV sd.jJ sd.iR sd.r2 hq];have h2:=h1 q (by rw[ld];exact hq);rw[ad q hq,<-Int.ofNat_dvd,U8,TQ (by have:=pos q hq;omega)]at h2;exact h2
     exact(a1.sub (hr.smul (n:Int))).eq λ c _=>by grind
   . have hy1:=(Tp.mp hy).1;have hy2:=(Tp.mp hy').1;obtain⟨_,hr⟩:=Tg (cho y);obtain⟨_,hr'⟩:=Tg (cho y');rw[<-show Classical.choose (cho y)=Classical.choose (cho y')from e]at hr';obtain⟨l1,b1⟩:=kE.mp hy1;obtain⟨l2,b2⟩:=kE.mp hy2;have h1:ax A N w λ c=>vR (λ c=>((y.getD c 0:Nat):Int)) Rb w c-vR (λ c=>((y'.getD c 0:Nat):Int)) Rb w c:=(hr.sub hr').eq λ c _=>by omega
     have h2:=(ko _).mp h1;apply VL (by omega);intro q hq hq';have hw:q<w:=by omega
     have h3:=h2 q hw
     have e3:vR (λ c=>vR (λ c=>((y.getD c 0:Nat):Int)) Rb w c-vR (λ c=>((y'.getD c 0:Nat):Int)) Rb w c) R w q=((y.getD q 0:Nat):Int)-((y'.getD q 0:Nat):Int):=by
      have:=tE (R:=R) (w:=w) (j:=q) 1 (-1) (vR (λ c=>((y.getD c 0:Nat):Int)) Rb w) (vR (λ c=>((y'.getD c 0:Nat):Int)) Rb w);rw[qV sd.jJ sd.iR sd.r2 hw,qV sd.jJ sd.iR sd.r2 hw]at this;simp only[UK,Vb]at this;simpa[Ux]using this
     rw[e3]at h3;have b1:=b1 q (by omega);have b2:=b2 q (by omega);rw[ad q hw]at b1 b2;have h4:=pos q hw;have h5:((y.getD q 0:Nat):Int)-((y'.getD q 0:Nat):Int)=0:=Tf h3 (by omega);rw[aN hq,aN hq']at h5;omega
def vq.all{F:Rows}{n w:Nat}{ld:Nat->Nat}(s:bU F n w ld)(row:Nat->Int):∃L,vq F n w ld row n L:=by
 have key:∀i,i<=n->∃L,vq F n w ld row i L:=λ i=>by
  induction i with
  |zero=>intro _;exact⟨row,vq.start⟩
  |succ i ih=>
   intro hi;obtain⟨L,f⟩:=ih (by omega);exact⟨_,f.step s (by omega)⟩
 exact key n (Rv _)
def f9(F:Rows)(w:Nat):List Nat:=(List.range w).map λ q=>(g F q q).toNat
def jN{F:Rows}{w:Nat}:(f9 F w).length=w:=by unfold f9;simp
def uB{F:Rows}{w q:Nat}(hq:q<w):(f9 F w).getD q 0=(g F q q).toNat:=by
 unfold f9;rw[aN (by simpa using hq),Te,Ud]
def zK{F:Rows}{w:Nat}(s:bU F w w λ i=>i)(v:Nat->Int):∃y,y∈bx (f9 F w)/\ax F w w λ c=>v c-((y.getD c 0:Nat):Int):=by
 obtain⟨L,f⟩:=vq.all s v;have at_:∀q,q<w->((List.range w).map λ q=>(L q).toNat).getD q 0=(L q).toNat:=λ q hq=>by rw[aN (by simpa using hq),Te,Ud]
 refine⟨(List.range w).map λ q=>(L q).toNat,kE.mpr ⟨by rw[jN];simp,λ q hq=>?_⟩,?_⟩
 . rw[jN]at hq;rw[at_ q hq,uB hq];have:=f.2 q hq;omega
 . exact f.1.eq λ c hc=>by
    rw[at_ c hc];have:=f.2 c hc;omega
def Hc{F:Rows}{w:Nat}(s:bU F w w λ i=>i):∀y∈bx (f9 F w),∀y'∈bx (f9 F w),ax F w w (λ c=>((y.getD c 0:Nat):Int)-((y'.getD c 0:Nat):Int))->y=y':=λ y hy y' hy' h=>by
 obtain⟨l1,b1⟩:=kE.mp hy;obtain⟨l2,b2⟩:=kE.mp hy';rw[jN]at l1 l2 b1 b2
 have z:=s.Px h λ k hk=>by
  have h1:=b1 k hk;have h2:=b2 k hk;rw[uB hk]at h1 h2;try dsimp only
  omega
 apply VL (by omega);intro q hq hq';have:=z q (by omega);try dsimp only at this
 rw[aN hq,aN hq']at this;omega
def DJ{A F B L Lb R Rb:Rows}{N w x n:Nat}(sd:Sd A B L Lb R Rb N w x)(ch:Ch B N w w)(s:bU F w w λ i=>i)(same:cR A N F w w)(hn:0<n){p:List Nat->Bool}(hp:∀y∈bx (f9 F w),p y=true↔ax F w w λ c=>(n:Int)*((y.getD c 0:Nat):Int)):
 ((bx (f9 F w)).filter p).length=nO n (f9 B w):=by
 have to:∀v,ax F w w v->ax A N w v:=λ v h=>ax.trans same.of h;have of:∀v,ax A N w v->ax F w w v:=λ v h=>ax.trans same.to h
 exact GA sd ch jN hn (λ v=>by
  obtain⟨y,hy,h⟩:=zK s v;exact⟨y,hy,to _ h⟩) (λ y hy y' hy' h=>Hc s y hy y' hy' (of _ h)) λ y hy=>(hp y hy).trans ⟨to _,of _⟩
def PZ:∀t,t<9->Ey 26 t<=10300000/\Uy 26 t<=10300000/\Cx 26 t<=10300000:=by decide+kernel
structure Sf(A:Rows)(N w:Nat)(F:Rows)(m:Nat)(ld:Nat->Nat):Prop where
 isA:aP N w A
 vf:aP m w F
 st:bU F m w ld
 rd:ug F m ld
 sm:cR A N F m w
 bA:∀i j,i<N->j<w->(g A i j).natAbs<=2^26
 bF:∀i j,i<m->j<w->(g F i j).natAbs<=2^26
def Sf.two{A F:Rows}{N w m:Nat}{ld:Nat->Nat}(h:Sf A N w F m ld)(n8:N<=8)(w8:w<=8):AM A N w 10300000 (λ _ _=>True):=by
 have lA:gO A N 0 (2^26):=pq h.isA h.bA;have one:∀t c,eQ A N w t c->∃ld,fj A N w c t w ld (Ey 26 t) (Uy 26 t) (Cx 26 t):=λ t c hC=>hC.str h.isA lA (by omega) (Rv _)
 have bA:∀t c,eQ A N w t c->∀i j,i<N->j<w->(g c.A i j).natAbs<=2^26:=λ t c hC i j hi hj=>by
  obtain⟨ld1,H⟩:=one t c hC;have S1:=H.Cg;have e:=S1.EC h.vf h.st h.rd h.sm.to h.sm.of;have lc:=H.tn.isA.len;by_cases ht:i<t
  . have e1:c.A.getD i []=F.getD i []:=by
     rw[<-e,RI,RI,List.getElem?_take,RC ht]
    have im:i<m:=by
     rw[<-h.vf.len,<-e,TK];omega
    have:g c.A i j=g F i j:=by unfold g;rw[e1]
    rw[this];exact h.bF i j im hj
  . rw[S1.zs i j (by omega) hi hj];exact RX _
 have two:∀t c,eQ A N w t c->∀t2 c2,eQ (bq c.A w) w N t2 c2->∃ld,fj (bq c.A w) w N c2 t2 N ld (Ey 26 t2) (Uy 26 t2) (Cx 26 t2):=λ t c hC t2 c2 hC2=>by
  obtain⟨ld,H⟩:=one t c hC;have iA:=H.tn.isA;exact hC2.str (cF iA) (pq (cF iA) λ i j hi hj=>by rw[cG iA hj hi];exact bA t c hC j i hj hi) (by omega) (Rv _)
 refine⟨λ i j hi hj=>nq (h.bA i j hi hj) (by decide),λ t c hC=>?_,λ t c hC i j hi hj=>nq (bA t c hC i j hi hj) (by decide),λ t c hC t2 c2 hC2=>?_,λ t c hC t2 c2 hC2=>?_⟩
 . obtain⟨ld,H⟩:=one t c hC;have:=H.le;obtain⟨z1,z2,z3⟩:=PZ t (by omega);exact H.Iu z1 z2 z3
 . obtain⟨ld,H⟩:=two t c hC t2 c2 hC2;have:=H.le;obtain⟨z1,z2,z3⟩:=PZ t2 (by omega);exact H.Iu z1 z2 z3
 . obtain⟨ld,H⟩:=two t c hC t2 c2 hC2;obtain⟨ld1,H1⟩:=one t c hC;have le:=H1.le;obtain⟨_,L,hM⟩:=Fp H1 H (by omega) h.bA;refine⟨t,by omega,L,Td hM (Int.ofNat_le.mpr ?_),trivial⟩;exact RH (Sa (by decide) (show t<=8 by omega)) (show(8*2^26)^8<=2^343 by decide+kernel)
structure Rg(A G B L Lb R Rb:Rows)(N w x:Nat):Prop where
 sd:Sd A B L Lb R Rb N w x
 ch:Ch B N w w
 st:bU G w w λ i=>i
 same:cR A N G w w
def E8{A G B L Lb R Rb:Rows}{N w x r:Nat}(sd:Sd A B L Lb R Rb N w x)(ch:Ch B N w r)(same:cR A N G w w)(st:bU G w w λ i=>i):r=w:=by
 have rW:=ch.lo.rW;rcases Tt r w with h|h
 . have z:Pr w (nb B r)=0:=by
    have key:∀n,r<n->Pr n (nb B r)=0:=λ n=>by
     induction n with
     |zero=>intro z;omega
     |succ n ih=>
      intro hn;show Pr n (nb B r)*nb B r n=0;by_cases e:r<n
      . rw[ih e,TU]
      . unfold nb;rw[Rx (by omega),RN]
    exact key w h
   have m:Mn G w w w 0:=(Mn.same same).mp ((sd.mn w 0).mpr ((ch.mn w 0).mpr (by rw[z];exact TF _)));have d0:=m (λ i=>i) (λ i=>i) (λ _ h=>h) (λ _ h=>h);have d1:D w (λ r c=>g G r c)=0:=Int.zero_dvd.mp d0;have d2:D w (λ i c=>g G c i)=0:=by rw[<-G7]at d1;exact d1
   rw[wj λ i c hi hc hic=>(st.lead c hc).2.2 i hic]at d2;exact absurd d2 (Ul (nN λ i hi=>(st.lead i hi).2.1))
 . omega
def Rg.ko{A G B L Lb R Rb:Rows}{N w x:Nat}(h:Rg A G B L Lb R Rb N w x)(v:Nat->Int):ax G w w v↔∀q,q<w->g B q q∣vR v R w q:=by
 have e:ax G w w v↔ax A N w v:=⟨λ l=>ax.trans h.same.of l,λ l=>ax.trans h.same.to l⟩
 exact e.trans (h.sd.ko.trans h.ch.ko)
def Gj{R:Rows}{w j:Nat}(a:Int)(u:Nat->Int):vR (λ c=>a*u c) R w j=a*vR u R w j:=by
 have:=tE (R:=R) (w:=w) (j:=j) a 0 u (λ _=>0);simpa using this
def Rg.top{A G B L Lb R Rb:Rows}{N w x:Nat}(h:Rg A G B L Lb R Rb N w x)(w1:1<=w)(y:Nat->Int):ax G w w λ c=>g B (w-1) (w-1)*y c:=(h.ko _).mpr λ q hq=>by
 rw[Gj]
 have:g B q q∣g B (w-1) (w-1):=by
  by_cases e:q=w-1
  . rw[e];exact TF _
  . exact h.ch.ch q (w-1) (by omega) (by omega)
 exact T9 this (Int.dvd_mul_right _ _)
def Rg.one{A G B L Lb R Rb:Rows}{N w x:Nat}(h:Rg A G B L Lb R Rb N w x)(w1:1<=w):∃y,y∈bx (f9 G w)/\∀m:Int,(ax G w w λ c=>m*((y.getD c 0:Nat):Int))↔g B (w-1) (w-1)∣m:=by
 obtain⟨y,hy,hr⟩:=zK h.st (vR (λ c=>dl c (w-1)) Rb w);refine⟨y,hy,λ m=>?_⟩
 have e:(ax G w w λ c=>m*((y.getD c 0:Nat):Int))↔ax G w w λ c=>m*vR (λ c=>dl c (w-1)) Rb w c:=by
  constructor
  . intro l;exact(ax.vL m l hr).eq λ c _=>by grind
  . intro l;exact(l.sub (hr.smul m)).eq λ c _=>by grind
 rw[e,h.ko]
 have at_:∀q,q<w->vR (λ c=>m*vR (λ c=>dl c (w-1)) Rb w c) R w q=m*dl q (w-1):=λ q hq=>by
  rw[Gj];exact Tu (m* ·) (qV (v:=λ c=>dl c (w-1)) h.sd.jJ h.sd.iR h.sd.r2 hq)
 constructor
 . intro a;have:=a (w-1) (by omega);rw[at_ _ (by omega)]at this;unfold dl at this;rwa [RC rfl,Tv]at this
 . intro a q hq;rw[at_ q hq];unfold dl;by_cases e:q=w-1
   . rw[RC e,Tv,e];exact a
   . rw[Rx e,RN];exact Int.dvd_zero _
def Rg.count{A G B L Lb R Rb:Rows}{N w x n:Nat}(h:Rg A G B L Lb R Rb N w x)(hn:0<n){p:List Nat->Bool}(hp:∀y∈bx (f9 G w),p y=true↔ax G w w λ c=>(n:Int)*((y.getD c 0:Nat):Int)):((bx (f9 G w)).filter p).length=nO n (f9 B w):=DJ h.sd h.ch h.st h.same hn hp
end Mx
namespace Prog
open PySem L2 L3
open PySem.Spec hiding items?
open PyProof.Rows hiding St
def lz{i j:Int}(h1: -(2^64)<i)(h2:i<2^64):IntMulOk i j:= .of_left (intBits_le_64 h1 h2)
def lg{i j:Int}(h1: -(2^64)<j)(h2:j<2^64):IntMulOk i j:= .of_right (intBits_le_64 h1 h2)
def isInt:D->Bool
 | .int _=>true
 |_=>false
abbrev au(r:List Int):List D:=r.map D.int
abbrev bL(r:List Int):D:= .tup (au r)
abbrev bf(r:List Int):D:= .lst (au r)
abbrev aJ(A:List (List Int)):D:= .tup (A.map bL)
def cv(st:af):List D->List (List Int)->Prop
 | [],[]=>True
 |d::ds,r::rs=>items? st d=some (au r)/\cv st ds rs
 |_,_=>False
structure eO(st:af)(d:D)(A:List (List Int)):Prop where
 ex:∃ds,items? st d=some ds/\cv st ds A
def cv.len{st:af}:∀ {ds:List D} {A:List (List Int)},cv st ds A->ds.length=A.length
 | [],[],_=>rfl
 |_::_,_::_,h=>by simp[cv.len h.2]
def cv.tup{st:af}:∀ {A:List (List Int)},cv st (A.map bL) A
 | []=>trivial
 |_::_=>⟨rfl,cv.tup⟩
def cv.lst{st:af}:∀ {A:List (List Int)},cv st (A.map bf) A
 | []=>trivial
 |_::_=>⟨rfl,cv.lst⟩
def cv.get{st:af}:∀ {ds:List D} {A:List (List Int)} {i:Nat} {d:D},cv st ds A->ds[i]?=some d->∃r,A[i]?=some r/\items? st d=some (au r)
 |_::_,r::_,0,_,h,e=>by simp at e;subst e;exact⟨r,rfl,h.1⟩
 |_::_,_::_,i+1,d,h,e=>by
  obtain⟨r,e1,e2⟩:=cv.get (i:=i) (d:=d) h.2 (by simpa using e);exact⟨r,by simpa using e1,e2⟩
def dh{st:af}{A:List (List Int)}:eO st (aJ A) A:=⟨_,rfl,cv.tup⟩
structure Ext(st st':af):Prop where
 len:st.length<=st'.length
 same:∀m,m<st.length->st'[m]?=st[m]?
def Ext.trans{st st1 st2:af}(a:Ext st st1)(b:Ext st1 st2):Ext st st2:=⟨RH a.len b.len,λ m h=>(b.same m (RQ h a.len)).trans (a.same m h)⟩
def Ext.push{st:af}{c:List Cell}:Ext st (st++c):=⟨by simp,λ m h=>RG h⟩
def Ext.set{st:af}{n:Nat}{c:Cell}{st0:af}(a:Ext st0 st)(h:st0.length<=n):Ext st0 (st.set n c):=⟨by rw[RV];exact a.len,λ m hm=>by rw[RD (by omega)];exact a.same m hm⟩
def Ext.items{st st':af}{d:D}{xs:List D}(x:Ext st st')(e:items? st d=some xs):items? st' d=some xs:=by
 cases d with
 |ref n=>
  unfold items? at e⊢;simp only at e⊢;cases q:st[n]? with
  |none=>rw[q]at e;cases e
  |some c=>
   have hn:=(RB.mp q).1;rw[x.same n hn];exact e
 |_=>exact e
def iN{r:List Int}{k:Nat}(h:k<r.length):eF (au r) (k:Int)=some (.int (r.getD k 0)):=by
 refine jq ?_;rw[RP,RJ h,Mx.aN h];rfl
def getD_mem{r:List Int}{k:Nat}(h:k<r.length):r.getD k 0∈r:=by rw[Mx.aN h];exact Tz _
def cv.at{st:af}{ds:List D}{A:List (List Int)}{k:Nat}(h:cv st ds A)(hk:k<A.length):∃d,eF ds (k:Int)=some d/\items? st d=some (au (A.getD k [])):=by
 have hl:=h.len;have e:ds[k]?=some ds[k]:=RJ (by omega);obtain⟨r,er,hr⟩:=h.get e;refine⟨ds[k],jq e,?_⟩;rw[Mx.aN hk];rw[RJ hk]at er;cases er;exact hr
def ints_app{r:List Int}{x:Int}:au r++[D.int x]=au (r++[x]):=by simp[au]
def GD{A:List (List Int)}{r:List Int}:A.map bL++[bL r]=(A++[r]).map bL:=by simp
def zF{r s:List Int}{d:D}(h:d∈k_ (au r) (au s)):∃a b,a∈r/\b∈s/\d= .tup [.int a,.int b]:=by
 obtain⟨n,hn,e⟩:=SJ.mp h;have e':(k_ (au r) (au s))[n]?=some d:=by rw[RJ hn,e]
 obtain⟨x,y,ex,ey,rfl⟩:=vX e';rw[RP]at ex ey;cases q1:r[n]? with
 |none=>rw[q1]at ex;cases ex
 |some a=>
  cases q2:s[n]? with
  |none=>rw[q2]at ey;cases ey
  |some b=>
   rw[q1]at ex;rw[q2]at ey;cases ex;cases ey;exact⟨a,b,Sg q1,Sg q2,rfl⟩
def AG(n:Nat):(List.replicate n [D.int 0]).flatten=au (List.replicate n 0):=by
 induction n with
 |zero=>rfl
 |succ n ih=>rw[SY,T3,ih];rfl
def yw:∀r:List Int,(au r).map (λ x=>match x with| .int i=>i|_=>0)=r
 | []=>rfl
 |a::r=>by rw[au,R0,R0,yw r]
def Bp{d:D}{ds:List D}:eF (d::ds) 0=some d:=jq (j:=0) rfl
def intsOf(st:af)(d:D):List Int:=match items? st d with
 |some xs=>xs.map λ x=>match x with| .int i=>i|_=>0
 |none=>[]
def yM{st:af}{d:D}{r:List Int}(h:items? st d=some (au r)):intsOf st d=r:=by
 unfold intsOf;rw[h];exact yw r
def FZ{x y:D}{xs ys:List D}:k_ (x::xs) (y::ys)= .tup [x,y]::k_ xs ys:=rfl
def az:Addr:=137
def aH:Addr:=207
abbrev dR(b:Bool):Cell:=Cell.tab 117 ⟨61,32,61,66⟩ "Bench.live_rows.<locals>.<lambda>" b
abbrev NS:List (Addr×Pos×Str):=[(117,⟨61,32,61,66⟩,"Bench.live_rows.<locals>.<lambda>")]
def nM:cL:=λ ds st K=>∃(d:D) (A:List (List Int)),ds=[d]/\eO st d A/\A.length<=1000/\K (aJ A) st
def pJ:List Str:=["rows"]
def F_:DS:=(cT (cz fo (ae (dS (dU (aa 0)) [none] (bz 0) cS (cz fo (ae (aa 0) ao))) ao)))
def j_{tg:fP}{te:DE}{ok:af->Prop}{σc:bQ}{st:af}{K:List D->af->Prop}{ds:List D}{A:List (List Int)}(f:List Int->D)(aM:ok st)(hr:cv st ds A)(hx:∀d r,r∈A->items? st d=some (au r)->∀K',K' (f r) st->∃σ2,tg d σc=some σ2/\te σ2 st K')(k:K (A.map f) st):cO tg cS te ok σc ds [] st K:=by
 refine fv (λ rest acc st'=>∃(A1 A2:List (List Int)),st=st'/\A1++A2=A/\cv st rest A2/\acc=A1.map f) ?_ ?_ _ _ _ ⟨[],A,rfl,rfl,hr,rfl⟩
 . rintro acc st' ⟨A1,A2,rfl,he,h,rfl⟩;match A2,h with
   | [],_=>
     rw[SX]at he;subst he;exact⟨aM,k⟩
 . rintro d rest acc st' ⟨A1,A2,rfl,he,h,rfl⟩ next
   match A2,h with
   |r::A2,h=>
    obtain⟨σ2,e2,q⟩:=hx d r (by rw[<-he];simp) h.1 (λ y st2=>cO tg cS te ok σc rest (A1.map f++[y]) st2 K) (next _ _ ⟨A1++[r],A2,rfl,by rw[<-he];simp,h.2,by simp⟩);exact⟨aM,σ2,e2,q⟩
abbrev Ru(S:cL)(n:Nat)(P:DS)(N:List Str):Prop:=∀ds st K,S ds st K->ds.length=n/\P {nx:=λ _ st'=>K .aB st',rt:=K} (bc N ds) st
def De:Ru nM 1 F_ pJ:=by
 rintro ds st K ⟨d,A,rfl,⟨da,hd,ra⟩,hl,k⟩;refine⟨rfl,?_⟩;refine nJ hd λ ok aM=>⟨cC (by rw[ra.len];exact hl),?_⟩
 refine j_ bL aM ra (λ e r hr he K' q=>⟨_,rfl,e9 he q⟩) ?_;exact e9 rfl k
def mY:cL:=λ ds st K=>∃x y t r s,ds=[x,.int t,y]/\items? st x=some (au r)/\items? st y=some (au s)/\r.length<=1000/\(∀b∈s,IntMulOk t b)/\K (bf (Mx.gq r t s)) st
def uy:List Str:=["row","times","other"]
def KY:DS:=(cT (dS (AO (ae (aa 0) (ae (aa 2) ao))) [none,none,some 1] (ka 0 1) cS (av ib (aa 0) (av fM (aa 2) (aa 1)))))
def uf{t:Int}:∀(r s:List Int),(k_ (au r) (au s)).map (λ d=>match d with| .tup [.int a,.int b]=> .int (a+t*b)|_=> .aB)=au (Mx.gq r t s)
 | [],_=>rfl
 |_::_,[]=>rfl
 |a::r,b::s=>by
  have:=uf (t:=t) r s;unfold k_ Mx.gq at this⊢;simp only[au,R0,List.zip_cons_cons,List.zipWith_cons_cons]at this⊢;rw[this]
def Hu:Ru mY 3 KY uy:=by
 rintro ds st K ⟨x,y,t,r,s,rfl,hx,hy,hl,hm,k⟩;refine⟨rfl,?_⟩;refine Bv hx hy λ ok aM=>⟨cC (by rw[vN];simp;omega),?_⟩
 refine comp_map (g:=λ d=>match d with| .tup [.int a,.int b]=> .int (a+t*b)|_=> .aB) (aM st hx hy) _ (λ d hd K' q=>?_) ?_
 . obtain⟨a,b,ha,hb,rfl⟩:=zF hd;exact⟨_,rfl,gh (hm b hb) (iz q)⟩
 . rw[uf];exact k
def vG:cL:=λ ds st K=>∃(x y:D) (n:Nat) (ws:List Int) (A:List (List Int)),ds=[x,y,.int n]/\items? st x=some (au ws)/\eO st y A/\(∀r∈A,r.length=n)/\n<=1000/\(∀w∈ws,∀r∈A,∀b∈r,IntMulOk w b)/\K (bL (Mx.gZ ws A (List.replicate n 0))) st
def rh:List Str:=["weights","rows","wide","total","weight","row"]
def GV:DS:=(aF (bo 3 (av fM (tF (ae (dC (.int 0)) ao)) (aa 2)))
 (aF (gR (AO (ae (aa 0) (ae (aa 1) ao))) (ka 4 5) (bo 3 (aQ mY (ae (aa 3) (ae (aa 4) (ae (aa 5) ao))))))
 (cT (cz fo (ae (aa 3) ao)))))
def EX:Ru vG 3 GV rh:=by
 rintro ds st K ⟨x,y,n,ws,A,rfl,hx,⟨dr,hy,hr⟩,hw,hn,hm,k⟩;refine⟨rfl,?_⟩;refine Lj (RT rfl) (CA ⟨by omega,by omega,cC (by simp;omega)⟩ ?_);rw[R8,AG];refine Bv hx hy λ ok aM=>?_
 refine fT (λ rest σ st'=>∃(v4 v5:Option D) (ws':List Int) (ds':List D) (A':List (List Int)) (acc:List Int),st=st'/\rest=k_ (au ws') ds'/\cv st ds' A'/\σ=[some x,some y,some (.int n),some (bf acc),v4,v5]/\acc.length=n/\(∀r∈A',r∈A)/\(∀w∈ws',w∈ws)/\Mx.gZ ws' A' acc=Mx.gZ ws A (List.replicate n 0)) ?_ ?_ _ _ _
  ⟨none,none,ws,dr,A,List.replicate n 0,rfl,rfl,hr,rfl,by simp,λ _ h=>h,λ _ h=>h,rfl⟩
 . rintro σ st1 ⟨v4,v5,ws',ds',A',acc,rfl,he,hr',rfl,hl,_,_,hs⟩;refine⟨aM _ hx hy,e9 rfl ?_⟩
   have:Mx.gZ ws' A' acc=acc:=by
    match ws',ds',A',hr',he with
    | [],_,_,_,_=>unfold Mx.gZ;rfl
    |_::_,[],[],_,_=>unfold Mx.gZ;rfl
    |_::_,_::_,_::_,_,he=>cases he
   rw[this]at hs;rw[hs];exact k
 . rintro d rest σ st1 ⟨v4,v5,ws',ds',A',acc,rfl,he,hr',rfl,hl,ha,hw',hs⟩ next
   match ws',ds',A',hr',he with
   |w::ws',e::ds',r::A',hr',he=>
    simp only[au,R0,FZ,Ta]at he;obtain⟨rfl,rfl⟩:=he;refine⟨aM _ hx hy,_,rfl,?_⟩;have hrl:=hw r (ha r R6);refine⟨_,_,_,acc,r,rfl,rfl,hr'.1,by omega,λ b hb=>hm w (hw' w R6) r (ha r R6) b hb,?_⟩;refine next _ _ ⟨_,_,ws',ds',A',Mx.gq acc w r,rfl,rfl,hr'.2,rfl,by rw[Mx.mN (by omega)];exact hl,λ q hq=>ha q (RU _ hq),λ q hq=>hw' q (RU _ hq),?_⟩
    rw[<-hs];rfl
   | [],_,_,_,he=>cases he
   |_::_,[],[],_,he=>cases he
def iV:cL:=λ ds st K=>∃(x y:D) (n:Nat) (A B:List (List Int)),ds=[x,y]/\eO st x A/\eO st y B/\B≠ []/\(∀r∈B,r.length=n)/\n<=1000/\A.length<=1000/\(∀w∈A,∀c∈w,∀r∈B,∀b∈r,IntMulOk c b)/\K (aJ (Mx.mulM A B n)) st
def pM:List Str:=["one","other","wide"]
def FI:DS:=(aF (bo 2 (cz fh (ae (av bM (aa 1) (dC (.int 0))) ao)))
 (cT (cz fo (ae (dS (dU (aa 0)) [none,some 1,some 2] (bz 0) cS (aQ vG (ae (aa 0) (ae (aa 1) (ae (aa 2) ao))))) ao))))
def AD{st:af}{n:Nat}{B:List (List Int)}{f:D->D}:∀ {ds:List D} {A:List (List Int)},cv st ds A->(∀d r,items? st d=some (au r)->f d=bL (Mx.gZ r B (List.replicate n 0)))->ds.map f=(Mx.mulM A B n).map bL
 | [],[],_,_=>rfl
 |d::ds,r::A,h,hf=>by
  rw[R0,hf d r h.1,AD h.2 hf];rfl
def Dm:Ru iV 2 FI pM:=by
 rintro ds st K ⟨x,y,n,A,B,rfl,⟨da,hx,ra⟩,hy,hB,hw,hn,hl,hm,k⟩;refine⟨rfl,?_⟩;obtain⟨db,ey,rb⟩:=hy.ex;match B,db,rb,hB,hw,hm,hy,k,ey with
 |r0::B,d0::db,rb,_,hw,hm,hy,k,ey=>
  have h0:r0.length=n:=hw r0 R6;refine aR ey Bp (df rb.1 ?_);rw[Rz,h0];refine nJ hx λ ok aM=>⟨cC (by rw[ra.len];exact hl),?_⟩
  refine comp_map (g:=λ d=>bL (Mx.gZ (intsOf st d) (r0::B) (List.replicate n 0))) aM da (λ d hd K' q=>?_) ?_
  . obtain⟨i,hi,ed⟩:=SJ.mp hd;obtain⟨r,er,hr⟩:=ra.get (i:=i) (d:=d) (by rw[RJ hi,ed]);refine⟨_,rfl,d,y,n,r,r0::B,rfl,hr,hy,hw,hn,λ c hc=>hm r (Sg er) c hc,?_⟩;rw[yM hr]at q;exact q
  . refine e9 rfl ?_;rw[AD ra (n:=n) (B:=r0::B) λ d r h=>by rw[yM h]];exact k
 |_::_,[],rb,_,_,_,_,_,_=>exact rb.elim
def vQ:cL:=λ ds st K=>∃(d:D) (A:List (List Int)) (j:Nat),ds=[d,.int j]/\eO st d A/\(∀r∈A,j<r.length)/\A.length<=1000/\K (bL (Mx.rP A j)) st
def sj:List Str:=["rows","place"]
def Hx:DS:=(cT (cz fo (ae (dS (dU (aa 0)) [none,some 1] (bz 0) cS (av bM (aa 0) (aa 1))) ao)))
def F5{tg:fP}{te:DE}{ok:af->Prop}{σc:bQ}{st:af}{K:List D->af->Prop}{ds:List D}{A:List (List Int)}(f:List Int->D)(aM:ok st)(hr:cv st ds A)(hx:∀d r,r∈A->items? st d=some (au r)->∀K',K' (f r) st->∃σ2,tg d σc=some σ2/\te σ2 st K')(k:K (A.map f) st):cO tg cS te ok σc ds [] st K:=by
 refine fv (λ rest acc st'=>∃(A1 A2:List (List Int)),st=st'/\A1++A2=A/\cv st rest A2/\acc=A1.map f) ?_ ?_ _ _ _ ⟨[],A,rfl,rfl,hr,rfl⟩
 . rintro acc st' ⟨A1,A2,rfl,he,h,rfl⟩;match A2,h with
   | [],_=>
     rw[SX]at he;subst he;exact⟨aM,k⟩
 . rintro d rest acc st' ⟨A1,A2,rfl,he,h,rfl⟩ next
   match A2,h with
   |r::A2,h=>
    obtain⟨σ2,e2,q⟩:=hx d r (by rw[<-he];simp) h.1 (λ y st2=>cO tg cS te ok σc rest (A1.map f++[y]) st2 K) (next _ _ ⟨A1++[r],A2,rfl,by rw[<-he];simp,h.2,by simp⟩);exact⟨aM,σ2,e2,q⟩
def FL(A:List (List Int))(j:Nat):A.map (λ r=>D.int (r.getD j 0))=au (Mx.rP A j):=by unfold Mx.rP au;rw[Sn];rfl
def Ew:Ru vQ 2 Hx sj:=by
 rintro ds st K ⟨d,A,j,rfl,⟨da,hd,ra⟩,hj,hl,k⟩;refine⟨rfl,?_⟩;refine nJ hd λ ok aM=>⟨cC (by rw[ra.len];exact hl),?_⟩
 refine F5 (λ r=> .int (r.getD j 0)) aM ra (λ e r hr he K' q=>⟨_,rfl,aR he (iN (hj r hr)) q⟩) ?_;rw[FL];exact e9 rfl k
def gT:cL:=λ ds st K=>∃(d:D) (A:List (List Int)) (n:Nat),ds=[d,.int n]/\eO st d A/\(∀r∈A,r.length=n)/\A.length<=1000/\n<=1000/\K (aJ (Mx.bq A n)) st
def kR:List Str:=["rows","wide"]
def yX:DS:=(cT (cz fo (ae (dS (fS (ae (aa 1) ao)) [none,some 0] (bz 0) cS (aQ vQ (ae (aa 1) (ae (aa 0) ao)))) ao)))
def GG(A:List (List Int))(n:Nat):(List.range n).map (λ j=>bL (Mx.rP A j))=(Mx.bq A n).map bL:=by unfold Mx.bq;rw[Sn];rfl
def xS:Ru gT 2 yX kR:=by
 rintro ds st K ⟨d,A,n,rfl,hd,hw,hl,hn,k⟩;refine⟨rfl,?_⟩;refine iD ⟨by omega,by omega⟩ ⟨cC (by rw[i6];omega),?_⟩;rw[R8];refine si (λ j=>bL (Mx.rP A j)) n (λ i hi K' q=>⟨_,rfl,d,A,i,rfl,hd,λ r hr=>by rw[hw r hr];exact hi,hl,q⟩) ?_;rw[GG];exact e9 rfl k
def r_:cL:=λ ds st K=>∃(n i:Nat),ds=[.int n,.int i]/\n<=1000/\K (bL (Mx.j7 n i)) st
def ox:List Str:=["n","place"]
def CZ:DS:=(cT (cz fo (ae (dS (fS (ae (aa 0) ao)) [none,some 1] (bz 0) cS (Fy (cA (av mE (aa 0) (aa 1))) (dC (.int 1)) (dC (.int 0)))) ao)))
def BP:Ru r_ 2 CZ ox:=by
 rintro ds st K ⟨n,i,rfl,hn,k⟩;refine⟨rfl,?_⟩;refine iD ⟨by omega,by omega⟩ ⟨cC (by rw[i6];omega),?_⟩;rw[R8];refine si (λ j=> .int (Mx.dl j i)) n (λ j hj K' q=>⟨_,rfl,?_⟩) ?_
 . refine eq2 (λ h=>gS ?_) λ h=>?_
   . have:j=i:=by omega
     subst this;rw[Mx.bP]at q;exact q
   . rw[Mx.bK (by omega)]at q;exact q
 . have:(List.range n).map (λ j=>D.int (Mx.dl j i))=au (Mx.j7 n i):=by unfold Mx.j7 au;rw[Sn];rfl
   rw[this];exact e9 rfl k
def fH:cL:=λ ds st K=>∃(n:Nat),ds=[.int n]/\n<=1000/\K (aJ (Mx.units n)) st
def nh:List Str:=["n"]
def BG:DS:=(cT (cz fo (ae (dS (fS (ae (aa 0) ao)) [none,some 0] (bz 0) cS (aQ r_ (ae (aa 1) (ae (aa 0) ao)))) ao)))
def AI:Ru fH 1 BG nh:=by
 rintro ds st K ⟨n,rfl,hn,k⟩;refine⟨rfl,?_⟩;refine iD ⟨by omega,by omega⟩ ⟨cC (by rw[i6];omega),?_⟩;rw[R8];refine si (λ i=>bL (Mx.j7 n i)) n (λ i hi K' q=>⟨_,rfl,n,i,rfl,hn,q⟩) ?_;have:(List.range n).map (λ i=>bL (Mx.j7 n i))=(Mx.units n).map bL:=by unfold Mx.units;rw[Sn];rfl
 rw[this];exact e9 rfl k
def j6:List Int->Nat->Option Nat
 | [],_=>none
 |x::xs,i=>if x=0 then j6 xs (i+1)else some i
def uv(r:List Int):Option Nat:=j6 r 0
def l9(r:List Int):D:=match uv r with
 |some k=> .int (k:Int)
 |none=> .aB
def pL:cL:=λ ds st K=>∃(d:D) (r:List Int),ds=[d]/\items? st d=some (au r)/\K (l9 r) st
def pS:List Str:=["row","place","number"]
def EY:DS:=(aF (gR (uW (ae (aa 0) ao)) (ka 1 2) (jZ (cA (av nU (aa 2) (dC (.int 0)))) (cT (aa 1)) ix))
 (cT (dC .aB)))
def Dx:Ru pL 1 EY pS:=by
 rintro ds st K ⟨d,r,rfl,hd,k⟩;refine⟨rfl,?_⟩;refine uP hd λ ok aM=>?_;refine fT (λ rest σ st'=>st'=st/\∃(v1 v2:Option D) (s:List Int) (i:Nat),σ=[some d,v1,v2]/\rest=fe i (au s)/\j6 r 0=j6 s i) ?_ ?_ _ _ _ ⟨rfl,none,none,r,0,rfl,rfl,rfl⟩
 . rintro σ st' ⟨rfl,v1,v2,s,i,rfl,hr,hl⟩;match s,hr with
   | [],_=>
     refine⟨aM _ hd,?_⟩;have:l9 r= .aB:=by unfold l9 uv;rw[hl];rfl
     rw[this]at k;exact k
 . rintro x rest σ st' ⟨rfl,v1,v2,s,i,rfl,hr,hl⟩ next
   match s,hr,hl with
   |y::s,hr,hl=>
    simp only[au,R0,fe,Ta]at hr;obtain⟨rfl,rfl⟩:=hr;refine⟨aM _ hd,_,rfl,?_⟩;refine ne2 (λ h=>gS ?_) λ h=>?_
    . have:l9 r= .int (i:Int):=by unfold l9 uv;rw[hl];unfold j6;rw[Rx h]
      rw[this]at k;exact k
    . refine next _ _ ⟨rfl,_,_,s,i+1,rfl,rfl,?_⟩
      rw[hl];unfold j6;rw[RC h];cases s<;>rfl
   | [],hr,_=>cases hr
def Be:∀(r:List Int) (i l:Nat),(∀c,c<l->r.getD c 0=0)->r.getD l 0≠0->j6 r i=some (i+l)
 | [],_,_,_,h=>(h rfl).elim
 |x::r,i,0,_,h=>by
  unfold j6;rw[Rx (show¬x=0 from h)];rfl
 |x::r,i,l+1,hz,h=>by
  unfold j6;rw[RC (show x=0 from hz 0 (Nat.zero_lt_succ _)),Be r (i+1) l (λ c hc=>hz (c+1) (Nat.succ_lt_succ hc)) h,Nat.add_right_comm];rfl
def wO:∀(r:List Int) (i:Nat),j6 r i=none->∀c,r.getD c 0=0
 | [],_,_,_=>rfl
 |x::r,i,h,c=>by
  unfold j6 at h;split at h
  . cases c with
    |zero=>assumption
    |succ c=>exact wO r (i+1) h c
  . cases h
def wZ:∀(r:List Int) (i l:Nat),j6 r i=some l->∃k,l=i+k/\k<r.length/\r.getD k 0≠0
 | [],_,_,h=>by cases h
 |x::r,i,l,h=>by
  unfold j6 at h;split at h
  . obtain⟨k,e,hk,hr⟩:=wZ r (i+1) l h;exact⟨k+1,by omega,Nat.succ_lt_succ hk,hr⟩
  . cases h;exact⟨0,rfl,Nat.succ_pos _,by assumption⟩
def EL{r:List Int}{l:Nat}(h:∀c,c<l->r.getD c 0=0)(h':r.getD l 0≠0):uv r=some l:=by
 have:=Be r 0 l h h';rw[Uw]at this;exact this
def jR:cL:=λ ds st K=>∃(t d:Int),ds=[.int t,.int d]/\d≠0/\K (.int (Mx.qn t d)) st
def gY:List Str:=["top","bottom"]
def tQ:DS:=(cT (av qL (av ib (av fM (dC (.int 2)) (aa 0)) (aa 1)) (av fM (dC (.int 2)) (aa 1))))
def Gy{a:Int}{m:Nat}(h:a.natAbs<2^m):Builtin.Int.intBits a<=m:=by
 unfold Builtin.Int.intBits;by_cases h0:a.natAbs=0
 . have:a=0:=by omega
   subst this;simp
 . have:=(W0 h0).mpr h;split<;>omega
def oN{a b:Int}{m n:Nat}(ha:a.natAbs<=2^m)(hb:b.natAbs<=2^n)(h:m+n<=130000000):IntMulOk a b:=by
 have q:∀ {x:Int} {k:Nat},x.natAbs<=2^k->Builtin.Int.intBits x<=k+1:=λ{x k} h=>Gy (Vy h (Nat.pow_lt_pow_right (by decide) (Sq k)));have h1:=q ha;have h2:=q hb;have e:(2:Nat)^27=134217728:=by decide
 have z:Builtin.Int.intTooBig (Builtin.Int.intBits a+Builtin.Int.intBits b)=false:=by
  unfold Builtin.Int.intTooBig bitsLine;exact Sv (by omega)
 unfold IntMulOk;rw[z];simp
def sN:Ru jR 2 tQ gY:=by
 rintro ds st K ⟨t,d,rfl,hd,k⟩;exact⟨rfl,gh (lz (by decide) (by decide)) (iz (gh (lz (by decide) (by decide)) (AJ (by omega) k)))⟩
def kI:cL:=λ ds st K=>∃(n k o:Nat) (A:List (List Int)),ds=[.ref n,.int k,.int o]/\st[n]?=some (.lst (A.map bf))/\k<A.length/\o<A.length/\K (.ref st.length) (st++[.lst ((Mx.bC A k o).map bf)])
def ny:List Str:=["rows","k","other","order"]
def BI:DS:=(aF (bo 3 (cz qA (ae (aa 0) ao)))
 (aF (ft (aa 3) (aa 1) (av bM (aa 0) (aa 2)))
 (aF (ft (aa 3) (aa 2) (av bM (aa 0) (aa 1)))
 (cT (aa 3)))))
def dW{A:List (List Int)}{j:Nat}(h:j<A.length):eF (A.map bf) (j:Int)=some (bf (A.getD j [])):=by
 refine jq ?_;rw[RP,RJ h,Mx.aN h];rfl
def nQ{m k:Nat}(h:k<m):o4 m (k:Int)=some k:=by
 have:=pw (i:=(k:Int)) (m:=m) (by omega) (by omega);rw[R8]at this;exact this
def jj{A:List (List Int)}{k:Nat}{r:List Int}:(A.map bf).set k (bf r)=(A.set k r).map bf:=by rw[WJ]
def A_:Ru kI 3 BI ny:=by
 rintro ds st K ⟨n,k,o,A,rfl,e,hk,ho,kk⟩;refine⟨rfl,?_⟩;have hn:n<st.length:=(RB.mp e).1;refine AS (aO e) ?_;have e1:(st++[Cell.lst (A.map bf)])[n]?=some (.lst (A.map bf)):=by rw[RG hn];exact e
 have e2:(st++[Cell.lst (A.map bf)])[st.length]?=some (.lst (A.map bf)):=by simp
 refine aR (aO e1) (dW ho) (gj e2 (by rw[Rz];exact nQ hk) ?_);rw[jj]
 have es:(st++[Cell.lst (A.map bf)]).set st.length (.lst ((A.set k (A.getD o [])).map bf))=st++[Cell.lst ((A.set k (A.getD o [])).map bf)]:=by
  rw[W7 _ _ (Rv _),Tc];rfl
 rw[es];have e3:(st++[Cell.lst ((A.set k (A.getD o [])).map bf)])[n]?=some (.lst (A.map bf)):=by rw[RG hn];exact e
 have e4:(st++[Cell.lst ((A.set k (A.getD o [])).map bf)])[st.length]?=some (.lst ((A.set k (A.getD o [])).map bf)):=by simp
 refine aR (aO e3) (dW hk) (gj e4 (by rw[Rz,RV];exact nQ ho) ?_);rw[jj]
 have es2:(st++[Cell.lst ((A.set k (A.getD o [])).map bf)]).set st.length (.lst (((A.set k (A.getD o [])).set o (A.getD k [])).map bf))=st++[Cell.lst ((Mx.bC A k o).map bf)]:=by
  rw[W7 _ _ (Rv _),Tc];rfl
 rw[es2];exact kk
def nF:cL:=λ ds st K=>∃(d:D) (r:List Int),ds=[d]/\items? st d=some (au r)/\r.length<=1000/\K (bf (r.map λ x=> -x)) st
def qf:List Str:=["row"]
def F1:DS:=(cT (dS (dU (aa 0)) [none] (bz 0) cS (pY ky (aa 0))))
def DW:Ru nF 1 F1 qf:=by
 rintro ds st K ⟨d,r,rfl,hd,hl,k⟩;refine⟨rfl,?_⟩;refine nJ hd λ ok aM=>⟨cC (by unfold au;rw[Rz];exact hl),?_⟩
 refine comp_map (g:=λ x=>match x with| .int a=> .int (-a)|_=> .aB) aM _ (λ x hx K' q=>?_) ?_
 . unfold au at hx;obtain⟨a,_,rfl⟩:=Sl.mp hx;exact⟨_,rfl,jU q⟩
 . have e:(au r).map (λ x=>match x with| .int a=> .int (-a)|_=> .aB)=au (r.map λ x=> -x):=by unfold au;rw[Sn,Sn];rfl
   rw[e];exact k
structure Bn(st:af)(b xb xu xc:Nat)(A U C:List (List Int)):Prop where
 eb:st[b]?=some (Cell.ins az [("body",.ref xb),("turn",.ref xu),("back_columns",.ref xc)])
 e1:st[xb]?=some (Cell.lst (A.map bf))
 e2:st[xu]?=some (Cell.lst (U.map bf))
 e3:st[xc]?=some (Cell.lst (C.map bf))
 n1:xb≠xu
 n2:xb≠xc
 n3:xu≠xc
def l7{st:af}{b x:Nat}{C:Addr}{fs:List (Str×D)}{xs:List D}(h1:st[b]?=some (Cell.ins C fs))(h2:st[x]?=some (Cell.lst xs)):b≠x:=λ z=>by rw[z,h2]at h1;cases h1
def kT:cL:=λ ds st K=>∃(b N:Nat) (d:D) (A:List (List Int)),ds=[.ref b,d]/\st[b]?=some (.ins az [])/\eO st d A/\A.length=N/\N<=16/\∀st',Bn st' b st.length (st.length+1) (st.length+2) A (Mx.units N) (Mx.units N)->st'.length=st.length+3->(∀m,m<st.length->m≠b->st'[m]?=st[m]?)->K .aB st'
def i7:List Str:=["self","rows"]
def v_:DS:=(aF (fI az "body" (aa 0) (lR (dU (aa 1)) [none] (bz 0) cS (cz ow (ae (aa 0) ao))))
 (aF (fI az "turn" (aa 0) (lR (dU (aQ fH (ae (cz fh (ae (aa 1) ao)) ao))) [none] (bz 0) cS (cz ow (ae (aa 0) ao))))
 (fI az "back_columns" (aa 0) (lR (dU (aQ fH (ae (cz fh (ae (aa 1) ao)) ao))) [none] (bz 0) cS (cz ow (ae (aa 0) ao))))))
def rB(f:Str)(v:D):∀fs:List (Str×D),(putD f v fs).length<=fs.length+1
 | []=>by simp[putD]
 |(g,x)::r=>by
  unfold putD;split
  . simp
  . have:=rB f v r;simp only[So];omega
def Bf{st:af}{A:List (List Int)}:cv st (A.map bL) A:=cv.tup
def yO(n:Nat):(Mx.units n).length=n:=by unfold Mx.units;simp
def u6:Ru kT 2 v_ i7:=by
 rintro ds st K ⟨b,N,d,A,rfl,eb,hA,hl,hN,k⟩;refine⟨rfl,?_⟩;have hb:b<st.length:=(RB.mp eb).1;obtain⟨da,hd,ra⟩:=hA.ex;have hdl:=ra.len;have lst:∀(e:D) (r:List Int),True:=λ _ _=>trivial;refine nJ hd λ ok aM=>⟨cC (by omega),?_⟩
 refine j_ bf aM ra (λ e r hr he K' q=>⟨_,rfl,qU he q⟩) ?_;have eb1:(st++[Cell.lst (A.map bf)])[b]?=some (.ins az []):=by rw[RG hb];exact eb
 refine mL eb1 (by decide) ?_;generalize hs1:(st++[Cell.lst (A.map bf)]).set b (.ins az (putD "body" (.ref st.length) []))=st1;have l1:st1.length=st.length+1:=by rw[<-hs1];simp
 have f1:∀m,m<st.length->m≠b->st1[m]?=st[m]?:=λ m hm hmb=>by rw[<-hs1,RD (RK hmb),RG hm]
 have b1:st1[b]?=some (.ins az (putD "body" (.ref st.length) [])):=by rw[<-hs1,RL (by simp;omega)]
 have x1:st1[st.length]?=some (.lst (A.map bf)):=by rw[<-hs1,RD (by omega)];simp
 clear hs1
 have itd:∃da',items? st1 d=some da'/\da'.length=N:=by
  cases d with
  |ref n=>
   by_cases hnb:n=b
   . subst hnb;unfold items? at hd;simp only[eb]at hd;cases hd
   . have hn:n<st.length:=by
      unfold items? at hd;simp only at hd;cases q:st[n]? with
      |none=>rw[q]at hd;cases hd
      |some c=>exact(RB.mp q).1
     refine⟨da,?_,by omega⟩;unfold items? at hd⊢;simp only at hd⊢;rw[f1 n hn hnb];exact hd
  |_=>exact⟨da,hd,by omega⟩
 obtain⟨da1,hd1,hdl1⟩:=itd;refine df hd1 ?_;rw[hdl1];refine⟨N,rfl,by omega,?_⟩;refine lD ⟨cC (by rw[Rz,yO];omega),?_⟩;refine j_ bf trivial Bf (λ e r hr he K' q=>⟨_,rfl,qU he q⟩) ?_;have b2:(st1++[Cell.lst ((Mx.units N).map bf)])[b]?=some (.ins az (putD "body" (.ref st.length) [])):=by rw[RG (by omega)];exact b1
 refine mL b2 (by have:=rB "body" (.ref st.length) [];simp only[UD]at this;omega) ?_;generalize hs2:(st1++[Cell.lst ((Mx.units N).map bf)]).set b (.ins az (putD "turn" (.ref st1.length) (putD "body" (.ref st.length) [])))=st2;have l2:st2.length=st.length+2:=by rw[<-hs2];simp;omega
 have f2:∀m,m<st1.length->m≠b->st2[m]?=st1[m]?:=λ m hm hmb=>by rw[<-hs2,RD (RK hmb),RG hm]
 have b2':st2[b]?=some (.ins az (putD "turn" (.ref st1.length) (putD "body" (.ref st.length) []))):=by rw[<-hs2,RL (by simp;omega)]
 have x2:st2[st1.length]?=some (.lst ((Mx.units N).map bf)):=by rw[<-hs2,RD (by omega)];simp
 clear hs2
 have itd2:items? st2 d=some da1:=by
  cases d with
  |ref n=>
   by_cases hnb:n=b
   . subst hnb;unfold items? at hd1;simp only[b1]at hd1;cases hd1
   . have hn:n<st1.length:=by
      unfold items? at hd1;simp only at hd1;cases q:st1[n]? with
      |none=>rw[q]at hd1;cases hd1
      |some c=>exact(RB.mp q).1
     unfold items? at hd1⊢;simp only at hd1⊢;rw[f2 n hn hnb];exact hd1
  |_=>exact hd1
 refine df itd2 ?_;rw[hdl1];refine⟨N,rfl,by omega,?_⟩;refine lD ⟨cC (by rw[Rz,yO];omega),?_⟩;refine j_ bf trivial Bf (λ e r hr he K' q=>⟨_,rfl,qU he q⟩) ?_;have b3:(st2++[Cell.lst ((Mx.units N).map bf)])[b]?=some (.ins az (putD "turn" (.ref st1.length) (putD "body" (.ref st.length) []))):=by rw[RG (by omega)];exact b2'
 refine mL b3 (by have h1:=rB "body" (.ref st.length) [];have h2:=rB "turn" (.ref st1.length) (putD "body" (.ref st.length) []);simp only[UD]at h1;omega) ?_;refine k _ ⟨?_,?_,?_,?_,by omega,by omega,by omega⟩ (by simp;omega) λ m hm hmb=>?_
 . rw[RL (by simp;omega),l1,l2];rfl
 . rw[RD (by omega),RG (by omega),f2 _ (by omega) (by omega)];exact x1
 . rw[RD (by omega),RG (by omega)];rw[l1]at x2;exact x2
 . rw[RD (by omega)];rw[show st.length+2=st2.length by omega];simp
 . rw[RD (RK hmb),RG (by omega),f2 m (by omega) hmb,f1 m hm hmb]
def ma:cL:=λ ds st K=>∃(b xb xu xc N w k j:Nat) (A U C:List (List Int)) (q:Int),ds=[.ref b,.int k,.int q,.int j]/\Bn st b xb xu xc A U C/\Mx.aP N w A/\Mx.aP N N U/\Mx.aP N N C/\k<N/\j<N/\N<=16/\w<=16/\(∀x∈A.getD j [],IntMulOk (-q) x)/\(∀x∈U.getD j [],IntMulOk (-q) x)/\(∀x∈C.getD k [],IntMulOk q x)/\
 ∀st',Bn st' b xb xu xc (Mx.aV A k q j) (Mx.aV U k q j) (Mx.aV C j (-q) k)->st'.length=st.length->(∀m,m≠xb->m≠xu->m≠xc->st'[m]?=st[m]?)->K .aB st'
def lQ:List Str:=["self","k","times","other"]
def AW:DS:=(aF (ft (bS az "body" (aa 0)) (aa 1) (aQ mY (ae (av bM (bS az "body" (aa 0)) (aa 1)) (ae (pY ky (aa 2)) (ae (av bM (bS az "body" (aa 0)) (aa 3)) ao)))))
 (aF (ft (bS az "turn" (aa 0)) (aa 1) (aQ mY (ae (av bM (bS az "turn" (aa 0)) (aa 1)) (ae (pY ky (aa 2)) (ae (av bM (bS az "turn" (aa 0)) (aa 3)) ao)))))
 (ft (bS az "back_columns" (aa 0)) (aa 3) (aQ mY (ae (av bM (bS az "back_columns" (aa 0)) (aa 3)) (ae (aa 2) (ae (av bM (bS az "back_columns" (aa 0)) (aa 1)) ao)))))))
def zg:Ru ma 4 AW lQ:=by
 rintro ds st K ⟨b,xb,xu,xc,N,w,k,j,A,U,C,q,rfl,B,hA,hU,hC,hk,hj,hN,hw,mA,mU,mC,kk⟩;refine⟨rfl,?_⟩;have lA:=hA.len;have lU:=hU.len;have lC:=hC.len;have rA:=Mx.c6 hA hk;have rU:=Mx.c6 hU hk;have rC:=Mx.c6 hC hj;have bx1:=l7 B.eb B.e1;have bx2:=l7 B.eb B.e2;have bx3:=l7 B.eb B.e3;have n1:=B.n1;have n2:=B.n2;have n3:=B.n3;refine a8 B.eb rfl (aR (aO B.e1) (dW (by omega)) (jU (a8 B.eb rfl (aR (aO B.e1) (dW (by omega)) ?_))));refine⟨_,_,-q,A.getD k [],A.getD j [],rfl,rfl,rfl,by omega,mA,?_⟩;refine a8 B.eb rfl (gj B.e1 (by rw[Rz,lA];exact nQ hk) ?_);rw[jj];have g1:∀m,m≠xb->(st.set xb (.lst ((A.set k (Mx.gq (A.getD k []) (-q) (A.getD j []))).map bf)))[m]?=st[m]?:=λ m hm=>RD (RK hm);have h1:(st.set xb (.lst ((A.set k (Mx.gq (A.getD k []) (-q) (A.getD j []))).map bf)))[xb]?=some (.lst ((Mx.aV A k q j).map bf)):=RL (RB.mp B.e1).1;have z1:(st.set xb (.lst ((A.set k (Mx.gq (A.getD k []) (-q) (A.getD j []))).map bf))).length=st.length:=RV;generalize st.set xb (.lst ((A.set k (Mx.gq (A.getD k []) (-q) (A.getD j []))).map bf))=st1 at g1 h1 z1⊢;have eb1:=(g1 b bx1).trans B.eb;have e21:=(g1 xu (RK n1)).trans B.e2;have e31:=(g1 xc (RK n2)).trans B.e3;refine a8 eb1 rfl (aR (aO e21) (dW (by omega)) (jU (a8 eb1 rfl (aR (aO e21) (dW (by omega)) ?_))));refine⟨_,_,-q,U.getD k [],U.getD j [],rfl,rfl,rfl,by omega,mU,?_⟩;refine a8 eb1 rfl (gj e21 (by rw[Rz,lU];exact nQ hk) ?_);rw[jj];have g2:∀m,m≠xu->(st1.set xu (.lst ((U.set k (Mx.gq (U.getD k []) (-q) (U.getD j []))).map bf)))[m]?=st1[m]?:=λ m hm=>RD (RK hm);have h2:(st1.set xu (.lst ((U.set k (Mx.gq (U.getD k []) (-q) (U.getD j []))).map bf)))[xu]?=some (.lst ((Mx.aV U k q j).map bf)):=RL (RB.mp e21).1;have z2:(st1.set xu (.lst ((U.set k (Mx.gq (U.getD k []) (-q) (U.getD j []))).map bf))).length=st1.length:=RV;generalize st1.set xu (.lst ((U.set k (Mx.gq (U.getD k []) (-q) (U.getD j []))).map bf))=st2 at g2 h2 z2⊢;have eb2:=(g2 b bx2).trans eb1;have e32:=(g2 xc (RK n3)).trans e31;refine a8 eb2 rfl (aR (aO e32) (dW (by omega)) (a8 eb2 rfl (aR (aO e32) (dW (by omega)) ?_)));refine⟨_,_,q,C.getD j [],C.getD k [],rfl,rfl,rfl,by omega,mC,?_⟩;refine a8 eb2 rfl (gj e32 (by rw[Rz,lC];exact nQ hj) ?_);rw[jj];have hc:C.set j (Mx.gq (C.getD j []) q (C.getD k []))=Mx.aV C j (-q) k:=by unfold Mx.aV;rw[Int.neg_neg]
 rw[hc];refine kk _ ⟨?_,?_,?_,?_,n1,n2,n3⟩ (by rw[RV];omega) λ m m1 m2 m3=>?_
 . rw[RD (RK bx3)];exact eb2
 . rw[RD (RK n2),g2 _ n1];exact h1
 . rw[RD (RK n3)];exact h2
 . exact RL (RB.mp e32).1
 . rw[RD (RK m3),g2 m m2,g1 m m1]
def kW:cL:=λ ds st K=>∃(b xb xu xc N w k o:Nat) (A U C:List (List Int)),ds=[.ref b,.int k,.int o]/\Bn st b xb xu xc A U C/\Mx.aP N w A/\Mx.aP N N U/\Mx.aP N N C/\k<N/\o<N/\
 ∀st',Bn st' b st.length (st.length+1) (st.length+2) (Mx.bC A k o) (Mx.bC U k o) (Mx.bC C k o)->st'.length=st.length+3->(∀m,m<st.length->m≠b->st'[m]?=st[m]?)->K .aB st'
def i5:List Str:=["self","k","other"]
def vO:DS:=(aF (fI az "body" (aa 0) (aQ kI (ae (bS az "body" (aa 0)) (ae (aa 1) (ae (aa 2) ao)))))
 (aF (fI az "turn" (aa 0) (aQ kI (ae (bS az "turn" (aa 0)) (ae (aa 1) (ae (aa 2) ao)))))
 (fI az "back_columns" (aa 0) (aQ kI (ae (bS az "back_columns" (aa 0)) (ae (aa 1) (ae (aa 2) ao)))))))
def va:Ru kW 3 vO i5:=by
 rintro ds st K ⟨b,xb,xu,xc,N,w,k,o,A,U,C,rfl,B,hA,hU,hC,hk,ho,kk⟩;refine⟨rfl,?_⟩;have lA:=hA.len;have lU:=hU.len;have lC:=hC.len;have bx1:=l7 B.eb B.e1;have bx2:=l7 B.eb B.e2;have bx3:=l7 B.eb B.e3;have hb:b<st.length:=(RB.mp B.eb).1;have hu:xu<st.length:=(RB.mp B.e2).1;have hc:xc<st.length:=(RB.mp B.e3).1;refine a8 B.eb rfl ?_;refine⟨xb,k,o,A,rfl,B.e1,by omega,by omega,?_⟩;have eb1:(st++[Cell.lst ((Mx.bC A k o).map bf)])[b]?=some (.ins az [("body",.ref xb),("turn",.ref xu),("back_columns",.ref xc)]):=by rw[RG hb];exact B.eb
 refine mL eb1 (by simp) ?_;have pb:putD "body" (.ref st.length) [("body",.ref xb),("turn",.ref xu),("back_columns",.ref xc)]=([("body",.ref st.length),("turn",.ref xu),("back_columns",.ref xc)]:List (Str×D)):=rfl;rw[pb];generalize hs1:(st++[Cell.lst ((Mx.bC A k o).map bf)]).set b (.ins az [("body",.ref st.length),("turn",.ref xu),("back_columns",.ref xc)])=st1;have l1:st1.length=st.length+1:=by rw[<-hs1];simp
 have f1:∀m,m<st.length->m≠b->st1[m]?=st[m]?:=λ m hm hmb=>by rw[<-hs1,RD (RK hmb),RG hm]
 have b1:st1[b]?=some (.ins az [("body",.ref st.length),("turn",.ref xu),("back_columns",.ref xc)]):=by rw[<-hs1,RL (by simp;omega)]
 have x1:st1[st.length]?=some (.lst ((Mx.bC A k o).map bf)):=by rw[<-hs1,RD (by omega)];simp
 clear hs1 eb1;refine a8 b1 rfl ?_;refine⟨xu,k,o,U,rfl,(f1 xu hu (RK bx2)).trans B.e2,by omega,by omega,?_⟩;have eb1:(st1++[Cell.lst ((Mx.bC U k o).map bf)])[b]?=some (.ins az [("body",.ref st.length),("turn",.ref xu),("back_columns",.ref xc)]):=by rw[RG (by omega)];exact b1
 refine mL eb1 (by simp) ?_;have pb:putD "turn" (.ref st1.length) [("body",.ref st.length),("turn",.ref xu),("back_columns",.ref xc)]=([("body",.ref st.length),("turn",.ref st1.length),("back_columns",.ref xc)]:List (Str×D)):=rfl;rw[pb];generalize hs2:(st1++[Cell.lst ((Mx.bC U k o).map bf)]).set b (.ins az [("body",.ref st.length),("turn",.ref st1.length),("back_columns",.ref xc)])=st2;have l2:st2.length=st.length+2:=by rw[<-hs2];simp;omega
 have f2:∀m,m<st1.length->m≠b->st2[m]?=st1[m]?:=λ m hm hmb=>by rw[<-hs2,RD (RK hmb),RG hm]
 have b2:st2[b]?=some (.ins az [("body",.ref st.length),("turn",.ref st1.length),("back_columns",.ref xc)]):=by rw[<-hs2,RL (by simp;omega)]
 have x2:st2[st1.length]?=some (.lst ((Mx.bC U k o).map bf)):=by rw[<-hs2,RD (by omega)];simp
 clear hs2 eb1;refine a8 b2 rfl ?_;refine⟨xc,k,o,C,rfl,((f2 xc (by omega) (RK bx3)).trans (f1 xc hc (RK bx3))).trans B.e3,by omega,by omega,?_⟩;have eb1:(st2++[Cell.lst ((Mx.bC C k o).map bf)])[b]?=some (.ins az [("body",.ref st.length),("turn",.ref st1.length),("back_columns",.ref xc)]):=by rw[RG (by omega)];exact b2
 refine mL eb1 (by simp) ?_;have pb:putD "back_columns" (.ref st2.length) [("body",.ref st.length),("turn",.ref st1.length),("back_columns",.ref xc)]=([("body",.ref st.length),("turn",.ref st1.length),("back_columns",.ref st2.length)]:List (Str×D)):=rfl;rw[pb];refine kk _ ⟨?_,?_,?_,?_,by omega,by omega,by omega⟩ (by simp;omega) λ m hm hmb=>?_
 . rw[RL (by simp;omega),l1,l2]
 . rw[RD (by omega),RG (by omega),f2 _ (by omega) (by omega)];exact x1
 . rw[RD (by omega),RG (by omega)];rw[l1]at x2;exact x2
 . rw[RD (by omega)];rw[show st.length+2=st2.length by omega];simp
 . rw[RD (RK hmb),RG (by omega),f2 m (by omega) hmb,f1 m hm hmb]
def jA:cL:=λ ds st K=>∃(b xb xu xc N w k:Nat) (A U C:List (List Int)),ds=[.ref b,.int k]/\Bn st b xb xu xc A U C/\Mx.aP N w A/\Mx.aP N N U/\Mx.aP N N C/\k<N/\N<=16/\w<=16/\
 ∀st',Bn st' b xb xu xc (Mx.gy A k) (Mx.gy U k) (Mx.gy C k)->st'.length=st.length->(∀m,m≠xb->m≠xu->m≠xc->st'[m]?=st[m]?)->K .aB st'
def gL:List Str:=["self","k"]
def sP:DS:=(aF (ft (bS az "body" (aa 0)) (aa 1) (aQ nF (ae (av bM (bS az "body" (aa 0)) (aa 1)) ao)))
 (aF (ft (bS az "turn" (aa 0)) (aa 1) (aQ nF (ae (av bM (bS az "turn" (aa 0)) (aa 1)) ao)))
 (ft (bS az "back_columns" (aa 0)) (aa 1) (aQ nF (ae (av bM (bS az "back_columns" (aa 0)) (aa 1)) ao)))))
def rQ:Ru jA 2 sP gL:=by
 rintro ds st K ⟨b,xb,xu,xc,N,w,k,A,U,C,rfl,B,hA,hU,hC,hk,hN,hw,kk⟩;refine⟨rfl,?_⟩;have lA:=hA.len;have lU:=hU.len;have lC:=hC.len;have rA:=Mx.c6 hA hk;have rU:=Mx.c6 hU hk;have rC:=Mx.c6 hC hk;have bx1:=l7 B.eb B.e1;have bx2:=l7 B.eb B.e2;have bx3:=l7 B.eb B.e3;have n1:=B.n1;have n2:=B.n2;have n3:=B.n3;refine a8 B.eb rfl (aR (aO B.e1) (dW (by omega)) ?_);refine⟨_,A.getD k [],rfl,rfl,by omega,?_⟩;refine a8 B.eb rfl (gj B.e1 (by rw[Rz,lA];exact nQ hk) ?_);rw[jj];have g1:∀m,m≠xb->(st.set xb (.lst ((A.set k ((A.getD k []).map λ x=> -x)).map bf)))[m]?=st[m]?:=λ m hm=>RD (RK hm);have h1:(st.set xb (.lst ((A.set k ((A.getD k []).map λ x=> -x)).map bf)))[xb]?=some (.lst ((Mx.gy A k).map bf)):=RL (RB.mp B.e1).1;have z1:(st.set xb (.lst ((A.set k ((A.getD k []).map λ x=> -x)).map bf))).length=st.length:=RV;generalize st.set xb (.lst ((A.set k ((A.getD k []).map λ x=> -x)).map bf))=st1 at g1 h1 z1⊢;have eb1:=(g1 b bx1).trans B.eb;have e21:=(g1 xu (RK n1)).trans B.e2;have e31:=(g1 xc (RK n2)).trans B.e3;refine a8 eb1 rfl (aR (aO e21) (dW (by omega)) ?_);refine⟨_,U.getD k [],rfl,rfl,by omega,?_⟩;refine a8 eb1 rfl (gj e21 (by rw[Rz,lU];exact nQ hk) ?_);rw[jj];have g2:∀m,m≠xu->(st1.set xu (.lst ((U.set k ((U.getD k []).map λ x=> -x)).map bf)))[m]?=st1[m]?:=λ m hm=>RD (RK hm);have h2:(st1.set xu (.lst ((U.set k ((U.getD k []).map λ x=> -x)).map bf)))[xu]?=some (.lst ((Mx.gy U k).map bf)):=RL (RB.mp e21).1;have z2:(st1.set xu (.lst ((U.set k ((U.getD k []).map λ x=> -x)).map bf))).length=st1.length:=RV;generalize st1.set xu (.lst ((U.set k ((U.getD k []).map λ x=> -x)).map bf))=st2 at g2 h2 z2⊢;have eb2:=(g2 b bx2).trans eb1;have e32:=(g2 xc (RK n3)).trans e31;refine a8 eb2 rfl (aR (aO e32) (dW (by omega)) ?_);refine⟨_,C.getD k [],rfl,rfl,by omega,?_⟩;refine a8 eb2 rfl (gj e32 (by rw[Rz,lC];exact nQ hk) ?_);rw[jj];refine kk _ ⟨?_,?_,?_,?_,n1,n2,n3⟩ (by rw[RV];omega) λ m m1 m2 m3=>?_
 . rw[RD (RK bx3)];exact eb2
 . rw[RD (RK n2),g2 _ n1];exact h1
 . rw[RD (RK n3)];exact h2
 . exact RL (RB.mp e32).1
 . rw[RD (RK m3),g2 m m2,g1 m m1]
def iw:cL:=λ ds st K=>∃(b xb xu xc N w top p:Nat) (A U C:List (List Int)) (f:Bool),ds=[.ref b,.int top,.int p]/\Bn st b xb xu xc A U C/\Mx.aP N w A/\top<=N/\N<=16/\p<w/\w<=16/\st[0]?=some (dR f)/\
 ∀L,Mx.kB A N top p L->K (.lst (L.map λ(k:Nat)=> .int (k:Int))) (st.set 0 (dR true))
def iq:List Str:=["self","top","place","live"]
def u_:DS:=(aF (bo 3 (dS (mO (ae (aa 1) (ae (cz fh (ae (bS az "body" (aa 0)) ao)) ao))) [none,some 0,some 2] (bz 0) (cA (av nU (av bM (av bM (bS az "body" (aa 1)) (aa 0)) (aa 2)) (dC (.int 0)))) (aa 0)))
 (cT (Ac 0 117 ⟨61,32,61,66⟩ "Bench.live_rows.<locals>.<lambda>" [none,some 0,some 2] (cz r9 (ae (av bM (av bM (bS az "body" (aa 1)) (aa 0)) (aa 2)) ao)) (aa 3))))
def lS{a b:Prop}(h:b):if false=true then a else b:=h
def J6{st:af}{b:Nat}{C:Addr}{fs:List (Str×D)}{f:Bool}(h1:st[b]?=some (Cell.ins C fs))(h2:st[0]?=some (dR f)):b≠0:=λ z=>by rw[z,h2]at h1;cases h1
def uV{st:af}{b:Nat}{xs:List D}{f:Bool}(h1:st[b]?=some (Cell.lst xs))(h2:st[0]?=some (dR f)):b≠0:=λ z=>by rw[z,h2]at h1;cases h1
def Bn.keep{st st':af}{b xb xu xc:Nat}{A U C:List (List Int)}(B:Bn st b xb xu xc A U C)(h:∀m,m=b\/m=xb\/m=xu\/m=xc->st'[m]?=st[m]?):Bn st' b xb xu xc A U C:=
 ⟨(h b (.inl rfl)).trans B.eb,(h xb (.inr (.inl rfl))).trans B.e1,(h xu (.inr (.inr (.inl rfl)))).trans B.e2,(h xc (.inr (.inr (.inr rfl)))).trans B.e3,B.n1,B.n2,B.n3⟩
def Bn.tab{st:af}{b xb xu xc:Nat}{A U C:List (List Int)}{f:Bool}(B:Bn st b xb xu xc A U C)(h:st[0]?=some (dR f))(c:Cell):Bn (st.set 0 c) b xb xu xc A U C:=
 B.keep λ m hm=>RD λ z=>by
  subst z;rcases hm with rfl|rfl|rfl|rfl
  . exact J6 B.eb h rfl
  . exact uV B.e1 h rfl
  . exact uV B.e2 h rfl
  . exact uV B.e3 h rfl
def pF{r:List Int}{k:Nat}(h:k<r.length):eF (au r) (k:Int)=some (.int (r.getD k 0)):=by
 refine jq ?_;unfold au;rw[RP,RJ h,Mx.aN h];rfl
def g4(A:List (List Int))(N top p:Nat):List Nat:=(List.range (N-top)).filterMap λ i=>if Mx.g A (top+i) p≠0 then some (top+i)else none
def yK{A:List (List Int)}{N top p k:Nat}:k∈g4 A N top p↔top<=k/\k<N/\Mx.g A k p≠0:=by
 unfold g4;rw[Vt];constructor
 . rintro⟨i,hi,e⟩;rw[TC]at hi;split at e
   . rename_i h;cases e;exact⟨by omega,by omega,h⟩
   . cases e
 . rintro⟨h1,h2,h3⟩;refine⟨k-top,TC.mpr (by omega),?_⟩;rw[show top+(k-top)=k by omega,RC h3]
def pw_filterMap{f:Nat->Option Nat}(h:∀i j a b,i<j->f i=some a->f j=some b->a<b):∀ {l:List Nat},l.Pairwise (· < ·)->(l.filterMap f).Pairwise (· < ·)
 | [],_=>by simp
 |x::l,hl=>by
  obtain⟨h1,h2⟩:=Wi.mp hl;rw[Vp];split
  . exact pw_filterMap h h2
  . rename_i a e;refine Wi.mpr ⟨λ b hb=>?_,pw_filterMap h h2⟩;obtain⟨j,hj,ej⟩:=Vt.mp hb;exact h x j a b (h1 j hj) e ej
def pw_liveR{A:List (List Int)}{N top p:Nat}:(g4 A N top p).Pairwise (· < ·):=by
 unfold g4;refine pw_filterMap (λ i j a b hij ha hb=>?_) List.pairwise_lt_range;split at ha
 . split at hb
   . cases ha;cases hb;omega
   . cases hb
 . cases ha
def y8{f:Nat->Option Nat}(l:List Nat):(l.filterMap f).length<=l.length:=List.length_filterMap_le ..
def Km{A:List (List Int)}{N top p:Nat}{os:List (Int×Int)}(hp:os.Perm (((g4 A N top p).map λ(k:Nat)=>(((Mx.g A k p).natAbs:Nat):Int)).zip ((g4 A N top p).map λ(k:Nat)=>(k:Int))))(hs:os.Pairwise slt):
 Mx.kB A N top p (os.map λ q=>q.2.toNat)/\os.map (λ q=>D.int q.2)=(os.map λ q=>q.2.toNat).map λ(k:Nat)=>D.int (k:Int):=by
 have hz:((g4 A N top p).map λ(k:Nat)=>(((Mx.g A k p).natAbs:Nat):Int)).zip ((g4 A N top p).map λ(k:Nat)=>(k:Int))=(g4 A N top p).map λ k=>((((Mx.g A k p).natAbs:Nat):Int),(k:Int)):=by
  exact List.zip_map' ..
 rw[hz]at hp
 have hm:∀q∈os,∃k,k∈g4 A N top p/\q=((((Mx.g A k p).natAbs:Nat):Int),(k:Int)):=λ q hq=>by
  obtain⟨k,h1,h2⟩:=Sl.mp (hp.mem_iff.mp hq);exact⟨k,h1,h2.symm⟩
 refine⟨⟨λ k=>?_,?_⟩,?_⟩
 . rw[<-yK];constructor
   . intro h;obtain⟨q,hq,e⟩:=Sl.mp h;obtain⟨j,h1,rfl⟩:=hm q hq;simp only[R8]at e;rw[<-e];exact h1
   . intro h;exact Sl.mpr ⟨((((Mx.g A k p).natAbs:Nat):Int),(k:Int)),hp.mem_iff.mpr (Sl.mpr ⟨k,h,rfl⟩),by simp⟩
 . rw[UI];refine hs.imp_of_mem λ{x y} hx hy h=>?_;obtain⟨j,_,rfl⟩:=hm x hx;obtain⟨k,_,rfl⟩:=hm y hy;unfold slt at h;simp only[R8];omega
 . rw[Sn];refine SQ λ q hq=>?_;obtain⟨j,_,rfl⟩:=hm q hq;simp
def tO:Ru iw 3 u_ iq:=by
 rintro ds st K ⟨b,xb,xu,xc,N,w,top,p,A,U,C,f,rfl,B,hA,ht,hN,hp,hw,h0,k⟩;refine⟨rfl,?_⟩;have lA:=hA.len;have rowA:∀i,i<N->(A.getD i []).length=w:=λ i hi=>Mx.c6 hA hi;refine a8 B.eb rfl (df (aO B.e1) ?_);rw[Rz,lA];refine uR ⟨by omega,by omega,by omega,by omega⟩ ⟨cC (by unfold cY;simp;omega),?_⟩;have er:((N:Int)-(top:Int)).toNat=N-top:=by omega
 rw[er];refine fv (λ rest acc st'=>∃i:Nat,i<=N-top/\st'=st/\rest=(List.range (N-top-i)).map (λ j=>D.int ((top+i+j:Nat):Int))/\acc=((List.range i).filterMap λ i=>if Mx.g A (top+i) p≠0 then some (top+i)else none).map λ(k:Nat)=>D.int (k:Int)) ?_ ?_ _ _ _ ⟨0,RX _,rfl,by unfold cY;simp,by simp⟩
 . rintro acc st' ⟨i,hi,rfl,hr,rfl⟩
   have hi':i=N-top:=by
    rcases Tt i (N-top)with z|z
    . rw[show N-top-i=(N-top-i-1)+1 by omega,Su]at hr;cases hr
    . omega
   subst hi';refine⟨trivial,?_⟩;have e1:((g4 A N top p).map λ(k:Nat)=>D.int (k:Int))=((g4 A N top p).map λ(k:Nat)=>(k:Int)).map D.int:=by rw[Sn];rfl
   refine⟨(g4 A N top p).map λ(k:Nat)=>(k:Int),(g4 A N top p).map λ(k:Nat)=>(((Mx.g A k p).natAbs:Nat):Int),f,Tu D.lst e1,?_,?_,by rw[Rz,Rz],h0,λ i n q hn hq=>?_,λ os hp' hs=>?_⟩
   . rw[Rz];have:=y8 (f:=λ i=>if Mx.g A (top+i) p≠0 then some (top+i)else none) (List.range (N-top));rw[List.length_range]at this;show(g4 A N top p).length<64;unfold g4;omega
   . rw[UI];exact pw_liveR.imp λ h=>by omega
   . rw[RP]at hn hq;cases z:(g4 A N top p)[i]? with
     |none=>rw[z]at hn;cases hn
     |some j=>
      rw[z]at hn hq;cases hn;cases hq;obtain⟨j1,j2,j3⟩:=yK.mp (Sg z);have B1:=B.tab h0 (dR true);refine a8 B1.eb rfl (aR (aO B1.e1) (dW (by omega)) (aR rfl (pF (by rw[rowA j j2];exact hp)) (ui ⟨rfl,rfl⟩)))
   . obtain⟨h1,h2⟩:=Km hp' hs;rw[h2];exact k _ h1
 . rintro d rest acc st' ⟨i,hi,rfl,hr,rfl⟩ next
   have hlt:i<N-top:=by
    rcases Tt i (N-top)with z|z
    . exact z
    . rw[show N-top-i=0 by omega]at hr;cases hr
   rw[show N-top-i=(N-top-i-1)+1 by omega,Su,R0,Sn]at hr;obtain⟨rfl,rfl⟩:=Ua hr;refine⟨trivial,_,rfl,?_⟩;refine a8 B.eb rfl (aR (aO B.e1) (dW (j:=top+i+0) (by omega)) (aR rfl (pF (by rw[rowA _ (by omega)];exact hp)) ?_));have e2:List.range (i+1)=List.range i++[i]:=V3
   have e3:((List.range (N-top-i-1)).map ((λ j=>D.int ((top+i+j:Nat):Int))∘Nat.succ))=(List.range (N-top-(i+1))).map λ j=>D.int ((top+(i+1)+j:Nat):Int):=by
    rw[show N-top-i-1=N-top-(i+1) by omega];refine SQ λ j _=>?_;show D.int ((top+i+(j+1):Nat):Int)=_;rw[show top+i+(j+1)=top+(i+1)+j by omega]
   refine ne2 (λ h=>?_) λ h=>?_
   . refine(next _ _ ⟨i+1,by omega,rfl,e3,?_⟩);rw[e2,W8,Um];have:Mx.g A (top+i) p≠0:=h;simp[this]
   . refine(next _ _ ⟨i+1,by omega,rfl,e3,?_⟩);rw[e2,W8,Um];have:Mx.g A (top+i) p=0:=h;simp[this]
structure Bo(n0:Nat)(st st':af)(b xb xu xc:Nat):Prop where
 lo:1<=n0/\n0<=b/\n0<=xb/\n0<=xu/\n0<=xc
 fr:∀m,m<n0->m≠0->st'[m]?=st[m]?
 tb:∃f,st'[0]?=some (dR f)
def mW:cL:=λ ds st K=>∃(n0 b xb xu xc N w top p e u v z:Nat) (A0 A U C:List (List Int)) (ld:Nat->Nat),ds=[.ref b,.int top,.int p]/\Bn st b xb xu xc A U C/\Bo n0 st st b xb xu xc/\Mx.fj A0 N w ⟨A,U,C⟩ top p ld e u v/\N<=16/\w<=16/\p<w/\z<=60000000/\(∀c,Mx.fJ N top p ⟨A,U,C⟩ c->Mx.Sm c N (2^z))/\
 (∀st',Bn st' b xb xu xc A U C->Bo n0 st st' b xb xu xc->Mx.kB A N top p []->K (.bl false) st')/\
 ∀st' xb' xu' xc' (c:Mx.B3) (r:Nat),Bn st' b xb' xu' xc' (Mx.setB c p top r).A (Mx.setB c p top r).U (Mx.setB c p top r).C->Bo n0 st st' b xb' xu' xc'->Mx.fJ N top p ⟨A,U,C⟩ c->Mx.kB c.A N top p [r]->K (.bl true) st'
def kh:List Str:=["self","top","place","live","great","small"]
def xR:DS:=(aF (bo 3 (d9 az "live_rows" iw (aa 0) (ae (aa 1) (ae (aa 2) ao))))
 (aF (qW (cA (av qE (cz fh (ae (aa 3) ao)) (dC (.int 1)))) (aF (bo 4 (av bM (aa 3) (pY ky (dC (.int 1)))))
 (aF (bo 5 (av bM (aa 3) (pY ky (dC (.int 2)))))
 (aF (fG (d9 az "take" ma (aa 0) (ae (aa 4) (ae (aQ jR (ae (av bM (av bM (bS az "body" (aa 0)) (aa 4)) (aa 2)) (ae (av bM (av bM (bS az "body" (aa 0)) (aa 5)) (aa 2)) ao))) (ae (aa 5) ao)))))
 (bo 3 (d9 az "live_rows" iw (aa 0) (ae (aa 1) (ae (aa 2) ao))))))))
 (aF (jZ (cA (av mE (cz fh (ae (aa 3) ao)) (dC (.int 0)))) (cT (dC (.bl false))) ix)
 (aF (fG (d9 az "exchange" kW (aa 0) (ae (aa 1) (ae (av bM (aa 3) (dC (.int 0))) ao))))
 (aF (jZ (cA (av wJ (av bM (av bM (bS az "body" (aa 0)) (aa 1)) (aa 2)) (dC (.int 0)))) (fG (d9 az "change_sign" jA (aa 0) (ae (aa 1) ao))) ix)
 (cT (dC (.bl true))))))))
def Bo.L5{n0:Nat}{st st':af}{b xb xu xc:Nat}(h:Bo n0 st st' b xb xu xc):Bo n0 st (st'.set 0 (dR true)) b xb xu xc:=
 ⟨h.lo,λ m hm h0=>by rw[RD (RK h0)];exact h.fr m hm h0,true,by
  obtain⟨f,e⟩:=h.tb;exact RL (RB.mp e).1⟩
def Bo.low{n0:Nat}{st st1 st2:af}{b xb xu xc:Nat}(h:Bo n0 st st1 b xb xu xc)(f:∀m,m≠xb->m≠xu->m≠xc->st2[m]?=st1[m]?):Bo n0 st st2 b xb xu xc:=by
 obtain⟨l1,l2,l3,l4,l5⟩:=h.lo;refine⟨h.lo,λ m hm h0=>?_,?_⟩
 . rw[f m (by omega) (by omega) (by omega)];exact h.fr m hm h0
 . obtain⟨z,e⟩:=h.tb;exact⟨z,by rw[f 0 (by omega) (by omega) (by omega)];exact e⟩
def wg{n j:Nat}(h:1<=j)(h2:j<=n):o4 n (-(j:Int))=some (n-j):=by
 unfold o4;rw[Rx (by omega),RC (by omega)];congr 1;omega
def Ox{L:List Nat}{j k:Nat}:eF ((L++[j,k]).map λ(k:Nat)=>D.int (k:Int)) (-1)=some (.int (k:Int)):=by
 unfold eF;have:=wg (n:=((L++[j,k]).map λ(k:Nat)=>D.int (k:Int)).length) (j:=1) (by decide) (by simp);rw[show(-((1:Nat):Int))= -1 from rfl]at this;rw[this];simp
def Pa{L:List Nat}{j k:Nat}:eF ((L++[j,k]).map λ(k:Nat)=>D.int (k:Int)) (-2)=some (.int (j:Int)):=by
 unfold eF;have:=wg (n:=((L++[j,k]).map λ(k:Nat)=>D.int (k:Int)).length) (j:=2) (by decide) (by simp);rw[show(-((2:Nat):Int))= -2 from rfl]at this;rw[this];simp
def HR:∀ {L:List Nat},1<L.length->∃M j k,L=M++[j,k]:=λ{L} h=>by
 refine⟨L.take (L.length-2),L[L.length-2]'(by omega),L[L.length-1]'(by omega),?_⟩;have e1:L=L.take (L.length-2)++L.drop (L.length-2):=(W9 _ _).symm
 have e2:L.drop (L.length-2)=[L[L.length-2]'(by omega),L[L.length-1]'(by omega)]:=by
  rw[SA (by omega),SA (by omega),S8 (by omega)];congr 2;congr 1;omega
 rw[<-e2];exact e1
def xg:Ru mW 3 xR kh:=by
 rintro ds st K ⟨n0,b,xb,xu,xc,N,w,top,p,e,u,v,z,A0,A,U,C,ld,rfl,B,O,S,hN,hw,hp,hzz,hz,kf,kt⟩;refine⟨rfl,?_⟩;have hle:=S.le;obtain⟨f,h0⟩:=O.tb;refine dY B.eb rfl ?_;refine⟨b,xb,xu,xc,N,w,top,p,A,U,C,f,rfl,B,S.tn.isA,hle,hN,hp,hw,h0,λ L hL=>?_⟩;have B1:=B.tab h0 (dR true);have O1:=O.L5;try dsimp only[ao]
 refine mP (λ σ st'=>∃(L:List Nat) (v4 v5:Option D) (c:Mx.B3) (gr:Nat),σ=[some (.ref b),some (.int top),some (.int p),some (.lst (L.map λ(k:Nat)=> .int (k:Int))),v4,v5]/\L.length<=1/\Bn st' b xb xu xc c.A c.U c.C/\Bo n0 st st' b xb xu xc/\Mx.fJ N top p ⟨A,U,C⟩ c/\Mx.Gb A0 N w top p (2^(4*e)) (N*2^(4*e)) gr ⟨A,U,C⟩ c/\Mx.kB c.A N top p L) (λ nx hnx=>?_) ?_
 . refine⟨λ m σ st'=>∃(L:List Nat) (v4 v5:Option D) (c:Mx.B3) (gr:Nat),σ=[some (.ref b),some (.int top),some (.int p),some (.lst (L.map λ(k:Nat)=> .int (k:Int))),v4,v5]/\Bn st' b xb xu xc c.A c.U c.C/\Bo n0 st st' b xb xu xc/\Mx.fJ N top p ⟨A,U,C⟩ c/\Mx.Gb A0 N w top p (2^(4*e)) (N*2^(4*e)) gr ⟨A,U,C⟩ c/\Mx.kB c.A N top p L/\m=Mx.mu c.A N p,⟨_,L,none,none,⟨A,U,C⟩,_,rfl,B1,O1,.refl _,Mx.Gb.start S,hL,rfl⟩,?_⟩;rintro m σ st1 ⟨L,v4,v5,c,gr,rfl,B,O,hR,hG,hL,rfl⟩;refine df rfl ?_;rw[Rz];refine ES (λ h=>gS ?_) λ h=>lS (hnx _ _ ⟨L,v4,v5,c,gr,rfl,by omega,B,O,hR,hG,hL⟩);obtain⟨M,j,k,rfl⟩:=HR (L:=L) (by omega);refine jU (aR rfl Ox (jU (aR rfl Pa ?_)));obtain⟨G2,hlt,hoth,k1,k2,j1,j2,hjk,hj0,_⟩:=hG.step hL;have T:=hG.tn;have lA:=T.isA.len;have hsm:=hz c hR;refine dY B.eb rfl (a8 B.eb rfl (aR (aO B.e1) (dW (by omega)) (aR rfl (pF (by rw[Mx.c6 T.isA k2];exact hp)) (a8 B.eb rfl (aR (aO B.e1) (dW (by omega)) (aR rfl (pF (by rw[Mx.c6 T.isA j2];exact hp)) ?_))))));refine⟨_,_,rfl,hj0,?_⟩;have hq:(Mx.qn (Mx.g c.A k p) (Mx.g c.A j p)).natAbs<=2^(z+1):=RH (Mx.Pp hj0) (Mx.BA (hsm k p k2).1 (hsm j p j2).1)
   have hm:∀ {x:Int},x.natAbs<=2^z->IntMulOk (Mx.qn (Mx.g c.A k p) (Mx.g c.A j p)) x/\IntMulOk (-(Mx.qn (Mx.g c.A k p) (Mx.g c.A j p))) x:=λ{x} h=>
    ⟨oN hq h (by omega),oN (by rw[Vi];exact hq) h (by omega)⟩
   have mg:∀ {X:List (List Int)} {i:Nat} {x:Int},x∈X.getD i []->∃q,x=Mx.g X i q:=λ{X i x} hx=>by
    obtain⟨c,hc,rfl⟩:=SJ.mp hx;exact⟨c,by unfold Mx.g;rw[Mx.aN hc]⟩
   refine⟨b,xb,xu,xc,N,w,k,j,c.A,c.U,c.C,_,rfl,B,T.isA,T.gd,T.gN,k2,j2,hN,hw,λ x hx=>(by obtain⟨q,rfl⟩:=mg hx;exact(hm (hsm j q j2).1).2),λ x hx=>(by obtain⟨q,rfl⟩:=mg hx;exact(hm (hsm j q j2).2.1).2),λ x hx=>(by obtain⟨q,rfl⟩:=mg hx;exact(hm (hsm k q k2).2.2).1),λ st2 B2 l2 f2=>?_⟩;have O2:=O.low f2;obtain⟨f',h0'⟩:=O2.tb;refine dY B2.eb rfl ?_;refine⟨b,xb,xu,xc,N,w,top,p,_,_,_,f',rfl,B2,G2.tn.isA,hle,hN,hp,hw,h0',λ L2 hL2=>?_⟩;refine⟨_,?_,L2,_,_,Mx.sx c p k j,_,rfl,B2.tab h0' (dR true),O2.L5,hR.tail ⟨M,k,j,hL,rfl⟩,G2,hL2,rfl⟩;unfold Mx.mu;refine Mx.II (k:=k) hlt k2 λ i hi=>?_;by_cases h:i=k
   . rw[h];exact Tq hlt
   . rw[hoth i h];exact Rv _
 . rintro σ st1 ⟨L,v4,v5,c,gr,rfl,hl,B,O,hR,hG,hL⟩;refine df rfl ?_;rw[Rz];match L,hl,hL with
   | [],_,hL=>
     refine eq2 (λ h=>gS ?_) λ h=>absurd rfl h
     have e0:c=⟨A,U,C⟩:=by
      rcases hG.Ol with z|⟨j,h1,h2,h3⟩
      . exact z
      . exact absurd ((hL.mem j).mpr ⟨h1,h2,h3⟩) (by simp)
     subst e0;exact kf st1 B O hL
   | [r],_,hL=>
     refine eq2 (λ h=>absurd h (by simp)) λ h=>lS ?_;obtain⟨s1,hr1,hr2⟩:=hG.set (hG.low hN) hL;have ht:top<N:=by omega
     have T:=hG.tn;refine dY B.eb rfl (aR rfl (show eF ([r].map λ(k:Nat)=>D.int (k:Int)) 0=some (.int (r:Int))from rfl) ?_);refine⟨b,xb,xu,xc,N,w,top,r,c.A,c.U,c.C,rfl,B,T.isA,T.gd,T.gN,ht,hr2,λ st2 B2 l2 f2=>?_⟩;obtain⟨l1,l2',l3,l4,l5⟩:=O.lo
     have hst:n0<=st1.length:=by
      have:=(RB.mp B.eb).1;omega
     have O2:Bo n0 st st2 b st1.length (st1.length+1) (st1.length+2):=by
      refine⟨⟨l1,l2',by omega,by omega,by omega⟩,λ m hm h0=>?_,?_⟩
      . rw[f2 m (by omega) (by omega)];exact O.fr m hm h0
      . obtain⟨z,e⟩:=O.tb;exact⟨z,by rw[f2 0 (by omega) (by omega)];exact e⟩
     have T1:=T.Ij ht hr2;refine a8 B2.eb rfl (aR (aO B2.e1) (dW (by have:=T1.isA.len;omega)) (aR rfl (pF (by rw[Mx.c6 T1.isA ht];exact hp)) ?_));refine P0 (λ h=>gS ?_) λ h=>lS ?_
     . have es:Mx.setB c p top r=⟨Mx.gy (Mx.bC c.A top r) top,Mx.gy (Mx.bC c.U top r) top,Mx.gy (Mx.bC c.C top r) top⟩:=RC h;refine dY B2.eb rfl ?_;refine⟨b,_,_,_,N,w,top,_,_,_,rfl,B2,T1.isA,T1.gd,T1.gN,ht,hN,hw,λ st3 B3 l3 f3=>?_⟩;exact kt st3 _ _ _ c r (by rw[es];exact B3) (O2.low f3) hR hL
     . have es:Mx.setB c p top r=⟨Mx.bC c.A top r,Mx.bC c.U top r,Mx.bC c.C top r⟩:=Rx (λ z=>by unfold Mx.g at z;omega);exact kt st2 _ _ _ c r (by rw[es];exact B2) O2 hR hL
def jx:cL:=λ ds st K=>∃(b xb xu xc N w top p e u v z:Nat) (A0 A U C:List (List Int)),ds=[.ref b,.int top,.int p]/\Bn st b xb xu xc A U C/\Mx.Tn A0 A U C N w/\N<=16/\w<=16/\p<w/\top<N/\0<Mx.g A top p/\(∀q,q<p->Mx.g A top q=0)/\
 (∀q,(Mx.g A top q).natAbs<=2^e/\(Mx.g U top q).natAbs<=2^e/\(Mx.g C top q).natAbs<=2^e)/\(∀i q,i<top->(Mx.g A i q).natAbs<=2^u/\(Mx.g U i q).natAbs<=2^u/\(Mx.g C i q).natAbs<=2^v)/\z<=60000000/\(∀k,k<=top->Mx.Sm (Mx.jy p top k ⟨A,U,C⟩) N (2^z))/\
 ∀st',Bn st' b xb xu xc (Mx.jy p top top ⟨A,U,C⟩).A (Mx.jy p top top ⟨A,U,C⟩).U (Mx.jy p top top ⟨A,U,C⟩).C->(∀m,m≠xb->m≠xu->m≠xc->st'[m]?=st[m]?)->K .aB st'
def gM:List Str:=["self","top","place","k"]
def sO:DS:=(gR (fS (ae (aa 1) ao)) (bz 3) (fG (d9 az "take" ma (aa 0) (ae (aa 3) (ae (av qL (av bM (av bM (bS az "body" (aa 0)) (aa 3)) (aa 2)) (av bM (av bM (bS az "body" (aa 0)) (aa 1)) (aa 2))) (ae (aa 1) ao))))))
def DG{X:List (List Int)}{i:Nat}{x:Int}(hx:x∈X.getD i []):∃q,x=Mx.g X i q:=by
 obtain⟨c,hc,rfl⟩:=SJ.mp hx;exact⟨c,by unfold Mx.g;rw[Mx.aN hc]⟩
def rZ:Ru jx 3 sO gM:=by
 rintro ds st K ⟨b,xb,xu,xc,N,w,top,p,e,u,v,z,A0,A,U,C,rfl,B,T,hN,hw,hp,ht,htp,hz,hlo,hhi,hzz,hsm,kk⟩;refine⟨rfl,?_⟩;refine iD ⟨by omega,by omega⟩ ?_;rw[R8];refine jT top (λ k σ st'=>∃v3:Option D,σ=[some (.ref b),some (.int top),some (.int p),v3]/\Bn st' b xb xu xc (Mx.jy p top k ⟨A,U,C⟩).A (Mx.jy p top k ⟨A,U,C⟩).U (Mx.jy p top k ⟨A,U,C⟩).C/\(∀m,m≠xb->m≠xu->m≠xc->st'[m]?=st[m]?)/\Mx.nk A0 N w top p e u v ⟨A,U,C⟩ k (Mx.jy p top k ⟨A,U,C⟩)) ?_ ?_ ⟨none,rfl,B,λ _ _ _ _=>rfl,Mx.nk.start T λ q=>(hlo q).2.2⟩
 . rintro σ st' ⟨v3,rfl,B',f,I⟩;exact kk st' B' f
 . rintro k σ st' rest hk ⟨v3,rfl,B',f,I⟩ next
   refine⟨_,rfl,?_⟩;have hs:=I.step hk ht hp htp hz (λ q=>⟨(hlo q).1,(hlo q).2.1⟩) hhi;have hs2:=hsm k (Tq hk);generalize hc:Mx.jy p top k ⟨A,U,C⟩=c at*;have lA:=I.tn.isA.len;have kN:k<N:=by omega
   have gA:∀i q,k<=i->Mx.g c.A i q=Mx.g A i q:=λ i q hi=>by unfold Mx.g;rw[(I.rA i hi).1]
   have hq:((Mx.g c.A k p).fdiv (Mx.g c.A top p)).natAbs<=2^z:=RH (Mx.Ap _ (by rw[gA top p (by omega)];exact htp)) (hs2 k p kN).1;have htp':Mx.g c.A top p≠0:=by rw[gA top p (by omega)];omega
   refine dY B'.eb rfl (a8 B'.eb rfl (aR (aO B'.e1) (dW (by omega)) (aR rfl (pF (by rw[Mx.c6 I.tn.isA kN];exact hp)) (a8 B'.eb rfl (aR (aO B'.e1) (dW (by omega)) (aR rfl (pF (by rw[Mx.c6 I.tn.isA ht];exact hp)) (AJ htp' ?_)))))));refine⟨b,xb,xu,xc,N,w,k,top,c.A,c.U,c.C,_,rfl,B',I.tn.isA,I.tn.gd,I.tn.gN,kN,ht,hN,hw,λ x hx=>?_,λ x hx=>?_,λ x hx=>?_,λ st2 B2 l2 f2=>?_⟩
   . obtain⟨q,rfl⟩:=DG hx;exact oN (by rw[Vi];exact hq) (hs2 top q ht).1 (by omega)
   . obtain⟨q,rfl⟩:=DG hx;exact oN (by rw[Vi];exact hq) (hs2 top q ht).2.1 (by omega)
   . obtain⟨q,rfl⟩:=DG hx;exact oN hq (hs2 k q kN).2.2 (by omega)
   . have el:Mx.jy p top (k+1) ⟨A,U,C⟩=⟨Mx.aV c.A k ((Mx.g c.A k p).fdiv (Mx.g c.A top p)) top,Mx.aV c.U k ((Mx.g c.A k p).fdiv (Mx.g c.A top p)) top,Mx.aV c.C top (-((Mx.g c.A k p).fdiv (Mx.g c.A top p))) k⟩:=by rw[<-hc];rfl
     refine next _ _ ⟨_,rfl,?_,λ m h1 h2 h3=>(f2 m h1 h2 h3).trans (f m h1 h2 h3),?_⟩
     . rw[el];exact B2
     . rw[el];exact hs
structure Bk(st st':af):Prop where
 le:st.length<=st'.length
 fr:∀m,m<st.length->m≠0->st'[m]?=st[m]?
 tb:∃f,st'[0]?=some (dR f)
def lW:cL:=λ ds st K=>∃(d:D) (N w e0 z:Nat) (A:List (List Int)) (f:Bool),ds=[d]/\eO st d A/\Mx.aP N w A/\1<=N/\N<=16/\w<=16/\Mx.gO A N 0 (2^e0)/\z<=60000000/\(∀p t c,p<w->Mx.eQ A N p t c->Mx.Dn N p t z c)/\st[0]?=some (dR f)/\
 ∀st' (top:Nat) (c:Mx.B3),Mx.eQ A N w top c->Bk st st'->K (.tup [aJ (c.A.take top),aJ c.U,aJ (Mx.bq c.C N)]) st'
def oq:List Str:=["rows","bench","top","place","back"]
def Dz:DS:=(aF (bo 1 (zk az kT (ae (aa 0) ao)))
 (aF (bo 2 (dC (.int 0)))
 (aF (gR (fS (ae (cz fh (ae (av bM (aa 0) (dC (.int 0))) ao)) ao)) (bz 3) (jZ (cA (d9 az "gather" mW (aa 1) (ae (aa 2) (ae (aa 3) ao)))) (aF (fG (d9 az "lower_above" jx (aa 1) (ae (aa 2) (ae (aa 3) ao))))
 (C3 2 (Br (λ i j=>i+j)) (dC (.int 1)))) ix))
 (aF (bo 4 (aQ gT (ae (bS az "back_columns" (aa 1)) (ae (cz fh (ae (aa 0) ao)) ao))))
 (cT (tM (ae (aQ nM (ae (AZ (bS az "body" (aa 1)) xQ (CV (aa 2))) ao)) (ae (aQ nM (ae (bS az "turn" (aa 1)) ao)) (ae (aa 4) ao)))))))))
def yv{st st':af}{f:Bool}(h0:st[0]?=some (dR f))(fr:∀m,m<st.length->m≠0->st'[m]?=st[m]?){d:D}{xs:List D}(h:items? st d=some xs):items? st' d=some xs:=by
 cases d with
 |ref n=>
  have e:=tL h;have n0:n≠0:=uV e h0;rw[aO ((fr n (RB.mp e).1 n0).trans e)]
 |_=>exact h
def yU{st st':af}{f:Bool}(h0:st[0]?=some (dR f))(fr:∀m,m<st.length->m≠0->st'[m]?=st[m]?):∀ {ds:List D} {A:List (List Int)},cv st ds A->cv st' ds A
 | [],[],_=>trivial
 |_::_,_::_,h=>⟨yv h0 fr h.1,yU h0 fr h.2⟩
def wL{st st':af}{f:Bool}(h0:st[0]?=some (dR f))(fr:∀m,m<st.length->m≠0->st'[m]?=st[m]?){d:D}{A:List (List Int)}(h:eO st d A):eO st' d A:=by
 obtain⟨ds,h1,h2⟩:=h.ex;exact⟨ds,yv h0 fr h1,yU h0 fr h2⟩
def ML{xs:List D}{j:Nat}:L3.cutD xs none (some (j:Int))=xs.take j:=by
 unfold L3.cutD;rw[HT.J9,HT.Hw,List.drop_zero,Nat.sub_zero];by_cases h:j<=xs.length
 . rw[Nat.min_eq_left h]
 . rw[Nat.min_eq_right (by omega),List.take_length,TN (by omega)]
def BF:Ru lW 1 Dz oq:=by
 rintro ds st K ⟨d,N,w,e0,z,A,f,rfl,hd,hA,hN1,hN,hw,hlo,hzz,hsz,h0,kk⟩;refine⟨rfl,?_⟩;have lA:=hA.len;have h0l:0<st.length:=(RB.mp h0).1;have hd1:eO (st++[Cell.ins az []]) d A:=wL h0 (λ m hm _=>RG hm) hd;refine⟨st.length,N,d,A,rfl,by simp,hd1,lA,hN,λ st1 B1 l1 f1=>⟨rfl,?_⟩⟩;have hl1:(st++[Cell.ins az []]).length=st.length+1:=by simp
 have fr1:∀m,m<st.length->st1[m]?=st[m]?:=λ m hm=>by rw[f1 m (by omega) (by omega),RG hm]
 have O1:Bo st.length st st1 st.length (st.length+1) (st.length+1+1) (st.length+1+2):=⟨⟨h0l,by omega,by omega,by omega,by omega⟩,λ m hm _=>fr1 m hm,f,(fr1 0 h0l).trans h0⟩
 rw[hl1]at B1;have hdk:∀ {st':af},(∀m,m<st.length->m≠0->st'[m]?=st[m]?)->eO st' d A:=λ h=>wL h0 h hd;obtain⟨da,hda,hra⟩:=(hdk O1.fr).ex;have hdl:=hra.len
 have hrow0:∃d0,da[0]?=some d0/\items? st1 d0=some (au (A.getD 0 [])):=by
  have hi:0<da.length:=by omega
  obtain⟨r,e1,e2⟩:=cv.get hra (RJ hi);refine⟨da[0],RJ hi,?_⟩;have:A.getD 0 []=r:=by rw[RI,e1];rfl
  rw[this];exact e2
 obtain⟨d0,hd0,hi0⟩:=hrow0;have er:(au (A.getD 0 [])).length=w:=by unfold au;rw[Rz];exact Mx.c6 hA (by omega)
 try dsimp only[ao]
 refine mP (A:=bo 2 _) (λ σ st'=>σ=[some d,some (.ref st.length),some (.int 0),none,none]/\st'=st1) (λ nx h=>h _ _ ⟨rfl,rfl⟩) ?_;rintro _ _ ⟨rfl,rfl⟩;refine mP (A:=gR _ _ _) (λ σ st'=>∃(top xb xu xc:Nat) (v3:Option D) (c:Mx.B3),σ=[some d,some (.ref st.length),some (.int top),v3,none]/\Bn st' st.length xb xu xc c.A c.U c.C/\Bo st.length st st' st.length xb xu xc/\Mx.eQ A N w top c) (λ nx hnx=>?_) ?_
 . refine aR hda (show eF da 0=some d0 from jq (j:=0) hd0) (df hi0 ?_);rw[er];refine iD ⟨by omega,by omega⟩ ?_;rw[R8];refine jT w (λ p σ st'=>∃(top xb xu xc:Nat) (v3:Option D) (c:Mx.B3),σ=[some d,some (.ref st.length),some (.int top),v3,none]/\Bn st' st.length xb xu xc c.A c.U c.C/\Bo st.length st st' st.length xb xu xc/\Mx.eQ A N p top c) ?_ ?_ ⟨0,_,_,_,none,⟨A,Mx.units N,Mx.units N⟩,rfl,B1,O1,.start⟩
   . rintro σ st' ⟨top,xb,xu,xc,v3,c,rfl,B,O,hC⟩;exact hnx _ _ ⟨top,xb,xu,xc,v3,c,rfl,B,O,hC⟩
   . rintro p σ st' rest hp ⟨top,xb,xu,xc,v3,c,rfl,B,O,hC⟩ next
     refine⟨_,rfl,?_⟩;obtain⟨ld,S⟩:=hC.str hA hlo hN (Tq hp);have hle:=S.le;have hroom:=hsz p top c hp hC;refine dY B.eb rfl ?_;refine⟨st.length,st.length,xb,xu,xc,N,w,top,p,_,_,_,z,A,c.A,c.U,c.C,ld,rfl,B,⟨O.lo,λ _ _ _=>rfl,O.tb⟩,S,hN,hw,hp,hzz,hroom.ga,λ st2 B2 O2 hL=>?_,λ st2 xb2 xu2 xc2 c2 r B2 O2 hR hL=>?_⟩
     . exact lS (next _ _ ⟨top,xb,xu,xc,_,c,rfl,B2,⟨O2.lo,λ m h1 h2=>(O2.fr m h1 h2).trans (O.fr m h1 h2),O2.tb⟩,.next hC (.none hL)⟩)
     . refine gS ?_;obtain⟨s1,ht,_⟩:=S.Hk hN hp hR hL;have O2':Bo st.length st st2 st.length xb2 xu2 xc2:=⟨O2.lo,λ m h1 h2=>(O2.fr m h1 h2).trans (O.fr m h1 h2),O2.tb⟩
       refine dY B2.eb rfl ?_;refine⟨st.length,xb2,xu2,xc2,N,w,top,p,4*Mx.Ey e0 top+4,Mx.Uy e0 top,Mx.Cx e0 top,z,A,_,_,_,rfl,B2,s1.tn,hN,hw,hp,ht,s1.tp,λ q hq=>s1.zs top q (Rv _) ht hq,λ q=>⟨s1.lo.1 top q (Rv _) ht,s1.lo.2.1 top q (Rv _) ht,s1.lo.2.2 top q (Rv _) ht⟩,λ i q hi=>?_,hzz,λ k hk=>hroom.lo c2 r k hR hL hk,λ st3 B3 f3=>?_⟩
       . obtain⟨a1,a2,a3⟩:=s1.Iq hi q;rw[a1,a2,a3];exact S.hi i q hi
       . exact next _ _ ⟨top+1,xb2,xu2,xc2,_,_,rfl,B3,O2'.low f3,.next hC (.one hR hL)⟩
 . rintro σ st2 ⟨top,xb,xu,xc,v3,c,rfl,B,O,hC⟩;obtain⟨ld,S⟩:=hC.str hA hlo hN (Rv _);have hle:=S.le;have T:=S.tn;have lN:=T.isA.len;refine a8 B.eb rfl ?_;obtain⟨da2,hda2,hra2⟩:=(hdk O.fr).ex;refine df hda2 ?_;rw[hra2.len,lA];refine⟨_,c.C,N,rfl,⟨_,aO B.e3,cv.lst⟩,T.gN.jH,by rw[T.gN.len];omega,by omega,?_⟩;refine a8 B.eb rfl (Gg B.e1 ?_);rw[ML,<-List.map_take];refine⟨_,c.A.take top,rfl,⟨_,rfl,cv.lst⟩,by rw[TK];omega,?_⟩;refine a8 B.eb rfl ?_;refine⟨_,c.U,rfl,⟨_,aO B.e2,cv.lst⟩,by rw[T.gd.len];omega,?_⟩;refine⟨by show 3<=sizeLine;decide,?_⟩;refine kk st2 top c hC ⟨?_,O.fr,O.tb⟩;have:=(RB.mp B.eb).1;omega
structure Us(n:Nat)(st st':af):Prop where
 len:st'.length=st.length
 same:∀m,m≠n->st'[m]?=st[m]?
def Us.trans{n:Nat}{st st1 st2:af}(a:Us n st st1)(b:Us n st1 st2):Us n st st2:=⟨b.len.trans a.len,λ m h=>(b.same m h).trans (a.same m h)⟩
def fA{st:af}{n:Nat}{C:Addr}{fs gs:List (Str×D)}{f:Str}{d:D}{K:af->Prop}(e:st[n]?=some (.ins C fs))(h:fs.length<1000)(eg:putD f d fs=gs)(k:∀st',st'[n]?=some (.ins C gs)->Us n st st'->K st'):xf C f (.ref n) d st K:=mL e h (by
 rw[eg];exact k _ (RL (RB.mp e).1) ⟨RV,λ m hm=>RD (RK hm)⟩)
structure Si(st:af)(n N w:Nat)(d:D)(L Lb R Rb:List (List Int)):Prop where
 e:st[n]?=some (Cell.ins aH [("many",.int N),("wide",.int w),("body",d),("left",aJ L),("left_back",aJ Lb),("right",aJ R),("right_back",aJ Rb)])
def la:cL:=λ ds st K=>∃(n N w:Nat) (d:D) (A:List (List Int)),ds=[.ref n,d]/\st[n]?=some (.ins aH [])/\(∀s,eO s d A)/\Mx.aP N w A/\1<=N/\N<=8/\w<=8/\∀st',Si st' n N w d (Mx.units N) (Mx.units N) (Mx.units w) (Mx.units w)->Us n st st'->K .aB st'
def jb:List Str:=["self","rows"]
def vU:DS:=(aF (fI aH "many" (aa 0) (cz fh (ae (aa 1) ao)))
 (aF (fI aH "wide" (aa 0) (cz fh (ae (av bM (aa 1) (dC (.int 0))) ao)))
 (aF (fI aH "body" (aa 0) (aa 1))
 (aF (fI aH "left" (aa 0) (aQ fH (ae (bS aH "many" (aa 0)) ao)))
 (aF (fI aH "left_back" (aa 0) (aQ fH (ae (bS aH "many" (aa 0)) ao)))
 (aF (fI aH "right" (aa 0) (aQ fH (ae (bS aH "wide" (aa 0)) ao)))
 (fI aH "right_back" (aa 0) (aQ fH (ae (bS aH "wide" (aa 0)) ao)))))))))
def u0:Ru la 2 vU jb:=by
 rintro ds st K ⟨n,N,w,d,A,rfl,e,hd,hA,n1,n8,w8,k⟩;refine⟨rfl,?_⟩;have lA:=hA.len;obtain⟨da,hda,ra⟩:=(hd st).ex;have lda:da.length=N:=by rw[ra.len];exact lA
 refine df hda ?_;rw[lda];refine fA (gs:=[("many",.int N)]) e (RT rfl) rfl λ st1 e1 U1=>?_;obtain⟨db,hdb,rb⟩:=(hd st1).ex;obtain⟨d0,h0,i0⟩:=rb.at (k:=0) (by omega);refine aR hdb h0 (df i0 ?_);rw[Rz,hA.row (i:=0) (by omega)];refine fA (gs:=[("many",.int N),("wide",.int w)]) e1 (RT rfl) rfl λ st2 e2 U2=>?_;refine fA (gs:=[("many",.int N),("wide",.int w),("body",d)]) e2 (RT rfl) rfl λ st3 e3 U3=>?_;refine a8 e3 rfl ⟨N,rfl,by omega,?_⟩;refine fA (gs:=[("many",.int N),("wide",.int w),("body",d),("left",aJ (Mx.units N))]) e3 (RT rfl) rfl λ st4 e4 U4=>?_;refine a8 e4 rfl ⟨N,rfl,by omega,?_⟩;refine fA (gs:=[("many",.int N),("wide",.int w),("body",d),("left",aJ (Mx.units N)),("left_back",aJ (Mx.units N))]) e4 (RT rfl) rfl λ st5 e5 U5=>?_;refine a8 e5 rfl ⟨w,rfl,by omega,?_⟩;refine fA (gs:=[("many",.int N),("wide",.int w),("body",d),("left",aJ (Mx.units N)),("left_back",aJ (Mx.units N)),("right",aJ (Mx.units w))]) e5 (RT rfl) rfl λ st6 e6 U6=>?_;refine a8 e6 rfl ⟨w,rfl,by omega,?_⟩;refine fA (gs:=[("many",.int N),("wide",.int w),("body",d),("left",aJ (Mx.units N)),("left_back",aJ (Mx.units N)),("right",aJ (Mx.units w)),("right_back",aJ (Mx.units w))]) e6 (RT rfl) rfl λ st7 e7 U7=>?_;exact k st7 ⟨e7⟩ (U1.trans (U2.trans (U3.trans (U4.trans (U5.trans (U6.trans U7))))))
def Le(X:List (List Int))(N w b:Nat):Prop:=∀i j,i<N->j<w->(Mx.g X i j).natAbs<=2^b
def Le.mem{X:List (List Int)}{N w b:Nat}(h:Le X N w b)(hX:Mx.aP N w X):∀r∈X,∀x∈r,x.natAbs<=2^b:=λ r hr x hx=>by
 obtain⟨i,hi,rfl⟩:=SJ.mp hr;obtain⟨j,hj,rfl⟩:=SJ.mp hx;have:=h i j (by rw[<-hX.len];exact hi) (by rw[<-hX.jH _ hr];exact hj);unfold Mx.g at this;rwa [Mx.aN hi,Mx.aN hj]at this
def qx{X Y:List (List Int)}{N w p q a b:Nat}(hX:Mx.aP N w X)(hY:Mx.aP p q Y)(bX:Le X N w a)(bY:Le Y p q b)(h:a+b<=130000000):∀r∈X,∀c∈r,∀s∈Y,∀y∈s,IntMulOk c y:=λ r hr c hc s hs y hy=>oN (bX.mem hX r hr c hc) (bY.mem hY s hs y hy) h
def ne_nil{X:List (List Int)}{N w:Nat}(hX:Mx.aP N w X)(h:1<=N):X≠ []:=λ z=>by
 have:=hX.len;rw[z]at this;simp at this;omega
def ku:cL:=λ ds st K=>∃(n N w x y:Nat) (d:D) (A B L Lb R Rb T Tb:List (List Int)),ds=[.ref n,aJ T,aJ Tb]/\Si st n N w d L Lb R Rb/\(∀s,eO s d B)/\Mx.Sd A B L Lb R Rb N w x/\1<=N/\N<=8/\w<=8/\Mx.aP N N T/\Mx.aP N N Tb/\Le T N N y/\Le Tb N N y/\Le B N w 350/\x+y<=120000000/\∀st',Si st' n N w (aJ (Mx.mulM T B w)) (Mx.mulM T L N) (Mx.mulM Lb Tb N) R Rb->Us n st st'->K .aB st'
def iy:List Str:=["self","turn","back"]
def u5:DS:=(aF (fI aH "body" (aa 0) (aQ iV (ae (aa 1) (ae (bS aH "body" (aa 0)) ao))))
 (aF (fI aH "left" (aa 0) (aQ iV (ae (aa 1) (ae (bS aH "left" (aa 0)) ao))))
 (fI aH "left_back" (aa 0) (aQ iV (ae (bS aH "left_back" (aa 0)) (ae (aa 2) ao))))))
def s_:Ru ku 3 u5 iy:=by
 rintro ds st K ⟨n,N,w,x,y,d,A,B,L,Lb,R,Rb,T,Tb,rfl,s,hd,S,n1,n8,w8,iT,iTb,sT,sTb,sB,hxy,k⟩;refine⟨rfl,?_⟩;refine a8 s.e rfl ⟨aJ T,d,w,T,B,rfl,dh,hd st,ne_nil S.iB n1,S.iB.jH,by omega,by rw[iT.len];omega,qx iT S.iB sT sB (by omega),?_⟩;refine fA (gs:=[("many",.int N),("wide",.int w),("body",aJ (Mx.mulM T B w)),("left",aJ L),("left_back",aJ Lb),("right",aJ R),("right_back",aJ Rb)]) s.e (RT rfl) rfl λ st1 e1 U1=>?_;refine a8 e1 rfl ⟨aJ T,_,N,T,L,rfl,dh,dh,ne_nil S.iL n1,S.iL.jH,by omega,by rw[iT.len];omega,qx iT S.iL sT S.sL (by omega),?_⟩;refine fA (gs:=[("many",.int N),("wide",.int w),("body",aJ (Mx.mulM T B w)),("left",aJ (Mx.mulM T L N)),("left_back",aJ Lb),("right",aJ R),("right_back",aJ Rb)]) e1 (RT rfl) rfl λ st2 e2 U2=>?_;refine a8 e2 rfl ⟨_,_,N,Lb,Tb,rfl,dh,dh,ne_nil iTb n1,iTb.jH,by omega,by rw[S.pV.len];omega,qx S.pV iTb S.IF sTb (by omega),?_⟩;refine fA (gs:=[("many",.int N),("wide",.int w),("body",aJ (Mx.mulM T B w)),("left",aJ (Mx.mulM T L N)),("left_back",aJ (Mx.mulM Lb Tb N)),("right",aJ R),("right_back",aJ Rb)]) e2 (RT rfl) rfl λ st3 e3 U3=>?_;exact k st3 ⟨e3⟩ (U1.trans (U2.trans U3))
def hV:cL:=λ ds st K=>∃(n N w x y:Nat) (d:D) (A B L Lb R Rb T Tb:List (List Int)),ds=[.ref n,aJ T,aJ Tb]/\Si st n N w d L Lb R Rb/\(∀s,eO s d B)/\Mx.Sd A B L Lb R Rb N w x/\1<=w/\N<=8/\w<=8/\Mx.aP w w T/\Mx.aP w w Tb/\Le T w w y/\Le Tb w w y/\Le B N w 350/\x+y<=120000000/\∀st',Si st' n N w (aJ (Mx.mulM B T w)) L Lb (Mx.mulM R T w) (Mx.mulM Tb Rb w)->Us n st st'->K .aB st'
def g9:List Str:=["self","turn","back"]
def um:DS:=(aF (fI aH "body" (aa 0) (aQ iV (ae (bS aH "body" (aa 0)) (ae (aa 1) ao))))
 (aF (fI aH "right" (aa 0) (aQ iV (ae (bS aH "right" (aa 0)) (ae (aa 1) ao))))
 (fI aH "right_back" (aa 0) (aQ iV (ae (aa 2) (ae (bS aH "right_back" (aa 0)) ao))))))
def sV:Ru hV 3 um g9:=by
 rintro ds st K ⟨n,N,w,x,y,d,A,B,L,Lb,R,Rb,T,Tb,rfl,s,hd,S,w1,n8,w8,iT,iTb,sT,sTb,sB,hxy,k⟩;refine⟨rfl,?_⟩;refine a8 s.e rfl ⟨d,aJ T,w,B,T,rfl,hd st,dh,ne_nil iT w1,iT.jH,by omega,by rw[S.iB.len];omega,qx S.iB iT sB sT (by omega),?_⟩;refine fA (gs:=[("many",.int N),("wide",.int w),("body",aJ (Mx.mulM B T w)),("left",aJ L),("left_back",aJ Lb),("right",aJ R),("right_back",aJ Rb)]) s.e (RT rfl) rfl λ st1 e1 U1=>?_;refine a8 e1 rfl ⟨_,_,w,R,T,rfl,dh,dh,ne_nil iT w1,iT.jH,by omega,by rw[S.iR.len];omega,qx S.iR iT S.sR sT (by omega),?_⟩;refine fA (gs:=[("many",.int N),("wide",.int w),("body",aJ (Mx.mulM B T w)),("left",aJ L),("left_back",aJ Lb),("right",aJ (Mx.mulM R T w)),("right_back",aJ Rb)]) e1 (RT rfl) rfl λ st2 e2 U2=>?_;refine a8 e2 rfl ⟨_,_,w,Tb,Rb,rfl,dh,dh,ne_nil S.jJ w1,S.jJ.jH,by omega,by rw[iTb.len];omega,qx iTb S.jJ sTb S.Ic (by omega),?_⟩;refine fA (gs:=[("many",.int N),("wide",.int w),("body",aJ (Mx.mulM B T w)),("left",aJ L),("left_back",aJ Lb),("right",aJ (Mx.mulM R T w)),("right_back",aJ (Mx.mulM Tb Rb w))]) e2 (RT rfl) rfl λ st3 e3 U3=>?_;exact k st3 ⟨e3⟩ (U1.trans (U2.trans U3))
structure Sk(n:Nat)(st st':af):Prop where
 le:st.length<=st'.length
 fr:∀m,m<st.length->m≠0->m≠n->st'[m]?=st[m]?
 tb:∃f,st'[0]?=some (dR f)
def Sk.trans{n:Nat}{st st1 st2:af}(a:Sk n st st1)(b:Sk n st1 st2):Sk n st st2:=⟨RH a.le b.le,λ m h h0 hn=>(b.fr m (RQ h a.le) h0 hn).trans (a.fr m h h0 hn),b.tb⟩
def Sk.of{n:Nat}{st st1 st2:af}(nz:n≠0)(a:Bk st st1)(b:Us n st1 st2):Sk n st st2:=by
 obtain⟨f,e⟩:=a.tb;exact⟨by have:=a.le;have:=b.len;omega,λ m h h0 hn=>(b.same m hn).trans (a.fr m h h0),f,(b.same 0 (RK nz)).trans e⟩
def Si.keep{st st1:af}{n N w:Nat}{d:D}{L Lb R Rb:List (List Int)}(s:Si st n N w d L Lb R Rb)(nz:n≠0)(a:Bk st st1):Si st1 n N w d L Lb R Rb:=⟨(a.fr n (RB.mp s.e).1 nz).trans s.e⟩
def F8{A:List (List Int)}{N w b:Nat}(hA:Mx.aP N w A)(h:Le A N w b):Mx.gO A N 0 (2^b):=Mx.pq hA h
def g8:cL:=λ ds st K=>∃(n N w x y:Nat) (d:D) (A B L Lb R Rb:List (List Int)) (f:Bool),ds=[.ref n]/\Si st n N w d L Lb R Rb/\(∀s,eO s d B)/\Mx.Sd A B L Lb R Rb N w x/\1<=N/\N<=8/\w<=8/\Le B N w 350/\(∀t c,Mx.eQ B N w t c->Mx.Aq B N w y c)/\x+y<=120000000/\n≠0/\st[0]?=some (dR f)/\∀st' t c,Mx.eQ B N w t c->Si st' n N w (aJ c.A) (Mx.mulM c.U L N) (Mx.mulM Lb (Mx.bq c.C N) N) R Rb->Mx.Sd A c.A (Mx.mulM c.U L N) (Mx.mulM Lb (Mx.bq c.C N) N) R Rb N w (x+y+3)->Sk n st st'->K .aB st'
def g5:List Str:=["self","told"]
def tH:DS:=(aF (bo 1 (aQ lW (ae (bS aH "body" (aa 0)) ao)))
 (fG (d9 aH "turn_left" ku (aa 0) (ae (av bM (aa 1) (dC (.int 1))) (ae (av bM (aa 1) (dC (.int 2))) ao)))))
def sJ:Ru g8 1 tH g5:=by
 rintro ds st K ⟨n,N,w,x,y,d,A,B,L,Lb,R,Rb,f,rfl,s,hd,S,n1,n8,w8,sB,hy,hxy,nz,h0,k⟩;refine⟨rfl,?_⟩;have hlo:=F8 S.iB sB;refine a8 s.e rfl ⟨d,N,w,350,60000000,B,f,rfl,hd st,S.iB,n1,by omega,by omega,hlo,by decide,λ p t c hp hC=>hC.AL S.iB hlo n8 hp,h0,λ st1 top c hC Bk1=>?_⟩;have s1:=s.keep nz Bk1;obtain⟨ld,H⟩:=hC.str S.iB hlo (by omega) (Rv _);obtain⟨m1,m2,m3,_,_⟩:=H.tn.Ll S.iB;have iU:=H.tn.gd;have iC:=H.tn.gN;have iCt:=Mx.cF iC;have sz:=(hy top c hC).sz;have sU:Le c.U N N y:=λ i j hi hj=>(sz i j hi hj).1;have sC:Le (Mx.bq c.C N) N N y:=λ i j hi hj=>by rw[Mx.cG iC hj hi];exact(sz j i hj hi).2
 refine dY s1.e rfl (aR rfl rfl (aR rfl rfl ⟨n,N,w,x,y,d,A,B,L,Lb,R,Rb,c.U,Mx.bq c.C N,rfl,s1,hd,S,n1,n8,w8,iU,iCt,sU,sC,sB,hxy,λ st2 s2 U2=>?_⟩));have S2:=S.left n8 iU iCt m2 m3 sU sC;rw[m1]at s2 S2;exact k st2 top c hC s2 S2 (Sk.of nz Bk1 U2)
def fU:cL:=λ ds st K=>∃(n N w x y:Nat) (A B L Lb R Rb:List (List Int)) (f:Bool),ds=[.ref n]/\Si st n N w (aJ B) L Lb R Rb/\Mx.Sd A B L Lb R Rb N w x/\1<=w/\N<=8/\w<=8/\Le B N w 350/\(∀t c,Mx.eQ (Mx.bq B w) w N t c->Mx.Aq (Mx.bq B w) w N y c)/\x+y<=120000000/\n≠0/\st[0]?=some (dR f)/\∀st' t c,Mx.eQ (Mx.bq B w) w N t c->Si st' n N w (aJ (Mx.bq c.A N)) L Lb (Mx.mulM R (Mx.bq c.U w) w) (Mx.mulM c.C Rb w)->Mx.Sd A (Mx.bq c.A N) L Lb (Mx.mulM R (Mx.bq c.U w) w) (Mx.mulM c.C Rb w) N w (x+y+3)->Sk n st st'->K .aB st'
def fR:List Str:=["self","told"]
def qG:DS:=(aF (bo 1 (aQ lW (ae (aQ gT (ae (bS aH "body" (aa 0)) (ae (bS aH "wide" (aa 0)) ao))) ao)))
 (fG (d9 aH "turn_right" hV (aa 0) (ae (aQ gT (ae (av bM (aa 1) (dC (.int 1))) (ae (bS aH "wide" (aa 0)) ao))) (ae (aQ gT (ae (av bM (aa 1) (dC (.int 2))) (ae (bS aH "wide" (aa 0)) ao))) ao)))))
def qi:Ru fU 1 qG fR:=by
 rintro ds st K ⟨n,N,w,x,y,A,B,L,Lb,R,Rb,f,rfl,s,S,w1,n8,w8,sB,hy,hxy,nz,h0,k⟩;refine⟨rfl,?_⟩;have iX:=Mx.cF S.iB;have hlo:=F8 iX (b:=350) λ i j hi hj=>by rw[Mx.cG S.iB hj hi];exact sB j i hj hi
 refine a8 s.e rfl (a8 s.e rfl ⟨_,B,w,rfl,dh,S.iB.jH,by rw[S.iB.len];omega,by omega,?_⟩);refine⟨_,w,N,350,60000000,Mx.bq B w,f,rfl,dh,iX,w1,by omega,by omega,hlo,by decide,λ p t c hp hC=>hC.AL iX hlo w8 hp,h0,λ st1 top c hC Bk1=>?_⟩;have s1:=s.keep nz Bk1;obtain⟨ld,H⟩:=hC.str iX hlo (by omega) (Rv _);obtain⟨m1,_,_,m4,m5⟩:=H.tn.Ll iX;have iU:=H.tn.gd;have iC:=H.tn.gN;have iUt:=Mx.cF iU;have sz:=(hy top c hC).sz;have sU:Le (Mx.bq c.U w) w w y:=λ i j hi hj=>by rw[Mx.cG iU hj hi];exact(sz j i hj hi).1
 have sC:Le c.C w w y:=λ i j hi hj=>(sz i j hi hj).2;refine dY s1.e rfl (aR rfl rfl (a8 s1.e rfl ⟨_,c.U,w,rfl,dh,iU.jH,by rw[iU.len];omega,by omega,?_⟩));refine aR rfl rfl (a8 s1.e rfl ⟨_,Mx.bq c.C w,w,rfl,dh,(Mx.cF iC).jH,by rw[(Mx.cF iC).len];omega,by omega,?_⟩);rw[Mx.xN iC];refine⟨n,N,w,x,y,aJ B,A,B,L,Lb,R,Rb,Mx.bq c.U w,c.C,rfl,s1,λ _=>dh,S,w1,n8,w8,iUt,iC,sU,sC,sB,hxy,λ st2 s2 U2=>?_⟩;have S2:=S.right w8 iUt iC m4 m5 sU sC
 have eB:Mx.mulM B (Mx.bq c.U w) w=Mx.bq c.A N:=by
  rw[<-m1,Mx.xH iU iX,Mx.xN S.iB]
 rw[eB]at s2 S2;exact k st2 top c hC s2 S2 (Sk.of nz Bk1 U2)
def nZ:cL:=λ ds st K=>∃(B:List (List Int)) (N w:Nat),ds=[aJ B]/\Mx.aP N w B/\N<=8/\w<=8/\∀b:Bool,(b=true↔Mx.Dg B N w)->K (.bl b) st
def kM:List Str:=["rows","k","row"]
def ze:DS:=(aF (gR (uW (ae (aa 0) ao)) (ka 1 2) (jZ (zA (cA (cz Bm (ae (dS (uW (ae (aa 2) ao)) [none,none,some 1] (ka 0 1) cS (Hj (av mE (aa 1) (dC (.int 0))) (av mE (aa 0) (aa 2)))) ao)))) (cT (dC (.bl false))) ix))
 (cT (dC (.bl true))))
def D2{A:List (List Int)}{i:Nat}{d:D}{rest:List D}(hr:d::rest=fe i ((A.map bL).drop i)):i<A.length/\d= .tup [.int (i:Int),bL (A.getD i [])]/\rest=fe (i+1) ((A.map bL).drop (i+1)):=by
 rcases Tt i A.length with h|h
 . rw[SA (by rw[Rz];exact h),Te]at hr;unfold fe at hr;obtain⟨h1,h2⟩:=Ua hr;exact⟨h,by rw[Mx.aN h];exact h1,h2⟩
 . rw[S8 (by rw[Rz];exact h)]at hr;cases hr
def E3{r:List Int}{i:Nat}{d:D}{rest:List D}(hr:d::rest=fe i ((au r).drop i)):i<r.length/\d= .tup [.int (i:Int),.int (r.getD i 0)]/\rest=fe (i+1) ((au r).drop (i+1)):=by
 rcases Tt i r.length with h|h
 . rw[SA (by rw[Rz];exact h),Te]at hr;unfold fe at hr;obtain⟨h1,h2⟩:=Ua hr;exact⟨h,by rw[Mx.aN h];exact h1,h2⟩
 . rw[S8 (by rw[Rz];exact h)]at hr;cases hr
def Av{xs:List D}{i:Nat}(hr: []=fe i (xs.drop i)):xs.length<=i:=by
 rcases Tt i xs.length with h|h
 . rw[SA h]at hr;unfold fe at hr;cases hr
 . exact h
def Ak{f:Nat->Bool}:∀l:List Nat,iM (l.map λ j=>D.bl (f j))=some (l.map f)
 | []=>rfl
 |a::l=>by rw[R0,R0];unfold iM;rw[Ak l];rfl
def yl:Ru nZ 1 ze kM:=by
 rintro ds st K ⟨B,N,w,rfl,iB,n8,w8,k⟩;refine⟨rfl,?_⟩;have lB:=iB.len;refine uP (xs:=B.map bL) rfl λ ok aM=>?_;refine fT (λ rest σ st'=>st=st'/\∃(i:Nat) (v1 v2:Option D),i<=N/\rest=fe i ((B.map bL).drop i)/\σ=[some (aJ B),v1,v2]/\∀a c,a<i->c<w->a≠c->Mx.g B a c=0) ?_ ?_ _ _ _ ⟨rfl,0,none,none,RX _,rfl,rfl,λ a c ha=>absurd ha (Sh _)⟩
 . rintro σ st' ⟨rfl,i,v1,v2,hi,hrest,rfl,h⟩;have:=Av hrest;rw[Rz]at this;exact⟨aM _ rfl,k true ⟨λ _ a c ha=>h a c (by omega),λ _=>rfl⟩⟩
 . rintro x rest σ st' ⟨rfl,i,v1,v2,hi,hrest,rfl,h⟩ next
   obtain⟨hiB,rfl,rfl⟩:=D2 hrest;have lr:=iB.row (i:=i) (by omega);refine⟨aM _ rfl,_,rfl,uP (xs:=au (B.getD i [])) rfl λ ok2 hok2=>⟨cC (by rw[nD,Rz];omega),?_⟩⟩;refine fv (λ rest acc st'=>st=st'/\∃j:Nat,j<=w/\rest=fe j ((au (B.getD i [])).drop j)/\acc=(List.range j).map λ c=>D.bl (decide (Mx.g B i c=0\/c=i))) ?_ ?_ _ _ _ ⟨rfl,0,RX _,rfl,rfl⟩
   . rintro acc st' ⟨rfl,j,hj,hrest,rfl⟩;have:=Av hrest;rw[Rz]at this;have ej:j=w:=by omega
     subst ej;refine⟨hok2 _ rfl,NK (Ak _) ?_⟩;cases hb:((List.range j).map λ c=>decide (Mx.g B i c=0\/c=i)).all id with
     |true=>
      refine next _ _ ⟨rfl,i+1,_,_,by omega,rfl,rfl,λ a c ha hc hne=>?_⟩
      by_cases e:a=i
      . subst e;have:=Tx.mp hb (decide (Mx.g B a c=0\/c=a)) (Sl.mpr ⟨c,TC.mpr hc,rfl⟩);rcases of_decide_eq_true this with z|z
        . exact z
        . exact absurd z.symm hne
      . exact h a c (by omega) hc hne
     |false=>
      refine k false ⟨λ z=>(by cases z),λ dg=>?_⟩;exfalso
      have:((List.range j).map λ c=>decide (Mx.g B i c=0\/c=i)).all id=true:=Tx.mpr λ b hb'=>by
       obtain⟨c,hc,rfl⟩:=Sl.mp hb';by_cases e:c=i
       . exact S_ (.inr e)
       . exact S_ (.inl (dg i c (by omega) (TC.mp hc) (RK e)))
      rw[hb]at this;cases this
   . rintro x rest acc st' ⟨rfl,j,hj,hrest,rfl⟩ next2;obtain⟨hjr,rfl,rfl⟩:=E3 hrest;refine⟨hok2 _ rfl,_,rfl,?_⟩;have fin:∀b,b=decide (Mx.g B i j=0\/j=i)->(List.range j).map (λ c=>D.bl (decide (Mx.g B i c=0\/c=i)))++[D.bl b]=(List.range (j+1)).map λ c=>D.bl (decide (Mx.g B i c=0\/c=i)):=λ b e=>by rw[V3,Um,e];rfl
     refine eq2 (λ z=>?_) λ z=>eq2 (λ z2=>?_) λ z2=>?_
     . show cO _ _ _ _ _ _ _ _ _;rw[fin true (S_ (.inl z)).symm];exact next2 _ _ ⟨rfl,j+1,by omega,rfl,rfl⟩
     . show cO _ _ _ _ _ _ _ _ _;rw[fin true (S_ (.inr (by omega))).symm];exact next2 _ _ ⟨rfl,j+1,by omega,rfl,rfl⟩
     . show cO _ _ _ _ _ _ _ _ _;rw[fin false (Sv (λ y=>y.elim z λ y=>z2 (by omega))).symm];exact next2 _ _ ⟨rfl,j+1,by omega,rfl,rfl⟩
def kc:cL:=λ ds st K=>∃(n N w x y:Nat) (d:D) (A B L Lb R Rb:List (List Int)) (Q:Nat->List (List Int)->Prop) (f:Bool),ds=[.ref n]/\Si st n N w d L Lb R Rb/\(∀s,eO s d B)/\Mx.Sd A B L Lb R Rb N w x/\1<=N/\1<=w/\N<=8/\w<=8/\Mx.AM B N w y Q/\x+2*y<=100000000/\n≠0/\st[0]?=some (dR f)/\∀st' r M B' L' Lb' R' Rb' x',r<=8->Q r M->Mx.Lo M N w r->Mx.Lo B' N w r->Mx.Dg B' N w->(Mx.Pr r λ q=>Mx.g B' q q)<=((2^343:Nat):Int)->(Mx.Dg M N w->B'=M)->x'<=x+2*y+2300000->(Mx.Dg M N w->x'<=x+2*y+6)->Si st' n N w (aJ B') L' Lb' R' Rb'->Mx.Sd A B' L' Lb' R' Rb' N w x'->Sk n st st'->K .aB st'
def j4:List Str:=["self"]
def ye:DS:=(aF (fG (d9 aH "stand_rows" g8 (aa 0) ao))
 (aF (fG (d9 aH "stand_columns" fU (aa 0) ao))
 (qW (zA (cA (aQ nZ (ae (bS aH "body" (aa 0)) ao)))) (aF (fG (d9 aH "stand_rows" g8 (aa 0) ao))
 (fG (d9 aH "stand_columns" fU (aa 0) ao))))))
def xk:Ru kc 1 ye j4:=by
 rintro ds st K ⟨n,N,w,x,y,d,A,B,L,Lb,R,Rb,Q,f,rfl,s,hd,S,n1,w1,n8,w8,T,hxy,nz,h0,k⟩;refine⟨rfl,?_⟩;refine dY s.e rfl ⟨n,N,w,x,y,d,A,B,L,Lb,R,Rb,f,rfl,s,hd,S,n1,n8,w8,T.low,T.s1,by omega,nz,h0,λ st1 t1 c1 C1 s1 S1 K1=>?_⟩;obtain⟨f1,h1⟩:=K1.tb;refine dY s1.e rfl ⟨n,N,w,x+y+3,y,A,c1.A,_,_,R,Rb,f1,rfl,s1,S1,w1,n8,w8,T.a1 t1 c1 C1,T.s2 t1 c1 C1,by omega,nz,h1,λ st2 t2 c2 C2 s2 S2 K2=>?_⟩;obtain⟨r,r8,LM,hM,q⟩:=T.lo t1 c1 C1 t2 c2 C2;have K12:=K1.trans K2;generalize Mx.bq c2.A N=M at s2 S2 LM hM q;refine⟨λ m σ st'=>∃(B' L' Lb' R' Rb':List (List Int)) (t x':Nat),σ=[some (.ref n)]/\Mx.Lo B' N w r/\(Mx.Pr r λ q=>Mx.g B' q q)<=((2^343:Nat):Int)/\t<=r/\Mx.Cl B' r t/\m=Mx.lf B' r t 343/\x'+720*m<=x+2*y+2300000/\((B'=M/\x'<=x+2*y+6)\/¬Mx.Dg M N w)/\Si st' n N w (aJ B') L' Lb' R' Rb'/\Mx.Sd A B' L' Lb' R' Rb' N w x'/\Sk n st st',⟨_,M,_,_,_,_,0,_,rfl,LM,hM,RX _,λ i j hj=>absurd hj (Sh _),rfl,?_,.inl ⟨rfl,by omega⟩,s2,S2,K12⟩,?_⟩
 . have:=Mx.Oc (t:=0) LM r8 hM;omega
 . rintro m σ st3 ⟨B',L',Lb',R',Rb',t,x',rfl,LB,hB,ht,cl,rfl,hx,hq,s3,S3,K3⟩;refine a8 s3.e rfl ⟨B',N,w,rfl,S3.iB,n8,w8,λ b hb=>?_⟩;cases b with
   |true=>exact k st3 r M B' L' Lb' R' Rb' x' r8 q LM LB (hb.mp rfl) hB (λ dM=>hq.elim (λ z=>z.1) λ z=>absurd dM z) (by omega) (λ dM=>hq.elim (λ z=>z.2) λ z=>absurd dM z) s3 S3 K3
   |false=>
    have nd:¬Mx.Dg B' N w:=λ z=>by have:=hb.mpr z;cases this
    have htr:t<r:=Nat.lt_of_le_of_ne ht λ z=>nd (LB.dg (by rw[<-z];rw[z]at cl⊢;exact cl));have T2:=LB.again n8 w8 hB;obtain⟨f3,h3⟩:=K3.tb;refine gS (dY s3.e rfl ⟨n,N,w,x',351,_,A,B',L',Lb',R',Rb',f3,rfl,s3,λ _=>dh,S3,n1,n8,w8,T2.low,T2.s1,by omega,nz,h3,λ st4 t4 c4 C4 s4 S4 K4=>?_⟩);obtain⟨f4,h4⟩:=K4.tb;refine dY s4.e rfl ⟨n,N,w,x'+351+3,351,A,c4.A,_,_,R',Rb',f4,rfl,s4,S4,w1,n8,w8,T2.a1 t4 c4 C4,T2.s2 t4 c4 C4,by omega,nz,h4,λ st5 t5 c5 C5 s5 S5 K5=>?_⟩;obtain⟨r',_,LM2,hM2,er,hl⟩:=T2.lo t4 c4 C4 t5 c5 C5;subst er;obtain⟨t',ht',cl',hlt⟩:=hl t htr cl;refine⟨_,hlt,_,_,_,_,_,t',_,rfl,LM2,hM2,ht',cl',rfl,?_,.inr ?_,s5,S5,K3.trans (K4.trans K5)⟩
    . omega
    . rcases hq with⟨rfl,_⟩|z
      . exact nd
      . exact z
def jE:cL:=λ ds st K=>∃(n k p:Nat) (x:Int),ds=[.int n,.int k,.int p,.int x]/\n<=8/\k<n/\p<n/\∀st',Ext st st'->K (aJ (Mx.ub n k p x)) st'
def jC:List Str:=["n","k","place","number","rows"]
def xw:DS:=(aF (bo 4 (lR (dU (aQ fH (ae (aa 0) ao))) [none] (bz 0) cS (cz qA (ae (aa 0) ao))))
 (aF (ft (av bM (aa 4) (aa 1)) (aa 2) (aa 3))
 (cT (aQ nM (ae (aa 4) ao)))))
def Jw{n k p:Nat}{x:Int}(hk:k<n)(hp:p<n):(Mx.units n).set k (((Mx.units n).getD k []).set p x)=Mx.ub n k p x:=by
 have iU:=Mx.b_ n;have lU:=iU.len;have lr:=iU.row hk
 have is:Mx.aP n n ((Mx.units n).set k (((Mx.units n).getD k []).set p x)):=⟨by rw[RV];exact lU,λ r hr=>by
  rcases SG hr with h|h
  . exact iU.jH r h
  . rw[h,RV];exact lr⟩
 refine is.ext Mx.mv λ i j hi hj=>?_;unfold Mx.ub;rw[Mx.DV hi hj];unfold Mx.g
 have gs:((Mx.units n).set k (((Mx.units n).getD k []).set p x)).getD i []=if i=k then((Mx.units n).getD k []).set p x else(Mx.units n).getD i []:=by
  rw[Mx.aN (by rw[RV];omega)];by_cases h:i=k
  . subst h;rw[W_,RC rfl]
  . rw[List.getElem_set_ne (RK h),Rx h,Mx.aN (show i<(Mx.units n).length by omega)]
 rw[gs];by_cases h:i=k
 . subst h;rw[RC rfl];by_cases h2:j=p
   . subst h2;rw[Mx.aN (by rw[RV];omega),W_,RC ⟨rfl,rfl⟩]
   . rw[Mx.aN (by rw[RV];omega),List.getElem_set_ne (RK h2),<-Mx.aN (d:=0),Rx λ z=>h2 z.2];exact Mx.cQ hi hj
 . rw[Rx h,Rx λ z=>h z.1];exact Mx.cQ hi hj
abbrev xp(r:List Int):Cell:= .lst (au r)
def kb(b n:Nat):List D:=(List.range n).map λ i=> .ref (b+i)
def Gm{b n:Nat}:kb b n++[.ref (b+n)]=kb b (n+1):=by unfold kb;rw[V3,Um];rfl
def yR{st:af}:∀ {A:List (List Int)} {b:Nat},(∀i r,A[i]?=some r->st[b+i]?=some (xp r))->cv st (kb b A.length) A
 | [],_,_=>trivial
 |r::A,b,h=>by
  have e:kb b (r::A).length= .ref b::kb (b+1) A.length:=by
   unfold kb;rw[So,Su,R0,Sn,Xj];congr 1;exact SQ λ i _=>by show D.ref (b+(i+1))=D.ref (b+1+i);congr 1;omega
  rw[e]
  exact⟨aO (h 0 r rfl),yR λ i q hq=>by
   have:=h (i+1) q hq;rwa [show b+(i+1)=b+1+i by omega]at this⟩
def vV:Ru jE 4 xw jC:=by
 rintro ds st K ⟨n,k,p,x,rfl,n8,hk,hp,kk⟩;refine⟨rfl,⟨n,rfl,by omega,?_⟩⟩;have iU:=Mx.b_ n;have lU:=iU.len;refine lD ⟨cC (by rw[Rz,lU];omega),?_⟩;refine fv (λ rest acc st'=>∃A1 A2:List (List Int),A1++A2=Mx.units n/\rest=A2.map bL/\acc=kb st.length A1.length/\st'=st++A1.map xp) ?_ ?_ _ _ _ ⟨[],Mx.units n,rfl,rfl,rfl,by simp⟩;rotate_left
 . rintro d rest acc st' ⟨A1,A2,he,hr,rfl,rfl⟩ next
   match A2,hr with
   |r::A2,hr=>
    rw[R0,Ta]at hr;obtain⟨rfl,rfl⟩:=hr;refine⟨trivial,_,rfl,AS rfl ?_⟩;show cO _ _ _ _ _ _ _ _ _;rw[Sy,Rz,Gm];refine next _ _ ⟨A1++[r],A2,by rw[<-he];simp,rfl,by simp,by simp⟩
 rintro acc st' ⟨A1,A2,he,hr,rfl,rfl⟩;match A2,hr with
 | [],_=>
   rw[SX]at he;subst he;refine⟨trivial,?_⟩;generalize hs:st++(Mx.units n).map xp++[Cell.lst (kb st.length (Mx.units n).length)]=st1;have l1:(st++(Mx.units n).map xp).length=st.length+n:=by simp[lU]
   have er:st1[st.length+n]?=some (.lst (kb st.length n)):=by
    rw[<-hs,<-l1,RY (Rv _),Tc,lU];rfl
   have ec:∀i r,(Mx.units n)[i]?=some r->st1[st.length+i]?=some (xp r):=λ i r hi=>by
    have hil:=(RB.mp hi).1;rw[<-hs,RG (by rw[l1];omega),RY (by omega),Nat.add_sub_cancel_left,RP,hi];rfl
   have X1:Ext st st1:=by rw[<-hs,Vf];exact Ext.push
   rw[l1];clear hs;have hk':k<(Mx.units n).length:=by omega
   have ek:=ec k _ (RJ hk');rw[<-Mx.aN (d:=[]) hk']at ek;have lr:=iU.row hk;have at1:eF (kb st.length n) (k:Int)=some (.ref (st.length+k)):=jq (by unfold kb;rw[RP,Vq hk];rfl);refine aR (aO er) at1 ?_;show vS (.ref (st.length+k)) (.int p) (.int x) st1 _;refine gj ek (pw (by omega) (by rw[Rz,R8];omega)) ?_;rw[R8,show(au ((Mx.units n).getD k [])).set p (.int x)=au (((Mx.units n).getD k []).set p x)from WJ.symm];refine⟨_,Mx.ub n k p x,rfl,⟨kb st.length n,aO ((RD (by omega)).trans er),?_⟩,by rw[Mx.mv.len];omega,kk _ (X1.set (by omega))⟩;rw[<-Jw hk hp];have:=yR (st:=st1.set (st.length+k) (.lst (au (((Mx.units n).getD k []).set p x)))) (A:=(Mx.units n).set k (((Mx.units n).getD k []).set p x)) (b:=st.length) λ i r hi=>?_
   . rwa [RV,lU]at this
   . by_cases h:k=i
     . subst h;rw[RL hk']at hi;cases hi;rw[RL (RB.mp ek).1]
     . rw[RD h]at hi;rw[RD (by omega)];exact ec i r hi
def n_:cL:=λ ds st K=>∃(n N w x r k o:Nat) (A B L Lb R Rb:List (List Int)) (f:Bool),ds=[.ref n,.int k,.int o]/\Si st n N w (aJ B) L Lb R Rb/\Mx.Sd A B L Lb R Rb N w x/\1<=N/\N<=8/\w<=8/\r<=8/\Mx.Lo B N w r/\Mx.Dg B N w/\(Mx.Pr r λ q=>Mx.g B q q)<=((2^343:Nat):Int)/\k<o/\o<r/\x<=90000000/\n≠0/\st[0]?=some (dR f)/\∀st' B' L' Lb' R' Rb',Mx.Lo B' N w r->Mx.Dg B' N w->(Mx.Pr r λ q=>Mx.g B' q q)<=((2^343:Nat):Int)->(∀q,q<r->Mx.g B' q q=if q=k then((Int.gcd (Mx.g B k k) (Mx.g B o o):Nat):Int)else if q=o then((Int.lcm (Mx.g B k k) (Mx.g B o o):Nat):Int)else Mx.g B q q)->Si st' n N w (aJ B') L' Lb' R' Rb'->Mx.Sd A B' L' Lb' R' Rb' N w (x+720)->Sk n st st'->K .aB st'
def kQ:List Str:=["self","k","other"]
def y9:DS:=(aF (fG (d9 aH "turn_right" hV (aa 0) (ae (aQ jE (ae (bS aH "wide" (aa 0)) (ae (aa 2) (ae (aa 1) (ae (dC (.int 1)) ao))))) (ae (aQ jE (ae (bS aH "wide" (aa 0)) (ae (aa 2) (ae (aa 1) (ae (pY ky (dC (.int 1))) ao))))) ao))))
 (fG (d9 aH "settle" kc (aa 0) ao)))
def Sk.ext{n:Nat}{st st1 st2:af}(nz:n≠0)(h0:∃f,st[0]?=some (dR f))(hn:n<st.length)(a:Ext st st1)(b:Us n st1 st2):Sk n st st2:=by
 obtain⟨f,e⟩:=h0;have l0:=(RB.mp e).1;exact⟨by have:=a.len;have:=b.len;omega,λ m h h0 hn=>(b.same m hn).trans (a.same m h),f,(b.same 0 (RK nz)).trans ((a.same 0 l0).trans e)⟩
def x_:Ru n_ 3 y9 kQ:=by
 rintro ds st K ⟨n,N,w,x,r,k,o,A,B,L,Lb,R,Rb,f,rfl,s,S,n1,n8,w8,r8,LB,dg,hM,hko,ho,hx,nz,h0,kk⟩;refine⟨rfl,?_⟩;have rW:=LB.rW;have rN:=LB.rN;have hn:=(RB.mp s.e).1;refine dY s.e rfl (a8 s.e rfl ⟨w,o,k,1,rfl,w8,by omega,by omega,λ st1 X1=>?_⟩);have s1:Si st1 n N w (aJ B) L Lb R Rb:=⟨(X1.same n hn).trans s.e⟩
 refine a8 s1.e rfl (jU ⟨w,o,k,-1,rfl,w8,by omega,by omega,λ st2 X2=>?_⟩);have s2:Si st2 n N w (aJ B) L Lb R Rb:=⟨((X1.trans X2).same n hn).trans s.e⟩
 have sB:Le B N w 350:=λ i j hi hj=>Mx.nq (LB.abs hM i j hi hj) (by decide);have a1:Le (Mx.ub w o k 1) w w 0:=λ i j hi hj=>Mx.FV (by decide) hi hj;have a2:Le (Mx.ub w o k (-1)) w w 0:=λ i j hi hj=>Mx.FV (by decide) hi hj;refine⟨n,N,w,x,0,_,A,B,L,Lb,R,Rb,Mx.ub w o k 1,Mx.ub w o k (-1),rfl,s2,λ _=>dh,S,by omega,n8,w8,Mx.mv,Mx.mv,a1,a2,sB,by omega,λ st3 s3 U3=>?_⟩;have b1:=Mx.CB (n:=w) (k:=o) (p:=k) (x:=1) (by omega) (by omega) (by omega);have b2:=Mx.CB (n:=w) (k:=o) (p:=k) (x:= -1) (by omega) (by omega) (by omega);have S3:=S.right w8 Mx.mv Mx.mv b1 b2 a1 a2;have K3:=Sk.ext nz ⟨f,h0⟩ hn (X1.trans X2) U3;obtain⟨f3,h3⟩:=K3.tb;refine dY s3.e rfl ⟨n,N,w,x+0+3,351,_,A,_,L,Lb,_,_,_,f3,rfl,s3,λ _=>dh,S3,n1,by omega,n8,w8,Mx.HU LB n8 w8 hM dg hko ho,by omega,nz,h3,λ st4 r' M B' L' Lb' R' Rb' x4 _ q _ LB' dg' hM' hd _ hx4 s4 S4 K4=>?_⟩;obtain⟨er,dM,qM⟩:=q;subst er;have e:=hd dM;have hx5:=hx4 dM;subst e;exact kk st4 _ L' Lb' R' Rb' LB' dg' hM' qM s4 (S4.mono (by omega)) (K3.trans K4)
def dg(B:List (List Int))(r:Nat):List Int:=(List.range r).map λ q=>Mx.g B q q
def lY:cL:=λ ds st K=>∃(B:List (List Int)) (N w r:Nat),ds=[aJ B]/\Mx.Lo B N w r/\1<=N/\N<=8/\w<=8/\K (bL (dg B r)) st
def mf:List Str:=["body","least"]
def AY:DS:=(aF (bo 1 (cz yh (ae (cz fh (ae (aa 0) ao)) (ae (cz fh (ae (av bM (aa 0) (dC (.int 0))) ao)) ao))))
 (cT (cz fo (ae (dS (fS (ae (aa 1) ao)) [none,some 0] (bz 0) (cA (av nU (av bM (av bM (aa 1) (aa 0)) (aa 0)) (dC (.int 0)))) (av bM (av bM (aa 1) (aa 0)) (aa 0))) ao))))
def qD{A:List (List Int)}{j:Nat}(h:j<A.length):eF (A.map bL) (j:Int)=some (bL (A.getD j [])):=by
 refine jq ?_;rw[RP,RJ h,Mx.aN h];rfl
def za:Ru lY 1 AY mf:=by
 rintro ds st K ⟨B,N,w,r,rfl,L,n1,n8,w8,k⟩;refine⟨rfl,?_⟩;have lB:=L.is.len;have rN:=L.rN;have rW:=L.rW;refine df rfl (aR rfl (qD (j:=0) (by omega)) (df rfl (FF ?_)));rw[Rz,Rz,lB,L.is.row (i:=0) (by omega)]
 obtain⟨m,em,hm1,hm2,hm3⟩:∃m:Nat,(if(w:Int)<(N:Int)then(w:Int)else(N:Int))=(m:Int)/\r<=m/\m<=N/\m<=w:=by
  by_cases h:(w:Int)<(N:Int)
  . exact⟨w,RC h,rW,by omega,by omega⟩
  . exact⟨N,Rx h,rN,by omega,by omega⟩
 rw[em];refine iD ⟨by omega,by omega⟩ ⟨cC (by rw[i6];omega),?_⟩;rw[R8];have at2:∀j,j<m->eF (au (B.getD j [])) (j:Int)=some (.int (Mx.g B j j)):=λ j hj=>iN (by rw[L.is.row (by omega)];omega);refine fv (λ rest acc st'=>st=st'/\∃j:Nat,j<=m/\rest=(List.range (m-j)).map (λ i=>D.int (((j+i:Nat):Int)))/\acc=au (dg B (min j r))) ?_ ?_ _ _ _ ⟨rfl,0,RX _,by unfold cY;simp,by rw[Nat.zero_min];rfl⟩
 . rintro acc st' ⟨rfl,j,hj,hr,rfl⟩
   have:m-j=0:=by
    cases q:m-j with
    |zero=>rfl
    |succ i=>rw[q,Su]at hr;cases hr
   refine⟨trivial,e9 rfl ?_⟩;rw[show min j r=r by omega];exact k
 . rintro d rest acc st' ⟨rfl,j,hj,hr,rfl⟩ next
   have hjm:j<m:=by
    rcases Tt j m with h|h
    . exact h
    . rw[show m-j=0 by omega]at hr;cases hr
   rw[show m-j=(m-(j+1))+1 by omega,Su,R0,Sn,Ta]at hr;obtain⟨rfl,rfl⟩:=hr
   have erest:(List.map ((λ i=>D.int (((j+i:Nat):Int)))∘Nat.succ) (List.range (m-(j+1))))=(List.range (m-(j+1))).map (λ i=>D.int (((j+1+i:Nat):Int))):=SQ λ i _=>by
    show D.int (((j+(i+1):Nat):Int))=D.int (((j+1+i:Nat):Int));congr 2;omega
   rw[Xj];refine⟨trivial,_,rfl,aR rfl (qD (by omega)) (aR rfl (at2 j hjm) (ne2 (λ h=>?_) λ h=>?_))⟩
   . have hjr:j<r:=VM λ z=>h (L.out j j (by omega) (by omega) (.inl z));refine gS (aR rfl (qD (by omega)) (aR rfl (at2 j hjm) ?_));show cO _ _ _ _ _ _ _ _ _;rw[ints_app];refine next _ _ ⟨rfl,j+1,hjm,erest,?_⟩
     rw[show min (j+1) r=j+1 by omega,show min j r=j by omega];unfold dg;rw[V3,Um];rfl
   . have hjr:r<=j:=SI λ z=>by have:=L.pos j z;omega
     refine next _ _ ⟨rfl,j+1,hjm,erest,?_⟩
     rw[show min (j+1) r=r by omega,show min j r=r by omega]
structure Dv(A B L Lb R Rb:List (List Int))(N w r:Nat):Prop where
 lo:Mx.Lo B N w r
 dg:Mx.Dg B N w
 pr:(Mx.Pr r λ q=>Mx.g B q q)<=((2^343:Nat):Int)
 ch:∀i j,i<j->j<r->Mx.g B i i∣Mx.g B j j
 sd:Mx.Sd A B L Lb R Rb N w 23000000
def sr:cL:=λ ds st K=>∃(d:D) (A:List (List Int)) (N w:Nat) (f:Bool),ds=[d]/\(∀s,eO s d A)/\Mx.aP N w A/\1<=N/\1<=w/\N<=8/\w<=8/\Mx.AM A N w 10300000 (λ _ _=>True)/\st[0]?=some (dR f)/\∀st' B L Lb R Rb r,Dv A B L Lb R Rb N w r->Bk st st'->K (.tup [bL (dg B r),aJ L,aJ Lb,aJ R,aJ Rb]) st'
def oy:List Str:=["rows","sides","many","k","other"]
def DL:DS:=(aF (bo 1 (zk aH la (ae (aa 0) ao)))
 (aF (fG (d9 aH "settle" kc (aa 1) ao))
 (aF (bo 2 (cz fh (ae (aQ lY (ae (bS aH "body" (aa 1)) ao)) ao)))
 (aF (gR (fS (ae (aa 2) ao)) (bz 3) (gR (mO (ae (av ib (aa 3) (dC (.int 1))) (ae (aa 2) ao))) (bz 4) (jZ (cA (av nU (av jz (av bM (av bM (bS aH "body" (aa 1)) (aa 4)) (aa 4)) (av bM (av bM (bS aH "body" (aa 1)) (aa 3)) (aa 3))) (dC (.int 0)))) (fG (d9 aH "merge" n_ (aa 1) (ae (aa 3) (ae (aa 4) ao)))) ix)))
 (cT (tM (ae (aQ lY (ae (bS aH "body" (aa 1)) ao)) (ae (bS aH "left" (aa 1)) (ae (bS aH "left_back" (aa 1)) (ae (bS aH "right" (aa 1)) (ae (bS aH "right_back" (aa 1)) ao)))))))))))
def pK{m:Int}(h0:0<m)(h:m<2^62):m.natAbs.log2<9000:=by
 have:m.natAbs.log2<62:=(W0 (by omega)).mpr (by omega);omega
def sZ{B:List (List Int)}{r:Nat}:(dg B r).length=r:=by unfold dg;simp
def BD:Ru sr 1 DL oy:=by
 rintro ds st K ⟨d,A,N,w,f,rfl,hd,hA,n1,w1,n8,w8,hb,h0,k⟩;refine⟨rfl,?_⟩;have l0:=(RB.mp h0).1;refine⟨st.length,N,w,d,A,rfl,by simp,hd,hA,n1,n8,w8,λ st1 s1 U1=>⟨rfl,?_⟩⟩;have nz:st.length≠0:=by omega
 have h1:st1[0]?=some (dR f):=by rw[U1.same 0 (by omega),RG l0];exact h0
 refine dY s1.e rfl ⟨st.length,N,w,0,10300000,d,A,A,_,_,_,_,λ _ _=>True,f,rfl,s1,hd,Mx.Sd.start hA,n1,w1,n8,w8,hb,by omega,nz,h1,λ st2 r M B L Lb R Rb x2 r8 _ _ LB dB pB _ hx2 _ s2 S2 K2=>?_⟩;refine a8 s2.e rfl ⟨B,N,w,r,rfl,LB,n1,n8,w8,df rfl ?_⟩;rw[Rz,sZ];have K02:Sk st.length st st2:=⟨by have:=K2.le;have:=U1.len;simp at this;omega,λ m hm hm0 hmn=>(K2.fr m (by have:=U1.len;simp at this;omega) hm0 hmn).trans ((U1.same m hmn).trans (RG hm)),K2.tb⟩
 clear K2 U1 h1 s1;try dsimp only[ao]
 refine mP (A:=gR _ _ _) (λ σ st'=>∃(B L Lb R Rb:List (List Int)) (v3 v4:Option D),σ=[some d,some (.ref st.length),some (.int r),v3,v4]/\Dv A B L Lb R Rb N w r/\Si st' st.length N w (aJ B) L Lb R Rb/\Sk st.length st st') (λ nx hnx=>?_) ?_
 . refine iD ⟨by omega,by omega⟩ ?_;rw[R8];refine jT r (λ q σ st'=>∃(B L Lb R Rb:List (List Int)) (v3 v4:Option D),σ=[some d,some (.ref st.length),some (.int r),v3,v4]/\Mx.Lo B N w r/\Mx.Dg B N w/\(Mx.Pr r λ q=>Mx.g B q q)<=((2^343:Nat):Int)/\(∀i j,i<q->i<j->j<r->Mx.g B i i∣Mx.g B j j)/\Mx.Sd A B L Lb R Rb N w (22900000+5100*q)/\Si st' st.length N w (aJ B) L Lb R Rb/\Sk st.length st st') ?_ ?_ ⟨B,L,Lb,R,Rb,none,none,rfl,LB,dB,pB,λ i j hi=>absurd hi (Sh _),S2.mono (by omega),s2,K02⟩
   . rintro σ st' ⟨B,L,Lb,R,Rb,v3,v4,rfl,LB,dB,pB,ch,S,s,K'⟩;exact hnx _ _ ⟨B,L,Lb,R,Rb,v3,v4,rfl,⟨LB,dB,pB,λ i j hij hj=>ch i j (by omega) hij hj,S.mono (by omega)⟩,s,K'⟩
   . clear LB dB pB S2 s2 K02;rintro q σ st3 rest hq ⟨B,L,Lb,R,Rb,v3,v4,rfl,LB,dB,pB,ch,S,s3,K3⟩ next
     refine⟨_,rfl,iz (uR ⟨by omega,by omega,by omega,by omega⟩ ?_)⟩;have er:((r:Int)-((q:Int)+1)).toNat=r-(q+1):=by omega
     rw[er];refine fT (λ rest2 σ st'=>∃(o:Nat) (B L Lb R Rb:List (List Int)) (v4:Option D),q<o/\o<=r/\rest2=(List.range (r-o)).map (λ i=>D.int (((o+i:Nat):Int)))/\σ=[some d,some (.ref st.length),some (.int r),some (.int (q:Int)),v4]/\Mx.Lo B N w r/\Mx.Dg B N w/\(Mx.Pr r λ q=>Mx.g B q q)<=((2^343:Nat):Int)/\(∀i j,i<q->i<j->j<r->Mx.g B i i∣Mx.g B j j)/\(∀j,q<j->j<o->Mx.g B q q∣Mx.g B j j)/\Mx.Sd A B L Lb R Rb N w (22900000+5100*q+720*(o-(q+1)))/\Si st' st.length N w (aJ B) L Lb R Rb/\Sk st.length st st') ?_ ?_ _ _ _ ⟨q+1,B,L,Lb,R,Rb,v4,by omega,hq,?_,rfl,LB,dB,pB,ch,λ j h1 h2=>absurd h1 (by omega),by rw[Tc];exact S,s3,K3⟩
     . clear LB dB pB ch S s3 K3 B L Lb R Rb;rintro σ st4 ⟨o,B,L,Lb,R,Rb,v4,h1,h2,hr,rfl,LB,dB,pB,ch,ch2,S,s4,K4⟩
       have eo:r-o=0:=by
        cases z:r-o with
        |zero=>rfl
        |succ i=>rw[z,Su]at hr;cases hr
       refine⟨trivial,next _ _ ⟨B,L,Lb,R,Rb,_,_,rfl,LB,dB,pB,λ i j hi hij hj=>?_,S.mono (by omega),s4,K4⟩⟩;by_cases z:i=q
       . subst z;exact ch2 j hij (by omega)
       . exact ch i j (by omega) hij hj
     . clear LB dB pB ch S s3 K3 B L Lb R Rb;rintro x rest2 σ st4 ⟨o,B,L,Lb,R,Rb,v4,h1,h2,hr,rfl,LB,dB,pB,ch,ch2,S,s4,K4⟩ next2
       have ho:o<r:=by
        rcases Tt o r with h|h
        . exact h
        . rw[show r-o=0 by omega]at hr;cases hr
       rw[show r-o=(r-(o+1))+1 by omega,Su,R0,Sn,Ta]at hr;obtain⟨rfl,rfl⟩:=hr
       have erest:(List.map ((λ i=>D.int (((o+i:Nat):Int)))∘Nat.succ) (List.range (r-(o+1))))=(List.range (r-(o+1))).map (λ i=>D.int (((o+1+i:Nat):Int))):=SQ λ i _=>by
        show D.int (((o+(i+1):Nat):Int))=D.int (((o+1+i:Nat):Int));congr 2;omega
       rw[Xj];have rN:=LB.rN;have rW:=LB.rW;have lB:=LB.is.len;have at2:∀j,j<r->eF (au (B.getD j [])) (j:Int)=some (.int (Mx.g B j j)):=λ j hj=>iN (by rw[LB.is.row (by omega)];omega);have hpq:=LB.pos q hq;refine⟨trivial,_,rfl,?_⟩;refine a8 s4.e rfl (aR rfl (qD (by omega)) (aR rfl (at2 o ho) (a8 s4.e rfl (aR rfl (qD (by omega)) (aR rfl (at2 q hq) (jc (by omega) (ne2 (λ hne=>gS ?_) λ he=>?_)))))))
       . obtain⟨f4,h4⟩:=K4.tb;refine dY s4.e rfl ⟨st.length,N,w,_,r,q,o,A,B,L,Lb,R,Rb,f4,rfl,s4,S,n1,n8,w8,r8,LB,dB,pB,h1,ho,by omega,nz,h4,λ st5 B' L' Lb' R' Rb' LB' dB' pB' gv s5 S5 K5=>?_⟩;have gl:=Int.gcd_dvd_left (Mx.g B q q) (Mx.g B o o);have gr:=Wt (Mx.g B q q) (Mx.g B o o);have lr:=Int.dvd_lcm_right (Mx.g B q q) (Mx.g B o o);refine next2 _ _ ⟨o+1,B',L',Lb',R',Rb',_,by omega,ho,erest,rfl,LB',dB',pB',λ i j hi hij hj=>?_,λ j hqj hjo=>?_,S5.mono (by omega),s5,K4.trans K5⟩
         . rw[gv i (by omega),gv j hj,Rx (by omega),Rx (by omega)];by_cases e1:j=q
           . rw[RC e1];exact Int.dvd_coe_gcd (ch i q hi (by omega) hq) (ch i o hi (by omega) ho)
           . rw[Rx e1];by_cases e2:j=o
             . rw[RC e2];exact T9 (ch i o hi (by omega) ho) lr
             . rw[Rx e2];exact ch i j hi hij hj
         . rw[gv q hq,gv j (by omega),RC rfl,Rx (by omega)];by_cases e2:j=o
           . rw[RC e2];exact T9 gr lr
           . rw[Rx e2];exact T9 gl (ch2 j hqj (by omega))
       . refine next2 _ _ ⟨o+1,B,L,Lb,R,Rb,_,by omega,ho,erest,rfl,LB,dB,pB,ch,λ j hqj hjo=>?_,S.mono (by omega),s4,K4⟩;by_cases e2:j=o
         . rw[e2];exact Int.dvd_of_fmod_eq_zero he
         . exact ch2 j hqj (by omega)
     . unfold cY;exact SQ λ i _=>by congr 1
 . rintro σ st3 ⟨B,L,Lb,R,Rb,v3,v4,rfl,dv,s3,K3⟩;refine a8 s3.e rfl ⟨B,N,w,r,rfl,dv.lo,n1,n8,w8,?_⟩;refine a8 s3.e rfl (a8 s3.e rfl (a8 s3.e rfl (a8 s3.e rfl ⟨RT rfl,?_⟩)));exact k st3 B L Lb R Rb r dv ⟨K3.le,λ m hm h0=>K3.fr m hm h0 (by omega),K3.tb⟩
def vF:cL:=λ ds st K=>∃a b,ds=[.int a,.int b]/\K (.int ((Nat.gcd a.natAbs b.natAbs:Nat):Int)) st
def rl:List Str:=["one","other","great","small","rest"]
def GN:DS:=(aF (bo 2 (cz r9 (ae (aa 0) ao)))
 (aF (bo 3 (cz r9 (ae (aa 1) ao)))
 (aF (qW (cA (av nU (aa 3) (dC (.int 0)))) (aF (bo 4 (av jz (aa 2) (aa 3)))
 (aF (bo 2 (aa 3))
 (bo 3 (aa 4)))))
 (cT (aa 2)))))
def Ae(a b:Nat):(a:Int).fmod (b:Int)=((a%b:Nat):Int):=by
 rw[Vn _ (Vz b)];exact(Int.natCast_emod a b).symm
def ET:Ru vF 2 GN rl:=by
 rintro ds st K ⟨a,b,rfl,k⟩;refine⟨rfl,?_⟩;refine ui (ui ?_);refine⟨λ m σ st'=>∃(g s:Nat) (r:Option D),σ=[some (.int a),some (.int b),some (.int g),some (.int s),r]/\st'=st/\Nat.gcd g s=Nat.gcd a.natAbs b.natAbs/\s=m,⟨b.natAbs,a.natAbs,b.natAbs,none,?_,rfl,rfl,rfl⟩,?_⟩
 . rfl
 . rintro m σ st' ⟨g,s,r,rfl,rfl,hg,rfl⟩;refine ne2 (λ h=>gS ?_) λ h=>?_
   . refine jc h ⟨g%s,Nat.mod_lt _ (by omega),s,g%s,some (.int ((g%s:Nat):Int)),?_,rfl,?_,rfl⟩
     . rw[Ae];rfl
     . rw[V2,<-Nat.gcd_rec,V2];exact hg
   . have:s=0:=by omega
     subst this;rw[Nat.gcd_zero_right]at hg;subst hg;exact k
structure IQ(A:List (List Int))(N w:Nat)(F:List (List Int))(m:Nat)(ld:Nat->Nat):Prop where
 isA:Mx.aP N w A
 vf:Mx.aP m w F
 st:Mx.bU F m w ld
 rd:Mx.ug F m ld
 sm:Mx.cR A N F m w
 lo:Mx.gO A N 0 (2^26)
 n1:1<=N
 n8:N<=8
 w8:w<=8
def p7:cL:=λ ds st K=>∃(d:D) (A F:List (List Int)) (N w m:Nat) (ld:Nat->Nat) (f:Bool),ds=[d]/\eO st d A/\IQ A N w F m ld/\st[0]?=some (dR f)/\∀st',Bk st st'->K (aJ F) st'
def qc:List Str:=["rows"]
def Ft:DS:=(cT (av bM (aQ lW (ae (aa 0) ao)) (dC (.int 0))))
def DQ:Ru p7 1 Ft qc:=by
 rintro ds st K ⟨d,A,F,N,w,m,ld,f,rfl,hd,h,h0,k⟩;have h8:=h.n8;refine⟨rfl,d,N,w,26,60000000,A,f,rfl,hd,h.isA,h.n1,by omega,by have:=h.w8;omega,h.lo,Rv _,λ p t c hp H=>H.AL h.isA (λ i c h1 h2=>Mx.nq (h.lo i c h1 h2) (by decide)) h8 hp,h0,λ st' top c hC B=>aR rfl Bp ?_⟩;obtain⟨ld',s⟩:=hC.str h.isA h.lo (by omega) (Rv _);rw[s.Cg.EC h.vf h.st h.rd h.sm.to h.sm.of];exact k st' B
def k9:cL:=λ ds st K=>∃(d:D) (A:List (List Int)) (N w:Nat) (f:Bool),ds=[d]/\(∀s,eO s d A)/\Mx.aP N w A/\1<=N/\1<=w/\N<=8/\w<=8/\Mx.AM A N w 10300000 (λ _ _=>True)/\st[0]?=some (dR f)/\∀st' B L Lb R Rb r,Dv A B L Lb R Rb N w r->Bk st st'->K (.tup [bL ((dg B r).filter λ x=>decide (x≠1)),.int ((w:Int)-(r:Int))]) st'
def iW:List Str:=["rows","numbers"]
def vC:DS:=(aF (bo 1 (av bM (aQ sr (ae (aa 0) ao)) (dC (.int 0))))
 (cT (tM (ae (cz fo (ae (dS (dU (aa 1)) [none] (bz 0) (cA (av nU (aa 0) (dC (.int 1)))) (aa 0)) ao)) (ae (av zL (cz fh (ae (av bM (aa 0) (dC (.int 0))) ao)) (cz fh (ae (aa 1) ao))) ao)))))
def Gr{m:Int}{st:af}{K:List D->af->Prop}(r:List Int)(k:K (au (r.filter λ x=>decide (x≠m))) st):cO (bz 0) (cA (av nU (aa 0) (dC (.int m)))) (aa 0) (λ _=>True) [none] (au r) [] st K:=by
 refine fv (λ rest acc st'=>st=st'/\∃r1 r2:List Int,r1++r2=r/\rest=au r2/\acc=au (r1.filter λ x=>decide (x≠m))) ?_ ?_ _ _ _ ⟨rfl,[],r,rfl,rfl,rfl⟩
 . rintro acc st' ⟨rfl,r1,r2,he,hr,rfl⟩;match r2,hr with
   | [],_=>
     rw[SX]at he;subst he;exact⟨trivial,k⟩
 . rintro d rest acc st' ⟨rfl,r1,r2,he,hr,rfl⟩ next
   match r2,hr with
   |x::r2,hr=>
    rw[au,R0,Ta]at hr;obtain⟨rfl,rfl⟩:=hr;refine⟨trivial,_,rfl,ne2 (λ h=>gS ?_) λ h=>?_⟩
    . show cO _ _ _ _ _ _ _ _ _;rw[ints_app];exact next _ _ ⟨rfl,r1++[x],r2,by rw[<-he];simp,rfl,Tu au (by simp[Ue,h])⟩
    . exact next _ _ ⟨rfl,r1++[x],r2,by rw[<-he];simp,rfl,Tu au (by simp[Ue,h])⟩
def uX:Ru k9 1 vC iW:=by
 rintro ds st K ⟨d,A,N,w,f,rfl,hd,hA,n1,w1,n8,w8,sm,h0,k⟩;refine⟨rfl,⟨d,A,N,w,f,rfl,hd,hA,n1,w1,n8,w8,sm,h0,λ st1 B L Lb R Rb r dv K1=>?_⟩⟩;have rW:=dv.lo.rW;refine aR rfl rfl (lD ⟨cC (by rw[Rz,sZ];omega),?_⟩);refine Gr (dg B r) (e9 rfl ?_);obtain⟨da,hda,ra⟩:=(hd st1).ex;obtain⟨d0,e0,i0⟩:=ra.at (k:=0) (by rw[hA.len];omega);refine aR hda e0 (df i0 (df rfl (Lq ⟨RT rfl,?_⟩)));rw[Rz,Rz,sZ,hA.row (i:=0) (by omega)];exact k st1 B L Lb R Rb r dv K1
def yD(b:Nat)(r:List Int):List (List Int):=(List.range b).map λ(i:Nat)=>r++[(i:Int)]
def kv(R:List (List Int))(b:Nat):List (List Int):=R.flatMap (yD b)
def vE(b:Nat):∀R:List (List Int),(kv R b).length=R.length*b
 | []=>by simp[kv]
 |r::R=>by
  have:=vE b R;unfold kv yD at*;rw[List.flatMap_cons,Sy,this,Rz,List.length_range,So,WD,Xh]
def HB{R:List (List Int)}{b w:Nat}(h:∀r∈R,r.length=w):∀r∈kv R b,r.length=w+1:=λ r hr=>by
 obtain⟨s,hs,hr⟩:=WI.mp hr;obtain⟨i,_,rfl⟩:=Sl.mp hr;rw[Sy,h s hs];rfl
def G0{b:Nat}{r:List Int}{σc:bQ}{te:DE}{st:af}{K:List D->af->Prop}(hr:r.length<=8)(ht:∀(i:Nat) K',ib (bL r) (.tup [.int (i:Int)]) st K'->∃σ2,bz 0 (.int (i:Int)) σc=some σ2/\te σ2 st K')(k:K ((yD b r).map bL) st):cO (bz 0) cS te (λ _=>True) σc (cY 0 b) [] st K:=by
 refine comp_map (g:=λ d=>match d with| .int i=>bL (r++[((i.toNat:Nat):Int)])|_=> .aB) trivial _ (λ d hd K' q=>?_) ?_
 . obtain⟨i,_,rfl⟩:=yH hd;refine ht i K' (Kt (by rw[U9,Rz];simp;omega) ?_);have e:(au r++[D.int (i:Int)])=au (r++[(i:Int)]):=by simp[au]
   rw[e];exact q
 . have ea:(cY 0 b).map (λ d=>match d with| .int i=>bL (r++[((i.toNat:Nat):Int)])|_=> .aB)=(List.range b).map (λ(i:Nat)=>bL (r++[(i:Int)])):=yI (f:=λ(i:Nat)=>bL (r++[(i:Int)])) b;rw[ea];unfold yD at k;rw[Sn]at k;exact k
def l_:cL:=λ ds st K=>∃(d:D) (R:List (List Int)) (b w:Nat),ds=[d,.int b]/\items? st d=some (R.map bL)/\(∀r∈R,r.length=w)/\w<=8/\b<=1000/\R.length*b<=1000/\∀st',st'[st.length]?=some (.lst ((kv R b).map bL))->Ext st st'->K (.ref st.length) st'
def jB:List Str:=["rows","bound","longer","row"]
def xr:DS:=(aF (bo 2 (xI ao))
 (aF (gR (dU (aa 0)) (bz 3) (fG (rO pZ (aa 2) (ae (dS (fS (ae (aa 1) ao)) [none,some 3] (bz 0) cS (av ib (aa 1) (tM (ae (aa 0) ao)))) ao))))
 (cT (aa 2))))
def EZ{R:List (List Int)}{b i:Nat}(h:i<R.length):kv (R.take (i+1)) b=kv (R.take i) b++yD b (R.getD i []):=by
 unfold kv;rw[Ub h,List.flatMap_append,List.flatMap_singleton,Mx.aN h]
def FY{R:List (List Int)}{i:Nat}{d:D}{rest:List D}(h:d::rest=(R.map bL).drop i):i<R.length/\d=bL (R.getD i [])/\rest=(R.map bL).drop (i+1):=by
 have hil:i<R.length:=by
  rcases Tt i R.length with h'|h'
  . exact h'
  . rw[S8 (by rw[Rz];exact h')]at h;cases h
 rw[SA (by rw[Rz];exact hil),Te]at h;obtain⟨rfl,rfl⟩:=Ua h;exact⟨hil,by rw[Mx.aN hil],rfl⟩
def Fs{R:List (List Int)}{i:Nat}(h: []=(R.map bL).drop i):R.length<=i:=by
 have:=Tu List.length h;rw[UN,Rz,UD]at this;omega
def Jp{R:List (List Int)}{b i:Nat}:(kv (R.take i) b).length<=R.length*b:=by
 rw[vE,TK];exact R9 _ (WC _ _)
def vY:Ru l_ 2 xr jB:=by
 rintro ds st K ⟨d,R,b,w,rfl,hd,hw,w8,hb,hRb,k⟩;refine⟨rfl,RX _,?_⟩;refine JY (Ext.push.items hd) λ ok aM=>?_;refine fT (λ rest σ st'=>∃(i:Nat) (v3:Option D),i<=R.length/\rest=(R.map bL).drop i/\σ=[some d,some (.int b),some (.ref st.length),v3]/\st'[st.length]?=some (.lst ((kv (R.take i) b).map bL))/\Ext st st') ?_ ?_ _ _ _ ⟨0,none,RX _,rfl,rfl,List.getElem?_concat_length,Ext.push⟩
 . rintro σ st' ⟨i,v3,hi,hrest,rfl,e,X⟩;rw[TN (Fs hrest)]at e;exact⟨aM _ (X.items hd),k st' e X⟩
 . rintro x rest σ st' ⟨i,v3,hi,hrest,rfl,e,X⟩ next
   obtain⟨hil,rfl,rfl⟩:=FY hrest;have hr:(R.getD i []).length=w:=hw _ (by rw[Mx.aN hil];exact Tz _);refine⟨aM _ (X.items hd),_,rfl,Nh (λ K' q=>q) e (iD ⟨by omega,by omega⟩ ⟨cC (by rw[i6];omega),?_⟩)⟩;rw[R8];refine G0 (by omega) (λ j K' q=>⟨_,rfl,RT rfl,q⟩) ?_;have l1:=Jp (R:=R) (b:=b) (i:=i);have l2:(yD b (R.getD i [])).length=b:=by unfold yD;simp
   refine Qw e (by rw[U9,Rz,Rz];omega) (next _ _ ⟨i+1,_,hil,rfl,rfl,?_,X.set (Rv _)⟩);rw[RL (RB.mp e).1,EZ hil,Um]
def oj(l:List Nat):Nat:=l.foldl (· * ·) 1
def vm(l:List Nat):List (List Int):=l.foldl kv [[]]
def zP:∀(l:List Nat) (R:List (List Int)),(l.foldl kv R).length=l.foldl (· * ·) R.length
 | [],_=>rfl
 |x::l,R=>by rw[Vr,Vr,zP l,vE]
def x5(l:List Nat):(vm l).length=oj l:=zP l [[]]
def zD:∀(l:List Nat) {R:List (List Int)} {w:Nat},(∀r∈R,r.length=w)->∀r∈l.foldl kv R,r.length=w+l.length
 | [],_,_,h=>h
 |x::l,R,w,h=>λ r hr=>by
  have:=zD l (HB h) r hr;rw[So];omega
def Kc(l:List Nat):∀r∈vm l,r.length=l.length:=λ r hr=>by
 have:=zD l (R:=[[]]) (w:=0) (λ r hr=>by rw[TR.mp hr];rfl) r hr;omega
def xD:∀(l:List Nat) (a:Nat),(∀x∈l,1<=x)->a<=l.foldl (· * ·) a
 | [],_,_=>Rv _
 |x::l,a,h=>RH (S7 a (h x R6)) (xD l _ λ y hy=>h y (RU _ hy))
def An{l:List Nat}(h:∀x∈l,1<=x)(i:Nat):oj (l.take i)<=oj l:=by
 conv=>rhs;rw[<-W9 i l]
 unfold oj;rw[Wu];exact xD _ _ λ x hx=>h x (List.mem_of_mem_drop hx)
def vw{l:List Nat}{i:Nat}(h:i<l.length):oj (l.take (i+1))=oj (l.take i)*l.getD i 0:=by
 unfold oj;rw[Ub h,Wu,RI,RJ h];rfl
def Hr{l:List Nat}{i:Nat}(h:i<l.length):vm (l.take (i+1))=kv (vm (l.take i)) (l.getD i 0):=by
 unfold vm;rw[Ub h,Wu,RI,RJ h];rfl
abbrev mm(l:List Nat):List D:=l.map λ(n:Nat)=>D.int (n:Int)
def qm:cL:=λ ds st K=>∃(d:D) (A F:List (List Int)) (N w m:Nat) (ld:Nat->Nat) (f:Bool) (bs:List Nat),ds=[d]/\(∀st,eO st d A)/\IQ A N w F m ld/\st[0]?=some (dR f)/\m=w/\
 (bs.length=w/\(∀x∈bs,1<=x/\x<2^62)/\∀i,i<w->Mx.g F i i=((bs.getD i 0:Nat):Int))/\oj bs<=300/\
 ∀st',Bk st st'->K (.tup ((vm bs).map bL)) st'
def ni:List Str:=["rows","form","bounds","count","bound","rests"]
def BE:DS:=(aF (bo 1 (aQ p7 (ae (aa 0) ao)))
 (aF (jZ (cA (av wJ (cz fh (ae (aa 1) ao)) (cz fh (ae (av bM (aa 0) (dC (.int 0))) ao)))) (cT (dC .aB)) ix)
 (aF (bo 2 (dS (uW (ae (aa 1) ao)) [none,none] (ka 0 1) cS (av bM (aa 1) (aa 0))))
 (aF (bo 3 (dC (.int 1)))
 (aF (gR (dU (aa 2)) (bz 4) (bo 3 (av fM (aa 3) (aa 4))))
 (aF (jZ (cA (av qE (aa 3) (dC (.int 300)))) EB ix)
 (aF (bo 5 (tF (ae (tM ao) ao)))
 (aF (gR (dU (aa 2)) (bz 4) (bo 5 (aQ l_ (ae (aa 5) (ae (aa 4) ao)))))
 (cT (cz fo (ae (aa 5) ao)))))))))))
def yu{l:List Nat}{i:Nat}{d:D}{rest:List D}(h:d::rest=(mm l).drop i):i<l.length/\d= .int ((l.getD i 0:Nat):Int)/\rest=(mm l).drop (i+1):=by
 have hil:i<l.length:=by
  rcases Tt i l.length with h'|h'
  . exact h'
  . rw[S8 (by rw[Rz];exact h')]at h;cases h
 rw[SA (by rw[Rz];exact hil),Te]at h;obtain⟨rfl,rfl⟩:=Ua h;exact⟨hil,by rw[RI,RJ hil];rfl,rfl⟩
def Bg{l:List Nat}{i:Nat}(h: []=(mm l).drop i):l.length<=i:=by
 have:=Tu List.length h;rw[UN,Rz,UD]at this;omega
def Bk.Qs{st st1 st2:af}(B:Bk st st1)(X:Ext st1 st2):Bk st st2:=by
 have l1:=B.le;obtain⟨f,e⟩:=B.tb;have l0:=(RB.mp e).1;exact⟨by have:=X.len;omega,λ m hm h0=>by rw[X.same m (by omega),B.fr m hm h0],f,by rw[X.same 0 l0];exact e⟩
def E9{l rest:List D}{x:D}{i:Nat}(h:x::rest=l.drop i):l[i]?=some x/\rest=l.drop (i+1):=by
 have hil:i<l.length:=by
  rcases Tt i l.length with h'|h'
  . exact h'
  . rw[S8 h']at h;cases h
 rw[SA hil]at h;obtain⟨rfl,rfl⟩:=Ua h;exact⟨RJ hil,rfl⟩
def Eg{l:List Nat}{i:Nat}(h:i<l.length):mm (l.take (i+1))=mm (l.take i)++[.int ((l.getD i 0:Nat):Int)]:=by
 unfold mm;rw[Ub h,Um,RI,RJ h];rfl
def Ah:Ru qm 1 BE ni:=by
 rintro ds st K ⟨d,A,F,N,w,m,ld,f,bs,rfl,hd,hF,t0,hm,hbs,h300,hk⟩;refine⟨rfl,d,A,F,N,w,m,ld,f,rfl,hd st,hF,t0,λ st1 B1=>?_⟩;have lA:=hF.isA.len;have lF:=hF.vf.len;have w8:=hF.w8;obtain⟨ds',he,ri⟩:=(hd st1).ex;obtain⟨d0,h0,i0⟩:=ri.at (k:=0) (by have:=hF.n1;omega);have r0:(A.getD 0 []).length=w:=hF.isA.row hF.n1;refine df rfl (aR he h0 (df i0 ?_));rw[Rz,Rz,lF,r0];refine P0 (λ h=>gS ?_) λ h=>?_
 . omega
 subst hm;obtain⟨lb,hb,hg⟩:=hbs;refine uP rfl λ ok aM=>⟨cC (by rw[nD,Rz,lF];omega),?_⟩
 refine fv (λ rest acc st'=>st1=st'/\∃i:Nat,i<=m/\rest=(fe 0 (F.map bL)).drop i/\acc=mm (bs.take i)) ?_ ?_ _ _ _ ⟨rfl,0,RX _,rfl,rfl⟩;rotate_left
 . rintro x rest acc st' ⟨rfl,i,hi,hrest,rfl⟩ next
   obtain⟨hx,rfl⟩:=E9 hrest;obtain⟨y,hy,rfl⟩:=pQ hx
   have hiF:i<F.length:=by
    have:=(RB.mp hy).1;rw[Rz]at this;exact this
   rw[RP,RJ hiF]at hy;cases hy;have lr:(F[i]).length=m:=hF.vf.jH _ (Tz _);refine⟨aM _ rfl,_,rfl,aR (e:= .int ((bs.getD i 0:Nat):Int)) rfl ?_ (next _ _ ⟨rfl,i+1,by omega,rfl,(Eg (by omega)).symm⟩)⟩;rw[<-hg i (by omega),Uw];have e:Mx.g F i i=(F[i]).getD i 0:=by unfold Mx.g;rw[Mx.aN hiF]
   rw[e];exact iN (by omega)
 rintro acc st' ⟨rfl,i,hi,hrest,rfl⟩;refine⟨aM _ rfl,?_⟩
 have hil:bs.length<=i:=by
  have:=Tu List.length hrest;rw[UN,nD,Rz,UD,lF]at this;omega
 rw[TN hil];clear hil hrest hi i aM ok;refine lh ?_;refine fT (λ rest σ st'=>st1=st'/\∃(i:Nat) (v4:Option D),i<=bs.length/\rest=(mm bs).drop i/\σ=[some d,some (aJ F),some (.lst (mm bs)),some (.int ((oj (bs.take i):Nat):Int)),v4,none]) ?_ ?_ _ _ _ ⟨rfl,0,none,RX _,rfl,rfl⟩;rotate_left
 . rintro x rest σ st' ⟨rfl,i,v4,hi,hrest,rfl⟩ next
   obtain⟨hil,rfl,rfl⟩:=yu hrest;have hx:=hb _ (show bs.getD i 0∈bs by rw[RI,RJ hil];exact Tz _);refine⟨trivial,_,rfl,gh (lg (by omega) (by omega)) (next _ _ ⟨rfl,i+1,some (.int ((bs.getD i 0:Nat):Int)),hil,rfl,?_⟩)⟩;rw[vw hil,U8];rfl
 rintro σ st' ⟨rfl,i,v4,hi,hrest,rfl⟩;refine⟨trivial,?_⟩;rw[TN (Bg hrest)];clear hrest hi i;refine ES (λ h=>gS ?_) λ h=>?_
 . omega
 refine⟨RX _,RT rfl,?_⟩;refine lh ?_;refine fT (λ rest σ st'=>∃(i:Nat) (v4:Option D) (dr:D),i<=bs.length/\rest=(mm bs).drop i/\σ=[some d,some (aJ F),some (.lst (mm bs)),some (.int ((oj bs:Nat):Int)),v4,some dr]/\items? st' dr=some ((vm (bs.take i)).map bL)/\Bk st st') ?_ ?_ _ _ _ ⟨0,v4,.lst [.tup []],RX _,rfl,rfl,rfl,B1⟩
 . rintro σ st' ⟨i,v4,dr,hi,hrest,rfl,hdr,B'⟩;rw[TN (Bg hrest)]at hdr;exact⟨trivial,e9 hdr (hk st' B')⟩
 . rintro x rest σ st' ⟨i,v4,dr,hi,hrest,rfl,hdr,B'⟩ next
   obtain⟨hil,rfl,rfl⟩:=yu hrest;have hx:=hb _ (show bs.getD i 0∈bs by rw[RI,RJ hil];exact Tz _);have q1:=An (λ x hx=>(hb x hx).1) (i+1);have q2:=An (l:=bs) (λ x hx=>(hb x hx).1) i;have e1:=vw hil;have e2:=x5 (bs.take i);have p1:1<=oj (bs.take i):=by unfold oj;exact xD _ 1 λ x hx=>(hb x (List.mem_of_mem_take hx)).1
   have q3:bs.getD i 0<=oj (bs.take i)*bs.getD i 0:=Vc _ p1;refine⟨trivial,_,rfl,dr,vm (bs.take i),bs.getD i 0,i,rfl,hdr,λ r hr=>?_,by omega,by omega,by rw[e2];omega,λ st2 e X=>next _ _ ⟨i+1,_,_,hil,rfl,rfl,?_,B'.Qs X⟩⟩
   . rw[Kc _ r hr,TK];omega
   . rw[Hr hil];exact aO e
def Cw(F:List (List Int))(ld:Nat->Nat):Nat->Int
 |0=>1
 |n+1=>Cw F ld n*Mx.g F n (ld n)
inductive GO(F:List (List Int))(m w:Nat)(row:Nat->Int)(P:Int):D->Prop
 |int (o:Int) (h0:0<o) (hP:o<=P) (h:∀x:Int,Mx.ax F m w (λ c=>x*row c)↔o∣x):GO F m w row P (.int o)
 |aB (h:∀x:Int,x≠0->¬Mx.ax F m w λ c=>x*row c):GO F m w row P .aB
def pC:cL:=λ ds st K=>∃(d dr:D) (A F:List (List Int)) (r:List Int) (N w m:Nat) (ld:Nat->Nat) (f:Bool),ds=[d,dr]/\eO st d A/\IQ A N w F m ld/\items? st dr=some (au r)/\r.length=w/\(∀i q,i<m->(Mx.g F i q).natAbs<2^62)/\st[0]?=some (dR f)/\∀st' d',Bk st st'->GO F m w (λ c=>r.getD c 0) (Cw F ld m) d'->K d' st'
def mw:List Str:=["rows","row","order","left","each","lead","lacks"]
def Ar:DS:=(aF (bo 2 (dC (.int 1)))
 (aF (bo 3 (cz ow (ae (aa 1) ao)))
 (aF (gR (dU (aQ p7 (ae (aa 0) ao))) (bz 4) (aF (bo 5 (aQ pL (ae (aa 4) ao)))
 (aF (bo 6 (av ot (av bM (aa 4) (aa 5)) (aQ vF (ae (av bM (aa 4) (aa 5)) (ae (av bM (aa 3) (aa 5)) ao)))))
 (aF (bo 2 (av fM (aa 2) (aa 6)))
 (aF (bo 3 (dS (dU (aa 3)) [none,some 6] (bz 0) cS (av fM (aa 1) (aa 0))))
 (bo 3 (aQ mY (ae (aa 3) (ae (pY ky (av ot (av bM (aa 3) (aa 5)) (av bM (aa 4) (aa 5)))) (ae (aa 4) ao))))))))))
 (cT (Fy (cA (av Fi (aQ pL (ae (aa 3) ao)) (dC .aB))) (aa 2) (dC .aB))))))
def drop_cons{F:List (List Int)}{i:Nat}{d:D}{rest:List D}(hr:d::rest=(F.map bL).drop i):i<F.length/\d=bL (F.getD i [])/\rest=(F.map bL).drop (i+1):=by
 have hi:i<F.length:=by
  rcases Tt i F.length with h|h
  . exact h
  . rw[S8 (by rw[Rz];exact h)]at hr;cases hr
 rw[SA (by rw[Rz];exact hi),Te]at hr;obtain⟨h1,h2⟩:=Ua hr;exact⟨hi,by rw[Mx.aN hi];exact h1,h2⟩
def drop_nil{F:List (List Int)}{i:Nat}(hr: []=(F.map bL).drop i):F.length<=i:=by
 have:=Tu List.length hr;rw[UN,Rz,UD]at this;omega
def y6:Ru pC 2 Ar mw:=by
 rintro ds st K ⟨d,dr,A,F,r,N,w,m,ld,f,rfl,hd,h,hr,lr,hF,h0,k⟩;refine⟨rfl,?_⟩;have lF:=h.vf.len;have w8:=h.w8;refine qU hr ⟨d,A,F,N,w,m,ld,f,rfl,hd,h,h0,λ st1 B1=>?_⟩;refine lD ?_;refine fT (λ rest σ st'=>st'=st1/\∃(i:Nat) (o:Int) (L:List Int) (v4 v5 v6:Option D),i<=m/\rest=(F.map bL).drop i/\σ=[some d,some dr,some (.int o),some (bf L),v4,v5,v6]/\L.length=w/\Mx.jM F w ld (λ c=>r.getD c 0) i o (λ c=>L.getD c 0)/\o<=Cw F ld i) ?_ ?_ _ _ _ ⟨rfl,0,1,r,none,none,none,RX _,rfl,rfl,lr,Mx.jM.start,VF _⟩
 . rintro σ st' ⟨rfl,i,o,L,v4,v5,v6,hi,hrest,rfl,lL,fit,ho⟩;have e:i=m:=UC hi (by rw[<-lF];exact drop_nil hrest);subst e;refine⟨trivial,_,L,rfl,rfl,?_⟩;cases el:uv L with
   |none=>
    have:l9 L= .aB:=by unfold l9;rw[el]
    rw[this];refine E2 rfl (gS ?_);exact k st' _ B1 (.int o fit.pos ho λ x=>fit.some h.st (λ c _=>wO L 0 el c) x)
   |some l=>
    have:l9 L= .int (l:Int):=by unfold l9;rw[el]
    rw[this];refine E2 rfl ?_;obtain⟨q,e,hq,hne⟩:=wZ L 0 l el;exact k st' _ B1 (.aB λ x hx=>fit.no h.st (by rw[<-lL];exact hq) hne x hx)
 . rintro x rest σ st' ⟨rfl,i,o,L,v4,v5,v6,hi,hrest,rfl,lL,fit,ho⟩ next
   obtain⟨hiF,rfl,rfl⟩:=drop_cons hrest;have him:i<m:=by rw[<-lF];exact hiF
   obtain⟨l1,l2,l3⟩:=h.st.lead i him;have wF:=h.vf.row him;have hne:(F.getD i []).getD (ld i) 0≠0:=Ul l2
   have eld:l9 (F.getD i [])= .int ((ld i:Nat):Int):=by
    unfold l9;rw[EL l3 hne]
   refine⟨trivial,_,rfl,_,F.getD i [],rfl,rfl,?_⟩;rw[eld];have at1:eF (au (F.getD i [])) ((ld i:Nat):Int)=some (.int (Mx.g F i (ld i))):=iN (by omega);have at2:eF (au L) ((ld i:Nat):Int)=some (.int (L.getD (ld i) 0)):=iN (by omega);have small:=hF i (ld i) him;generalize ed:Mx.g F i (ld i)=dd at at1 l2 small;obtain⟨dn,rfl⟩:=To (TX l2);have dn0:0<dn:=by omega
   generalize ex:L.getD (ld i) 0=y at at2;refine aR rfl at1 (aR rfl at1 (aR rfl at2 ⟨_,_,rfl,?_⟩));rw[Int.natAbs_natCast];have lk:=Mx.D_ dn0 y;have g0:0<Nat.gcd dn y.natAbs:=VC _ dn0;have gl:Nat.gcd dn y.natAbs<=dn:=Xe dn0 (UP _ _)
   have ef:(dn:Int).fdiv ((Nat.gcd dn y.natAbs:Nat):Int)=((dn/Nat.gcd dn y.natAbs:Nat):Int):=by
    rw[Wn _ (Vz _)];rfl
   refine qF (by omega) (pK (by omega) (by omega)) ?_;rw[ef];have q0:0<dn/Nat.gcd dn y.natAbs:=Nat.div_pos gl g0;have ql:dn/Nat.gcd dn y.natAbs<=dn:=Nat.div_le_self _ _;generalize dn/Nat.gcd dn y.natAbs=q at lk q0 ql;refine gh (lg (by omega) (by omega)) (lh ⟨cC (by rw[Rz];omega),?_⟩);refine comp_map (g:=λ d=>match d with| .int z=> .int ((q:Int)*z)|_=> .aB) trivial _ (λ d hd K' qq=>?_) ?_
   . unfold au at hd;obtain⟨z,_,rfl⟩:=Sl.mp hd;exact⟨_,rfl,gh (lz (by omega) (by omega)) qq⟩
   have en:(au L).map (λ d=>match d with| .int z=> .int ((q:Int)*z)|_=> .aB)=au (L.map λ z=>(q:Int)*z):=by unfold au;rw[Sn,Sn];rfl
   rw[en]
   have at3:eF (au (L.map λ z=>(q:Int)*z)) ((ld i:Nat):Int)=some (.int ((q:Int)*y)):=by
    rw[<-ex,<-Mx.zX];exact iN (by rw[Rz];omega)
   obtain⟨t,ht⟩:=(lk (q:Int)).mpr (TF _);have et:((q:Int)*y).fdiv (dn:Int)=t:=by rw[ht,Int.mul_fdiv_cancel_left _ (by omega)]
   refine aR rfl at3 (aR rfl at1 (qF (by omega) (pK (by omega) (by omega)) (jU ?_)));rw[et];have lq:(L.map λ z=>(q:Int)*z).length=w:=by rw[Rz,lL]
   refine⟨_,_,_,L.map λ z=>(q:Int)*z,F.getD i [],rfl,rfl,rfl,by omega,λ b hb=>?_,?_⟩
   . obtain⟨c,hc,rfl⟩:=SJ.mp hb;have:=hF i c him;unfold Mx.g at this;rw[Mx.aN hc]at this;exact lg (by omega) (by omega)
   refine next _ _ ⟨rfl,i+1,_,_,_,_,_,him,rfl,rfl,by rw[Mx.mN (by omega)];exact lq,?_,?_⟩
   . have ee:(λ c=>(Mx.gq (L.map λ z=>(q:Int)*z) (-t) (F.getD i [])).getD c 0)=λ c=>(q:Int)*L.getD c 0-t*Mx.g F i c:=by
      funext c;rw[Mx.uE (by omega),Mx.zX,Vb];show _+ -(t*Mx.g F i c)=_;omega
     rw[ee];refine fit.step h.st him (by omega) ?_ λ z hz=>?_
     . rw[ed];show(q:Int)*L.getD (ld i) 0=_;rw[ex,ht,SF]
     . rw[ed]at hz;have hz':(dn:Int)∣z*L.getD (ld i) 0:=hz;rw[ex]at hz';exact(lk z).mp hz'
   . show o*(q:Int)<=Cw F ld i*Mx.g F i (ld i);rw[ed];have p0:=fit.pos;exact V_ ho (by omega) (by omega) (by omega)
structure Bx(st:af)(n:Nat)(b:Int):Prop where
 ex:∃x y z,st[n]?=some (.lst [.int x,.int y,.int z])/\0<=x/\0<=z/\z<=b
structure Upd(st:af)(n:Nat)(st':af):Prop where
 len:st'.length=st.length
 same:∀m,m≠n->st'[m]?=st[m]?
def Upd.trans{st st1 st2:af}{n:Nat}(a:Upd st n st1)(b:Upd st1 n st2):Upd st n st2:=⟨b.len.trans a.len,λ m h=>(b.same m h).trans (a.same m h)⟩
def Upd.set{st:af}{n:Nat}{c:Cell}:Upd st n (st.set n c):=⟨RV,λ m h=>RD (RK h)⟩
structure XU(st:af)(n:Nat)(st':af):Prop where
 len:st.length<=st'.length
 same:∀m,m<st.length->m≠n->st'[m]?=st[m]?
def XU.trans{st st1 st2:af}{n:Nat}(a:XU st n st1)(b:XU st1 n st2):XU st n st2:=⟨RH a.len b.len,λ m h g=>(b.same m (RQ h a.len) g).trans (a.same m h g)⟩
def XU.upd{st st1:af}{n:Nat}(a:Upd st n st1):XU st n st1:=⟨by rw[a.len];exact Rv _,λ m _ g=>a.same m g⟩
def XU.ext{st st1:af}{n:Nat}(a:Ext st st1):XU st n st1:=⟨a.len,λ m h _=>a.same m h⟩
def XU.set{st st1:af}{n k:Nat}{c:Cell}(a:XU st n st1)(h:st.length<=k):XU st n (st1.set k c):=⟨by rw[RV];exact a.len,λ m hm g=>by rw[RD (TL (RQ hm h))];exact a.same m hm g⟩
def XU.at{st st1:af}{n k:Nat}{c:Cell}(a:XU st n st1)(e:st[k]?=some c)(h:k≠n):st1[k]?=some c:=(a.same k (RB.mp e).1 h).trans e
def Bx.lt{st:af}{n:Nat}{b:Int}(B:Bx st n b):n<st.length:=by
 obtain⟨_,_,_,e,_⟩:=B.ex;exact(RB.mp e).1
def Bx.cell{st st':af}{n:Nat}{b:Int}(B:Bx st n b)(e:st'[n]?=st[n]?):Bx st' n b:=by
 obtain⟨x,y,z,e1,r⟩:=B.ex;exact⟨x,y,z,e.trans e1,r⟩
def Bx.mono{st:af}{n:Nat}{b b':Int}(B:Bx st n b)(l:b<=b'):Bx st n b':=by
 obtain⟨x,y,z,e,h1,h2,h3⟩:=B.ex;exact⟨x,y,z,e,h1,h2,Td h3 l⟩
def oY:cL:=λ ds st K=>∃(ns:List Int) (k:Nat),ds=[.lst (ns.map .int),.int k]/\k<=3/\ns.length<=63/\∀st',Bx st' st.length 4000->Ext st st'->K (.ref st.length) st'
def md:List Str:=["_law_script","_law_k","_law_cell"]
def Az:DS:=(aF (bo 2 (dC (.int 0)))
 (aF (jZ (cA (av qE (cz fh (ae (aa 0) ao)) (dC (.int 0)))) (bo 2 (av bM (aa 0) (av jz (aa 1) (cz fh (ae (aa 0) ao))))) ix)
 (cT (xI (ae (av fM (aa 2) (cz yj (ae (av B8 (aa 2) (av x9 (dC (.int 10)) (dC (.int 18)))) ao))) (ae (aa 2) (ae (av fM (dC (.int 1009)) (aa 1)) ao)))))))
def yY:Ru oY 2 Az md:=by
 rintro ds st K ⟨ns,k,rfl,hk,hl,q⟩;refine⟨rfl,?_⟩
 have fin:∀c:Int,cT (xI (ae (av fM (aa 2) (cz yj (ae (av B8 (aa 2) (av x9 (dC (.int 10)) (dC (.int 18)))) ao))) (ae (aa 2) (ae (av fM (dC (.int 1009)) (aa 1)) ao))))
  {nx:=λ _ st'=>K .aB st',rt:=K} [some (.lst (ns.map .int)),some (.int k),some (.int c)] st:=by
  intro c;refine Mp ⟨by decide,by decide,by decide⟩ (N7 (K6 (gh (lg ?_ ?_) (gh (lz (by decide) (by decide)) ⟨RT rfl,?_⟩))))
  . split<;>decide
  . split<;>decide
  . refine q _ ⟨_,_,_,by rw[RY (Rv _),Tc];rfl,?_,?_,?_⟩ Ext.push
    . by_cases hc:(10:Int)^(18:Int).toNat<=c
      . have:(0:Int)<=c:=Td (by decide) hc;rw[S_ hc,RC rfl];omega
      . rw[Sv hc,Rx Sb];omega
    . omega
    . omega
 refine df rfl (Dp ?_);rw[Rz];by_cases h0:(0:Int)<(ns.length:Int)
 . rw[S_ h0];refine gS (df rfl (jc (by rw[Rz];omega) ?_));rw[Rz];have m1:=S9 (k:Int) h0;have m2:=TH (k:Int) h0;obtain⟨j,ej⟩:=To m1;rw[ej]at m2⊢;exact aR rfl (iN (r:=ns) (by omega)) (fin _)
 . rw[Sv h0];exact fin 0
def dQ:cL:=λ ds st K=>∃(n:Nat) (m b:Int),ds=[.ref n,.int m]/\Bx st n b/\b<=1000000/\0<m/\m<2^62/\∀r st',0<=r->r<m->Bx st' n (b+1)->Upd st n st'->K (.int r) st'
def oH:List Str:=["_law_source_here","_law_many","_law_digit","_law_m"]
def Dy:DS:=(aF (jZ (cA (av qE (av bM (aa 0) (dC (.int 0))) (dC (.int 0)))) (aF (bo 2 (av jz (av bM (aa 0) (dC (.int 0))) (aa 1)))
 (aF (ft (aa 0) (dC (.int 0)) (av ot (av bM (aa 0) (dC (.int 0))) (aa 1)))
 (cT (aa 2)))) ix)
 (aF (ft (aa 0) (dC (.int 2)) (av ib (av bM (aa 0) (dC (.int 2))) (dC (.int 1))))
 (aF (bo 3 (av jz (av fM (av ib (av ib (av jz (av bM (aa 0) (dC (.int 1))) (dC (.int 2147483647))) (av fM (dC (.int 65539)) (av bM (aa 0) (dC (.int 2))))) (dC (.int 11))) (dC (.int 48271))) (dC (.int 2147483629))))
 (aF (bo 3 (av ib (av jz (av fM (aa 3) (aa 3)) (dC (.int 1999999973))) (av fM (dC (.int 39373)) (av bM (aa 0) (dC (.int 2))))))
 (cT (av jz (av ot (av jz (av fM (aa 3) (dC (.int 99991))) (dC (.int 2147483587))) (dC (.int 7))) (aa 1)))))))
def xB{d:D}{σ:bQ}{st:af}{K:DK}(k:K d st):dC d σ st K:=k
def BM:Ru dQ 2 Dy oH:=by
 rintro ds st K ⟨n,m,b,rfl,⟨x,y,z,e,hx,hz,hb⟩,hb2,hm0,hm1,k⟩;refine⟨rfl,?_⟩;have hn:n<st.length:=(RB.mp e).1;have it:items? st (.ref n)=some [.int x,.int y,.int z]:=aO e;refine aR it (by rfl) (ES (λ h=>gS ?_) λ h=>?_)
 . refine aR it (by rfl) (jc (by omega) (aR it (by rfl) (qF (by omega) (pK hm0 hm1) (gj e (by rfl) ?_))));refine k _ _ (S9 _ hm0) (TH _ hm0) ⟨_,_,_,RL hn,?_,hz,by omega⟩ Upd.set;rw[Wn _ (by omega)];exact Int.ediv_nonneg hx (by omega)
 . refine aR it (by rfl) (iz (gj e (by rfl) ?_));have e2:(st.set n (.lst ([D.int x,D.int y,D.int z].set 2 (.int (z+1)))))[n]?=some (.lst [.int x,.int y,.int (z+1)]):=RL hn;have it2:=aO e2;refine aR it2 (by rfl) (jc (by decide) (aR it2 (by rfl) (gh (lz (by decide) (by decide)) ?_)));generalize y.fmod 2147483647=y1;generalize 65539*(z+1)=p;refine iz (xB (iz (xB (gh (lg (by decide) (by decide)) (xB (jc (by decide) ?_))))));have u1:=S9 ((y1+p+11)*48271) (show(0:Int)<2147483629 by decide);have u2:=TH ((y1+p+11)*48271) (show(0:Int)<2147483629 by decide);generalize((y1+p+11)*48271).fmod 2147483629=u at u1 u2⊢;refine gh (lz (by omega) (by omega)) (xB (jc (by decide) ?_));generalize(u*u).fmod 1999999973=u3;refine aR it2 (by rfl) (gh (lz (by decide) (by decide)) ?_);generalize 39373*(z+1)=p2;refine iz ?_;generalize u3+p2=u4;refine gh (lg (by decide) (by decide)) (xB (jc (by decide) (xB (qF (by decide) (by decide+kernel) (jc (by omega) ?_)))));exact k _ _ (S9 _ hm0) (TH _ hm0) ⟨_,_,_,e2,hx,by omega,by omega⟩ Upd.set
def o6:cL:=λ ds st K=>∃a b,ds=[.int a,.int b]/\K (.int ((Nat.gcd a.natAbs b.natAbs:Nat):Int)) st
def mj:List Str:=["_law_one","_law_other"]
def zW:DS:=(aF (D3 0 1 (ae (cz r9 (ae (aa 0) ao)) (ae (cz r9 (ae (aa 1) ao)) ao)))
 (aF (qW (cA (av qE (aa 1) (dC (.int 0)))) (D3 0 1 (ae (aa 1) (ae (av jz (aa 0) (aa 1)) ao))))
 (cT (aa 0))))
def zi:Ru o6 2 zW mj:=by
 rintro ds st K ⟨a,b,rfl,k⟩;refine⟨rfl,?_⟩;refine ui (ui ?_);refine⟨λ m σ st'=>∃g s:Nat,σ=[some (.int g),some (.int s)]/\st'=st/\Nat.gcd g s=Nat.gcd a.natAbs b.natAbs/\s=m,⟨b.natAbs,a.natAbs,b.natAbs,rfl,rfl,rfl,rfl⟩,?_⟩;rintro m σ st' ⟨g,s,rfl,rfl,hg,rfl⟩;refine ES (λ h=>gS ?_) λ h=>?_
 . refine jc (by omega) ⟨g%s,Nat.mod_lt _ (by omega),s,g%s,?_,rfl,?_,rfl⟩
   . rw[Ae];rfl
   . rw[V2,<-Nat.gcd_rec,V2];exact hg
 . have:s=0:=by omega
   subst this;rw[Nat.gcd_zero_right]at hg;subst hg;exact k
def oW:cL:=λ ds st K=>∃(n:Nat) (b:Int) (d:D) (A:List (List Int)) (N w M:Nat),ds=[.ref n,d]/\Bx st n b/\b<=900000/\eO st d A/\Mx.aP N w A/\1<=N/\N<=8/\w<=8/\(∀r∈A,∀x∈r,x.natAbs<=M)/\∀B st',Mx.lJ A N w (M*8^6) B N->Bx st' n (b+30)->XU st n st'->K (aJ B) st'
def mh:List Str:=["_law_source_here","_law_rows","_law_made","_law_k","_law_i","_law_j","_law_how","_law_by"]
def zR:DS:=(aF (bo 2 (lR (dU (aa 1)) [none] (bz 0) cS (cz ow (ae (aa 0) ao))))
 (aF (gR (fS (ae (aQ dQ (ae (aa 0) (ae (dC (.int 7)) ao))) ao)) (bz 3) (aF (bo 4 (aQ dQ (ae (aa 0) (ae (cz fh (ae (aa 2) ao)) ao))))
 (aF (bo 5 (aQ dQ (ae (aa 0) (ae (cz fh (ae (aa 2) ao)) ao))))
 (aF (bo 6 (aQ dQ (ae (aa 0) (ae (dC (.int 4)) ao))))
 (jZ (cA (av mE (aa 4) (aa 5))) (ft (aa 2) (aa 4) (dS (dU (av bM (aa 2) (aa 4))) [none] (bz 0) cS (pY ky (aa 0)))) (jZ (cA (av mE (aa 6) (dC (.int 0)))) (Dr (wC (uQ (aa 2) (aa 4)) (uQ (aa 2) (aa 5))) (tM (ae (av bM (aa 2) (aa 5)) (ae (av bM (aa 2) (aa 4)) ao)))) (aF (bo 7 (av bM (tF (ae (dC (.int 1)) (ae (pY ky (dC (.int 1))) (ae (dC (.int 2)) (ae (pY ky (dC (.int 2))) ao))))) (aQ dQ (ae (aa 0) (ae (dC (.int 4)) ao)))))
 (ft (aa 2) (aa 4) (dS (AO (ae (av bM (aa 2) (aa 4)) (ae (av bM (aa 2) (aa 5)) ao))) [none,none,some 7] (ka 0 1) cS (av ib (aa 0) (av fM (aa 2) (aa 1))))))))))))
 (cT (cz fo (ae (dS (dU (aa 2)) [none] (bz 0) cS (cz fo (ae (aa 0) ao))) ao)))))
def pv{A:List (List Int)}{k:Nat}(h:k<A.length):eF (A.map bf) (k:Int)=some (bf (A.getD k [])):=by
 refine jq ?_;rw[RP,RJ h,Mx.aN h];rfl
def rK{T:List (List Int)}{l:Nat}{r:List Int}:(T.map bf).set l (bf r)=(T.set l r).map bf:=by rw[WJ]
def zf:Ru oW 2 zR mh:=by
 rintro ds st K ⟨n,b,d,A,N,w,M,rfl,B,hb,⟨da,hd,ra⟩,hA,hN1,hN8,hw,hbd,k⟩;refine⟨rfl,?_⟩;have hn:=B.lt;have hnL:st.length≠n:=TL hn;have lA:=ra.len;have lAN:=hA.len;refine nJ hd λ ok aM=>⟨cC (by omega),?_⟩
 refine j_ bf aM ra (λ d r hr he K' q=>⟨_,rfl,qU he q⟩) ?_;refine⟨n,7,b,rfl,B.cell (RG hn),by omega,by decide,by decide,λ r0 st1 z0 z1 B1 U1=>?_⟩;obtain⟨T,rfl⟩:=To z0;refine iD ⟨by omega,by omega⟩ ?_;rw[R8];have e1:st1[st.length]?=some (.lst (A.map bf)):=(U1.same _ hnL).trans (by rw[RY (Rv _),Tc];rfl);have X1:XU st n st1:=(XU.ext Ext.push).trans (XU.upd U1);refine jT T (λ j σ st'=>∃(X:List (List Int)) (v3 v4 v5 v6 v7:Option D),σ=[some (.ref n),some d,some (.ref st.length),v3,v4,v5,v6,v7]/\st'[st.length]?=some (.lst (X.map bf))/\Mx.lJ A N w (M*8^j) X N/\Bx st' n (b+1+4*j)/\XU st n st') ?_ ?_ ⟨A,none,none,none,none,none,rfl,e1,⟨hA,hN1,hN8,λ r hr x hx=>by rw[Nat.pow_zero,Nat.mul_one];exact hbd r hr x hx,Mx.cR.refl _ _ _⟩,B1.mono (by simp),X1⟩
 . rintro σ st' ⟨X,v3,v4,v5,v6,v7,rfl,e,M',B',X'⟩;have lX:=M'.is.len;refine nJ (aO e) λ ok aM=>⟨cC (by rw[Rz];omega),?_⟩
   refine j_ bL aM cv.lst (λ d r hr he K' q=>⟨_,rfl,e9 he q⟩) (e9 rfl ?_);exact k X st' (M'.more (Sj _ (Sa (by decide) (by omega)))) (B'.mono (by omega)) X'
 . rintro j σ st2 rest hj ⟨X,v3,v4,v5,v6,v7,rfl,e,M',B2,X2⟩ next
   refine⟨_,rfl,?_⟩;have lX:=M'.is.len;have lM:(X.map bf).length=N:=by rw[Rz,lX]
   refine df (aO e) ⟨n,_,_,rfl,B2,by omega,by omega,by omega,λ rk st3 a0 a1 B3 U3=>?_⟩;obtain⟨kk,rfl⟩:=To a0;have hk:kk<N:=by omega
   have e3:=(U3.same _ hnL).trans e;refine df (aO e3) ⟨n,_,_,rfl,B3,by omega,by omega,by omega,λ ro st4 c0 c1 B4 U4=>?_⟩;obtain⟨o,rfl⟩:=To c0;have ho:o<N:=by omega
   have e4:=(U4.same _ hnL).trans e3;refine⟨n,4,_,rfl,B4,by omega,by decide,by decide,λ way st5 w0 w1 B5 U5=>?_⟩;have e5:=(U5.same _ hnL).trans e4;have X5:XU st n st5:=X2.trans (XU.upd ((U3.trans U4).trans U5));have l5:=(RB.mp e5).1;clear U3 U4 U5 e e3 e4 B2 B3 B4;have pj:M*8^(j+1)=M*8^j*8:=by rw[T7,Ss]
   have M1:Mx.lJ A N w (M*8^(j+1)) X N:=M'.more (by omega);have wk:=M'.is.row hk;have wo:=M'.is.row ho;have B6:Bx st5 n (b+1+4*((j+1:Nat):Int)):=B5.mono (by omega);refine eq2 (λ heq=>gS ?_) λ hne=>?_
   . refine aR (aO e5) (pv (by omega)) (lh ⟨cC (by rw[Rz];omega),?_⟩);refine comp_map (g:=λ x=>match x with| .int a=> .int (-a)|_=> .aB) trivial _ (λ x hx K' q=>?_) ?_
     . unfold au at hx;obtain⟨a,_,rfl⟩:=Sl.mp hx;exact⟨_,rfl,jU q⟩
     have en:(au (X.getD kk [])).map (λ x=>match x with| .int a=> .int (-a)|_=> .aB)=au ((X.getD kk []).map λ x=> -x):=by unfold au;rw[Sn,Sn];rfl
     rw[en];refine gj e5 (pw (by omega) (by omega)) ?_;rw[R8];exact next _ _ ⟨_,_,_,_,_,_,rfl,(RL l5).trans (Tu (λ x=>some (Cell.lst x)) rK),M1.neg hk,B6.cell (RD hnL),X5.set (Rv _)⟩
   refine eq2 (λ h0=>gS ?_) λ h0=>?_
   . refine aR (aO e5) (pv (by omega)) (aR (aO e5) (pv (by omega)) ⟨RT rfl,?_⟩);refine gj e5 (pw (by omega) (by omega)) ?_;rw[R8,rK];refine gj (RL l5) (pw (by omega) (by rw[Rz,RV];omega)) ?_;rw[R8,rK,List.set_set];exact next _ _ ⟨_,_,_,_,_,_,rfl,RL l5,M1.swap hk ho,B6.cell (RD hnL),X5.set (Rv _)⟩
   refine jU (jU ⟨RT rfl,n,4,_,rfl,B5,by omega,by decide,by decide,λ q st6 q0 q1 B6 U6=>?_⟩);have e6:=(U6.same _ hnL).trans e5;have l6:=(RB.mp e6).1
   obtain⟨c,ec,hc⟩:∃c:Int,eF [D.int 1,.int (-1),.int 2,.int (-2)] q=some (.int c)/\c.natAbs<=7:=by
    have:q=0\/q=1\/q=2\/q=3:=by omega
    rcases this with rfl|rfl|rfl|rfl
    . exact⟨1,rfl,by decide⟩
    . exact⟨-1,rfl,by decide⟩
    . exact⟨2,rfl,by decide⟩
    . exact⟨-2,rfl,by decide⟩
   refine aR rfl ec ?_;refine aR (aO e6) (pv (by omega)) (aR (aO e6) (pv (by omega)) ?_);refine Bv rfl rfl λ ok aM=>⟨cC (by rw[vN,Rz,Rz];omega),?_⟩
   refine comp_map (g:=λ d=>match d with| .tup [.int x,.int y]=> .int (x+c*y)|_=> .aB) (aM st6 rfl rfl) _ (λ d hd K' q=>?_) ?_
   . obtain⟨x,y,_,_,rfl⟩:=zF hd;exact⟨_,rfl,gh (lz (by omega) (by omega)) (iz q)⟩
   have ea:(k_ (au (X.getD kk [])) (au (X.getD o []))).map (λ d=>match d with| .tup [.int x,.int y]=> .int (x+c*y)|_=> .aB)=au (Mx.gq (X.getD kk []) c (X.getD o [])):=uf _ _;rw[ea];refine gj e6 (pw (by omega) (by omega)) ?_;rw[R8];refine next _ _ ⟨_,_,_,_,_,_,rfl,(RL l6).trans (Tu (λ x=>some (Cell.lst x)) rK),?_,(B6.cell (RD hnL)).mono (by omega),(X5.trans (XU.upd U6)).set (Rv _)⟩
   rw[pj];exact M'.add hk ho (by omega) hc
def rG:cL:=λ ds st K=>∃(n:Nat) (dl:D) (b:Int) (ls:List Int) (w:Nat),ds=[.ref n,dl]/\Bx st n b/\b<=900000/\(∀st',XU st n st'->items? st' dl=some (au ls))/\ls.length=w/\w<=8/\(∀x∈ls,1<=x/\x<=1000000000)/\∀(G:List (List Int)) st',G.length=w->(∀k,k<w->Mx.UR ls w k (G.getD k []))->st'[st.length]?=some (.lst (G.map bL))->Bx st' n (b+64)->XU st n st'->K (.ref st.length) st'
def oF:List Str:=["_law_source_here","_law_leads_here","_law_form_here","_law_i","_law_row","_law_j"]
def Dl:DS:=(aF (bo 2 (xI ao))
 (aF (gR (fS (ae (cz fh (ae (aa 1) ao)) ao)) (bz 3) (aF (bo 4 (av wI (av fM (tF (ae (dC (.int 0)) ao)) (aa 3)) (tF (ae (av bM (aa 1) (aa 3)) ao))))
 (aF (gR (mO (ae (av ib (aa 3) (dC (.int 1))) (ae (cz fh (ae (aa 1) ao)) ao))) (bz 5) (fG (oS (aa 4) (aQ dQ (ae (aa 0) (ae (av bM (aa 1) (aa 5)) ao))))))
 (fG (oS (aa 2) (cz fo (ae (aa 4) ao)))))))
 (cT (aa 2))))
def oR{α:Type}{l:List α}{x d:α}(k:Nat):(l++[x]).getD k d=if k<l.length then l.getD k d else if k=l.length then x else d:=by
 rw[RI,RI];by_cases h:k<l.length
 . rw[RC h,RG h]
 . rw[Rx h,RY (SI h)];by_cases h2:k=l.length
   . rw[RC h2,h2,Tc];rfl
   . rw[Rx h2,Uc (by rw[VP];omega)];rfl
def CL{tg:fP}{body:DS}{E:nr}{a:Int}(n:Nat)(I:Nat->bQ->af->Prop)(hend:∀σ st,I n σ st->E.nx σ st)
 (hstep:∀(j:Nat) σ st (rest:List D),j<n->I j σ st->(∀σ' st',I (j+1) σ' st'->ik tg body (λ _=>True) E rest σ' st')->∃σ1,tg (.int (a+(j:Int))) σ=some σ1/\body {E with nx:=ik tg body (λ _=>True) E rest,ct:=ik tg body (λ _=>True) E rest,bk:=E.nx} σ1 st)
 {σ:bQ} {st:af} (h0:I 0 σ st):ik tg body (λ _=>True) E (cY a n) σ st:=by
 refine fT (λ rest σ st=>∃j:Nat,j<=n/\rest=(List.range (n-j)).map (λ i=>D.int (a+((j+i:Nat):Int)))/\I j σ st) ?_ ?_ _ _ _ ⟨0,RX _,by unfold cY;simp,h0⟩
 . rintro σ st ⟨j,hj,hr,hI⟩
   have:n-j=0:=by
    cases q:n-j with
    |zero=>rfl
    |succ m=>rw[q,Su]at hr;cases hr
   have e:j=n:=by omega
   subst e;exact⟨trivial,hend _ _ hI⟩
 . rintro d rest σ st ⟨j,hj,hr,hI⟩ next
   cases q:n-j with
   |zero=>rw[q]at hr;cases hr
   |succ m=>
    rw[q,Su,R0,Sn]at hr;simp only[Ta]at hr;obtain⟨rfl,hrest⟩:=hr
    obtain⟨σ1,e1,hb⟩:=hstep j σ st rest (by omega) hI λ σ' st' h=>next σ' st' ⟨j+1,by omega,by
     have:n-(j+1)=m:=by omega
     rw[this,hrest];refine SQ λ i _=>?_;show D.int (a+((j+(i+1):Nat):Int))=D.int (a+((j+1+i:Nat):Int));congr 2;omega,h⟩
    exact⟨trivial,σ1,e1,hb⟩
def BO:Ru rG 2 Dl oF:=by
 rintro ds st K ⟨n,dl,b,ls,w,rfl,B,hb,el,hw,w8,hls,k⟩;refine⟨rfl,?_⟩;have hn:=B.lt;have hnf:st.length≠n:=TL hn;refine⟨RT rfl,?_⟩;have X0:XU st n (st++[Cell.lst []]):=XU.ext Ext.push;refine df (el _ X0) ?_;rw[Rz,hw];refine iD ⟨by omega,by omega⟩ ?_;rw[R8];refine jT w (λ i σ st'=>∃(G:List (List Int)) (v3 v4 v5:Option D),σ=[some (.ref n),some dl,some (.ref st.length),v3,v4,v5]/\G.length=i/\(∀k,k<i->Mx.UR ls w k (G.getD k []))/\st'[st.length]?=some (.lst (G.map bL))/\Bx st' n (b+8*i)/\XU st n st') ?_ ?_ ⟨[],none,none,none,rfl,rfl,λ k hk=>absurd hk (Sh _),by rw[RY (Rv _),Tc];rfl,(B.cell (RG hn)).mono (by simp),X0⟩
 . rintro σ st' ⟨G,v3,v4,v5,rfl,hG,hU,e,B',X'⟩;exact k G st' hG hU e (B'.mono (by omega)) X'
 . rintro i σ st1 rest hi ⟨G,v3,v4,v5,rfl,hG,hU,e,B1,X1⟩ next
   refine⟨_,rfl,?_⟩;have hlsi:i<ls.length:=by omega
   have e1:=el _ X1;have hf1:=(RB.mp e).1;have hn1:=B1.lt;refine Lj (RT rfl) (CA ⟨by omega,by omega,cC (by simp;omega)⟩ ?_);rw[R8,AG];refine aR e1 (iN hlsi) ⟨RT rfl,J0 (cC (by simp;omega)) ?_⟩;rw[ints_app];have X2:XU st n (st1++[Cell.lst (au (List.replicate i 0++[ls.getD i 0]))]):=X1.trans (XU.ext Ext.push);refine iz (df (el _ X2) ?_);rw[Rz,hw];refine uR ⟨by omega,by omega,by omega,by omega⟩ ?_;have ew:((w:Int)-((i:Int)+1)).toNat=w-(i+1):=by omega
   rw[ew];refine CL (w-(i+1)) (λ t σ st'=>∃(r:List Int) (v5:Option D),σ=[some (.ref n),some dl,some (.ref st.length),some (.int (i:Int)),some (.ref st1.length),v5]/\st'[st1.length]?=some (.lst (au r))/\r.length=i+1+t/\(∀c,c<i->r.getD c 0=0)/\r.getD i 0=ls.getD i 0/\(∀c,i<c->c<i+1+t->0<=r.getD c 0/\r.getD c 0<ls.getD c 0)/\st'[st.length]?=some (.lst (G.map bL))/\Bx st' n (b+8*i+t)/\XU st n st') ?_ ?_ ⟨List.replicate i 0++[ls.getD i 0],v5,rfl,by rw[RY (Rv _),Tc];rfl,by simp,λ c hc=>?_,?_,λ c h1 h2=>absurd h2 (by omega),(RG hf1).trans e,(B1.cell (RG hn1)).mono (by simp),X2⟩
   . rintro σ st' ⟨r,v5,rfl,er,lr,r1,r2,r3,ef,B',X'⟩;refine E5 (by rfl) ef (e9 (aO er) (B7 ef (by rw[U9,Rz];omega) ?_));have hf':=(RB.mp ef).1;refine next _ _ ⟨G++[r],_,_,_,rfl,by rw[Sy,hG];rfl,λ k hk=>?_,by rw[RL hf',GD],(B'.cell (RD hnf)).mono (by omega),X'.set (Rv _)⟩
     rw[oR,hG];by_cases h:k<i
     . rw[RC h];exact hU k h
     . have:k=i:=by omega
       subst this;rw[Rx h,RC rfl];exact⟨by omega,r1,r2,λ c h1 h2=>r3 c h1 (by omega)⟩
   . rintro t σ st' rest' ht ⟨r,v5,rfl,er,lr,r1,r2,r3,ef,B',X'⟩ next';refine⟨_,rfl,?_⟩;have hj:i+1+t<ls.length:=by omega
     have elj:eF (au ls) ((i:Int)+1+(t:Int))=some (.int (ls.getD (i+1+t) 0)):=iN hj;have hx:ls.getD (i+1+t) 0∈ls:=getD_mem hj;have hb':=hls _ hx;refine E5 (by rfl) er (aR (el _ X') elj ⟨n,_,_,rfl,B',by omega,by omega,by omega,λ x st2 x0 x1 B2 U2=>?_⟩);have l1:st1.length≠n:=TL hn1;have er2:=(U2.same _ l1).trans er;have hl2:=(RB.mp er2).1;refine B7 er2 (by rw[U9,Rz];omega) ?_;have ne:st1.length≠st.length:=by omega
     refine next' _ _ ⟨r++[x],_,rfl,by rw[RL hl2,ints_app],by rw[Sy,lr];rfl,λ c hc=>?_,?_,λ c h1 h2=>?_,(RD ne).trans ((U2.same _ hnf).trans ef),(B2.cell (RD l1)).mono (by omega),(X'.trans (XU.upd U2)).set X1.len⟩
     . rw[oR,RC (by omega)];exact r1 c hc
     . rw[oR,RC (by omega)];exact r2
     . rw[oR,lr];by_cases h:c<i+1+t
       . rw[RC h];exact r3 c h1 h
       . have:c=i+1+t:=by omega
         subst this;rw[Rx h,RC rfl];exact⟨x0,x1⟩
   . rw[oR,VO,RC hc];exact Mx.fb _ _
   . rw[oR,VO,Rx (TY i),RC rfl]
def qt:cL:=λ ds st K=>∃(n:Nat) (b:Int),ds=[.ref n,.int 40]/\Bx st n b/\b<=900000/\∀(ls:List Int) (w:Nat) st',ls.length=w->1<=w->w<=8->(∀x∈ls,1<=x)->Mx.PN ls<=216->st'[st.length]?=some (.lst (au ls))->Bx st' n (b+9)->XU st n st'->K (.ref st.length) st'
def nj:List Str:=["_law_source_here","_law_most","_law_wide","_law_leads_here","_law_k","_law_at","_law_more","_law_room","_law_one"]
def BJ:DS:=(aF (bo 2 (av ib (dC (.int 1)) (aQ dQ (ae (aa 0) (ae (dC (.int 4)) ao)))))
 (aF (jZ (cA (av mE (aQ dQ (ae (aa 0) (ae (dC (.int 8)) ao))) (dC (.int 5)))) (bo 2 (av ib (dC (.int 6)) (aQ dQ (ae (aa 0) (ae (dC (.int 3)) ao))))) ix)
 (aF (bo 3 (av wt (tF (ae (dC (.int 1)) ao)) (aa 2)))
 (aF (gR (fS (ae (dC (.int 3)) ao)) (bz 4) (aF (bo 5 (aQ dQ (ae (aa 0) (ae (aa 2) ao))))
 (aF (bo 6 (av ib (dC (.int 1)) (aQ dQ (ae (aa 0) (ae (dC (.int 6)) ao)))))
 (aF (bo 7 (aa 1))
 (aF (gR (dU (aa 3)) (bz 8) (bo 7 (av ot (aa 7) (aa 8))))
 (ft (aa 3) (aa 5) (av fM (av bM (aa 3) (aa 5)) (cz yh (ae (aa 6) (ae (cz Au (ae (dC (.int 1)) (ae (aa 7) ao))) ao))))))))))
 (cT (aa 3))))))
def KJ{k:Nat}{te:DE}{B:DS}{E:nr}{σ:bQ}{st:af}(h:te σ st λ d st1=>B E (σ.set k (some d)) st1):aF (bo k te) B E σ st:=h
def KS(n:Nat):(List.replicate n [D.int 1]).flatten=au (List.replicate n 1):=by
 induction n with
 |zero=>rfl
 |succ n ih=>rw[SY,T3,ih,SY];rfl
def ints_set{s:List Int}{l:Nat}{z:Int}:(au s).set l (.int z)=au (s.set l z):=by unfold au;rw[WJ]
def A8:Ru qt 2 BJ nj:=by
 rintro ds st K ⟨n,b,rfl,B,hb,k⟩;refine⟨rfl,?_⟩;refine⟨n,4,b,rfl,B,by omega,by decide,by decide,λ r0 st0 a0 a1 B0 U0=>iz ?_⟩;dsimp only;refine mP (λ σ' st'=>∃w:Nat,1<=w/\w<=8/\σ'=[some (.ref n),some (.int 40),some (.int (w:Int)),none,none,none,none,none,none]/\Bx st' n (b+3)/\Upd st n st') (λ nx hnx=>?_) ?_
 . refine⟨n,8,_,rfl,B0,by omega,by decide,by decide,λ r1 st1 c0 c1 B1 U1=>?_⟩;refine eq2 (λ _=>gS ?_) λ _=>?_
   . refine⟨n,3,_,rfl,B1,by omega,by decide,by decide,λ r2 st2 d0 d1 B2 U2=>iz ?_⟩;obtain⟨w,ew⟩:=To (show 0<=6+r2 by omega);exact hnx _ _ ⟨w,by omega,by omega,by rw[ew];rfl,B2.mono (by omega),(U0.trans U1).trans U2⟩
   . obtain⟨w,ew⟩:=To (show 0<=1+r0 by omega);exact hnx _ _ ⟨w,by omega,by omega,by rw[ew];rfl,B1.mono (by omega),U0.trans U1⟩
 rintro σ' st1 ⟨w,w1,w8,rfl,B1,U1⟩;refine Lj (RT rfl) (Kq ⟨by omega,by omega,cC (by simp;omega)⟩ ?_);rw[R8,KS,U1.len];have hn:=B.lt;have hnL:st.length≠n:=TL hn;have X1:XU st n (st1++[Cell.lst (au (List.replicate w 1))]):=(XU.upd U1).trans (XU.ext Ext.push);refine iD ⟨by decide,by decide⟩ ?_;refine jT 3 (λ j σ st'=>∃(ls:List Int) (v4 v5 v6 v7 v8:Option D),σ=[some (.ref n),some (.int 40),some (.int (w:Int)),some (.ref st.length),v4,v5,v6,v7,v8]/\st'[st.length]?=some (.lst (au ls))/\ls.length=w/\(∀x∈ls,1<=x)/\Mx.PN ls<=6^j/\Bx st' n (b+3+2*j)/\XU st n st') ?_ ?_ ⟨List.replicate w 1,none,none,none,none,none,rfl,?_,by simp,λ x hx=>by rw[(List.mem_replicate.mp hx).2];exact VF _,by rw[Mx.Fg];decide,(B1.cell (RG B1.lt)).mono (by simp),X1⟩
 . rintro σ st' ⟨ls,v4,v5,v6,v7,v8,rfl,e,hl,h1,hP,B',X'⟩;exact k ls w st' hl w1 w8 h1 hP e (B'.mono (by omega)) X'
 . rintro j σ st2 rest hj ⟨ls,v4,v5,v6,v7,v8,rfl,e,hl,h1,hP,B2,X2⟩ next
   refine⟨_,rfl,?_⟩;refine⟨n,_,_,rfl,B2,by omega,by omega,by omega,λ ra st3 a0 a1 B3 U3=>?_⟩;obtain⟨at',rfl⟩:=To a0;refine⟨n,6,_,rfl,B3,by omega,by decide,by decide,λ r4 st4 c0 c1 B4 U4=>iz ?_⟩;have e4:st4[st.length]?=some (.lst (au ls)):=(U4.same _ hnL).trans ((U3.same _ hnL).trans e);have l4:=(RB.mp e4).1;have hat:at'<ls.length:=by omega
   dsimp only;refine KJ ?_;dsimp only[aa];refine mP (λ σ' st'=>st'=st4/\∃(room:Int) (v8:Option D),σ'=[some (.ref n),some (.int 40),some (.int (w:Int)),some (.ref st.length),some (.int (j:Int)),some (.int (at':Int)),some (.int (1+r4)),some (.int room),v8]) (λ nx hnx=>?_) ?_
   . refine nJ (aO e4) λ ok aM=>?_;refine fT (λ rest σ st'=>st'=st4/\∃(room:Int) (v8:Option D) (ms:List Int),rest=au ms/\(∀x∈ms,x∈ls)/\σ=[some (.ref n),some (.int 40),some (.int (w:Int)),some (.ref st.length),some (.int (j:Int)),some (.int (at':Int)),some (.int (1+r4)),some (.int room),v8]) ?_ ?_ _ _ _ ⟨rfl,40,v8,ls,rfl,λ _ h=>h,rfl⟩
     . rintro σ st' ⟨rfl,room,v8,ms,_,_,rfl⟩;exact⟨aM,hnx _ _ ⟨rfl,room,v8,rfl⟩⟩
     . rintro d rest σ st' ⟨rfl,room,v8,ms,hr,hm,rfl⟩ nxt;match ms,hr,hm with
       |y::ms,hr,hm=>
        obtain⟨rfl,rfl⟩:=Ua hr;have y1:=h1 y (hm y R6);have y2:=Td (Mx.z9 h1 (hm y R6)) hP
        have p6:(6:Int)^j<=216:=by
         have:j=0\/j=1\/j=2:=by omega
         rcases this with rfl|rfl|rfl<;>decide
        exact⟨aM,_,rfl,qF (by omega) (pK (by omega) (by omega)) (nxt _ _ ⟨rfl,_,_,ms,rfl,λ x hx=>hm x (RU _ hx),rfl⟩)⟩
   rintro σ' st' ⟨rfl,room,v8,rfl⟩;refine aR (aO e4) (iN hat) (Mb (FF ?_));generalize ef:(if(if room>1 then room else 1)<1+r4 then(if room>1 then room else 1)else 1+r4)=f
   have hf:1<=f/\f<=6:=by
    rw[<-ef];split<;>split at* <;>omega
   clear ef;refine gh (lg (by omega) (by omega)) (gj e4 (pw (by omega) (by rw[Rz];omega)) ?_);rw[R8,ints_set];have hx:ls.getD at' 0∈ls:=getD_mem hat;refine next _ _ ⟨_,_,_,_,_,_,rfl,RL l4,by rw[RV];exact hl,λ x hx'=>?_,?_,(B4.cell (RD hnL)).mono (by omega),(X2.trans (XU.upd (U3.trans U4))).set (Rv _)⟩
   . rcases SG hx' with h|h
     . exact h1 x h
     . have:=h1 _ hx;have:=V_ this hf.1 (by decide) (Td (by decide) this);rw[h];exact this
   . rw[Mx.Gd hat,Int.pow_succ];exact V_ hP hf.2 (by omega) (Td (Td (by decide) (Mx.A5 h1)) hP)
 . rw[<-U1.len,RY (Rv _),Tc];rfl
abbrev Ik:cL:=EI NS
def zx:List Str:=["_law_script","_law_source_here","_law_form_here","_law_rows","_law_kinds","_law_frees","_law_rests","_law_orders","_law_greatest","_law_number","_law_due","_law_kind"]
def Pk:DS:=(aF (bo 1 (aQ oY (ae (aa 0) (ae (dC (.int 0)) ao))))
 (aF (bo 2 (aQ rG (ae (aa 1) (ae (aQ qt (ae (aa 1) (ae (dC (.int 40)) ao))) ao))))
 (aF (bo 3 (aQ oW (ae (aa 1) (ae (aa 2) ao))))
 (aF (GB (ka 4 5) (aQ k9 (ae (aa 3) ao)))
 (aF (bo 6 (aQ qm (ae (aa 3) ao)))
 (aF (bo 7 (dS (dU (aa 6)) [none,some 3] (bz 0) cS (aQ pC (ae (aa 1) (ae (aa 0) ao)))))
 (aF (bo 8 (Fy (cA (av qE (cz fh (ae (aa 4) ao)) (dC (.int 0)))) (av bM (aa 4) (pY ky (dC (.int 1)))) (dC (.int 1))))
 (aF (jZ (yf (cA (av nU (aa 5) (dC (.int 0)))) (yf (cA (av A4 (dC .aB) (aa 7))) (yf (cA (cz A3 (ae (dS (dU (aa 7)) [none,some 8] (bz 0) cS (av nU (av jz (aa 1) (aa 0)) (dC (.int 0)))) ao))) (cA (av qR (aa 8) (aa 7)))))) (cT (dC (.bl false))) ix)
 (aF (gR (dU (dS (mO (ae (dC (.int 1)) (ae (av ib (aa 8) (dC (.int 1))) ao))) [none,some 8] (bz 0) (cA (av mE (av jz (aa 1) (aa 0)) (dC (.int 0)))) (aa 0))) (bz 9) (aF (bo 10 (dC (.int 1)))
 (aF (gR (dU (aa 4)) (bz 11) (bo 10 (av fM (aa 10) (aQ o6 (ae (aa 9) (ae (aa 11) ao))))))
 (jZ (cA (av nU (cz fh (ae (dS (dU (aa 7)) [none,some 9] (bz 0) (cA (av mE (av jz (aa 1) (aa 0)) (dC (.int 0)))) (aa 0)) ao)) (aa 10))) (cT (dC (.bl false))) ix))))
 (cT (dC (.bl true))))))))))))
def Cp:∀(l:List Nat) (R:List (List Int)),l.foldl kv R=R.flatMap λ r=>(Mx.bx l).map λ y=>r++y.map λ(i:Nat)=>(i:Int)
 | [],R=>by
   show R=R.flatMap λ r=>[r++[]]
   simp
 |d::l,R=>by
  rw[Vr,Cp l];unfold kv yD;rw[List.flatMap_assoc];congr 1;funext r;show((List.range d).map λ(i:Nat)=>r++[(i:Int)]).flatMap _=(((List.range d).flatMap λ i=>(Mx.bx l).map (i:: ·)).map _)
  rw[List.flatMap_map,List.map_flatMap];congr 1;funext i;rw[Sn];refine SQ λ y _=>?_;simp
def Fm(l:List Nat):vm l=(Mx.bx l).map λ y=>y.map λ(i:Nat)=>(i:Int):=by
 unfold vm;rw[Cp];simp
def El:∀ {ls:List Int},(∀x∈ls,1<=x)->∀a:Nat,(((ls.map Int.toNat).foldl (· * ·) a:Nat):Int)=a*Mx.PN ls
 | [],_,a=>by show(a:Int)=a*1;omega
 |x::ls,h,a=>by
  have hx:=h x R6;rw[R0,Vr,El λ y hy=>h y (RU _ hy)];show((a*x.toNat:Nat):Int)*Mx.PN ls=a*(x*Mx.PN ls);rw[U8,TQ (by omega),Sw]
def ia(G:List (List Int))(w:Nat):List (List Nat)->List Int->Prop
 | [],[]=>True
 |y::ys,o::os=>0<o/\(∀m:Int,(Mx.ax G w w λ c=>m*((y.getD c 0:Nat):Int))↔o∣m)/\ia G w ys os
 |_,_=>False
def ia.snoc{G:List (List Int)}{w:Nat}{y:List Nat}{o:Int}(h1:0<o)(h2:∀m:Int,(Mx.ax G w w λ c=>m*((y.getD c 0:Nat):Int))↔o∣m):∀ {ys:List (List Nat)} {os:List Int},ia G w ys os->ia G w (ys++[y]) (os++[o])
 | [],[],_=>⟨h1,h2,trivial⟩
 |_::_,_::_,h=>⟨h.1,h.2.1,ia.snoc h1 h2 h.2.2⟩
def ia.all{G:List (List Int)}{w:Nat}{P:Int->Prop}(hP:∀o (y:List Nat),0<o->(∀m:Int,(Mx.ax G w w λ c=>m*((y.getD c 0:Nat):Int))↔o∣m)->P o):∀ {ys:List (List Nat)} {os:List Int},ia G w ys os->∀o∈os,P o
 | [],[],_=>λ o ho=>by cases ho
 |y::ys,o::os,h=>λ o' ho=>by
  rcases R7.mp ho with e|e
  . rw[e];exact hP o y h.1 h.2.1
  . exact ia.all hP h.2.2 o' e
def ia.mem{G:List (List Int)}{w:Nat}{y:List Nat}:∀ {ys:List (List Nat)} {os:List Int},ia G w ys os->y∈ys->∃o∈os,0<o/\∀m:Int,(Mx.ax G w w λ c=>m*((y.getD c 0:Nat):Int))↔o∣m
 | [],_,_,h=>by cases h
 |z::ys,o::os,h,hy=>by
  rcases R7.mp hy with e|e
  . subst e;exact⟨o,R6,h.1,h.2.1⟩
  . obtain⟨o',h1,h2⟩:=ia.mem h.2.2 e;exact⟨o',RU _ h1,h2⟩
def ia.cnt{G:List (List Int)}{w:Nat}{n:Int}{p:List Nat->Bool}:∀ {ys:List (List Nat)} {os:List Int},ia G w ys os->(∀y∈ys,p y=true↔Mx.ax G w w λ c=>n*((y.getD c 0:Nat):Int))->(os.filter λ o=>decide (n.fmod o=0)).length=(ys.filter p).length
 | [],[],_,_=>rfl
 |y::ys,o::os,h,hp=>by
  have ih:=ia.cnt h.2.2 λ z hz=>hp z (RU _ hz);have e:=(hp y R6).trans (h.2.1 n);have e2:n.fmod o=0↔o∣n:=by rw[Vn _ (by have:=h.1;omega)];exact Int.dvd_iff_emod_eq_zero.symm
  by_cases c:o∣n
  . rw[TZ (by simpa using e2.mpr c),TZ (e.mpr c),So,So,ih]
  . rw[US (by simpa using λ z=>c (e2.mp z)),US (λ z=>c (e.mp z)),ih]
def Bj{n:Int}{st:af}{K:List D->af->Prop}(r:List Int)(h:∀x∈r,x≠0)(k:K (au (r.filter λ o=>decide (n.fmod o=0))) st):cO (bz 0) (cA (av mE (av jz (aa 1) (aa 0)) (dC (.int 0)))) (aa 0) (λ _=>True) [none,some (.int n)] (au r) [] st K:=by
 refine fv (λ rest acc st'=>st=st'/\∃r1 r2:List Int,r1++r2=r/\rest=au r2/\acc=au (r1.filter λ o=>decide (n.fmod o=0))) ?_ ?_ _ _ _ ⟨rfl,[],r,rfl,rfl,rfl⟩
 . rintro acc st' ⟨rfl,r1,r2,he,hr,rfl⟩;match r2,hr with
   | [],_=>
     rw[SX]at he;subst he;exact⟨trivial,k⟩
 . rintro d rest acc st' ⟨rfl,r1,r2,he,hr,rfl⟩ next
   match r2,hr with
   |x::r2,hr=>
    rw[au,R0,Ta]at hr;obtain⟨rfl,rfl⟩:=hr;refine⟨trivial,_,rfl,jc (h x (by rw[<-he];simp)) (eq2 (λ h=>gS ?_) λ h=>?_)⟩
    . show cO _ _ _ _ _ _ _ _ _;rw[ints_app];exact next _ _ ⟨rfl,r1++[x],r2,by rw[<-he];simp,rfl,Tu au (by simp[Ue,h])⟩
    . exact next _ _ ⟨rfl,r1++[x],r2,by rw[<-he];simp,rfl,Tu au (by simp[Ue,h])⟩
def CC{n:Nat}:∀l:List Int,(∀x∈l,0<x)->Mx.nO n ((l.filter λ x=>decide (x≠1)).map Int.toNat)=Mx.nO n (l.map Int.toNat)
 | [],_=>rfl
 |x::l,h=>by
  have ih:=CC (n:=n) l λ y hy=>h y (RU _ hy);by_cases e:x=1
  . rw[US (by simp[e]),ih,e];show _=Nat.gcd n (Int.toNat 1)*_;rw[show Int.toNat 1=1 from rfl,Nat.gcd_one_right,Vo]
  . rw[TZ (by simp[e]),R0,R0];show Nat.gcd n _*_=Nat.gcd n _*_;rw[ih]
def GR:∀ {l:List Int} (h:l≠ []),l.getLast h≠1->∃h2:(l.filter λ x=>decide (x≠1))≠ [],(l.filter λ x=>decide (x≠1)).getLast h2=l.getLast h:=λ{l} h h1=>by
 have e:l=l.dropLast++[l.getLast h]:=(List.dropLast_concat_getLast h).symm
 have e2:(l.filter λ x=>decide (x≠1))=(l.dropLast.filter λ x=>decide (x≠1))++[l.getLast h]:=by
  conv=>lhs;rw[e]
  rw[Ue,TZ (by simpa using h1),List.filter_nil]
 have h2:(l.filter λ x=>decide (x≠1))≠ []:=by rw[e2];simp
 refine⟨h2,?_⟩;have:∀(m:List Int) (hm:m≠ []),m=(l.dropLast.filter λ x=>decide (x≠1))++[l.getLast h]->m.getLast hm=l.getLast h:=λ m hm em=>by subst em;simp
 exact this _ h2 e2
def MQ{A:List (List Int)}{N w M:Nat}(hA:Mx.aP N w A)(h:∀r∈A,∀x∈r,x.natAbs<=M):∀i j,i<N->j<w->(Mx.g A i j).natAbs<=M:=λ i j hi hj=>by
 have lA:=hA.len;have lr:=hA.row hi;unfold Mx.g;exact h _ (by rw[Mx.aN (by omega)];exact Tz _) _ (getD_mem (by omega))
def Na{A:List (List Int)}{N w M:Nat}(hA:Mx.aP N w A)(h:∀i j,i<N->j<w->(Mx.g A i j).natAbs<=M):∀r∈A,∀x∈r,x.natAbs<=M:=λ r hr x hx=>by
 obtain⟨i,hi,rfl⟩:=SJ.mp hr;obtain⟨j,hj,rfl⟩:=SJ.mp hx;have:=h i j (by rw[<-hA.len];exact hi) (by rw[<-hA.jH _ hr];exact hj);unfold Mx.g at this;rwa [Mx.aN hi,Mx.aN hj]at this
def Fe{α:Type}{tg:fP}{te:DE}{ok:af->Prop}{σc:bQ}{st:af}{K:List D->af->Prop}(f h:α->D)(xs:List α)(aM:ok st)(hx:∀x∈xs,∀K',K' (h x) st->∃σ2,tg (f x) σc=some σ2/\te σ2 st K')(k:K (xs.map h) st):cO tg cS te ok σc (xs.map f) [] st K:=by
 refine fv (λ rest acc st'=>∃P R,st'=st/\xs=P++R/\rest=R.map f/\acc=P.map h) ?_ ?_ _ _ _ ⟨[],xs,rfl,rfl,rfl,rfl⟩
 . rintro acc st' ⟨P,R,rfl,e,hr,rfl⟩;have:R=[]:=V7.mp hr.symm;subst this;rw[SX]at e;subst e;exact⟨aM,k⟩
 . rintro d rest acc st' ⟨P,R,rfl,e,hr,rfl⟩ next
   cases R with
   |nil=>cases hr
   |cons x R=>
    rw[R0]at hr;simp only[Ta]at hr;obtain⟨rfl,rfl⟩:=hr;obtain⟨σ2,h1,h2⟩:=hx x (by rw[e];simp) (λ y st2=>cO tg cS te ok σc (R.map f) (P.map h++[y]) st2 K) (next (P.map h++[h x]) _ ⟨P++[x],R,rfl,by rw[e];simp,rfl,by simp⟩);exact⟨aM,σ2,h1,h2⟩
def AK{n d:Nat}:∀l:List Nat,Mx.nO n (l++[d])=Mx.nO n l*Nat.gcd n d
 | []=>by show Nat.gcd n d*1=1*Nat.gcd n d;omega
 |x::l=>by
  show Nat.gcd n x*Mx.nO n (l++[d])=Nat.gcd n x*Mx.nO n l*Nat.gcd n d;rw[AK l,Ss]
def EH(y:List Nat)(c:Nat):(y.map λ(i:Nat)=>(i:Int)).getD c 0=((y.getD c 0:Nat):Int):=by
 rw[RI,RI,RP];cases y[c]?<;>rfl
def B9{G:List (List Int)}{w:Nat}(h:∀i,i<w->0<Mx.g G i i):∀n,n<=w->Cw G (λ i=>i) n=((oj ((Mx.f9 G w).take n):Nat):Int)
 |0,_=>rfl
 |n+1,hn=>by
  rw[vw (by rw[Mx.jN];omega),U8,<-B9 h n (by omega),Mx.uB (by omega),TQ (by have:=h n (by omega);omega)];rfl
def Ho{l:List Int}(h:l≠ []):eF (au l) (-1)=some (.int (l.getLast h)):=by
 have h1:0<l.length:=List.length_pos_iff.mpr h;unfold eF;have:=wg (n:=(au l).length) (j:=1) (by decide) (by show 1<=(l.map D.int).length;rw[Rz];omega);rw[show(-((1:Nat):Int))= -1 from rfl]at this;rw[this];show(l.map D.int)[(l.map D.int).length-1]?=_;rw[RP,Rz,RJ (by omega),List.getLast_eq_getElem];rfl
def D0{l:List Int}(h:l≠ [])(all1:l.getLast h=1->∀x∈l,x=1):((l.filter λ x=>decide (x≠1))=[]->l.getLast h=1)/\∀h2,(l.filter λ x=>decide (x≠1)).getLast h2=l.getLast h:=by
 by_cases e:l.getLast h=1
 . refine⟨λ _=>e,λ h2=>absurd ?_ h2⟩;rw[VG];intro x hx;simp[all1 e x hx]
 . obtain⟨h2,h3⟩:=GR h e;exact⟨λ z=>absurd z h2,λ _=>h3⟩
def MS:Ru Ik 1 Pk zx:=by
 rintro ds st K ⟨ns,rfl,hl,hst,k⟩;refine⟨rfl,?_⟩;have t0:st[0]?=some (dR false):=by rw[hst];rfl
 clear hst;have l0:=(RB.mp t0).1;have nz:st.length≠0:=by omega
 refine⟨ns,0,rfl,by omega,hl,λ st1 B1 X1=>?_⟩;refine⟨_,_,rfl,B1,by decide,λ ls w st2 hls w1 w8 pos pn e2 B2 X2=>?_⟩;have n1:=B1.lt;have ne1:st1.length≠st.length:=by omega
 have bl:∀x∈ls,x<=216:=λ x hx=>Td (Mx.z9 pos hx) pn;refine⟨_,_,_,ls,w,rfl,B2,by decide,λ st' X=>aO (X.at e2 ne1),hls,w8,λ x hx=>⟨pos x hx,by have:=bl x hx;omega⟩,λ G st3 lG hU e3 B3 X3=>?_⟩
 have isG:Mx.aP w w G:=⟨lG,λ r hr=>by
  obtain⟨i,hi,rfl⟩:=SJ.mp hr;have:=(hU i (by omega)).len;rwa [Mx.aN hi]at this⟩
 have gG:∀i c,Mx.g G i c=(G.getD i []).getD c 0:=λ _ _=>rfl
 have lsat:∀c,c<w->1<=ls.getD c 0/\ls.getD c 0<=216:=λ c hc=>by
  have hm:ls.getD c 0∈ls:=getD_mem (by omega);exact⟨pos _ hm,bl _ hm⟩
 have dG:∀i,i<w->Mx.g G i i=ls.getD i 0:=λ i hi=>(hU i hi).at';have stG:Mx.bU G w w λ i=>i:=⟨λ i hi=>⟨hi,by rw[dG i hi];have:=lsat i hi;omega,λ c hc=>(hU i hi).lo c hc⟩,λ i j hij _=>hij⟩
 have rdG:Mx.ug G w λ i=>i:=λ i j hij hj=>by
  have:=(hU i (by omega)).up j hij hj;show 0<=Mx.g G i j/\Mx.g G i j<Mx.g G j j;rw[dG j hj];exact this
 have bG:∀i j,i<w->j<w->(Mx.g G i j).natAbs<=216:=λ i j hi hj=>by
  rcases Vg j i with h|h|h
  . rw[gG,(hU i hi).lo j h];decide
  . subst h;rw[dG j hj];have:=lsat j hj;omega
  . rw[gG];have:=(hU i hi).up j h hj;have:=lsat j hj;omega
 refine⟨_,_,_,G,w,w,216,rfl,B3,by decide,⟨_,aO e3,cv.tup⟩,isG,w1,w8,w8,Na isG bG,λ A st4 mx B4 X4=>?_⟩;have sf:Mx.Sf A w w G w λ i=>i:=⟨mx.is,isG,stG,rdG,mx.same.symm,λ i j hi hj=>RH (MQ mx.is mx.bd i j hi hj) (by decide),λ i j hi hj=>RH (bG i j hi hj) (by decide)⟩
 have frm:IQ A w w G w λ i=>i:=⟨mx.is,isG,stG,rdG,sf.sm,Mx.pq mx.is sf.bA,w1,w8,w8⟩
 have t1:st1[0]?=some (dR false):=(X1.same 0 l0).trans t0;have t2:st2[0]?=some (dR false):=(X2.same 0 (RB.mp t1).1 (RK nz)).trans t1;have t3:st3[0]?=some (dR false):=(X3.same 0 (RB.mp t2).1 (RK nz)).trans t2;have t4:st4[0]?=some (dR false):=(X4.same 0 (RB.mp t3).1 (RK nz)).trans t3;refine⟨_,A,w,w,false,rfl,λ _=>dh,mx.is,w1,w1,w8,w8,sf.two w8 w8,t4,λ st5 B L Lb R Rb r dv K5=>⟨_,rfl,?_⟩⟩;have er:w=r:=(Mx.E8 dv.sd ⟨dv.lo,dv.dg,dv.ch⟩ sf.sm stG).symm;subst er;have rg:Mx.Rg A G B L Lb R Rb w w _:=⟨dv.sd,⟨dv.lo,dv.dg,dv.ch⟩,stG,sf.sm⟩
 obtain⟨f5,t5⟩:=K5.tb
 have eb:Mx.f9 G w=ls.map Int.toNat:=List.ext_getElem? λ q=>by
  unfold Mx.f9;rw[RP,RP];by_cases hq:q<w
  . rw[Vq hq,RJ (show q<ls.length by omega)];show some (Mx.g G q q).toNat=some (ls[q]).toNat;rw[dG q hq,Mx.aN (by omega)]
  . rw[Uc (by simpa using hq),Uc (by omega)];rfl
 have hprd:oj (Mx.f9 G w)<=216:=by
  have:=El pos 1;rw[eb];unfold oj;omega
 have posG:∀i,i<w->0<Mx.g G i i:=λ i hi=>(stG.lead i hi).2.1;refine⟨_,A,G,w,w,w,λ i=>i,f5,Mx.f9 G w,rfl,λ _=>dh,frm,t5,rfl,⟨Mx.jN,λ x hx=>?_,λ i hi=>?_⟩,by omega,λ st6 B6=>?_⟩
 . rw[eb]at hx;obtain⟨z,hz,rfl⟩:=Sl.mp hx;have:=pos z hz;have:=bl z hz;omega
 . rw[Mx.uB hi,TQ (by have:=posG i hi;omega)]
 obtain⟨f6,t6⟩:=B6.tb;refine lD ⟨cC (by rw[Rz,x5];omega),?_⟩
 have hPL:Cw G (λ i=>i) w<=216:=by
  rw[B9 posG w (Rv _),TN (by rw[Mx.jN];exact Rv _)];omega
 have Dpos:0<Mx.g B (w-1) (w-1):=dv.lo.pos _ (by omega);rw[Fm,Sn];refine fv (λ rest acc s=>∃(P Rm:List (List Nat)) (os:List Int) (f:Bool),Mx.bx (Mx.f9 G w)=P++Rm/\rest=Rm.map (bL∘λ y=>y.map λ(i:Nat)=>(i:Int))/\acc=au os/\ia G w P os/\(∀o∈os,o<=216)/\s[0]?=some (dR f)) ?_ ?_ _ _ _ ⟨[],_,[],f6,rfl,rfl,rfl,trivial,λ o ho=>(by cases ho),t6⟩;rotate_left
 . rintro d rest acc s ⟨P,Rm,os,f,eP,hr,rfl,hO,hle,ts⟩ next
   cases Rm with
   |nil=>cases hr
   |cons y Rm=>
    rw[R0]at hr;simp only[Ta]at hr;obtain⟨rfl,rfl⟩:=hr;have hy:y∈Mx.bx (Mx.f9 G w):=by rw[eP];simp
    have ly:=(Mx.kE.mp hy).1;rw[Mx.jN]at ly;refine⟨trivial,_,rfl,_,_,A,G,y.map λ(i:Nat)=>(i:Int),w,w,w,λ i=>i,f,rfl,dh,frm,rfl,by rw[Rz];exact ly,λ i q hi=>?_,ts,λ s' d' Bk' ord=>?_⟩
    . by_cases hq:q<w
      . exact Vy (bG i q hi hq) (by decide)
      . rw[gG,RI,Uc (by rw[(hU i hi).len];omega)];decide
    . obtain⟨f',t'⟩:=Bk'.tb;have ec:(λ c=>(y.map λ(i:Nat)=>(i:Int)).getD c 0)=λ c=>((y.getD c 0:Nat):Int):=funext λ c=>EH y c;rw[ec]at ord;cases ord with
      |int o h0 hP h=>
       show cO _ _ _ _ _ _ _ _ _;rw[ints_app];refine next _ _ ⟨P++[y],Rm,os++[o],f',by rw[eP];simp,rfl,rfl,ia.snoc h0 h hO,λ o' ho'=>?_,t'⟩
       rcases SH.mp ho' with h1|h1
       . exact hle o' h1
       . rw[TR.mp h1];omega
      |aB h=>exact absurd (rg.top w1 _) (h _ (Ul Dpos))
 rintro acc s7 ⟨P,Rm,os,f7,eP,hr,rfl,hO,hle,t7⟩;refine⟨trivial,?_⟩;have eRm:Rm=[]:=V7.mp hr.symm;subst eRm;rw[SX]at eP;subst eP;have o0:∀o∈os,0<o:=ia.all (P:=λ o=>0<o) (λ o y h _=>h) hO
 have lo:os.length<=1000:=by
  have key:∀ {ys:List (List Nat)} {os:List Int},ia G w ys os->os.length=ys.length:=λ{ys}=>by
   induction ys with
   |nil=>intro os h;cases os with
    |nil=>rfl
    |cons _ _=>exact h.elim
   |cons y ys ih=>intro os h;cases os with
    |nil=>exact h.elim
    |cons o os=>rw[So,So,ih h.2.2]
  have h1:=key hO;have h2:=x5 (Mx.f9 G w);rw[Fm,Rz]at h2;omega
 have hD:Mx.g B (w-1) (w-1)∈os:=by
  obtain⟨y,hy,hm⟩:=rg.one w1;obtain⟨o,ho,op,h⟩:=ia.mem hO hy;have e:o=Mx.g B (w-1) (w-1):=UO (by omega) (by omega) ((h _).mp ((hm _).mpr (TF _))) ((hm _).mp ((h _).mpr (TF _)));rw[<-e];exact ho
 have D216:=hle _ hD
 have Dall:∀o∈os,(Mx.g B (w-1) (w-1)).fmod o=0:=ia.all (P:=λ o=>(Mx.g B (w-1) (w-1)).fmod o=0) (λ o y h0 h=>by
  rw[Vn _ (by omega)];exact Int.emod_eq_zero_of_dvd ((h _).mp (rg.top w1 _))) hO
 have dne:dg B w≠ []:=λ z=>by have:=sZ (B:=B) (r:=w);rw[z]at this;simp at this;omega
 have dlast:(dg B w).getLast dne=Mx.g B (w-1) (w-1):=by
  have e:(dg B w).getLast?=some (Mx.g B (w-1) (w-1)):=by
   rw[List.getLast?_eq_getElem?,sZ];unfold dg;rw[RP,Vq (by omega)];rfl
  rw[List.getLast?_eq_some_getLast dne]at e;exact SS e
 have dpos:∀x∈dg B w,0<x/\x∣Mx.g B (w-1) (w-1):=λ x hx=>by
  unfold dg at hx;obtain⟨q,hq,rfl⟩:=Sl.mp hx;have hq:=TC.mp hq;refine⟨dv.lo.pos q hq,?_⟩;by_cases e:q=w-1
  . rw[e];exact TF _
  . exact dv.ch q (w-1) (by omega) (by omega)
 have kl:=D0 dne λ e x hx=>by
  obtain⟨h1,h2⟩:=dpos x hx;rw[dlast]at e;rw[e]at h2;have:=VI (by decide) h2;omega
 rw[dlast]at kl;dsimp only;refine mP (λ σ' s=>∃dr:D,s=s7/\σ'=[some (.lst (ns.map .int)),some (.ref st.length),some (.ref st2.length),some (aJ A),some (bL ((dg B w).filter λ x=>decide (x≠1))),some (.int ((w:Int)-(w:Int))),some dr,some (.lst (au os)),some (.int (Mx.g B (w-1) (w-1))),none,none,none]) (λ nx hnx=>?_) ?_
 . refine df rfl ?_;rw[Rz];refine ES (λ h=>gS ?_) λ h=>lS ?_
   . have h2:((dg B w).filter λ x=>decide (x≠1))≠ []:=λ z=>by rw[z]at h;simp at h
     refine jU (aR rfl (Ho h2) ?_);rw[kl.2 h2];exact hnx _ _ ⟨_,rfl,rfl⟩
   . have h2:((dg B w).filter λ x=>decide (x≠1))=[]:=Tj.mp (by omega);have e1:=kl.1 h2;refine hnx _ _ ⟨.tup ((Mx.bx (Mx.f9 G w)).map (bL∘λ y=>y.map λ(i:Nat)=>(i:Int))),rfl,?_⟩;rw[e1];rfl
 rintro σ' s8 ⟨dr,e8,rfl⟩;clear e8;refine NI (by omega) (lS ?_);refine MO (ints_map os) (lS ?_);refine lh ⟨cC (by rw[Rz];omega),?_⟩;refine Fe D.int (λ _=>D.bl false) os trivial (λ o ho K' z=>⟨_,rfl,jc (by have:=o0 o ho;omega) (NI (Dall o ho) z)⟩) ?_
 have hbo:iM (os.map λ _=>D.bl false)=some (os.map λ _=>false):=by
  have key:∀l:List Int,iM (l.map λ _=>D.bl false)=some (l.map λ _=>false):=λ l=>by
   induction l with
   |nil=>rfl
   |cons x l ih=>rw[R0,R0];unfold iM;rw[ih];rfl
  exact key os
 refine Me hbo ?_;have han:(os.map λ _=>false).any id=false:=by simp
 rw[han];refine lS ?_;refine ED (ints_map os) ?_;have hin:os.any (· ==Mx.g B (w-1) (w-1))=true:=List.any_eq_true.mpr ⟨_,hD,by simp⟩;rw[hin];refine lS ?_;unfold ix;dsimp only;refine iz (uR ⟨by omega,by omega,by omega,by omega⟩ ⟨cC (by rw[i6];omega),?_⟩)
 have erg:cY 1 (Mx.g B (w-1) (w-1)+1-1).toNat=au ((List.range (Mx.g B (w-1) (w-1)).toNat).map λ(i:Nat)=>1+(i:Int)):=by
  rw[show Mx.g B (w-1) (w-1)+1-1=Mx.g B (w-1) (w-1) by omega];unfold cY au;rw[Sn];rfl
 rw[erg]
 have hr1:∀x∈(List.range (Mx.g B (w-1) (w-1)).toNat).map λ(i:Nat)=>1+(i:Int),1<=x/\x<=216:=λ x hx=>by
  obtain⟨i,hi,rfl⟩:=Sl.mp hx;have:=TC.mp hi;omega
 refine Bj _ (λ x hx=>by have:=hr1 x hx;omega) ?_;have hnl:=λ x (hx:x∈((List.range (Mx.g B (w-1) (w-1)).toNat).map λ(i:Nat)=>1+(i:Int)).filter λ o=>decide ((Mx.g B (w-1) (w-1)).fmod o=0))=>hr1 x (Tp.mp hx).1;generalize((List.range (Mx.g B (w-1) (w-1)).toNat).map λ(i:Nat)=>1+(i:Int)).filter (λ o=>decide ((Mx.g B (w-1) (w-1)).fmod o=0))=nl at hnl⊢;refine lh ?_;have kpos:∀x∈(dg B w).filter λ x=>decide (x≠1),0<x:=λ x hx=>(dpos x (Tp.mp hx).1).1
 have ekn:∀n:Nat,Mx.nO n (Mx.f9 B w)=Mx.nO n (((dg B w).filter λ x=>decide (x≠1)).map Int.toNat):=λ n=>by
  rw[CC _ λ x hx=>(dpos x hx).1];unfold dg Mx.f9;rw[Sn];rfl
 generalize(dg B w).filter (λ x=>decide (x≠1))=kd at kpos ekn⊢;refine fT (λ rest σ s=>∃(rr:List Int) (v9 v10 v11:Option D),rest=au rr/\(∀x∈rr,1<=x/\x<=216)/\σ=[some (.lst (ns.map .int)),some (.ref st.length),some (.ref st2.length),some (aJ A),some (bL kd),some (.int ((w:Int)-(w:Int))),some dr,some (.lst (au os)),some (.int (Mx.g B (w-1) (w-1))),v9,v10,v11]) ?_ ?_ _ _ _ ⟨nl,none,none,none,rfl,hnl,rfl⟩
 . rintro σ s ⟨_,v9,v10,v11,_,_,rfl⟩;exact⟨trivial,k s⟩
 . rintro d rest σ s ⟨rr,v9,v10,v11,hrr,hb,rfl⟩ next
   cases rr with
   |nil=>cases hrr
   |cons n rr=>
    rw[au,R0,Ta]at hrr;obtain⟨rfl,rfl⟩:=hrr;obtain⟨b1,b2⟩:=hb n R6;refine⟨trivial,_,rfl,?_⟩;refine lD ?_;refine fT (λ rest σ s'=>s'=s/\∃(l1 l2:List Int) (v11:Option D),kd=l1++l2/\rest=au l2/\σ=[some (.lst (ns.map .int)),some (.ref st.length),some (.ref st2.length),some (aJ A),some (bL kd),some (.int ((w:Int)-(w:Int))),some dr,some (.lst (au os)),some (.int (Mx.g B (w-1) (w-1))),some (.int n),some (.int ((Mx.nO n.toNat (l1.map Int.toNat):Nat):Int)),v11]) ?_ ?_ _ _ _ ⟨rfl,[],kd,v11,rfl,rfl,rfl⟩
    . rintro σ s' ⟨rfl,l1,l2,v11,e12,hr2,rfl⟩;have:l2=[]:=V7.mp hr2.symm;subst this;rw[SX]at e12;subst e12;refine⟨trivial,?_⟩;refine lh ⟨cC (by rw[Rz];omega),?_⟩;refine Bj os (λ x hx=>by have:=o0 x hx;omega) ?_;refine df rfl ?_;rw[Rz]
      have e:(((os.filter λ o=>decide (n.fmod o=0)).length:Nat):Int)=((Mx.nO n.toNat (kd.map Int.toNat):Nat):Int):=by
       have hc:=ia.cnt (n:=n) (p:=λ y=> @decide (Mx.ax G w w λ c=>n*((y.getD c 0:Nat):Int)) (Classical.propDecidable _)) hO λ y _=>by simp
       rw[hc,<-ekn,<-rg.count (n:=n.toNat) (by omega) (p:=λ y=> @decide (Mx.ax G w w λ c=>n*((y.getD c 0:Nat):Int)) (Classical.propDecidable _)) λ y _=>by
        rw[TQ (show 0<=n by omega)];simp]
      refine ne2 (λ h=>absurd e h) λ h=>?_;exact next _ _ ⟨rr,_,_,_,rfl,λ x hx=>hb x (RU _ hx),rfl⟩
    . rintro d2 rest2 σ s' ⟨rfl,l1,l2,v11,e12,hr2,rfl⟩ next2;cases l2 with
      |nil=>cases hr2
      |cons x l2=>
       rw[au,R0,Ta]at hr2;obtain⟨rfl,rfl⟩:=hr2;have hx:=kpos x (by rw[e12];simp);refine⟨trivial,_,rfl,⟨n,x,rfl,?_⟩⟩;have hg:Nat.gcd n.natAbs x.natAbs<=n.natAbs:=Xe (by omega) (UP _ _);refine gh (lg (by omega) (by omega)) ?_;refine next2 _ _ ⟨rfl,l1++[x],l2,some (.int x),by rw[e12];simp,rfl,?_⟩
       have e1:((Mx.nO n.toNat (l1.map Int.toNat):Nat):Int)*((Nat.gcd n.natAbs x.natAbs:Nat):Int)=((Mx.nO n.toNat ((l1++[x]).map Int.toNat):Nat):Int):=by
        rw[Um,show [x].map Int.toNat=[x.toNat]from rfl,AK,U8,show n.natAbs=n.toNat by omega,show x.natAbs=x.toNat by omega]
       rw[e1];rfl
end Prog
namespace Row
open PySem L2 L3 Prog
open PySem.Spec hiding items?
open PyProof.Rows hiding St
def Jt{X:Cx}{x:Str}{i:Int}{t:Tok}{pos:Pos}(hm:X.mg x=some (.int i t))(hd:(x==("__debug__":Str))=false)(hg:Gl X x):JE X (.Name x pos) (dC (.int i)):=by
 unfold JE;exact PE.imp (JR hg hm (v:= .int i) ⟨t,rfl⟩ hd) λ σ H Q ⟨α,σd,st,K,G,F,P,R,S,t,k⟩=>k.here P t S (by unfold Rep;rfl)
def eS:(("tuple":Str))≠"__name__":=by decide+kernel
def de:(("len":Str))≠"__name__":=by decide+kernel
def mJ:(("list":Str))≠"__name__":=by decide+kernel
def t9:(("abs":Str))≠"__name__":=by decide+kernel
def MR:(("all":Str))≠"__name__":=by decide+kernel
def Eu:(("min":Str))≠"__name__":=by decide+kernel
def MZ:(("int":Str))≠"__name__":=by decide+kernel
def Nx:(("max":Str))≠"__name__":=by decide+kernel
def Nr:(("any":Str))≠"__name__":=by decide+kernel
structure Bl(mg:Str->Option Value):Prop where
 fO:mg "tuple"=none
 Dh:mg "zip"=none
 eD:mg "len"=none
 fu:mg "range"=none
 m_:mg "enumerate"=none
 ph:mg "list"=none
 xh:mg "abs"=none
 Hg:mg "sorted"=none
 Oo:mg "all"=none
 Iy:mg "min"=none
 Pg:mg "int"=none
 OD:mg "max"=none
 Pc:mg "any"=none
structure Kl(K:PySem.W.Frag)(mg:Str->Option Value):Prop where
 a_:ClsAt K mg "Bench" az
 aS:ClsAt K mg "Sides" aH
 cq:d_ K az "body"
 fg:d_ K az "turn"
 cy:d_ K az "back_columns"
 oZ:d_ K aH "many"
 fL:d_ K aH "wide"
 c_:d_ K aH "body"
 mi:d_ K aH "left"
 ir:d_ K aH "left_back"
 kO:d_ K aH "right"
 hW:d_ K aH "right_back"
structure Zl(mg:Str->Option Value):Prop where
 Bi:mg "MOST_RESTS"=some (.int (300) 540)
def tS:VS (ai jP) pJ ["tuple"]:=⟨by decide+kernel⟩
def Df:aX pJ ["rows"] (ai jP):=⟨rfl,rfl,rfl,by decide+kernel,rfl,by decide+kernel,by decide+kernel⟩
def x6:VS (ai mX) uy ["zip"]:=⟨by decide+kernel⟩
def HS:aX uy ["row","times","other"] (ai mX):=⟨rfl,rfl,rfl,by decide+kernel,rfl,by decide+kernel,by decide+kernel⟩
def eV:VS (ai mI) rh ["zip","added","tuple"]:=⟨by decide+kernel⟩
def pP:aX rh ["weights","rows","wide"] (ai mI):=⟨rfl,rfl,rfl,by decide+kernel,rfl,by decide+kernel,by decide+kernel⟩
def jQ:VS (ai jL) pM ["len","tuple"]:=⟨by decide+kernel⟩
def xt:aX pM ["one","other"] (ai jL):=⟨rfl,rfl,rfl,by decide+kernel,rfl,by decide+kernel,by decide+kernel⟩
def vD:VS (ai kX) sj ["tuple"]:=⟨by decide+kernel⟩
def Ga:aX sj ["rows","place"] (ai kX):=⟨rfl,rfl,rfl,by decide+kernel,rfl,by decide+kernel,by decide+kernel⟩
def kJ:VS (ai f_) kR ["range","tuple"]:=⟨by decide+kernel⟩
def xU:aX kR ["rows","wide"] (ai f_):=⟨rfl,rfl,rfl,by decide+kernel,rfl,by decide+kernel,by decide+kernel⟩
def oE:VS (ai iZ) ox ["range","tuple"]:=⟨by decide+kernel⟩
def BB:aX ox ["n","place"] (ai iZ):=⟨rfl,rfl,rfl,by decide+kernel,rfl,by decide+kernel,by decide+kernel⟩
def nt:VS (ai ip) nh ["range","tuple"]:=⟨by decide+kernel⟩
def zE:aX nh ["n"] (ai ip):=⟨rfl,rfl,rfl,by decide+kernel,rfl,by decide+kernel,by decide+kernel⟩
def pR:VS (ai lj) pS ["enumerate"]:=⟨by decide+kernel⟩
def wm:aX pS ["row"] (ai lj):=⟨rfl,rfl,rfl,by decide+kernel,rfl,by decide+kernel,by decide+kernel⟩
def jV:VS (ai eM) gY []:=⟨by decide+kernel⟩
def jv:aX gY ["top","bottom"] (ai eM):=⟨rfl,rfl,rfl,by decide+kernel,rfl,by decide+kernel,by decide+kernel⟩
def dm:VS (ai jn) ny ["list"]:=⟨by decide+kernel⟩
def tx:aX ny ["rows","k","other"] (ai jn):=⟨rfl,rfl,rfl,by decide+kernel,rfl,by decide+kernel,by decide+kernel⟩
def Ec:VS (ai jW) qf []:=⟨by decide+kernel⟩
def CM:aX qf ["row"] (ai jW):=⟨rfl,rfl,rfl,by decide+kernel,rfl,by decide+kernel,by decide+kernel⟩
def bO:VS (ai c9) i7 ["len","unit_rows"]:=⟨by decide+kernel⟩
def u9:aX i7 ["self","rows"] (ai c9):=⟨rfl,rfl,rfl,by decide+kernel,rfl,by decide+kernel,by decide+kernel⟩
def a7:VS (ai iK) lQ ["added"]:=⟨by decide+kernel⟩
def yZ:aX lQ ["self","k","times","other"] (ai iK):=⟨rfl,rfl,rfl,by decide+kernel,rfl,by decide+kernel,by decide+kernel⟩
def bh:VS (ai fz) i5 ["exchanged"]:=⟨by decide+kernel⟩
def uY:aX i5 ["self","k","other"] (ai fz):=⟨rfl,rfl,rfl,by decide+kernel,rfl,by decide+kernel,by decide+kernel⟩
def aU:VS (ai dX) gL ["negated"]:=⟨by decide+kernel⟩
def su:aX gL ["self","k"] (ai dX):=⟨rfl,rfl,rfl,by decide+kernel,rfl,by decide+kernel,by decide+kernel⟩
def dq:VS (ai du) iq ["len","range","sorted"]:=⟨by decide+kernel⟩
def nL:aX iq ["self","top","place"] (ai du):=⟨rfl,rfl,rfl,by decide+kernel,rfl,by decide+kernel,by decide+kernel⟩
def aw:VS (ai gD) kh ["len","nearest_quotient"]:=⟨by decide+kernel⟩
def g7:aX kh ["self","top","place"] (ai gD):=⟨rfl,rfl,rfl,by decide+kernel,rfl,by decide+kernel,by decide+kernel⟩
def bV:VS (ai d6) gM ["range"]:=⟨by decide+kernel⟩
def gn:aX gM ["self","top","place"] (ai d6):=⟨rfl,rfl,rfl,by decide+kernel,rfl,by decide+kernel,by decide+kernel⟩
def ba:VS (ai j9) oq ["Bench","len","range","turned_over","as_rows"]:=⟨by decide+kernel⟩
def jt:aX oq ["rows"] (ai j9):=⟨rfl,rfl,rfl,by decide+kernel,rfl,by decide+kernel,by decide+kernel⟩
def aK:VS (ai fB) jb ["len","unit_rows"]:=⟨by decide+kernel⟩
def u7:aX jb ["self","rows"] (ai fB):=⟨rfl,rfl,rfl,by decide+kernel,rfl,by decide+kernel,by decide+kernel⟩
def bD:VS (ai fi) iy ["product"]:=⟨by decide+kernel⟩
def tT:aX iy ["self","turn","back"] (ai fi):=⟨rfl,rfl,rfl,by decide+kernel,rfl,by decide+kernel,by decide+kernel⟩
def bp:VS (ai eK) g9 ["product"]:=⟨by decide+kernel⟩
def sM:aX g9 ["self","turn","back"] (ai eK):=⟨rfl,rfl,rfl,by decide+kernel,rfl,by decide+kernel,by decide+kernel⟩
def dE:VS (ai eJ) g5 ["standing"]:=⟨by decide+kernel⟩
def mD:aX g5 ["self"] (ai eJ):=⟨rfl,rfl,rfl,by decide+kernel,rfl,by decide+kernel,by decide+kernel⟩
def aY:VS (ai dw) fR ["turned_over","standing"]:=⟨by decide+kernel⟩
def kH:aX fR ["self"] (ai dw):=⟨rfl,rfl,rfl,by decide+kernel,rfl,by decide+kernel,by decide+kernel⟩
def gW:VS (ai fW) kM ["enumerate","all"]:=⟨by decide+kernel⟩
def qK:aX kM ["rows"] (ai fW):=⟨rfl,rfl,rfl,by decide+kernel,rfl,by decide+kernel,by decide+kernel⟩
def fw:VS (ai gB) j4 ["is_diagonal"]:=⟨by decide+kernel⟩
def wB:aX j4 ["self"] (ai gB):=⟨rfl,rfl,rfl,by decide+kernel,rfl,by decide+kernel,by decide+kernel⟩
def cN:VS (ai e_) jC ["unit_rows","as_rows"]:=⟨by decide+kernel⟩
def pd:aX jC ["n","k","place","number"] (ai e_):=⟨rfl,rfl,rfl,by decide+kernel,rfl,by decide+kernel,by decide+kernel⟩
def cV:VS (ai gX) kQ ["unit_rows_but"]:=⟨by decide+kernel⟩
def yd:aX kQ ["self","k","other"] (ai gX):=⟨rfl,rfl,rfl,by decide+kernel,rfl,by decide+kernel,by decide+kernel⟩
def cW:VS (ai gE) mf ["len","min","range","tuple"]:=⟨by decide+kernel⟩
def sD:aX mf ["body"] (ai gE):=⟨rfl,rfl,rfl,by decide+kernel,rfl,by decide+kernel,by decide+kernel⟩
def a9:VS (ai j8) oy ["Sides","numbers_of","len","range"]:=⟨by decide+kernel⟩
def kF:aX oy ["rows"] (ai j8):=⟨rfl,rfl,rfl,by decide+kernel,rfl,by decide+kernel,by decide+kernel⟩
def dD:VS (ai mS) rl ["abs"]:=⟨by decide+kernel⟩
def lu:aX rl ["one","other"] (ai mS):=⟨rfl,rfl,rfl,by decide+kernel,rfl,by decide+kernel,by decide+kernel⟩
def tf:VS (ai lE) qc ["standing"]:=⟨by decide+kernel⟩
def Dk:aX qc ["rows"] (ai lE):=⟨rfl,rfl,rfl,by decide+kernel,rfl,by decide+kernel,by decide+kernel⟩
def bZ:VS (ai eG) iW ["dividing","len","tuple"]:=⟨by decide+kernel⟩
def og:aX iW ["rows"] (ai eG):=⟨rfl,rfl,rfl,by decide+kernel,rfl,by decide+kernel,by decide+kernel⟩
def fV:VS (ai eW) jB ["range"]:=⟨by decide+kernel⟩
def k6:aX jB ["rows","bound"] (ai eW):=⟨rfl,rfl,rfl,by decide+kernel,rfl,by decide+kernel,by decide+kernel⟩
def a5:VS (ai ij) ni ["form_of","len","enumerate","MOST_RESTS","longer_by_one","tuple"]:=⟨by decide+kernel⟩
def eR:aX ni ["rows"] (ai ij):=⟨rfl,rfl,rfl,by decide+kernel,rfl,by decide+kernel,by decide+kernel⟩
def aG:VS (ai gI) mw ["list","form_of","lead_of","common","added"]:=⟨by decide+kernel⟩
def eE:aX mw ["rows","row"] (ai gI):=⟨rfl,rfl,rfl,by decide+kernel,rfl,by decide+kernel,by decide+kernel⟩
def cw:VS (ai iQ) md ["len","int"]:=⟨by decide+kernel⟩
def nW:aX md ["_law_script","_law_k"] (ai iQ):=⟨rfl,rfl,rfl,by decide+kernel,rfl,by decide+kernel,by decide+kernel⟩
def cx:VS (ai kg) oH []:=⟨by decide+kernel⟩
def nu:aX oH ["_law_source_here","_law_many"] (ai kg):=⟨rfl,rfl,rfl,by decide+kernel,rfl,by decide+kernel,by decide+kernel⟩
def dA:VS (ai d7) mj ["abs"]:=⟨by decide+kernel⟩
def oa:aX mj ["_law_one","_law_other"] (ai d7):=⟨rfl,rfl,rfl,by decide+kernel,rfl,by decide+kernel,by decide+kernel⟩
def aq:VS (ai eh) mh ["_law_take","range","len","zip","tuple"]:=⟨by decide+kernel⟩
def fX:aX mh ["_law_source_here","_law_rows"] (ai eh):=⟨rfl,rfl,rfl,by decide+kernel,rfl,by decide+kernel,by decide+kernel⟩
def bI:VS (ai j5) oF ["len","range","_law_take","tuple"]:=⟨by decide+kernel⟩
def kD:aX oF ["_law_source_here","_law_leads_here"] (ai j5):=⟨rfl,rfl,rfl,by decide+kernel,rfl,by decide+kernel,by decide+kernel⟩
def aI:VS (ai js) nj ["_law_take","range","max","min"]:=⟨by decide+kernel⟩
def d8:aX nj ["_law_source_here","_law_most"] (ai js):=⟨rfl,rfl,rfl,by decide+kernel,rfl,by decide+kernel,by decide+kernel⟩
def bJ:VS (ai kK) zx ["_law_source","_law_leads","_law_form","_law_turned","kinds_of_rests","all_rests","len","any","range","_law_common"]:=⟨by decide+kernel⟩
def ji:aX zx ["_law_script"] (ai kK):=⟨rfl,rfl,rfl,by decide+kernel,rfl,by decide+kernel,by decide+kernel⟩
structure Ev(w:World)(mg:Str->Option Value)(h:Heap):Prop where
 X:(KX w.params).In h
 G:h.Ns mainGlobals mg
section
variable {w:World}{mg:Str->Option Value}{h base:Heap}(e:Ev w mg h)
include e
theorem Bt:Bl mg:=⟨SO e.X e.G (by kernel_rfl),SO e.X e.G (by kernel_rfl),SO e.X e.G (by kernel_rfl),SO e.X e.G (by kernel_rfl),SO e.X e.G (by kernel_rfl),SO e.X e.G (by kernel_rfl),SO e.X e.G (by kernel_rfl),SO e.X e.G (by kernel_rfl),SO e.X e.G (by kernel_rfl),SO e.X e.G (by kernel_rfl),SO e.X e.G (by kernel_rfl),SO e.X e.G (by kernel_rfl),SO e.X e.G (by kernel_rfl)⟩
theorem Qt:Kl (KX w.params) mg:=⟨⟨⟨by kernel_rfl,by kernel_rfl,by kernel_rfl,by kernel_rfl⟩,Wo e.X e.G (by kernel_rfl),by kernel_rfl,by kernel_rfl⟩,⟨⟨by kernel_rfl,by kernel_rfl,by kernel_rfl,by kernel_rfl⟩,Wo e.X e.G (by kernel_rfl),by kernel_rfl,by kernel_rfl⟩,Hd.na (by kernel_rfl),Hd.na (by kernel_rfl),Hd.na (by kernel_rfl),Hd.na (by kernel_rfl),Hd.na (by kernel_rfl),Hd.na (by kernel_rfl),Hd.na (by kernel_rfl),Hd.na (by kernel_rfl),Hd.na (by kernel_rfl),Hd.na (by kernel_rfl)⟩
theorem Zt:Zl mg:=⟨Wo e.X e.G (by kernel_rfl)⟩
theorem p9:cD (KX w.params) mg "as_rows" "as_rows" jP ["rows"] 19 (Hd.fd jP "as_rows" "as_rows" jF 18):=Hd.sE e.X e.G (by kernel_rfl) λ _ _ _ _ _ _ _=>rfl
theorem tK:bE PW w (KX w.params) mg base cM 1 19 (Hd.fd jP "as_rows" "as_rows" jF 18) ["rows"] (cP nM):=by
 have B:=Bt e;have Q:=Qt e;have Z:=Zt e;exact cj (N:=pJ) (p9 e).fn Df (λ cdv A outer s H E hr=>(aD (bN (gQ fQ (ab (fk (Nc:=["row"]) (bH.look (ai jP) ["rows"] (by decide+kernel)) (eX (tS.nm 0)) (λ _ _ _ _=>(dc (show(["row"]:List Str).Nodup by decide+kernel))) (λ _ _ _ _=>cZ) (λ _ _ _ _=>(gQ fQ (ab cK aj) B.fO rfl eS (by decide+kernel) rfl)) cB) aj) B.fO rfl eS (tS.d 0) (tS.g 0))))) De
theorem oK:cD (KX w.params) mg "added" "added" mX ["row","times","other"] 24 (Hd.fd mX "added" "added" jF 23):=Hd.Mw e.X e.G (by kernel_rfl) λ _ _ _ _ _ _ _ _ _=>rfl
theorem qJ:bE PW w (KX w.params) mg base cM 1 24 (Hd.fd mX "added" "added" jF 23) ["row","times","other"] (cP mY):=by
 have B:=Bt e;have Q:=Qt e;have Z:=Zt e;exact cj (N:=uy) (oK e).fn HS (λ cdv A outer s H E hr=>(aD (bN (fk (Nc:=["one","two","times"]) (bH.look (ai mX) ["row","times","other"] (by decide+kernel)) (Dj (x6.g 0) B.Dh (ab (x6.nm 0) (ab (x6.nm 2) aj))) (λ _ _ _ _=>(pN rfl (show(["one","two","times"]:List Str).Nodup by decide+kernel))) (λ _ _ _ _=>cZ) (λ _ _ _ _=>(bW jG cK (bW gK cK cK))) uw)))) Hu
theorem zM:cD (KX w.params) mg "sum_by" "sum_by" mI ["weights","rows","wide"] 31 (Hd.fd mI "sum_by" "sum_by" jF 30):=Hd.Mw e.X e.G (by kernel_rfl) λ _ _ _ _ _ _ _ _ _=>rfl
theorem GI:bE PW w (KX w.params) mg base cM 2 31 (Hd.fd mI "sum_by" "sum_by" jF 30) ["weights","rows","wide"] (cP vG):=by
 have B:=Bt e;have Q:=Qt e;have Z:=Zt e
 exact cj (N:=rh) (zM e).fn pP (λ cdv A outer s H E hr=>(ak (aW pP.nd (eV.l 3) (bW gK (uz (ab aE aj)) (eV.nm 2)))
  (ak (fm (Dj (eV.g 0) B.Dh (ab (eV.nm 0) (ab (eV.nm 1) aj))) (pN rfl pP.nd) (aD (aW pP.nd (eV.l 3) (br (oK e) (qJ e) (hr.mono (by decide)) (ab (eV.nm 3) (ab (eV.nm 4) (ab (eV.nm 5) aj))) (eV.d 1) (eV.g 1)))))
  (aD (bN (gQ fQ (ab (eV.nm 3) aj) B.fO rfl eS (eV.d 2) (eV.g 2))))))) EX
theorem jS:cD (KX w.params) mg "product" "product" jL ["one","other"] 36 (Hd.fd jL "product" "product" jF 35):=Hd.p_ e.X e.G (by kernel_rfl) λ _ _ _ _ _ _ _ _=>rfl
theorem lI:bE PW w (KX w.params) mg base cM 3 36 (Hd.fd jL "product" "product" jF 35) ["one","other"] (cP iV):=by
 have B:=Bt e;have Q:=Qt e;have Z:=Zt e
 exact cj (N:=pM) (jS e).fn xt (λ cdv A outer s H E hr=>(ak (aW xt.nd (jQ.l 2) (dF eA (ab (bj (jQ.nm 1) aE) aj) B.eD rfl de (jQ.d 0) (jQ.g 0)))
  (aD (bN (gQ fQ (ab (fk (Nc:=["weights","other","wide"]) (bH.look (ai jL) ["one","other","wide"] (by decide+kernel)) (eX (jQ.nm 0)) (λ _ _ _ _=>(dc (show(["weights","other","wide"]:List Str).Nodup by decide+kernel))) (λ _ _ _ _=>cZ) (λ _ _ _ _=>(br (zM e) (GI e) (hr.mono (by decide)) (ab cK (ab cK (ab cK aj))) (by decide+kernel) rfl)) cB) aj) B.fO rfl eS (jQ.d 1) (jQ.g 1)))))) Dm
theorem AF:cD (KX w.params) mg "column" "column" kX ["rows","place"] 41 (Hd.fd kX "column" "column" jF 40):=Hd.p_ e.X e.G (by kernel_rfl) λ _ _ _ _ _ _ _ _=>rfl
theorem HL:bE PW w (KX w.params) mg base cM 1 41 (Hd.fd kX "column" "column" jF 40) ["rows","place"] (cP vQ):=by
 have B:=Bt e;have Q:=Qt e;have Z:=Zt e;exact cj (N:=sj) (AF e).fn Ga (λ cdv A outer s H E hr=>(aD (bN (gQ fQ (ab (fk (Nc:=["row","place"]) (bH.look (ai kX) ["rows","place"] (by decide+kernel)) (eX (vD.nm 0)) (λ _ _ _ _=>(dc (show(["row","place"]:List Str).Nodup by decide+kernel))) (λ _ _ _ _=>cZ) (λ _ _ _ _=>(bj cK cK)) cB) aj) B.fO rfl eS (vD.d 0) (vD.g 0))))) Ew
theorem jd:cD (KX w.params) mg "turned_over" "turned_over" f_ ["rows","wide"] 46 (Hd.fd f_ "turned_over" "turned_over" jF 45):=Hd.p_ e.X e.G (by kernel_rfl) λ _ _ _ _ _ _ _ _=>rfl
theorem kL:bE PW w (KX w.params) mg base cM 2 46 (Hd.fd f_ "turned_over" "turned_over" jF 45) ["rows","wide"] (cP gT):=by
 have B:=Bt e;have Q:=Qt e;have Z:=Zt e;exact cj (N:=kR) (jd e).fn xU (λ cdv A outer s H E hr=>(aD (bN (gQ fQ (ab (fk (Nc:=["place","rows"]) (bH.look (ai f_) ["rows","wide"] (by decide+kernel)) (gF (kJ.g 0) B.fu (ab (kJ.nm 1) aj)) (λ _ _ _ _=>(dc (show(["place","rows"]:List Str).Nodup by decide+kernel))) (λ _ _ _ _=>cZ) (λ _ _ _ _=>(br (AF e) (HL e) (hr.mono (by decide)) (ab cK (ab cK aj)) (by decide+kernel) rfl)) cB) aj) B.fO rfl eS (kJ.d 1) (kJ.g 1))))) xS
theorem wq:cD (KX w.params) mg "unit_row" "unit_row" iZ ["n","place"] 51 (Hd.fd iZ "unit_row" "unit_row" jF 50):=Hd.p_ e.X e.G (by kernel_rfl) λ _ _ _ _ _ _ _ _=>rfl
theorem D1:bE PW w (KX w.params) mg base cM 1 51 (Hd.fd iZ "unit_row" "unit_row" jF 50) ["n","place"] (cP r_):=by
 have B:=Bt e;have Q:=Qt e;have Z:=Zt e;exact cj (N:=ox) (wq e).fn BB (λ cdv A outer s H E hr=>(aD (bN (gQ fQ (ab (fk (Nc:=["k","place"]) (bH.look (ai iZ) ["n","place"] (by decide+kernel)) (gF (oE.g 0) B.fu (ab (oE.nm 0) aj)) (λ _ _ _ _=>(dc (show(["k","place"]:List Str).Nodup by decide+kernel))) (λ _ _ _ _=>cZ) (λ _ _ _ _=>(Dt (cX (q_ hr) (cH _) cK cK) aE aE)) cB) aj) B.fO rfl eS (oE.d 1) (oE.g 1))))) BP
theorem gu:cD (KX w.params) mg "unit_rows" "unit_rows" ip ["n"] 56 (Hd.fd ip "unit_rows" "unit_rows" jF 55):=Hd.sE e.X e.G (by kernel_rfl) λ _ _ _ _ _ _ _=>rfl
theorem ie:bE PW w (KX w.params) mg base cM 2 56 (Hd.fd ip "unit_rows" "unit_rows" jF 55) ["n"] (cP fH):=by
 have B:=Bt e;have Q:=Qt e;have Z:=Zt e;exact cj (N:=nh) (gu e).fn zE (λ cdv A outer s H E hr=>(aD (bN (gQ fQ (ab (fk (Nc:=["place","n"]) (bH.look (ai ip) ["n"] (by decide+kernel)) (gF (nt.g 0) B.fu (ab (nt.nm 0) aj)) (λ _ _ _ _=>(dc (show(["place","n"]:List Str).Nodup by decide+kernel))) (λ _ _ _ _=>cZ) (λ _ _ _ _=>(br (wq e) (D1 e) (hr.mono (by decide)) (ab cK (ab cK aj)) (by decide+kernel) rfl)) cB) aj) B.fO rfl eS (nt.d 1) (nt.g 1))))) AI
theorem uc:cD (KX w.params) mg "lead_of" "lead_of" lj ["row"] 63 (Hd.fd lj "lead_of" "lead_of" fD 62):=Hd.sE e.X e.G (by kernel_rfl) λ _ _ _ _ _ _ _=>rfl
theorem yF:bE PW w (KX w.params) mg base cM 1 63 (Hd.fd lj "lead_of" "lead_of" fD 62) ["row"] (cP pL):=by
 have B:=Bt e;have Q:=Qt e;have Z:=Zt e
 exact cj (N:=pS) (uc e).fn wm (λ cdv A outer s H E hr=>(ak (fm (wx (pR.g 0) B.m_ (ab (pR.nm 0) aj)) (pN rfl wm.nd) (aD (i9 (cX rj (cH _) (pR.nm 2) aE) (aD (bN (pR.nm 1))) iH)))
  (aD (bN xj)))) Dx
theorem nS:cD (KX w.params) mg "nearest_quotient" "nearest_quotient" eM ["top","bottom"] 70 (Hd.fd eM "nearest_quotient" "nearest_quotient" fD 69):=Hd.p_ e.X e.G (by kernel_rfl) λ _ _ _ _ _ _ _ _=>rfl
theorem uq:bE PW w (KX w.params) mg base cM 1 70 (Hd.fd eM "nearest_quotient" "nearest_quotient" fD 69) ["top","bottom"] (cP jR):=by
 have B:=Bt e;have Q:=Qt e;have Z:=Zt e;exact cj (N:=gY) (nS e).fn jv (λ cdv A outer s H E hr=>(aD (bN (bW (Ct hr rfl jv.gen jv.co) (bW jG (bW gK aE (jV.nm 0)) (jV.nm 1)) (bW gK aE (jV.nm 1)))))) sN
theorem m8:cD (KX w.params) mg "exchanged" "exchanged" jn ["rows","k","other"] 77 (Hd.fd jn "exchanged" "exchanged" fD 76):=Hd.Mw e.X e.G (by kernel_rfl) λ _ _ _ _ _ _ _ _ _=>rfl
theorem qj:bE PW w (KX w.params) mg base cM 1 77 (Hd.fd jn "exchanged" "exchanged" fD 76) ["rows","k","other"] (cP kI):=by
 have B:=Bt e;have Q:=Qt e;have Z:=Zt e
 exact cj (N:=ny) (m8 e).fn tx (λ cdv A outer s H E hr=>(ak (aW tx.nd (dm.l 3) (gQ Cd (ab (dm.nm 0) aj) B.ph rfl mJ (dm.d 0) (dm.g 0)))
  (ak (fY (bj (dm.nm 0) (dm.nm 2)) (dm.nm 3) (dm.nm 1))
  (ak (fY (bj (dm.nm 0) (dm.nm 1)) (dm.nm 3) (dm.nm 2))
  (aD (bN (dm.nm 3))))))) A_
theorem qg:cD (KX w.params) mg "negated" "negated" jW ["row"] 82 (Hd.fd jW "negated" "negated" fD 81):=Hd.sE e.X e.G (by kernel_rfl) λ _ _ _ _ _ _ _=>rfl
theorem tG:bE PW w (KX w.params) mg base cM 1 82 (Hd.fd jW "negated" "negated" fD 81) ["row"] (cP nF):=by
 have B:=Bt e;have Q:=Qt e;have Z:=Zt e;exact cj (N:=qf) (qg e).fn CM (λ cdv A outer s H E hr=>(aD (bN (fk (Nc:=["number"]) (bH.look (ai jW) ["row"] (by decide+kernel)) (eX (Ec.nm 0)) (λ _ _ _ _=>(dc (show(["number"]:List Str).Nodup by decide+kernel))) (λ _ _ _ _=>cZ) (λ _ _ _ _=>(mq cK)) cB)))) DW
theorem i3:MethAt (KX w.params) az "__init__" "Bench.__init__" c9 ["self","rows"] 94 (Hd.fd c9 "__init__" "Bench.__init__" fD 93):=Hd.Li (by kernel_rfl) λ _ _ _ _ _ _ _ _=>rfl
theorem wc:bE PW w (KX w.params) mg base cM 3 94 (Hd.fd c9 "__init__" "Bench.__init__" fD 93) ["self","rows"] (cP kT):=by
 have B:=Bt e;have Q:=Qt e;have Z:=Zt e
 exact cj (N:=i7) (i3 e).fn u9 (λ cdv A outer s H E hr=>(ak (dN Q.a_.cl Q.cq (bO.nm 0) (xC (Nc:=["row"]) (bH.look (ai c9) ["self","rows"] (by decide+kernel)) (eX (bO.nm 1)) (λ _ _ _ _=>(dc (show(["row"]:List Str).Nodup by decide+kernel))) (λ _ _ _ _=>cZ) (λ _ _ _ _=>(gQ tP (ab cK aj) B.ph rfl mJ (by decide+kernel) rfl)) cB))
  (ak (dN Q.a_.cl Q.fg (bO.nm 0) (xC (Nc:=["row"]) (bH.look (ai c9) ["self","rows"] (by decide+kernel)) (eX (br (gu e) (ie e) (hr.mono (by decide)) (ab (dF eA (ab (bO.nm 1) aj) B.eD rfl de (bO.d 0) (bO.g 0)) aj) (bO.d 1) (bO.g 1))) (λ _ _ _ _=>(dc (show(["row"]:List Str).Nodup by decide+kernel))) (λ _ _ _ _=>cZ) (λ _ _ _ _=>(gQ tP (ab cK aj) B.ph rfl mJ (by decide+kernel) rfl)) cB))
  (aD (dN Q.a_.cl Q.cy (bO.nm 0) (xC (Nc:=["row"]) (bH.look (ai c9) ["self","rows"] (by decide+kernel)) (eX (br (gu e) (ie e) (hr.mono (by decide)) (ab (dF eA (ab (bO.nm 1) aj) B.eD rfl de (bO.d 0) (bO.g 0)) aj) (bO.d 1) (bO.g 1))) (λ _ _ _ _=>(dc (show(["row"]:List Str).Nodup by decide+kernel))) (λ _ _ _ _=>cZ) (λ _ _ _ _=>(gQ tP (ab cK aj) B.ph rfl mJ (by decide+kernel) rfl)) cB)))))) u6
theorem jY:MethAt (KX w.params) az "take" "Bench.take" iK ["self","k","times","other"] 101 (Hd.fd iK "take" "Bench.take" fD 100):=Hd.QZ (by kernel_rfl) λ _ _ _ _ _ _ _ _ _ _=>rfl
theorem ur:bE PW w (KX w.params) mg base cM 2 101 (Hd.fd iK "take" "Bench.take" fD 100) ["self","k","times","other"] (cP ma):=by
 have B:=Bt e;have Q:=Qt e;have Z:=Zt e
 exact cj (N:=lQ) (jY e).fn yZ (λ cdv A outer s H E hr=>(ak (fY (br (oK e) (qJ e) (hr.mono (by decide)) (ab (bj (bw Q.a_.cl Q.cq (a7.nm 0)) (a7.nm 1)) (ab (mq (a7.nm 2)) (ab (bj (bw Q.a_.cl Q.cq (a7.nm 0)) (a7.nm 3)) aj))) (a7.d 0) (a7.g 0)) (bw Q.a_.cl Q.cq (a7.nm 0)) (a7.nm 1))
  (ak (fY (br (oK e) (qJ e) (hr.mono (by decide)) (ab (bj (bw Q.a_.cl Q.fg (a7.nm 0)) (a7.nm 1)) (ab (mq (a7.nm 2)) (ab (bj (bw Q.a_.cl Q.fg (a7.nm 0)) (a7.nm 3)) aj))) (a7.d 0) (a7.g 0)) (bw Q.a_.cl Q.fg (a7.nm 0)) (a7.nm 1))
  (aD (fY (br (oK e) (qJ e) (hr.mono (by decide)) (ab (bj (bw Q.a_.cl Q.cy (a7.nm 0)) (a7.nm 3)) (ab (a7.nm 2) (ab (bj (bw Q.a_.cl Q.cy (a7.nm 0)) (a7.nm 1)) aj))) (a7.d 0) (a7.g 0)) (bw Q.a_.cl Q.cy (a7.nm 0)) (a7.nm 3)))))) zg
theorem kY:MethAt (KX w.params) az "exchange" "Bench.exchange" fz ["self","k","other"] 108 (Hd.fd fz "exchange" "Bench.exchange" fD 107):=Hd.Aw (by kernel_rfl) λ _ _ _ _ _ _ _ _ _=>rfl
theorem wd:bE PW w (KX w.params) mg base cM 2 108 (Hd.fd fz "exchange" "Bench.exchange" fD 107) ["self","k","other"] (cP kW):=by
 have B:=Bt e;have Q:=Qt e;have Z:=Zt e
 exact cj (N:=i5) (kY e).fn uY (λ cdv A outer s H E hr=>(ak (dN Q.a_.cl Q.cq (bh.nm 0) (br (m8 e) (qj e) (hr.mono (by decide)) (ab (bw Q.a_.cl Q.cq (bh.nm 0)) (ab (bh.nm 1) (ab (bh.nm 2) aj))) (bh.d 0) (bh.g 0)))
  (ak (dN Q.a_.cl Q.fg (bh.nm 0) (br (m8 e) (qj e) (hr.mono (by decide)) (ab (bw Q.a_.cl Q.fg (bh.nm 0)) (ab (bh.nm 1) (ab (bh.nm 2) aj))) (bh.d 0) (bh.g 0)))
  (aD (dN Q.a_.cl Q.cy (bh.nm 0) (br (m8 e) (qj e) (hr.mono (by decide)) (ab (bw Q.a_.cl Q.cy (bh.nm 0)) (ab (bh.nm 1) (ab (bh.nm 2) aj))) (bh.d 0) (bh.g 0))))))) va
theorem ju:MethAt (KX w.params) az "change_sign" "Bench.change_sign" dX ["self","k"] 115 (Hd.fd dX "change_sign" "Bench.change_sign" fD 114):=Hd.Li (by kernel_rfl) λ _ _ _ _ _ _ _ _=>rfl
theorem sQ:bE PW w (KX w.params) mg base cM 2 115 (Hd.fd dX "change_sign" "Bench.change_sign" fD 114) ["self","k"] (cP jA):=by
 have B:=Bt e;have Q:=Qt e;have Z:=Zt e
 exact cj (N:=gL) (ju e).fn su (λ cdv A outer s H E hr=>(ak (fY (br (qg e) (tG e) (hr.mono (by decide)) (ab (bj (bw Q.a_.cl Q.cq (aU.nm 0)) (aU.nm 1)) aj) (aU.d 0) (aU.g 0)) (bw Q.a_.cl Q.cq (aU.nm 0)) (aU.nm 1))
  (ak (fY (br (qg e) (tG e) (hr.mono (by decide)) (ab (bj (bw Q.a_.cl Q.fg (aU.nm 0)) (aU.nm 1)) aj) (aU.d 0) (aU.g 0)) (bw Q.a_.cl Q.fg (aU.nm 0)) (aU.nm 1))
  (aD (fY (br (qg e) (tG e) (hr.mono (by decide)) (ab (bj (bw Q.a_.cl Q.cy (aU.nm 0)) (aU.nm 1)) aj) (aU.d 0) (aU.g 0)) (bw Q.a_.cl Q.cy (aU.nm 0)) (aU.nm 1)))))) rQ
theorem iu:MethAt (KX w.params) az "live_rows" "Bench.live_rows" du ["self","top","place"] 120 (Hd.fd du "live_rows" "Bench.live_rows" fD 119):=Hd.Aw (by kernel_rfl) λ _ _ _ _ _ _ _ _ _=>rfl
theorem oo:bE PW w (KX w.params) mg base cM 3 120 (Hd.fd du "live_rows" "Bench.live_rows" fD 119) ["self","top","place"] (cP iw):=by
 have B:=Bt e;have Q:=Qt e;have hC:PySem.W.codeHdIn (KX w.params) 119 117=true:=by kernel_rfl
 exact Mq (N:=iq) (Hd.fc (by kernel_rfl)) nL (λ A outer s H E hr=>(ak (uG nL.nd (dq.l 3) (Nc:=["k","self","place"]) (bH.look (ai du) ["self","top","place","live"] (by decide+kernel)) (rp (dq.g 1) B.fu (ab (dq.nm 1) (ab (dF eA (ab (bw Q.a_.cl Q.cq (dq.nm 0)) aj) B.eD rfl de (dq.d 0) (dq.g 0)) aj))) (λ _ _ _ _=>(dc (show(["k","self","place"]:List Str).Nodup by decide+kernel))) (λ _ _ _ _=>(tm (cX rj (cH _) (bj (bj (bw Q.a_.cl Q.cq cK) cK) cK) aE))) (λ _ _ _ _=>cK) cB)
  (aD (bN (J4 (c0:=119) (oG.look (Nc:=["k","self","place"]) (fr:=[none,some 0,some 2]) (p:="k") (bH.look (ai du) ["self","top","place","live"] (by decide+kernel))) rfl hr rfl hC (λ _ _ _ _=>(dF wy (ab (bj (bj (bw Q.a_.cl Q.cq cK) cK) cK) aj) B.xh rfl t9 (by decide+kernel) rfl)) (dq.nm 3) (dq.g 2) B.Hg))))) tO
theorem mH:MethAt (KX w.params) az "gather" "Bench.gather" gD ["self","top","place"] 127 (Hd.fd gD "gather" "Bench.gather" fD 126):=Hd.Aw (by kernel_rfl) λ _ _ _ _ _ _ _ _ _=>rfl
theorem xF:bE PW w (KX w.params) mg base cM 4 127 (Hd.fd gD "gather" "Bench.gather" fD 126) ["self","top","place"] (cP mW):=by
 have B:=Bt e;have Q:=Qt e;have Z:=Zt e
 exact cj (N:=kh) (mH e).fn g7 (λ cdv A outer s H E hr=>(ak (aW g7.nd (aw.l 3) (jh (aw.nm 0) Q.a_.cl (iu e).me (oo e) (hr.mono (by decide)) (iu e).bd (ab (aw.nm 1) (ab (aw.nm 2) aj))))
  (ak (rf (cX yb (cH _) (dF eA (ab (aw.nm 3) aj) B.eD rfl de (aw.d 0) (aw.g 0)) aE) (ak (aW g7.nd (aw.l 4) (bj (aw.nm 3) (mq aE)))
  (ak (aW g7.nd (aw.l 5) (bj (aw.nm 3) (mq aE)))
  (ak (dZ (jh (aw.nm 0) Q.a_.cl (jY e).me (ur e) (hr.mono (by decide)) (jY e).bd (ab (aw.nm 4) (ab (br (nS e) (uq e) (hr.mono (by decide)) (ab (bj (bj (bw Q.a_.cl Q.cq (aw.nm 0)) (aw.nm 4)) (aw.nm 2)) (ab (bj (bj (bw Q.a_.cl Q.cq (aw.nm 0)) (aw.nm 5)) (aw.nm 2)) aj)) (aw.d 1) (aw.g 1)) (ab (aw.nm 5) aj)))))
  (aD (aW g7.nd (aw.l 3) (jh (aw.nm 0) Q.a_.cl (iu e).me (oo e) (hr.mono (by decide)) (iu e).bd (ab (aw.nm 1) (ab (aw.nm 2) aj)))))))))
  (ak (i9 (cX (q_ hr) (cH _) (dF eA (ab (aw.nm 3) aj) B.eD rfl de (aw.d 0) (aw.g 0)) aE) (aD (bN vB)) iH)
  (ak (dZ (jh (aw.nm 0) Q.a_.cl (kY e).me (wd e) (hr.mono (by decide)) (kY e).bd (ab (aw.nm 1) (ab (bj (aw.nm 3) aE) aj))))
  (ak (i9 (cX Mh (cH _) (bj (bj (bw Q.a_.cl Q.cq (aw.nm 0)) (aw.nm 1)) (aw.nm 2)) aE) (aD (dZ (jh (aw.nm 0) Q.a_.cl (ju e).me (sQ e) (hr.mono (by decide)) (ju e).bd (ab (aw.nm 1) aj)))) iH)
  (aD (bN vB)))))))) xg
theorem jw:MethAt (KX w.params) az "lower_above" "Bench.lower_above" d6 ["self","top","place"] 134 (Hd.fd d6 "lower_above" "Bench.lower_above" fD 133):=Hd.Aw (by kernel_rfl) λ _ _ _ _ _ _ _ _ _=>rfl
theorem sW:bE PW w (KX w.params) mg base cM 3 134 (Hd.fd d6 "lower_above" "Bench.lower_above" fD 133) ["self","top","place"] (cP jx):=by
 have B:=Bt e;have Q:=Qt e;have Z:=Zt e;exact cj (N:=gM) (jw e).fn gn (λ cdv A outer s H E hr=>(aD (fm (gF (bV.g 0) B.fu (ab (bV.nm 1) aj)) (dc gn.nd) (aD (dZ (jh (bV.nm 0) Q.a_.cl (jY e).me (ur e) (hr.mono (by decide)) (jY e).bd (ab (bV.nm 3) (ab (bW (Ct hr rfl gn.gen gn.co) (bj (bj (bw Q.a_.cl Q.cq (bV.nm 0)) (bV.nm 3)) (bV.nm 2)) (bj (bj (bw Q.a_.cl Q.cq (bV.nm 0)) (bV.nm 1)) (bV.nm 2))) (ab (bV.nm 1) aj))))))))) rZ
theorem ou:cD (KX w.params) mg "standing" "standing" j9 ["rows"] 148 (Hd.fd j9 "standing" "standing" fD 147):=Hd.sE e.X e.G (by kernel_rfl) λ _ _ _ _ _ _ _=>rfl
theorem rL:bE PW w (KX w.params) mg base cM 5 148 (Hd.fd j9 "standing" "standing" fD 147) ["rows"] (cP lW):=by
 have B:=Bt e;have Q:=Qt e;have Z:=Zt e
 exact cj (N:=oq) (ou e).fn jt (λ cdv A outer s H E hr=>(ak (aW jt.nd (ba.l 1) (Ek ⟨Q.a_.P8,(i3 e).me.at_,(i3 e).me.fn,Q.a_.kp⟩ (wc e) (hr.mono (by decide)) (ba.g 0) Q.a_.mg (i3 e).bd (ab (ba.nm 0) aj) (ba.d 0)))
  (ak (aW jt.nd (ba.l 2) aE)
  (ak (fm (gF (ba.g 2) B.fu (ab (dF eA (ab (bj (ba.nm 0) aE) aj) B.eD rfl de (ba.d 1) (ba.g 1)) aj)) (dc jt.nd) (aD (i9 (wz (jh (ba.nm 1) Q.a_.cl (mH e).me (xF e) (hr.mono (by decide)) (mH e).bd (ab (ba.nm 2) (ab (ba.nm 3) aj)))) (ak (dZ (jh (ba.nm 1) Q.a_.cl (jw e).me (sW e) (hr.mono (by decide)) (jw e).bd (ab (ba.nm 2) (ab (ba.nm 3) aj))))
  (aD (M7 jt.nd (ba.l 2) aE Nq))) iH)))
  (ak (aW jt.nd (ba.l 4) (br (jd e) (kL e) (hr.mono (by decide)) (ab (bw Q.a_.cl Q.cy (ba.nm 1)) (ab (dF eA (ab (ba.nm 0) aj) B.eD rfl de (ba.d 1) (ba.g 1)) aj)) (ba.d 3) (ba.g 3)))
  (aD (bN (uI (ab (br (p9 e) (tK e) (hr.mono (by decide)) (ab (J_ (bw Q.a_.cl Q.cq (ba.nm 1)) Jv (Kh (ba.nm 2))) aj) (ba.d 4) (ba.g 4)) (ab (br (p9 e) (tK e) (hr.mono (by decide)) (ab (bw Q.a_.cl Q.fg (ba.nm 1)) aj) (ba.d 4) (ba.g 4)) (ab (ba.nm 4) aj))))))))))) BF
theorem i_:MethAt (KX w.params) aH "__init__" "Sides.__init__" fB ["self","rows"] 162 (Hd.fd fB "__init__" "Sides.__init__" gf 161):=Hd.Li (by kernel_rfl) λ _ _ _ _ _ _ _ _=>rfl
theorem we:bE PW w (KX w.params) mg base cM 3 162 (Hd.fd fB "__init__" "Sides.__init__" gf 161) ["self","rows"] (cP la):=by
 have B:=Bt e;have Q:=Qt e;have Z:=Zt e
 exact cj (N:=jb) (i_ e).fn u7 (λ cdv A outer s H E hr=>(ak (dN Q.aS.cl Q.oZ (aK.nm 0) (dF eA (ab (aK.nm 1) aj) B.eD rfl de (aK.d 0) (aK.g 0)))
  (ak (dN Q.aS.cl Q.fL (aK.nm 0) (dF eA (ab (bj (aK.nm 1) aE) aj) B.eD rfl de (aK.d 0) (aK.g 0)))
  (ak (dN Q.aS.cl Q.c_ (aK.nm 0) (aK.nm 1))
  (ak (dN Q.aS.cl Q.mi (aK.nm 0) (br (gu e) (ie e) (hr.mono (by decide)) (ab (bw Q.aS.cl Q.oZ (aK.nm 0)) aj) (aK.d 1) (aK.g 1)))
  (ak (dN Q.aS.cl Q.ir (aK.nm 0) (br (gu e) (ie e) (hr.mono (by decide)) (ab (bw Q.aS.cl Q.oZ (aK.nm 0)) aj) (aK.d 1) (aK.g 1)))
  (ak (dN Q.aS.cl Q.kO (aK.nm 0) (br (gu e) (ie e) (hr.mono (by decide)) (ab (bw Q.aS.cl Q.fL (aK.nm 0)) aj) (aK.d 1) (aK.g 1)))
  (aD (dN Q.aS.cl Q.hW (aK.nm 0) (br (gu e) (ie e) (hr.mono (by decide)) (ab (bw Q.aS.cl Q.fL (aK.nm 0)) aj) (aK.d 1) (aK.g 1))))))))))) u0
theorem kq:MethAt (KX w.params) aH "turn_left" "Sides.turn_left" fi ["self","turn","back"] 169 (Hd.fd fi "turn_left" "Sides.turn_left" gf 168):=Hd.Aw (by kernel_rfl) λ _ _ _ _ _ _ _ _ _=>rfl
theorem uZ:bE PW w (KX w.params) mg base cM 4 169 (Hd.fd fi "turn_left" "Sides.turn_left" gf 168) ["self","turn","back"] (cP ku):=by
 have B:=Bt e;have Q:=Qt e;have Z:=Zt e
 exact cj (N:=iy) (kq e).fn tT (λ cdv A outer s H E hr=>(ak (dN Q.aS.cl Q.c_ (bD.nm 0) (br (jS e) (lI e) (hr.mono (by decide)) (ab (bD.nm 1) (ab (bw Q.aS.cl Q.c_ (bD.nm 0)) aj)) (bD.d 0) (bD.g 0)))
  (ak (dN Q.aS.cl Q.mi (bD.nm 0) (br (jS e) (lI e) (hr.mono (by decide)) (ab (bD.nm 1) (ab (bw Q.aS.cl Q.mi (bD.nm 0)) aj)) (bD.d 0) (bD.g 0)))
  (aD (dN Q.aS.cl Q.ir (bD.nm 0) (br (jS e) (lI e) (hr.mono (by decide)) (ab (bw Q.aS.cl Q.ir (bD.nm 0)) (ab (bD.nm 2) aj)) (bD.d 0) (bD.g 0))))))) s_
theorem fK:MethAt (KX w.params) aH "turn_right" "Sides.turn_right" eK ["self","turn","back"] 176 (Hd.fd eK "turn_right" "Sides.turn_right" gf 175):=Hd.Aw (by kernel_rfl) λ _ _ _ _ _ _ _ _ _=>rfl
theorem nA:bE PW w (KX w.params) mg base cM 4 176 (Hd.fd eK "turn_right" "Sides.turn_right" gf 175) ["self","turn","back"] (cP hV):=by
 have B:=Bt e;have Q:=Qt e;have Z:=Zt e
 exact cj (N:=g9) (fK e).fn sM (λ cdv A outer s H E hr=>(ak (dN Q.aS.cl Q.c_ (bp.nm 0) (br (jS e) (lI e) (hr.mono (by decide)) (ab (bw Q.aS.cl Q.c_ (bp.nm 0)) (ab (bp.nm 1) aj)) (bp.d 0) (bp.g 0)))
  (ak (dN Q.aS.cl Q.kO (bp.nm 0) (br (jS e) (lI e) (hr.mono (by decide)) (ab (bw Q.aS.cl Q.kO (bp.nm 0)) (ab (bp.nm 1) aj)) (bp.d 0) (bp.g 0)))
  (aD (dN Q.aS.cl Q.hW (bp.nm 0) (br (jS e) (lI e) (hr.mono (by decide)) (ab (bp.nm 2) (ab (bw Q.aS.cl Q.hW (bp.nm 0)) aj)) (bp.d 0) (bp.g 0))))))) sV
theorem fN:MethAt (KX w.params) aH "stand_rows" "Sides.stand_rows" eJ ["self"] 183 (Hd.fd eJ "stand_rows" "Sides.stand_rows" gf 182):=Hd.NT (by kernel_rfl) λ _ _ _ _ _ _ _=>rfl
theorem nH:bE PW w (KX w.params) mg base cM 6 183 (Hd.fd eJ "stand_rows" "Sides.stand_rows" gf 182) ["self"] (cP g8):=by
 have B:=Bt e;have Q:=Qt e;have Z:=Zt e
 exact cj (N:=g5) (fN e).fn mD (λ cdv A outer s H E hr=>(ak (aW mD.nd (dE.l 1) (br (ou e) (rL e) (hr.mono (by decide)) (ab (bw Q.aS.cl Q.c_ (dE.nm 0)) aj) (dE.d 0) (dE.g 0)))
  (aD (dZ (jh (dE.nm 0) Q.aS.cl (kq e).me (uZ e) (hr.mono (by decide)) (kq e).bd (ab (bj (dE.nm 1) aE) (ab (bj (dE.nm 1) aE) aj))))))) sJ
theorem eN:MethAt (KX w.params) aH "stand_columns" "Sides.stand_columns" dw ["self"] 190 (Hd.fd dw "stand_columns" "Sides.stand_columns" gf 189):=Hd.NT (by kernel_rfl) λ _ _ _ _ _ _ _=>rfl
theorem lO:bE PW w (KX w.params) mg base cM 6 190 (Hd.fd dw "stand_columns" "Sides.stand_columns" gf 189) ["self"] (cP fU):=by
 have B:=Bt e;have Q:=Qt e;have Z:=Zt e
 exact cj (N:=fR) (eN e).fn kH (λ cdv A outer s H E hr=>(ak (aW kH.nd (aY.l 1) (br (ou e) (rL e) (hr.mono (by decide)) (ab (br (jd e) (kL e) (hr.mono (by decide)) (ab (bw Q.aS.cl Q.c_ (aY.nm 0)) (ab (bw Q.aS.cl Q.fL (aY.nm 0)) aj)) (aY.d 0) (aY.g 0)) aj) (aY.d 1) (aY.g 1)))
  (aD (dZ (jh (aY.nm 0) Q.aS.cl (fK e).me (nA e) (hr.mono (by decide)) (fK e).bd (ab (br (jd e) (kL e) (hr.mono (by decide)) (ab (bj (aY.nm 1) aE) (ab (bw Q.aS.cl Q.fL (aY.nm 0)) aj)) (aY.d 0) (aY.g 0)) (ab (br (jd e) (kL e) (hr.mono (by decide)) (ab (bj (aY.nm 1) aE) (ab (bw Q.aS.cl Q.fL (aY.nm 0)) aj)) (aY.d 0) (aY.g 0)) aj))))))) qi
theorem sI:cD (KX w.params) mg "is_diagonal" "is_diagonal" fW ["rows"] 221 (Hd.fd fW "is_diagonal" "is_diagonal" gf 220):=Hd.sE e.X e.G (by kernel_rfl) λ _ _ _ _ _ _ _=>rfl
theorem zd:bE PW w (KX w.params) mg base cM 1 221 (Hd.fd fW "is_diagonal" "is_diagonal" gf 220) ["rows"] (cP nZ):=by
 have B:=Bt e;have Q:=Qt e;have Z:=Zt e
 exact cj (N:=kM) (sI e).fn qK (λ cdv A outer s H E hr=>(ak (fm (wx (gW.g 0) B.m_ (ab (gW.nm 0) aj)) (pN rfl qK.nd) (aD (i9 (Fd (wz (dF (NX rfl) (ab (fk (Nc:=["place","number","k"]) (bH.look (ai fW) ["rows","k","row"] (by decide+kernel)) (wx (gW.g 0) B.m_ (ab (gW.nm 2) aj)) (λ _ _ _ _=>(pN rfl (show(["place","number","k"]:List Str).Nodup by decide+kernel))) (λ _ _ _ _=>cZ) (λ _ _ _ _=>(Qv (zl (q_ hr) (cH _) cK aE) (Ot (zl (q_ hr) (cH _) cK cK)))) uw) aj) B.Oo rfl MR (gW.d 1) (gW.g 1)))) (aD (bN vB)) iH)))
  (aD (bN vB)))) yl
theorem iG:MethAt (KX w.params) aH "settle" "Sides.settle" gB ["self"] 197 (Hd.fd gB "settle" "Sides.settle" gf 196):=Hd.NT (by kernel_rfl) λ _ _ _ _ _ _ _=>rfl
theorem qH:bE PW w (KX w.params) mg base cM 7 197 (Hd.fd gB "settle" "Sides.settle" gf 196) ["self"] (cP kc):=by
 have B:=Bt e;have Q:=Qt e;have Z:=Zt e
 exact cj (N:=j4) (iG e).fn wB (λ cdv A outer s H E hr=>(ak (dZ (oM (fw.nm 0) Q.aS.cl (fN e).me (nH e) (hr.mono (by decide)) (fN e).bd))
  (ak (dZ (oM (fw.nm 0) Q.aS.cl (eN e).me (lO e) (hr.mono (by decide)) (eN e).bd))
  (aD (rf (Fd (wz (br (sI e) (zd e) (hr.mono (by decide)) (ab (bw Q.aS.cl Q.c_ (fw.nm 0)) aj) (fw.d 0) (fw.g 0)))) (ak (dZ (oM (fw.nm 0) Q.aS.cl (fN e).me (nH e) (hr.mono (by decide)) (fN e).bd))
  (aD (dZ (oM (fw.nm 0) Q.aS.cl (eN e).me (lO e) (hr.mono (by decide)) (eN e).bd))))))))) xk
theorem lV:cD (KX w.params) mg "unit_rows_but" "unit_rows_but" e_ ["n","k","place","number"] 216 (Hd.fd e_ "unit_rows_but" "unit_rows_but" gf 215):=Hd.Q5 e.X e.G (by kernel_rfl) λ _ _ _ _ _ _ _ _ _ _=>rfl
theorem pU:bE PW w (KX w.params) mg base cM 3 216 (Hd.fd e_ "unit_rows_but" "unit_rows_but" gf 215) ["n","k","place","number"] (cP jE):=by
 have B:=Bt e;have Q:=Qt e;have Z:=Zt e
 exact cj (N:=jC) (lV e).fn pd (λ cdv A outer s H E hr=>(ak (Ai pd.nd (cN.l 4) (Nc:=["row"]) (bH.look (ai e_) ["n","k","place","number","rows"] (by decide+kernel)) (eX (br (gu e) (ie e) (hr.mono (by decide)) (ab (cN.nm 0) aj) (cN.d 0) (cN.g 0))) (λ _ _ _ _=>(dc (show(["row"]:List Str).Nodup by decide+kernel))) (λ _ _ _ _=>cZ) (λ _ _ _ _=>(gQ Cd (ab cK aj) B.ph rfl mJ (by decide+kernel) rfl)) cB)
  (ak (fY (cN.nm 3) (bj (cN.nm 4) (cN.nm 1)) (cN.nm 2))
  (aD (bN (br (p9 e) (tK e) (hr.mono (by decide)) (ab (cN.nm 4) aj) (cN.d 1) (cN.g 1))))))) vV
theorem nX:MethAt (KX w.params) aH "merge" "Sides.merge" gX ["self","k","other"] 204 (Hd.fd gX "merge" "Sides.merge" gf 203):=Hd.Aw (by kernel_rfl) λ _ _ _ _ _ _ _ _ _=>rfl
theorem zc:bE PW w (KX w.params) mg base cM 8 204 (Hd.fd gX "merge" "Sides.merge" gf 203) ["self","k","other"] (cP n_):=by
 have B:=Bt e;have Q:=Qt e;have Z:=Zt e
 exact cj (N:=kQ) (nX e).fn yd (λ cdv A outer s H E hr=>(ak (dZ (jh (cV.nm 0) Q.aS.cl (fK e).me (nA e) (hr.mono (by decide)) (fK e).bd (ab (br (lV e) (pU e) (hr.mono (by decide)) (ab (bw Q.aS.cl Q.fL (cV.nm 0)) (ab (cV.nm 2) (ab (cV.nm 1) (ab aE aj)))) (cV.d 0) (cV.g 0)) (ab (br (lV e) (pU e) (hr.mono (by decide)) (ab (bw Q.aS.cl Q.fL (cV.nm 0)) (ab (cV.nm 2) (ab (cV.nm 1) (ab (mq aE) aj)))) (cV.d 0) (cV.g 0)) aj))))
  (aD (dZ (oM (cV.nm 0) Q.aS.cl (iG e).me (qH e) (hr.mono (by decide)) (iG e).bd))))) x_
theorem pE:cD (KX w.params) mg "numbers_of" "numbers_of" gE ["body"] 226 (Hd.fd gE "numbers_of" "numbers_of" gf 225):=Hd.sE e.X e.G (by kernel_rfl) λ _ _ _ _ _ _ _=>rfl
theorem ud:bE PW w (KX w.params) mg base cM 1 226 (Hd.fd gE "numbers_of" "numbers_of" gf 225) ["body"] (cP lY):=by
 have B:=Bt e;have Q:=Qt e;have Z:=Zt e
 exact cj (N:=mf) (pE e).fn sD (λ cdv A outer s H E hr=>(ak (aW sD.nd (cW.l 1) (dF (Iw rfl) (ab (dF eA (ab (cW.nm 0) aj) B.eD rfl de (cW.d 0) (cW.g 0)) (ab (dF eA (ab (bj (cW.nm 0) aE) aj) B.eD rfl de (cW.d 0) (cW.g 0)) aj)) B.Iy rfl Eu (cW.d 1) (cW.g 1)))
  (aD (bN (gQ fQ (ab (fk (Nc:=["k","body"]) (bH.look (ai gE) ["body","least"] (by decide+kernel)) (gF (cW.g 2) B.fu (ab (cW.nm 1) aj)) (λ _ _ _ _=>(dc (show(["k","body"]:List Str).Nodup by decide+kernel))) (λ _ _ _ _=>(tm (cX rj (cH _) (bj (bj cK cK) cK) aE))) (λ _ _ _ _=>(bj (bj cK cK) cK)) cB) aj) B.fO rfl eS (cW.d 3) (cW.g 3)))))) za
theorem w4:cD (KX w.params) mg "dividing" "dividing" j8 ["rows"] 233 (Hd.fd j8 "dividing" "dividing" gf 232):=Hd.sE e.X e.G (by kernel_rfl) λ _ _ _ _ _ _ _=>rfl
theorem CU:bE PW w (KX w.params) mg base cM 9 233 (Hd.fd j8 "dividing" "dividing" gf 232) ["rows"] (cP sr):=by
 have B:=Bt e;have Q:=Qt e;have Z:=Zt e
 exact cj (N:=oy) (w4 e).fn kF (λ cdv A outer s H E hr=>(ak (aW kF.nd (a9.l 1) (Ek ⟨Q.aS.P8,(i_ e).me.at_,(i_ e).me.fn,Q.aS.kp⟩ (we e) (hr.mono (by decide)) (a9.g 0) Q.aS.mg (i_ e).bd (ab (a9.nm 0) aj) (a9.d 0)))
  (ak (dZ (oM (a9.nm 1) Q.aS.cl (iG e).me (qH e) (hr.mono (by decide)) (iG e).bd))
  (ak (aW kF.nd (a9.l 2) (dF eA (ab (br (pE e) (ud e) (hr.mono (by decide)) (ab (bw Q.aS.cl Q.c_ (a9.nm 1)) aj) (a9.d 1) (a9.g 1)) aj) B.eD rfl de (a9.d 2) (a9.g 2)))
  (ak (fm (gF (a9.g 3) B.fu (ab (a9.nm 2) aj)) (dc kF.nd) (aD (fm (rp (a9.g 3) B.fu (ab (bW jG (a9.nm 3) aE) (ab (a9.nm 2) aj))) (dc kF.nd) (aD (i9 (cX rj (cH _) (bW kj (bj (bj (bw Q.aS.cl Q.c_ (a9.nm 1)) (a9.nm 4)) (a9.nm 4)) (bj (bj (bw Q.aS.cl Q.c_ (a9.nm 1)) (a9.nm 3)) (a9.nm 3))) aE) (aD (dZ (jh (a9.nm 1) Q.aS.cl (nX e).me (zc e) (hr.mono (by decide)) (nX e).bd (ab (a9.nm 3) (ab (a9.nm 4) aj))))) iH)))))
  (aD (bN (uI (ab (br (pE e) (ud e) (hr.mono (by decide)) (ab (bw Q.aS.cl Q.c_ (a9.nm 1)) aj) (a9.d 1) (a9.g 1)) (ab (bw Q.aS.cl Q.mi (a9.nm 1)) (ab (bw Q.aS.cl Q.ir (a9.nm 1)) (ab (bw Q.aS.cl Q.kO (a9.nm 1)) (ab (bw Q.aS.cl Q.hW (a9.nm 1)) aj))))))))))))) BD
theorem AH:cD (KX w.params) mg "common" "common" mS ["one","other"] 265 (Hd.fd mS "common" "common" MN 264):=Hd.p_ e.X e.G (by kernel_rfl) λ _ _ _ _ _ _ _ _=>rfl
theorem G9:bE PW w (KX w.params) mg base cM 1 265 (Hd.fd mS "common" "common" MN 264) ["one","other"] (cP vF):=by
 have B:=Bt e;have Q:=Qt e;have Z:=Zt e
 exact cj (N:=rl) (AH e).fn lu (λ cdv A outer s H E hr=>(ak (aW lu.nd (dD.l 2) (dF wy (ab (dD.nm 0) aj) B.xh rfl t9 (dD.d 0) (dD.g 0)))
  (ak (aW lu.nd (dD.l 3) (dF wy (ab (dD.nm 1) aj) B.xh rfl t9 (dD.d 0) (dD.g 0)))
  (ak (rf (cX rj (cH _) (dD.nm 3) aE) (ak (aW lu.nd (dD.l 4) (bW kj (dD.nm 2) (dD.nm 3)))
  (ak (aW lu.nd (dD.l 2) (dD.nm 3))
  (aD (aW lu.nd (dD.l 3) (dD.nm 4))))))
  (aD (bN (dD.nm 2))))))) ET
theorem tu:cD (KX w.params) mg "form_of" "form_of" lE ["rows"] 272 (Hd.fd lE "form_of" "form_of" pH 271):=Hd.sE e.X e.G (by kernel_rfl) λ _ _ _ _ _ _ _=>rfl
theorem yn:bE PW w (KX w.params) mg base cM 6 272 (Hd.fd lE "form_of" "form_of" pH 271) ["rows"] (cP p7):=by
 have B:=Bt e;have Q:=Qt e;have Z:=Zt e;exact cj (N:=qc) (tu e).fn Dk (λ cdv A outer s H E hr=>(aD (bN (bj (br (ou e) (rL e) (hr.mono (by decide)) (ab (tf.nm 0) aj) (tf.d 0) (tf.g 0)) aE)))) DQ
theorem pA:cD (KX w.params) mg "kinds_of_rests" "kinds_of_rests" eG ["rows"] 277 (Hd.fd eG "kinds_of_rests" "kinds_of_rests" pH 276):=Hd.sE e.X e.G (by kernel_rfl) λ _ _ _ _ _ _ _=>rfl
theorem vH:bE PW w (KX w.params) mg base cM 10 277 (Hd.fd eG "kinds_of_rests" "kinds_of_rests" pH 276) ["rows"] (cP k9):=by
 have B:=Bt e;have Q:=Qt e;have Z:=Zt e
 exact cj (N:=iW) (pA e).fn og (λ cdv A outer s H E hr=>(ak (aW og.nd (bZ.l 1) (bj (br (w4 e) (CU e) (hr.mono (by decide)) (ab (bZ.nm 0) aj) (bZ.d 0) (bZ.g 0)) aE))
  (aD (bN (uI (ab (gQ fQ (ab (fk (Nc:=["number"]) (bH.look (ai eG) ["rows","numbers"] (by decide+kernel)) (eX (bZ.nm 1)) (λ _ _ _ _=>(dc (show(["number"]:List Str).Nodup by decide+kernel))) (λ _ _ _ _=>(tm (cX rj (cH _) cK aE))) (λ _ _ _ _=>cK) cB) aj) B.fO rfl eS (bZ.d 2) (bZ.g 2)) (ab (bW Po (dF eA (ab (bj (bZ.nm 0) aE) aj) B.eD rfl de (bZ.d 1) (bZ.g 1)) (dF eA (ab (bZ.nm 1) aj) B.eD rfl de (bZ.d 1) (bZ.g 1))) aj))))))) uX
theorem pW:cD (KX w.params) mg "longer_by_one" "longer_by_one" eW ["rows","bound"] 282 (Hd.fd eW "longer_by_one" "longer_by_one" pH 281):=Hd.p_ e.X e.G (by kernel_rfl) λ _ _ _ _ _ _ _ _=>rfl
theorem xl:bE PW w (KX w.params) mg base cM 1 282 (Hd.fd eW "longer_by_one" "longer_by_one" pH 281) ["rows","bound"] (cP l_):=by
 have B:=Bt e;have Q:=Qt e;have Z:=Zt e
 exact cj (N:=jB) (pW e).fn k6 (λ cdv A outer s H E hr=>(ak (aW k6.nd (fV.l 2) (CJ aj))
  (ak (fm (eX (fV.nm 0)) (dc k6.nd) (aD (dZ (Ow (fV.nm 2) (fk (Nc:=["number","row"]) (bH.look (ai eW) ["rows","bound","longer","row"] (by decide+kernel)) (gF (fV.g 0) B.fu (ab (fV.nm 1) aj)) (λ _ _ _ _=>(dc (show(["number","row"]:List Str).Nodup by decide+kernel))) (λ _ _ _ _=>cZ) (λ _ _ _ _=>(bW jG cK (uI (ab cK aj)))) cB)))))
  (aD (bN (fV.nm 2)))))) vY
theorem vg:cD (KX w.params) mg "all_rests" "all_rests" ij ["rows"] 287 (Hd.fd ij "all_rests" "all_rests" pH 286):=Hd.sE e.X e.G (by kernel_rfl) λ _ _ _ _ _ _ _=>rfl
theorem BH:bE PW w (KX w.params) mg base cM 7 287 (Hd.fd ij "all_rests" "all_rests" pH 286) ["rows"] (cP qm):=by
 have B:=Bt e;have Q:=Qt e;have Z:=Zt e
 exact cj (N:=ni) (vg e).fn eR (λ cdv A outer s H E hr=>(ak (aW eR.nd (a5.l 1) (br (tu e) (yn e) (hr.mono (by decide)) (ab (a5.nm 0) aj) (a5.d 0) (a5.g 0)))
  (ak (i9 (cX Mh (cH _) (dF eA (ab (a5.nm 1) aj) B.eD rfl de (a5.d 1) (a5.g 1)) (dF eA (ab (bj (a5.nm 0) aE) aj) B.eD rfl de (a5.d 1) (a5.g 1))) (aD (bN xj)) iH)
  (ak (uG eR.nd (a5.l 2) (Nc:=["k","row"]) (bH.look (ai ij) ["rows","form","bounds","count","bound","rests"] (by decide+kernel)) (wx (a5.g 2) B.m_ (ab (a5.nm 1) aj)) (λ _ _ _ _=>(pN rfl (show(["k","row"]:List Str).Nodup by decide+kernel))) (λ _ _ _ _=>cZ) (λ _ _ _ _=>(bj cK cK)) uw)
  (ak (aW eR.nd (a5.l 3) aE)
  (ak (fm (eX (a5.nm 2)) (dc eR.nd) (aD (aW eR.nd (a5.l 3) (bW gK (a5.nm 3) (a5.nm 4)))))
  (ak (i9 (cX yb (cH _) (a5.nm 3) (Jt Z.Bi (a5.d 3) (a5.g 3))) (aD HH) iH)
  (ak (aW eR.nd (a5.l 5) (uz (ab (uI aj) aj)))
  (ak (fm (eX (a5.nm 2)) (dc eR.nd) (aD (aW eR.nd (a5.l 5) (br (pW e) (xl e) (hr.mono (by decide)) (ab (a5.nm 5) (ab (a5.nm 4) aj)) (a5.d 4) (a5.g 4)))))
  (aD (bN (gQ fQ (ab (a5.nm 5) aj) B.fO rfl eS (a5.d 5) (a5.g 5))))))))))))) Ah
theorem tU:cD (KX w.params) mg "rest_order" "rest_order" gI ["rows","row"] 292 (Hd.fd gI "rest_order" "rest_order" pH 291):=Hd.p_ e.X e.G (by kernel_rfl) λ _ _ _ _ _ _ _ _=>rfl
theorem zO:bE PW w (KX w.params) mg base cM 7 292 (Hd.fd gI "rest_order" "rest_order" pH 291) ["rows","row"] (cP pC):=by
 have B:=Bt e;have Q:=Qt e;have Z:=Zt e
 exact cj (N:=mw) (tU e).fn eE (λ cdv A outer s H E hr=>(ak (aW eE.nd (aG.l 2) aE)
  (ak (aW eE.nd (aG.l 3) (gQ tP (ab (aG.nm 1) aj) B.ph rfl mJ (aG.d 0) (aG.g 0)))
  (ak (fm (eX (br (tu e) (yn e) (hr.mono (by decide)) (ab (aG.nm 0) aj) (aG.d 1) (aG.g 1))) (dc eE.nd) (ak (aW eE.nd (aG.l 5) (br (uc e) (yF e) (hr.mono (by decide)) (ab (aG.nm 4) aj) (aG.d 2) (aG.g 2)))
  (ak (aW eE.nd (aG.l 6) (bW ue (bj (aG.nm 4) (aG.nm 5)) (br (AH e) (G9 e) (hr.mono (by decide)) (ab (bj (aG.nm 4) (aG.nm 5)) (ab (bj (aG.nm 3) (aG.nm 5)) aj)) (aG.d 3) (aG.g 3))))
  (ak (aW eE.nd (aG.l 2) (bW gK (aG.nm 2) (aG.nm 6)))
  (ak (uG eE.nd (aG.l 3) (Nc:=["number","lacks"]) (bH.look (ai gI) ["rows","row","order","left","each","lead","lacks"] (by decide+kernel)) (eX (aG.nm 3)) (λ _ _ _ _=>(dc (show(["number","lacks"]:List Str).Nodup by decide+kernel))) (λ _ _ _ _=>cZ) (λ _ _ _ _=>(bW gK cK cK)) cB)
  (aD (aW eE.nd (aG.l 3) (br (oK e) (qJ e) (hr.mono (by decide)) (ab (aG.nm 3) (ab (mq (bW ue (bj (aG.nm 3) (aG.nm 5)) (bj (aG.nm 4) (aG.nm 5)))) (ab (aG.nm 4) aj))) (aG.d 4) (aG.g 4)))))))))
  (aD (bN (Dt (cX Qp (cH _) (br (uc e) (yF e) (hr.mono (by decide)) (ab (aG.nm 3) aj) (aG.d 2) (aG.g 2)) xj) (aG.nm 2) xj))))))) y6
theorem uj:cD (KX w.params) mg "_law_source" "_law_source" iQ ["_law_script","_law_k"] 299 (Hd.fd iQ "_law_source" "_law_source" kn 298):=Hd.p_ e.X e.G (by kernel_rfl) λ _ _ _ _ _ _ _ _=>rfl
theorem Bs:bE PW w (KX w.params) mg base cM 1 299 (Hd.fd iQ "_law_source" "_law_source" kn 298) ["_law_script","_law_k"] (cP oY):=by
 have B:=Bt e;have Q:=Qt e;have Z:=Zt e
 exact cj (N:=md) (uj e).fn nW (λ cdv A outer s H E hr=>(ak (aW nW.nd (cw.l 2) aE)
  (ak (i9 (cX yb (cH _) (dF eA (ab (cw.nm 0) aj) B.eD rfl de (cw.d 0) (cw.g 0)) aE) (aD (aW nW.nd (cw.l 2) (bj (cw.nm 0) (bW kj (cw.nm 1) (dF eA (ab (cw.nm 0) aj) B.eD rfl de (cw.d 0) (cw.g 0)))))) iH)
  (aD (bN (CJ (ab (bW gK (cw.nm 2) (gQ OB (ab (zl Qx (cH _) (cw.nm 2) (bW O9 aE aE)) aj) B.Pg rfl MZ (cw.d 1) (cw.g 1))) (ab (cw.nm 2) (ab (bW gK aE (cw.nm 1)) aj))))))))) yY
theorem eC:cD (KX w.params) mg "_law_take" "_law_take" kg ["_law_source_here","_law_many"] 306 (Hd.fd kg "_law_take" "_law_take" kn 305):=Hd.p_ e.X e.G (by kernel_rfl) λ _ _ _ _ _ _ _ _=>rfl
theorem ff:bE PW w (KX w.params) mg base cM 1 306 (Hd.fd kg "_law_take" "_law_take" kn 305) ["_law_source_here","_law_many"] (cP dQ):=by
 have B:=Bt e;have Q:=Qt e;have Z:=Zt e
 exact cj (N:=oH) (eC e).fn nu (λ cdv A outer s H E hr=>(ak (i9 (cX yb (cH _) (bj (cx.nm 0) aE) aE) (ak (aW nu.nd (cx.l 2) (bW kj (bj (cx.nm 0) aE) (cx.nm 1)))
  (ak (fY (bW ue (bj (cx.nm 0) aE) (cx.nm 1)) (cx.nm 0) aE)
  (aD (bN (cx.nm 2))))) iH)
  (ak (fY (bW jG (bj (cx.nm 0) aE) aE) (cx.nm 0) aE)
  (ak (aW nu.nd (cx.l 3) (bW kj (bW gK (bW jG (bW jG (bW kj (bj (cx.nm 0) aE) aE) (bW gK aE (bj (cx.nm 0) aE))) aE) aE) aE))
  (ak (aW nu.nd (cx.l 3) (bW jG (bW kj (bW gK (cx.nm 3) (cx.nm 3)) aE) (bW gK aE (bj (cx.nm 0) aE))))
  (aD (bN (bW kj (bW ue (bW kj (bW gK (cx.nm 3) aE) aE) aE) (cx.nm 1))))))))) BM
theorem tW:cD (KX w.params) mg "_law_common" "_law_common" d7 ["_law_one","_law_other"] 313 (Hd.fd d7 "_law_common" "_law_common" kn 312):=Hd.p_ e.X e.G (by kernel_rfl) λ _ _ _ _ _ _ _ _=>rfl
theorem zU:bE PW w (KX w.params) mg base cM 1 313 (Hd.fd d7 "_law_common" "_law_common" kn 312) ["_law_one","_law_other"] (cP o6):=by
 have B:=Bt e;have Q:=Qt e;have Z:=Zt e
 exact cj (N:=mj) (tW e).fn oa (λ cdv A outer s H E hr=>(ak (Eo oa.nd (by decide) (show(ai d7).names.lookup ("_law_one":Str)=some .local by decide+kernel) (show(ai d7).names.lookup ("_law_other":Str)=some .local by decide+kernel) (ab (dF wy (ab (dA.nm 0) aj) B.xh rfl t9 (dA.d 0) (dA.g 0)) (ab (dF wy (ab (dA.nm 1) aj) B.xh rfl t9 (dA.d 0) (dA.g 0)) aj)))
  (ak (rf (cX yb (cH _) (dA.nm 1) aE) (aD (Eo oa.nd (by decide) (show(ai d7).names.lookup ("_law_one":Str)=some .local by decide+kernel) (show(ai d7).names.lookup ("_law_other":Str)=some .local by decide+kernel) (ab (dA.nm 1) (ab (bW kj (dA.nm 0) (dA.nm 1)) aj)))))
  (aD (bN (dA.nm 0)))))) zi
theorem tR:cD (KX w.params) mg "_law_turned" "_law_turned" eh ["_law_source_here","_law_rows"] 318 (Hd.fd eh "_law_turned" "_law_turned" kn 317):=Hd.p_ e.X e.G (by kernel_rfl) λ _ _ _ _ _ _ _ _=>rfl
theorem zQ:bE PW w (KX w.params) mg base cM 2 318 (Hd.fd eh "_law_turned" "_law_turned" kn 317) ["_law_source_here","_law_rows"] (cP oW):=by
 have B:=Bt e;have Q:=Qt e;have Z:=Zt e
 exact cj (N:=mh) (tR e).fn fX (λ cdv A outer s H E hr=>(ak (Ai fX.nd (aq.l 2) (Nc:=["_law_row"]) (bH.look (ai eh) ["_law_source_here","_law_rows","_law_made","_law_k","_law_i","_law_j","_law_how","_law_by"] (by decide+kernel)) (eX (aq.nm 1)) (λ _ _ _ _=>(dc (show(["_law_row"]:List Str).Nodup by decide+kernel))) (λ _ _ _ _=>cZ) (λ _ _ _ _=>(gQ tP (ab cK aj) B.ph rfl mJ (by decide+kernel) rfl)) cB)
  (ak (fm (gF (aq.g 1) B.fu (ab (br (eC e) (ff e) (hr.mono (by decide)) (ab (aq.nm 0) (ab aE aj)) (aq.d 0) (aq.g 0)) aj)) (dc fX.nd) (ak (aW fX.nd (aq.l 4) (br (eC e) (ff e) (hr.mono (by decide)) (ab (aq.nm 0) (ab (dF eA (ab (aq.nm 2) aj) B.eD rfl de (aq.d 2) (aq.g 2)) aj)) (aq.d 0) (aq.g 0)))
  (ak (aW fX.nd (aq.l 5) (br (eC e) (ff e) (hr.mono (by decide)) (ab (aq.nm 0) (ab (dF eA (ab (aq.nm 2) aj) B.eD rfl de (aq.d 2) (aq.g 2)) aj)) (aq.d 0) (aq.g 0)))
  (ak (aW fX.nd (aq.l 6) (br (eC e) (ff e) (hr.mono (by decide)) (ab (aq.nm 0) (ab aE aj)) (aq.d 0) (aq.g 0)))
  (aD (i9 (cX (q_ hr) (cH _) (aq.nm 4) (aq.nm 5)) (aD (yp (fk (Nc:=["_law_one"]) (bH.look (ai eh) ["_law_source_here","_law_rows","_law_made","_law_k","_law_i","_law_j","_law_how","_law_by"] (by decide+kernel)) (eX (bj (aq.nm 2) (aq.nm 4))) (λ _ _ _ _=>(dc (show(["_law_one"]:List Str).Nodup by decide+kernel))) (λ _ _ _ _=>cZ) (λ _ _ _ _=>(mq cK)) cB) (aq.nm 2) (aq.nm 4))) (aD (i9 (cX (q_ hr) (cH _) (aq.nm 6) aE) (aD (Ky (aq.nm 2) (aq.nm 4) (aq.nm 2) (aq.nm 5) (uI (ab (bj (aq.nm 2) (aq.nm 5)) (ab (bj (aq.nm 2) (aq.nm 4)) aj))))) (ak (aW fX.nd (aq.l 7) (bj (uz (ab aE (ab (mq aE) (ab aE (ab (mq aE) aj))))) (br (eC e) (ff e) (hr.mono (by decide)) (ab (aq.nm 0) (ab aE aj)) (aq.d 0) (aq.g 0))))
  (aD (yp (fk (Nc:=["_law_one","_law_other","_law_by"]) (bH.look (ai eh) ["_law_source_here","_law_rows","_law_made","_law_k","_law_i","_law_j","_law_how","_law_by"] (by decide+kernel)) (Dj (aq.g 3) B.Dh (ab (bj (aq.nm 2) (aq.nm 4)) (ab (bj (aq.nm 2) (aq.nm 5)) aj))) (λ _ _ _ _=>(pN rfl (show(["_law_one","_law_other","_law_by"]:List Str).Nodup by decide+kernel))) (λ _ _ _ _=>cZ) (λ _ _ _ _=>(bW jG cK (bW gK cK cK))) uw) (aq.nm 2) (aq.nm 4))))))))))))
  (aD (bN (gQ fQ (ab (fk (Nc:=["_law_row"]) (bH.look (ai eh) ["_law_source_here","_law_rows","_law_made","_law_k","_law_i","_law_j","_law_how","_law_by"] (by decide+kernel)) (eX (aq.nm 2)) (λ _ _ _ _=>(dc (show(["_law_row"]:List Str).Nodup by decide+kernel))) (λ _ _ _ _=>cZ) (λ _ _ _ _=>(gQ fQ (ab cK aj) B.fO rfl eS (by decide+kernel) rfl)) cB) aj) B.fO rfl eS (aq.d 4) (aq.g 4))))))) zf
theorem xq:cD (KX w.params) mg "_law_form" "_law_form" j5 ["_law_source_here","_law_leads_here"] 325 (Hd.fd j5 "_law_form" "_law_form" kn 324):=Hd.p_ e.X e.G (by kernel_rfl) λ _ _ _ _ _ _ _ _=>rfl
theorem Dd:bE PW w (KX w.params) mg base cM 2 325 (Hd.fd j5 "_law_form" "_law_form" kn 324) ["_law_source_here","_law_leads_here"] (cP rG):=by
 have B:=Bt e;have Q:=Qt e;have Z:=Zt e
 exact cj (N:=oF) (xq e).fn kD (λ cdv A outer s H E hr=>(ak (aW kD.nd (bI.l 2) (CJ aj))
  (ak (fm (gF (bI.g 1) B.fu (ab (dF eA (ab (bI.nm 1) aj) B.eD rfl de (bI.d 0) (bI.g 0)) aj)) (dc kD.nd) (ak (aW kD.nd (bI.l 4) (bW NA (bW gK (uz (ab aE aj)) (bI.nm 3)) (uz (ab (bj (bI.nm 1) (bI.nm 3)) aj))))
  (ak (fm (rp (bI.g 1) B.fu (ab (bW jG (bI.nm 3) aE) (ab (dF eA (ab (bI.nm 1) aj) B.eD rfl de (bI.d 0) (bI.g 0)) aj))) (dc kD.nd) (aD (dZ (yB (bI.nm 4) (br (eC e) (ff e) (hr.mono (by decide)) (ab (bI.nm 0) (ab (bj (bI.nm 1) (bI.nm 5)) aj)) (bI.d 2) (bI.g 2))))))
  (aD (dZ (yB (bI.nm 2) (gQ fQ (ab (bI.nm 4) aj) B.fO rfl eS (bI.d 3) (bI.g 3))))))))
  (aD (bN (bI.nm 2)))))) BO
theorem vk:cD (KX w.params) mg "_law_leads" "_law_leads" js ["_law_source_here","_law_most"] 332 (Hd.fd js "_law_leads" "_law_leads" kn 331):=Hd.p_ e.X e.G (by kernel_rfl) λ _ _ _ _ _ _ _ _=>rfl
theorem BC:bE PW w (KX w.params) mg base cM 2 332 (Hd.fd js "_law_leads" "_law_leads" kn 331) ["_law_source_here","_law_most"] (cP qt):=by
 have B:=Bt e;have Q:=Qt e;have Z:=Zt e
 exact cj (N:=nj) (vk e).fn d8 (λ cdv A outer s H E hr=>(ak (aW d8.nd (aI.l 2) (bW jG aE (br (eC e) (ff e) (hr.mono (by decide)) (ab (aI.nm 0) (ab aE aj)) (aI.d 0) (aI.g 0))))
  (ak (i9 (cX (q_ hr) (cH _) (br (eC e) (ff e) (hr.mono (by decide)) (ab (aI.nm 0) (ab aE aj)) (aI.d 0) (aI.g 0)) aE) (aD (aW d8.nd (aI.l 2) (bW jG aE (br (eC e) (ff e) (hr.mono (by decide)) (ab (aI.nm 0) (ab aE aj)) (aI.d 0) (aI.g 0))))) iH)
  (ak (aW d8.nd (aI.l 3) (bW Mv (uz (ab aE aj)) (aI.nm 2)))
  (ak (fm (gF (aI.g 1) B.fu (ab aE aj)) (dc d8.nd) (ak (aW d8.nd (aI.l 5) (br (eC e) (ff e) (hr.mono (by decide)) (ab (aI.nm 0) (ab (aI.nm 2) aj)) (aI.d 0) (aI.g 0)))
  (ak (aW d8.nd (aI.l 6) (bW jG aE (br (eC e) (ff e) (hr.mono (by decide)) (ab (aI.nm 0) (ab aE aj)) (aI.d 0) (aI.g 0))))
  (ak (aW d8.nd (aI.l 7) (aI.nm 1))
  (ak (fm (eX (aI.nm 3)) (dc d8.nd) (aD (aW d8.nd (aI.l 7) (bW ue (aI.nm 7) (aI.nm 8)))))
  (aD (fY (bW gK (bj (aI.nm 3) (aI.nm 5)) (dF (Iw rfl) (ab (aI.nm 6) (ab (dF (Og rfl) (ab aE (ab (aI.nm 7) aj)) B.OD rfl Nx (aI.d 2) (aI.g 2)) aj)) B.Iy rfl Eu (aI.d 3) (aI.g 3))) (aI.nm 3) (aI.nm 5))))))))
  (aD (bN (aI.nm 3)))))))) A8
theorem Oh:cD (KX w.params) mg "law" "law" kK ["_law_script"] 337 (Hd.fd kK "law" "law" kn 336):=Hd.sE e.X e.G (by kernel_rfl) λ _ _ _ _ _ _ _=>rfl
theorem N2:bE PW w (KX w.params) mg base cM 11 337 (Hd.fd kK "law" "law" kn 336) ["_law_script"] (cP Ik):=by
 have B:=Bt e;have Q:=Qt e;have Z:=Zt e
 exact cj (N:=zx) (Oh e).fn ji (λ cdv A outer s H E hr=>(ak (aW ji.nd (bJ.l 1) (br (uj e) (Bs e) (hr.mono (by decide)) (ab (bJ.nm 0) (ab aE aj)) (bJ.d 0) (bJ.g 0)))
  (ak (aW ji.nd (bJ.l 2) (br (xq e) (Dd e) (hr.mono (by decide)) (ab (bJ.nm 1) (ab (br (vk e) (BC e) (hr.mono (by decide)) (ab (bJ.nm 1) (ab aE aj)) (bJ.d 1) (bJ.g 1)) aj)) (bJ.d 2) (bJ.g 2)))
  (ak (aW ji.nd (bJ.l 3) (br (tR e) (zQ e) (hr.mono (by decide)) (ab (bJ.nm 1) (ab (bJ.nm 2) aj)) (bJ.d 3) (bJ.g 3)))
  (ak (Nk (br (pA e) (vH e) (hr.mono (by decide)) (ab (bJ.nm 3) aj) (bJ.d 4) (bJ.g 4)) (pN rfl ji.nd))
  (ak (aW ji.nd (bJ.l 6) (br (vg e) (BH e) (hr.mono (by decide)) (ab (bJ.nm 3) aj) (bJ.d 5) (bJ.g 5)))
  (ak (uG ji.nd (bJ.l 7) (Nc:=["_law_rest","_law_rows"]) (bH.look (ai kK) ["_law_script","_law_source_here","_law_form_here","_law_rows","_law_kinds","_law_frees","_law_rests","_law_orders","_law_greatest","_law_number","_law_due","_law_kind"] (by decide+kernel)) (eX (bJ.nm 6)) (λ _ _ _ _=>(dc (show(["_law_rest","_law_rows"]:List Str).Nodup by decide+kernel))) (λ _ _ _ _=>cZ) (λ _ _ _ _=>(br (tU e) (zO e) (hr.mono (by decide)) (ab cK (ab cK aj)) (by decide+kernel) rfl)) cB)
  (ak (aW ji.nd (bJ.l 8) (Dt (cX yb (cH _) (dF eA (ab (bJ.nm 4) aj) B.eD rfl de (bJ.d 6) (bJ.g 6)) aE) (bj (bJ.nm 4) (mq aE)) aE))
  (ak (i9 (OA (DC (cX rj (cH _) (bJ.nm 5) aE) (DC (cX OP (by rfl) xj (bJ.nm 7)) (DC (wz (dF (Pl rfl) (ab (fk (Nc:=["_law_order","_law_greatest"]) (bH.look (ai kK) ["_law_script","_law_source_here","_law_form_here","_law_rows","_law_kinds","_law_frees","_law_rests","_law_orders","_law_greatest","_law_number","_law_due","_law_kind"] (by decide+kernel)) (eX (bJ.nm 7)) (λ _ _ _ _=>(dc (show(["_law_order","_law_greatest"]:List Str).Nodup by decide+kernel))) (λ _ _ _ _=>cZ) (λ _ _ _ _=>(zl rj (cH _) (bW kj cK cK) aE)) cB) aj) B.Pc rfl Nr (bJ.d 7) (bJ.g 7))) (Ma (cX Hv (by rfl) (bJ.nm 8) (bJ.nm 7))))))) (aD (bN vB)) iH)
  (ak (fm (eX (fk (Nc:=["_law_one","_law_greatest"]) (bH.look (ai kK) ["_law_script","_law_source_here","_law_form_here","_law_rows","_law_kinds","_law_frees","_law_rests","_law_orders","_law_greatest","_law_number","_law_due","_law_kind"] (by decide+kernel)) (rp (bJ.g 8) B.fu (ab aE (ab (bW jG (bJ.nm 8) aE) aj))) (λ _ _ _ _=>(dc (show(["_law_one","_law_greatest"]:List Str).Nodup by decide+kernel))) (λ _ _ _ _=>(tm (cX (q_ hr) (cH _) (bW kj cK cK) aE))) (λ _ _ _ _=>cK) cB)) (dc ji.nd) (ak (aW ji.nd (bJ.l 10) aE)
  (ak (fm (eX (bJ.nm 4)) (dc ji.nd) (aD (aW ji.nd (bJ.l 10) (bW gK (bJ.nm 10) (br (tW e) (zU e) (hr.mono (by decide)) (ab (bJ.nm 9) (ab (bJ.nm 11) aj)) (bJ.d 9) (bJ.g 9))))))
  (aD (i9 (cX rj (cH _) (dF eA (ab (fk (Nc:=["_law_order","_law_number"]) (bH.look (ai kK) ["_law_script","_law_source_here","_law_form_here","_law_rows","_law_kinds","_law_frees","_law_rests","_law_orders","_law_greatest","_law_number","_law_due","_law_kind"] (by decide+kernel)) (eX (bJ.nm 7)) (λ _ _ _ _=>(dc (show(["_law_order","_law_number"]:List Str).Nodup by decide+kernel))) (λ _ _ _ _=>(tm (cX (q_ hr) (cH _) (bW kj cK cK) aE))) (λ _ _ _ _=>cK) cB) aj) B.eD rfl de (bJ.d 6) (bJ.g 6)) (bJ.nm 10)) (aD (bN vB)) iH)))))
  (aD (bN vB)))))))))))) MS
end
def dL:DefRec:=match kK with
 | .FunctionDef n a b _ _ _ sc _ _ pos=>⟨n,a,b,sc,pos⟩
 |_=>⟨"",L2.lK (.Pass ⟨0,0,0,0⟩),[],L2.ai (.Pass ⟨0,0,0,0⟩),⟨0,0,0,0⟩⟩
def GH:PySem.Challenge.rw_latticeworks_k29_whole_rests_of_each_ord.wellSaid=true:=by decide+kernel
end Row
open PySem PySem.W PyProof.Rows
set_option maxRecDepth 100000 in
set_option maxHeartbeats 0 in
theorem PySem.Challenge.cw_latticeworks_k29_whole_rests_of_each_ord_holds : PySem.Challenge.rw_latticeworks_k29_whole_rests_of_each_ord.Holds := by
 refine PySem.W.holds_law Row.GH λ GH=>?_;refine PySem.W.holds_open (r:=PySem.Challenge.rw_latticeworks_k29_whole_rests_of_each_ord.row) (q:=PySem.W.view Row.PW [1,2,3,4,5,6,7,8,10,11,12,13,14,15,17,18,19,20,21,23,24,26,28,29,30,31,32,33,35,36,37,38,39,40,41]) (loose:=[]) (Xt:=λ _=>true) (XP:=λ _ _=>True) (YP:=(PySem.W.kmHook Row.KX Row.KA (λ _=>rfl) [117]).says) (d:=Row.dL) (kwd:=[]) Row.left ((PySem.W.kmHook Row.KX Row.KA (λ _=>rfl) [117]).of) ((PySem.W.kmHook Row.KX Row.KA (λ _=>rfl) [117]).keeps) (λ _ _=>trivial) (λ _ _ _ _ _=>trivial) (by kernel_rfl) (by kernel_rfl) (by kernel_rfl) (λ s _=>PySem.W.recFacts_of (R:=[]) rfl) (by kernel_rfl) GH (by decide+kernel) ⟨rfl,rfl,rfl,rfl,rfl,by decide+kernel⟩ ?hw ?hc;case hw=>w_witness2
 refine L2.OE (n:=63) (k:=11) (x:="_law_script") (ts:=[(119,117)]) (K:=Row.KX) (sp:=λ w=>L3.FN (Row.KX w.params) [(119,117)]) rfl (by decide) (by kernel_rfl) ⟨rfl,by decide,by decide⟩ (by kernel_rfl) rfl (λ w h Y=>⟨PySem.W.km_in_of Y,⟨(λ q hq=>by rcases R7.mp hq with rfl|hq;kernel_rfl;cases hq),(λ q hq=>by rcases R7.mp hq with rfl|hq;kernel_rfl;cases hq),λ q hq=>PySem.W.km_tabs_of Y _ (V6 (f:=Prod.snd) hq)⟩⟩) ?F λ _ _ a ns hl hE=>⟨a,ns,rfl,hE,hl,λ _=>rfl⟩
 intro w mg fa h X G hmg;have e2:=hmg.symm.trans (Wo (v:= .ref 337) X G (by kernel_rfl));cases e2;exact⟨Hd.fd Row.kK "law" "law" Row.kn 336,λ s v=> .of_eq rfl,λ base _ _=>(Row.N2 ⟨X,G⟩).imp λ vs H Q E h=>L3.FA (tl:=[(117,⟨61,32,61,66⟩,"Bench.live_rows.<locals>.<lambda>")]) (by kernel_rfl) rfl (by decide) h⟩
