import PyProof.Rows.All
import Wide.All
import OpenK.AllK
import Wide.FinOn
import Lean
import PyProof.EqAt
import PyProof.EqKinds
import PyProof.TupleCall
import PyProof.NeKinds
import KE.KUnpack
import PySem.Challenge.RW_latticeworks_k53_any_equations
set_option Elab.async false
set_option linter.all false
set_option maxRecDepth 100000
def R_:=@Nat.le_refl
def Sa:=@PySem.wpAny_bind
def Sb:=@List.length_map
def Sd:=@List.getD_eq_getElem?_getD
def Se:=@Nat.le_trans
def Sf:=@if_neg
def Sg:=@List.getElem?_eq_some_iff
def Sh:=@PySem.Heap.get?_push_of_some
def Si:=@if_pos
def Sj:=@List.getElem?_set_ne
def Sk:=@List.getElem?_append_left
def Sl:=@List.size_toArray
def Sm:=@List.getElem?_eq_getElem
def Sn:=@PySem.wpAny_pure
def So:=@List.mem_append_right
def Sq:=@Ne.symm
def Ss:=@Nat.le_of_ble_eq_true
def Su:=@PySem.Heap.lt_size
def Sv:=@Nat.pow_le_pow_right
def Sw:=@Nat.lt_of_lt_of_le
def Sy:=@List.getElem?_set_self
def SA:=@List.mem_cons
def SD:=@List.mem_cons_self
def SE:=@List.mem_append
def SF:=@List.getElem?_map
def SG:=@List.mem_cons_of_mem
def SH:=@Int.toNat_natCast
def SI:=@PySem.Heap.get?_push_size
def SJ:=@List.mem_map
def SM:=@Nat.zero_le
def SN:=@Nat.not_lt_zero
def SO:=@List.length_set
def SS:=@List.mem_append_left
def SV:=@List.mem_iff_getElem
def SW:=@Nat.ne_of_lt
def SX:=@Int.mul_zero
def SY:=@List.length_cons
def S0:=@Nat.lt_succ_self
def S7:=@List.getElem?_append_right
def S8:=@List.mem_of_getElem?
def S9:=@Nat.lt_succ_of_lt
def S_:=@List.not_mem_nil
def Ta:=@List.map_map
def Tb:=@Nat.mul_le_mul
def Tc:=@Int.natAbs_mul
def Td:=@List.mem_filter
def Te:=@List.mem_singleton
def Tf:=@decide_eq_false
def Tg:=@List.getElem_mem
def Th:=@Int.fmod_nonneg_of_pos
def Ti:=@List.lookup_cons
def Tj:=@PySem.W.mg_none_of
def To:=@PySem.mem_of_lookup
def Tp:=@List.all_eq_true
def Tq:=@Option.some.inj
def Tr:=@List.length_take
def Ts:=@Bool.false_ne_true
def Tt:=@Int.sub_eq_add_neg
def Tu:=@Int.zero_mul
def Tv:=@Bool.and_eq_true
def Tw:=@List.range_succ_eq_map
def Tx:=@Nat.mul_le_mul_right
def Tz:=@Nat.le_of_lt
def TB:=@List.length_append
def TC:=@Int.fmod_lt_of_pos
def TF:=@decide_eq_true
def TH:=@List.map_cons
def TJ:=@List.length_drop
def TK:=@PyProof.Rows.wpS_bind
def TL:=@List.drop_eq_getElem_cons
def TM:=@Bool.false_eq_true
def TN:=@Nat.lt_irrefl
def TQ:=@List.replicate_succ
def TR:=@Nat.mul_le_mul_left
def TU:=@Int.mul_fdiv_add_fmod
def TV:=@not_false_eq_true
def TX:=@PyProof.Rows.slot_tuple_getitem
def TY:=@PySem.Heap.size_push
def TZ:=@List.append_nil
def T3:=@Nat.pow_succ
def T4:=@PySem.wpAny_field
def T5:=@Array.length_toList
def T6:=@Int.mul_assoc
def T7:=@PySem.W.kia_one
def T8:=@PyProof.Rows.callWith_type1
def T9:=@PySem.wpAny_callSpecial?_slot
def T_:=@List.length_eq_zero_iff
def Ua:=@Int.mul_comm
def Ub:=@Nat.lt_trans
def Uc:=@PySem.sizeLine_eq
def Ud:=@List.drop_eq_nil_of_le
def Ue:=@List.map_congr_left
def Ug:=@Classical.byContradiction
def Uh:=@Int.mul_ne_zero
def Ui:=@congrArg
def Uj:=@Nat.mul_comm
def Uk:=@Int.add_zero
def Ul:=@Nat.lt_or_ge
def Um:=@Nat.pow_add
def Uo:=@Int.natAbs_neg
def Up:=@Int.eq_ofNat_of_zero_le
def Uq:=@List.flatten_cons
def Ur:=@PyProof.Rows.wpS_pure
def Us:=@Int.mul_nonpos_of_nonneg_of_nonpos
def Ut:=@beq_eq_false_iff_ne
def Uu:=@PySem.Heap.SameBut.update
def Uv:=@PySem.wpAny_mono
def Uw:=@if_false
def Ux:=@Nat.le_of_not_lt
def Uy:=@Int.lt_of_not_ge
def UA:=@List.mem_range
def UB:=@Int.one_mul
def UC:=@Int.neg_mul
def UD:=@Int.zero_add
def UE:=@Int.le_of_lt
def UG:=@List.map_append
def UH:=@PySem.wpAny_newObj_type
def UI:=@Nat.lt_trichotomy
def UJ:=@Nat.le_mul_of_pos_right
def UK:=@List.filter_eq_self
def UL:=@PySem.wpAny_call_entry
def UM:=@PySem.wpAny_seqItems
def UN:=@beq_iff_eq
def UO:=@PySem.W.cellsFrom_some
def UP:=@PySem.wpAny_pyIter_tuple
def UQ:=@PySem.wpAny_setField_rec
def UR:=@Nat.lt_or_gt_of_ne
def US:=@List.filter_append
def UT:=@PySem.wpAny_passesOwn
def UU:=@if_true
def UW:=@List.length_nil
def UX:=@PySem.F.slot_tuple_iterator_next
def UY:=@Int.fdiv_eq_ediv_of_nonneg
def UZ:=@List.append_assoc
def U0:=@Int.mul_nonpos_of_nonpos_of_nonneg
def U9:=@List.mem_or_eq_of_mem_set
def U_:=@List.mem_of_mem_take
def Va:=@Nat.mul_one
def Vb:=@Nat.one_mul
def Vc:=@Nat.ne_of_gt
def Vd:=@Option.isSome_iff_exists
def Ve:=@Nat.sub_self
def Vf:=@Int.ne_of_gt
def Vg:=@Nat.add_sub_cancel'
def Vh:=@Nat.add_sub_cancel_left
def Vi:=@PySem.wpAny_holding
def Vj:=@List.all_cons
def Vk:=@PySem.wpAny_Call_Name_kw
def Vl:=@List.nodup_cons
def Vm:=@PySem.call_meets
def Vn:=@Option.map_some
def Vo:=@List.cons.injEq
def Vp:=@List.pairwise_cons
def Vq:=@Int.lt_or_gt_of_ne
def Vr:=@Int.mul_one
def Vs:=@Nat.le_succ
def Vt:=@and_true
def Vu:=@Int.le_refl
def Vv:=@List.take_of_length_le
def Vw:=@Nat.le_mul_of_pos_left
def Vx:=@PySem.wpAny_truthy_bool
def Vy:=@PySem.wpAny_pyIter_list
def VA:=@Nat.zero_add
def VB:=@List.getElem?_concat_length
def VC:=@PySem.wpAny_rule
def VD:=@PySem.F.slot_tuple_mul
def VE:=@or_false
def VF:=@List.getElem_map
def VG:=@Nat.mul_assoc
def VH:=@List.cons.inj
def VI:=@Nat.add_mul
def VJ:=@Nat.pow_pos
def VL:=@List.filterMap_cons
def VM:=@Int.eq_zero_of_dvd_of_natAbs_lt_natAbs
def VN:=@PyProof.Rows.get?_update_seq
def VO:=@List.mem_filterMap
def VP:=@List.getElem?_take_of_lt
def VQ:=@PySem.F.args_tuple_add_2
def VR:=@Nat.succ_mul
def VT:=@not_or
def VU:=@Nat.one_le_two_pow
def VV:=@List.getElem?_drop
def VW:=@List.mem_of_mem_eraseIdx
def VX:=@Int.natCast_nonneg
def VY:=@List.getElem?_replicate
def VZ:=@PySem.F.entry_tuple_add
def V0:=@PySem.F.plainAttrs_list
def V1:=@List.getElem?_cons_succ
def V2:=@List.filter_cons_of_pos
def V3:=@List.filter_cons_of_neg
def V4:=@PySem.W.kitx_list
def V5:=@PySem.W.kitx_dict
def V6:=@List.pairwise_map
def V7:=@Nat.mul_left_comm
def V8:=@List.getElem_take
def V9:=@Int.mul_nonneg_of_nonpos_of_nonpos
def V_:=@PySem.F.slot_tuple_add
def Wa:=@Int.sub_mul
def Wb:=@List.zipWith_cons_cons
def Wc:=@List.filter_eq_nil_iff
def Wd:=@PySem.wpAny_standAt
def We:=@beq_self_eq_true
def Wi:=@Array.getElem?_toList
def Wj:=@List.getElem?_eq_none
def Wk:=@List.lookup_cons_self
def Wl:=@Classical.choose_spec
def Wm:=@List.take_append_drop
def Wn:=@PySem.wpAny_execs_nil
def Wo:=@Bool.eq_iff_iff
def Wq:=@Nat.le_of_eq
def Wr:=@List.of_mem_zip
def Ws:=@List.nil_append
def Wt:=@PySem.F.slot_int_rmul
def Wu:=@PySem.wpAny_ite_false
def Wv:=@Bool.or_eq_true
def Ww:=@PySem.wpAny_updateSeq_pair
def Wx:=@PySem.F.slot_zip_next
def Wy:=@PyProof.Rows.wpS_forRange
def Wz:=@Rat.intCast_inj
def WA:=@List.range_succ
def WB:=@Int.mul_le_mul_of_nonneg_left
def WC:=@PySem.W.plainGet_of
def WD:=@List.mem_map_of_mem
def WE:=@Nat.pow_le_pow_left
def WG:=@PySem.F.args_tuple_iterator_next_1
def WH:=@PyProof.Rows.assignInOrder_cons
def WI:=@PySem.W.callWith_K
def WJ:=@PySem.F.args_tuple_mul_2
def WK:=@PySem.F.entry_tuple_iterator_next
def WL:=@Nat.lt_of_le_of_lt
def WM:=@List.getElem_range
def WN:=@List.zip_cons_cons
def WO:=@PySem.Calls.Name_function_global
def WQ:=@List.any_cons
def WR:=@Bool.and_true
def WS:=@PySem.wpAny_onRaise
def WT:=@PySem.wpAny_attempt
def WU:=@PyProof.Rows.listUpdate_at
def WV:=@List.map_take
def WW:=@Nat.le_of_succ_le
def WX:=@PySem.F.entry_tuple_mul
def WY:=@PySem.typeIs_int
def WZ:=@PySem.wpAny_binaryOp_repeat_ref
def W0:=@bne_iff_ne
def W2:=@List.getElem?_eq_none_iff
def W3:=@List.pairwise_iff_getElem
def W4:=@Int.mul_pos_of_neg_of_neg
def W5:=@PySem.codeAny_mono
def W6:=@PySem.noFill_tuple_add
def W7:=@List.cons_append
def W8:=@PySem.wpAny_comprehension_free
def W9:=@PyProof.noPylong_of_log2
def W_:=@Nat.min_self
def Xa:=@decide_eq_decide
def Xb:=@decide_false
def Xd:=@Nat.zero_mul
def Xe:=@Int.sub_self
def Xf:=@Nat.succ_lt_succ
def Xg:=@Int.mul_fdiv_cancel_left
def Xh:=@List.forIn_cons
def Xi:=@List.length_zip
def Xj:=@beq_false_of_ne
def Xk:=@Nat.le_antisymm
def Xl:=@Nat.min_eq_left
def Xm:=@Rat.intCast_add
def Xn:=@Rat.intCast_mul
def Xo:=@PySem.wpAny_pyNext_range_end
def Xp:=@PySem.wpAny_pyIter_rangeiter
def Xq:=@PySem.Heap.get?_update_other
def Xr:=@Prod.mk.inj
def Xs:=@PySem.wpAny_letGo
def Xu:=@decide_true
def Xv:=@PyProof.Rows.wpS_reverse
def Xw:=@PyProof.Rows.mirror_perm
def Xx:=@List.drop_of_length_le
def Xy:=@List.length_replicate
def Xz:=@List.length_singleton
def XA:=@List.forIn_nil
def XB:=@Bool.and_false
def XC:=@Int.mul_nonneg
def XD:=@Int.eq_of_sub_eq_zero
def XE:=@Rat.divInt_mul_divInt
def XF:=@List.set_append_right
def XG:=@List.filterMap_append
def XH:=@PySem.seq_tuple_add
def XI:=@PySem.wpAny_newList
def XJ:=@Prod.mk.injEq
def XM:=@PySem.concat_meets
def XN:=@PySem.wpAny_typeOf
def XO:=@Nat.gcd_comm
def XQ:=@List.map_set
namespace L2
open PySem PySem.Spec PyProof.Rows
abbrev Key:=Sum Int Str
def Jo:Key->Value->Bool
 | .inl k,v=>Value.isInt k v
 | .inr x,v=>Value.isStrOf x v
def QH(w:World):Key->Int
 | .inl k=>hashInt k
 | .inr x=>hashStr w x
def fO:∀ {k:Key} {v:Value},Jo k v=true->(∃i t,k=Sum.inl i/\v=Value.int i t)\/(∃x t,k=Sum.inr x/\v=Value.str x t)
 | .inl i,v,h=>by
   obtain⟨t,e⟩:=Value.isInt_shape (k:=i) (v:=v) h;exact .inl ⟨i,t,rfl,e⟩
 | .inr x,v,h=>by
   obtain⟨t,e⟩:=Value.isStrOf_shape (x:=x) (v:=v) h;exact .inr ⟨x,t,rfl,e⟩
def MS(a b:Int):decide ((Sum.inl a:Key)=Sum.inl b)=(a==b):=by
 by_cases e:a=b
 . subst e;simp
 . have h:¬(Sum.inl a:Key)=Sum.inl b:=λ q=>e (Sum.inl.inj q);rw[Tf h];exact(Ut.mpr e).symm
def MJ(a b:Str):decide ((Sum.inr a:Key)=Sum.inr b)=decide (a=b):=by
 by_cases e:a=b
 . subst e;simp
 . have h:¬(Sum.inr a:Key)=Sum.inr b:=λ q=>e (Sum.inr.inj q);rw[Tf h,Tf e]
def N6(a:Int)(b:Str):decide ((Sum.inl a:Key)=Sum.inr b)=false:=Tf (λ q=>nomatch q)
def LP(a:Str)(b:Int):decide ((Sum.inr a:Key)=Sum.inl b)=false:=Tf (λ q=>nomatch q)
def CO(prog:Program)(w:World):PySem.KeyKind prog w Key where
 is:=Jo
 hash:=QH w
 inj:=λ v a b ha hb=>by
  rcases fO ha with⟨i,t,rfl,rfl⟩|⟨x,t,rfl,rfl⟩
  . rcases fO hb with⟨j,u,rfl,e⟩|⟨y,u,rfl,e⟩
    . injection e with e1 _;rw[e1]
    . exact nomatch e
  . rcases fO hb with⟨j,u,rfl,e⟩|⟨y,u,rfl,e⟩
    . exact nomatch e
    . injection e with e1 _;rw[e1]
 byValue:=λ k v h=>by
  rcases fO h with⟨i,t,rfl,rfl⟩|⟨x,t,rfl,rfl⟩<;>rfl
 pyHash:=λ hv h=>by
  rcases fO hv with⟨i,t,rfl,rfl⟩|⟨x,t,rfl,rfl⟩
  . exact wpAny_pyHash_int h
  . exact wpAny_pyHash_str h
 eqBool:=λ hu hv h=>by
  rcases fO hu with⟨i,t,rfl,rfl⟩|⟨x,t,rfl,rfl⟩
  . rcases fO hv with⟨j,u,rfl,rfl⟩|⟨y,u,rfl,rfl⟩
    . rw[MS]at h;exact wpAny_eqBool_int h
    . rw[N6]at h;exact SeqAt.EqAt.int_str i t y u _ _ _ _ h
  . rcases fO hv with⟨j,u,rfl,rfl⟩|⟨y,u,rfl,rfl⟩
    . rw[LP]at h;exact SeqAt.EqAt.str_int x t j u _ _ _ _ h
    . rw[MJ]at h;exact wpAny_eqBool_str h
 «strs» :=λ k x t v h=>by
  rcases fO h with⟨i,u,rfl,e⟩|⟨y,u,rfl,e⟩
  . exact nomatch e
  . injection e with e1 _;subst e1;cases v<;>rfl
inductive V where
 |aG|bl (b:Bool)|int (i:Int)|str (x:Str)|u6 (b:Array UInt8)|uX (b:UInt64)|ref (a:Addr)|ty (n:String)
 deriving DecidableEq
def RelV:V->Value->Prop
 | .aG,u=>u=Value.none
 | .bl b,u=>u=Value.bool b
 | .int i,u=>∃t,u=Value.int i t
 | .str x,u=>∃t,u=Value.str x t
 | .u6 b,u=>∃t,u=Value.bytes b t
 | .uX b,u=>∃t,u=Value.float b t
 | .ref a,u=>u=Value.ref a
 | .ty n,u=>u=Value.type n
abbrev Vals:List V->List Value->Prop:=Paired RelV
def Vals.length{xs:List V}{us:List Value}(r:Vals xs us):xs.length=us.length:=Paired.length r
def Vals.get:∀ {xs:List V} {us:List Value} {i:Nat} {x:V},Vals xs us->xs[i]?=some x->∃u,us[i]?=some u/\RelV x u
 |_,_,_,_,.nil,e=>by simp at e
 |_,_,0,_,.cons r _,e=>by simp at e;subst e;exact⟨_,rfl,r⟩
 |_,_,i+1,x,.cons _ t,e=>by
  obtain⟨u,h1,h2⟩:=Vals.get (i:=i) (x:=x) t (by simpa using e);exact⟨u,by simpa using h1,h2⟩
def Vals.set{x:V}{u:Value}(r:RelV x u):∀ {xs:List V} {us:List Value} (i:Nat),Vals xs us->Vals (xs.set i x) (us.set i u)
 |_,_,_,.nil=> .nil
 |_,_,0,.cons _ t=> .cons r t
 |_,_,i+1,.cons q t=> .cons q (Vals.set r i t)
def Vals.append:∀ {xs ys:List V} {us ws:List Value},Vals xs us->Vals ys ws->Vals (xs++ys) (us++ws)
 |_,_,_,_,.nil,s=>s
 |_,_,_,_,.cons r t,s=> .cons r (Vals.append t s)
def Vals.take:∀ {xs:List V} {us:List Value} (n:Nat),Vals xs us->Vals (xs.take n) (us.take n)
 |_,_,0,_=> .nil
 |_,_,_+1,.nil=> .nil
 |_,_,n+1,.cons r t=> .cons r (Vals.take n t)
def Vals.drop:∀ {xs:List V} {us:List Value} (n:Nat),Vals xs us->Vals (xs.drop n) (us.drop n)
 |_,_,0,r=>r
 |_,_,_+1,.nil=> .nil
 |_,_,n+1,.cons _ t=>Vals.drop n t
def qt:Option V->Option Value->Prop
 |some v,some u=>RelV v u
 |none,none=>True
 |_,_=>False
def KV{κ:Type}:List (κ×V)->List (κ×Value)->Prop:=Paired λ(p:κ×V) (q:κ×Value)=>p.1=q.1/\RelV p.2 q.2
def kV:Key->V
 | .inl i=> .int i
 | .inr x=> .str x
inductive HO where
 |lst (xs:List V)
 |tup (xs:List V)
 |dK (kvs:List (Key×V))|dT (kvs:List (List Key×V))
 |set (S:Int->Bool) (n:Nat)
 |ins (C dx:Addr) (fs:List (Str×V))
 |own (x:Addr)
 |xd (fs:List (Str×V))
 |met (f x:Addr)
 |MW (lo hi:Int)
 |g4 (o:Obj) (u:HO)
 |kZ (ps:Array Value)
 |ext (φ:Heap->Prop)
abbrev Hp:=Addr->Option HO
def upd(H:Hp)(a:Addr)(o:HO):Hp:=λ b=>if b=a then some o else H b
def a6{H:Hp}{a:Addr}{o:HO}:upd H a o a=some o:=by unfold upd;rw[Si rfl]
def aA{H:Hp}{a b:Addr}{o:HO}(h:b≠a):upd H a o b=H b:=by unfold upd;rw[Sf h]
def Lk{H:Hp}{a:Addr}{o u:HO}:upd (upd H a o) a u=upd H a u:=by
 funext b;unfold upd;split<;>rfl
def d_{H:Hp}{a b:Addr}{o:HO}(h:H a=some o)(h':H b=none):a≠b:=by
 intro e;subst e;rw[h]at h';cases h'
section
variable (P:Program)(w:World)
def d7(H:Hp)(h:Heap)(a:Addr):HO->Prop
 | .lst xs=>xs.length<=sizeLine/\∃(ao:List Value) (n:Nat),Vals xs ao/\h.get? a=some {cls:= .type "list",data:= .seq ao.toArray n}
 | .tup xs=>xs.length<=sizeLine/\∃ao:List Value,Vals xs ao/\IsTup h a ao.toArray
 | .dK kvs=>kvs.length<=sizeLine/\(a==sysModules)=false/\∃vs,KV kvs vs/\h.DictOf (CO P w) a vs
 | .dT kvs=>kvs.length<=sizeLine/\(a==sysModules)=false/\∃xs:List (List Key×Addr×Value),
    Paired (λ(p:List Key×V) (q:List Key×Addr×Value)=>p.1=q.1/\H q.2.1=some (.tup (p.1.map kV))/\RelV p.2 q.2.2) kvs xs/\
    ∃o es ep,h.get? a=some o/\o.ExactDict/\o.data= .dict es ep/\es.toList=xs.map (entryOfKey (tupleKind (CO P w)))/\(xs.map (·.1)).Nodup
 | .set S n=>h.SetOf (intKind P w) a S n
 | .ins C dx fs=>H dx=some (.own a)/\fs.length<=1000/\dx≠a/\h.get? a=some (PySem.W.instObj C dx)/\
    ∃mA,h.Ns1 dx mA/\(∀f,qt (fs.lookup f) (mA f))/\PySem.Within mA (fs.map (·.1))
 | .own _=>∃o,h.get? a=some o
 | .xd fs=>∃mA,h.Ns1 a mA/\∀f,qt (fs.lookup f) (mA f)
 | .MW lo hi=>∃t u v,h.get? a=some {cls:= .type "range",data:= .fields #[.int lo t,.int hi u,.int 1 v]}
 | .g4 o u=>h.get? a=some o/\d7 H h a u
 | .kZ ps=>h.get? a=some {cls:= .none,data:= .fields ps}
 | .met f x=>h.get? a=some (PySem.W.methodObj (.ref f) (.ref x))
 | .ext φ=>φ h/\(∃o,h.get? a=some o)/\∀h1 h2:Heap,φ h1->(∀o,h1.get? a=some o->h2.get? a=some o)->φ h2
def iQ(H:Hp)(h:Heap):Prop:=∀a o,H a=some o->d7 P w H h a o
end
section
variable {P:Program}{w:World}{H H':Hp}{h h':Heap}{a:Addr}{o:HO}
def d7.lt(x:d7 P w H h a o):a<h.objs.size:=by
 cases o with
 |lst xs=>obtain⟨_,_,_,_,e⟩:=x;exact Su e
 |tup xs=>obtain⟨_,_,_,p⟩:=x;exact p.lt
 |dK kvs=>obtain⟨_,_,_,_,o,_,_,e,_⟩:=x;exact Su e
 |dT kvs=>obtain⟨_,_,_,_,o,_,_,e,_⟩:=x;exact Su e
 |set S n=>obtain⟨o,_,_,_,e,_⟩:=x;exact Su e
 |ins C dx fs=>obtain⟨_,_,_,e,_⟩:=x;exact Su e
 |own y=>obtain⟨_,e⟩:=x;exact Su e
 |xd fs=>obtain⟨_,⟨_,_,_,e,_⟩,_⟩:=x;exact Su e
 |MW lo hi=>obtain⟨_,_,_,e⟩:=x;exact Su e
 |g4 ob u=>obtain⟨e,_⟩:=x;exact Su e
 |kZ ps=>exact Su (show h.get? a=some _ from x)
 |met f y=>exact Su (show h.get? a=some _ from x)
 |ext φ=>obtain⟨_,⟨_,e⟩,_⟩:=x;exact Su e
def Paired.Hl{α β:Type}{F G:α->β->Prop}:∀ {l₁:List α} {l₂:List β},Paired F l₁ l₂->(∀a b,F a b->G a b)->Paired G l₁ l₂
 |_,_,.nil,_=> .nil
 |_,_,.cons r t,f=> .cons (f _ _ r) (Paired.Hl t f)
def d7.l9(x:d7 P w H h a o)(k:∀b u,(b=a\/H b=some (.own a))->h.get? b=some u->h'.get? b=some u)
 (ho:∀b,H b=some (.own a)->H' b=some (.own a)) (ht:∀b xs,H b=some (.tup xs)->H' b=some (.tup xs)):d7 P w H' h' a o:=by
 induction o with
 |lst xs=>obtain⟨z,ao,n,r,e⟩:=x;exact⟨z,ao,n,r,k _ _ (.inl rfl) e⟩
 |tup xs=>obtain⟨z,ao,r,ob,e,c⟩:=x;exact⟨z,ao,r,ob,k _ _ (.inl rfl) e,c⟩
 |dK kvs=>obtain⟨z,y,vs,r,ob,es,ep,e,c⟩:=x;exact⟨z,y,vs,r,ob,es,ep,k _ _ (.inl rfl) e,c⟩
 |dT kvs=>
  obtain⟨z,y,xs,r,ob,es,ep,e,c⟩:=x;exact⟨z,y,xs,Paired.Hl r λ p q z=>⟨z.1,ht _ _ z.2.1,z.2.2⟩,ob,es,ep,k _ _ (.inl rfl) e,c⟩
 |set S n=>obtain⟨ob,es,ep,t,e,c⟩:=x;exact⟨ob,es,ep,t,k _ _ (.inl rfl) e,c⟩
 |ins C dx fs=>
  obtain⟨d,z,ne,e,mA,⟨od,es,ep,e2,c⟩,r⟩:=x;exact⟨ho _ d,z,ne,k _ _ (.inl rfl) e,mA,⟨od,es,ep,k _ _ (.inr d) e2,c⟩,r⟩
 |own y=>obtain⟨ob,e⟩:=x;exact⟨ob,k _ _ (.inl rfl) e⟩
 |xd fs=>obtain⟨mA,⟨od,es,ep,e,c⟩,r⟩:=x;exact⟨mA,⟨od,es,ep,k _ _ (.inl rfl) e,c⟩,r⟩
 |MW lo hi=>obtain⟨t,u,v,e⟩:=x;exact⟨t,u,v,k _ _ (.inl rfl) e⟩
 |g4 ob u ih=>obtain⟨e,q⟩:=x;exact⟨k _ _ (.inl rfl) e,ih q⟩
 |kZ ps=>
  have e:h.get? a=some {cls:= .none,data:= .fields ps}:=x;show h'.get? a=some {cls:= .none,data:= .fields ps};exact k a _ (.inl rfl) e
 |met f y=>
  have e:h.get? a=some (PySem.W.methodObj (.ref f) (.ref y)):=x;show h'.get? a=some (PySem.W.methodObj (.ref f) (.ref y));exact k a _ (.inl rfl) e
 |ext φ=>obtain⟨p,⟨o,e⟩,st⟩:=x;exact⟨st _ _ p λ o q=>k _ _ (.inl rfl) q,⟨o,k _ _ (.inl rfl) e⟩,st⟩
def iQ.lt(x:iQ P w H h)(e:H a=some o):a<h.objs.size:=(x a o e).lt
def iQ.fresh(x:iQ P w H h)(e:h.objs.size<=a):H a=none:=by
 cases q:H a with
 |none=>rfl
 |some u=>exact absurd (Sw (x.lt q) e) (TN _)
def iQ.kept(x:iQ P w H h)(k:∀b u,h.get? b=some u->h'.get? b=some u):iQ P w H h':=λ a o e=>
 (x a o e).l9 (λ b u _ q=>k b u q) (λ _ q=>q) λ _ _ q=>q
def iQ.laid(x:iQ P w H h)(k:∀b u,h.get? b=some u->h'.get? b=some u)(hp:h.objs.size<=a)(new:d7 P w (upd H a o) h' a o):iQ P w (upd H a o) h':=λ b u e=>by
 have hn:=x.fresh hp;by_cases hb:b=a
 . subst hb;rw[a6]at e;cases e;exact new
 . rw[aA hb]at e;exact(x b u e).l9 (λ c v _ q=>k c v q) (λ c q=>by rw[aA (d_ q hn)];exact q) λ c xs q=>by rw[aA (d_ q hn)];exact q
end
def Rd(H:Hp)(a:Addr)(u:HO):Prop:=H a=some u\/∃o,H a=some (.g4 o u)
def Rd.of{H:Hp}{a:Addr}{u:HO}(h:H a=some u):Rd H a u:= .inl h
def Rd.ok{P:Program}{w:World}{H:Hp}{h:Heap}{a:Addr}{u:HO}(r:Rd H a u)(x:iQ P w H h):d7 P w H h a u:=by
 rcases r with r|⟨o,r⟩
 . exact x a u r
 . obtain⟨_,q⟩:=x a _ r;exact q
def ID:Option HO->Prop
 |some (.lst _)=>True
 |some (.dK _)=>True
 |some (.dT _)=>True
 |some (.set _ _)=>True
 |some (.ins _ _ _)=>True
 |some (.ext _)=>True
 |_=>False
section
variable {P:Program}{w:World}{H:Hp}{h h':Heap}{x e:Addr}{o':HO}
def iQ.write(ok:iQ P w H h)(mu:ID (H x))(he:e=x\/H e=some (.own x))(k:∀b u,b≠e->h.get? b=some u->h'.get? b=some u)(heo:∃u,h'.get? e=some u)
 (new:d7 P w (upd H x o') h' x o'):iQ P w (upd H x o') h':=λ b u q=>by
 have nown:∀c y,H c=some (.own y)->c≠x:=λ c y r z=>by subst z;rw[r]at mu;exact mu
 have ntup:∀c xs,H c=some (.tup xs)->c≠x:=λ c xs r z=>by subst z;rw[r]at mu;exact mu
 by_cases hb:b=x
 . subst hb;rw[a6]at q;cases q;exact new
 . rw[aA hb]at q;by_cases hbe:b=e
   . have q':H b=some (.own x):=by
      rcases he with z|z
      . exact absurd (hbe.trans z) hb
      . rw[hbe];exact z
     rw[q]at q';cases q';obtain⟨v,hv⟩:=heo;exact⟨v,by rw[hbe];exact hv⟩
   . refine(ok b u q).l9 (λ c v hc r=>k c v ?_ r) (λ c r=>by rw[aA (nown c b r)];exact r) λ c xs r=>by rw[aA (ntup c xs r)];exact r
     rcases hc with rfl|hc
     . exact hbe
     . rintro rfl;rcases he with z|z
       . exact nown c b hc z
       . rw[hc]at z;cases z;exact hb rfl
end
structure Un(fs ex:List Addr)(H H':Hp)(h h':Heap):Prop where
 keep:∀b o,h.get? b=some o->H b=none->b∉fs->b∉ex->h'.get? b=some o
 slot:∀b o,h.get? b=some o->H b=none->b∈fs->b∉ex->∃sl,h'.get? b=some {o with slots:=sl}
 free:∀b o,h.get? b=some o->H b=none->b∉ex->H' b=none
 there:∀b o,h.get? b=some o->b∉ex->∃o',h'.get? b=some o'
 qm:∀b xs,H b=some (.tup xs)->H' b=some (.tup xs)
 o7:∀b o u,H b=some (.g4 o u)->H' b=some (.g4 o u)
 o3:∀b ps,H b=some (.kZ ps)->∃more,H' b=some (.kZ (ps++more))
section
variable {fs fs' ex ex':List Addr}{H H1 H2:Hp}{h h1 h2 h':Heap}{a x e:Addr}{o:HO}
def Un.any(u:Un fs ex H H1 h h1){b:Addr}{ob:Obj}(q:h.get? b=some ob)(n:H b=none)(hx:b∉ex):∃sl,h1.get? b=some {ob with slots:=sl}:=by
 by_cases hb:b∈fs
 . exact u.slot b ob q n hb hx
 . exact⟨ob.slots,u.keep b ob q n hb hx⟩
def Un.kept(k:∀b u,h.get? b=some u->h'.get? b=some u):Un fs ex H H h h':=
 ⟨λ b ob q _ _ _=>k b ob q,λ b ob q _ _ _=>⟨ob.slots,k b ob q⟩,λ _ _ _ n _=>n,λ b ob q _=>⟨ob,k b ob q⟩,λ _ _ q=>q,λ _ _ _ q=>q,λ _ ps q=>⟨#[],by rw[q];simp⟩⟩
def Un.refl:Un fs ex H H h h:=Un.kept λ _ _ q=>q
def Un.laid(k:∀b u,h.get? b=some u->h'.get? b=some u)(hp:h.objs.size<=a)(hn:H a=none):Un fs ex H (upd H a o) h h' where
 keep:=λ b u q _ _ _=>k b u q
 slot:=λ b u q _ _ _=>⟨u.slots,k b u q⟩
 free:=λ b u q n _=>by rw[aA (SW (Sw (Su q) hp))];exact n
 there:=λ b u q _=>⟨u,k b u q⟩
 qm:=λ b xs q=>by rw[aA (d_ q hn)];exact q
 o7:=λ b u xs q=>by rw[aA (d_ q hn)];exact q
 o3:=λ b ps q=>⟨#[],by rw[aA (d_ q hn),q];simp⟩
def Un.write(mu:ID (H x))(he:e=x\/H e=some (.own x))(k:∀b u,b≠e->h.get? b=some u->h'.get? b=some u)(heo:∃u,h'.get? e=some u):Un fs ex H (upd H x o) h h':=by
 have hx:∀b,H b=none->b≠x:=λ b n z=>by subst z;rw[n]at mu;exact mu
 have hb:∀b,H b=none->b≠e:=λ b n z=>by
  subst z;rcases he with r|r
  . exact hx b n r
  . rw[n]at r;cases r
 have hm:∀b u,H b=some u->¬ID (some u)->b≠x:=λ b u q nm z=>by subst z;rw[q]at mu;exact nm mu
 refine⟨λ b u q n _ _=>k b u (hb b n) q,λ b u q n _ _=>⟨u.slots,k b u (hb b n) q⟩,λ b u q n _=>by rw[aA (hx b n)];exact n,λ b u q _=>?_,
  λ b xs q=>by rw[aA (hm b _ q λ z=>z)];exact q,λ b u xs q=>by rw[aA (hm b _ q λ z=>z)];exact q,λ b ps q=>⟨#[],by rw[aA (hm b _ q λ z=>z),q];simp⟩⟩
 by_cases hbe:b=e
 . subst hbe;exact heo
 . exact⟨u,k b u hbe q⟩
end
def Jq(h:Heap)(H:Hp):List Addr:=(List.range h.objs.size).filter λ a=>(H a).isSome
def qr(h:Heap)(H:Hp):Heap:=PySem.W.hideAll h (Jq h H)
def EZ(h:Heap)(H:Hp):(qr h H).objs.size=h.objs.size:=PySem.W.hideAll_size _ _
def sj{h:Heap}{H:Hp}{b:Addr}{o:Obj}(e:h.get? b=some o)(n:H b=none):(qr h H).get? b=some o:=
 PySem.W.hideAll_get _ e λ hm=>by
  have q:(H b).isSome=true:=(Td.mp hm).2;rw[n]at q;simp at q
def JV{h:Heap}{H:Hp}{b:Addr}{o:Obj}(e:(qr h H).get? b=some o):h.get? b=some o/\H b=none:=by
 have e':h.get? b=some o:=PySem.W.of_hideAll (Jq h H) e;refine⟨e',?_⟩;cases q:H b with
 |none=>rfl
 |some x=>
  have hm:b∈Jq h H:=Td.mpr ⟨UA.mpr (Su e'),by simp[q]⟩;have z:(qr h H).get? b=none:=PySem.W.hideAll_none (Jq h H) hm;rw[z]at e;cases e
def K0(g h:Heap)(L:Addr):List (Addr×Obj):=(List.range h.objs.size).filterMap λ a=>if a=L\/(g.get? a).isSome=true then none else(h.get? a).map λ o=>(a,o)
def rest(g h:Heap)(L d:Addr):List (Addr×Obj):=(K0 g h L).filter λ p=>decide (p.1≠d)
structure Mod(K:PySem.W.Frag)(mg:Str->Option Value)(base:Heap):Prop where
 FZ:K.In base
 glob:base.Ns mainGlobals mg
 blt:∃mb,base.Ns builtinsNs mb/\∀x:Str,x≠"__name__"->mb x=bootBuiltins x
 nolimit:base.NoLimit
 seer:base.NoSeer
 bmain:∃bm ob,mg "__builtins__"=some (.ref bm)/\bm≠builtinsNs/\base.get? bm=some ob/\ob.cls= .type "module"/\ob.dict=some builtinsNs/\ob.data= .plain
structure Cx where
 prog:Program
 w:World
 K:PySem.W.Frag
 mg:Str->Option Value
 base:Heap
 A:Around
 N:List Str
 s₀:Shared
 H₀:Hp
 env:Env
 outer:List Env
 stack:List Env
 ex:List Addr
 fn:Str->Bool
 calm:Bool
 pn:List (Addr×Obj)
 xe:Value->Shared->Prop
def qK(l:List Env):List Addr:=l.filterMap (·.frame)
abbrev Cx.fs(X:Cx):List Addr:=qK X.outer
def AU(sc:Scope)(x:Str):Prop:=sc.names.lookup x=some .local\/sc.names.lookup x=some .cell\/sc.names.lookup x=some .free
def Loc(sc:Scope)(x:Str):Prop:=sc.names.lookup x=some .local\/sc.names.lookup x=some .cell
def Look(env:Env)(h:Heap)(m:Str->Option Value)(x:Str)(u:Value):Prop:=
 (env.kindOf x=some .local/\m x=some u)\/((env.kindOf x=some .cell\/env.kindOf x=some .free)/\∃c,env.cells.lookup x=some c/\h.IsCell c (some u))
structure Cx.Ok(X:Cx):Prop where
 mod:Mod X.K X.mg X.base
 kind:X.env.scope.kind= .function
 glob:X.env.globals=mainGlobals
 blt:X.env.builtins=builtinsNs
 above:X.s₀.heap.objs.size<=X.env.locals
 inj:∀x y c,X.env.cells.lookup x=some c->X.env.cells.lookup y=some c->x=y
 has:∀x,(X.env.kindOf x=some .cell\/X.env.kindOf x=some .free)->∃c,X.env.cells.lookup x=some c
 Ao:∀x c,X.fn x=true->X.env.cells.lookup x=some c->X.s₀.heap.objs.size<=c
 hd:X.calm=true->X.A.handled=none
 frames:X.A.frames=some X.stack
 Cd:X.stack=X.outer\/(X.stack=X.env::X.outer/\X.env.frame=some X.env.locals)
 GG:∀b∈X.ex,b≠X.env.locals/\∀x c,X.env.cells.lookup x=some c->c≠b
 bs:∀b o,X.base.get? b=some o->X.s₀.heap.get? b=some o/\X.H₀ b=none
 tQ:X.base.objs.size<=X.s₀.heap.objs.size
 vL:∀b o,X.base.get? b=some o->b∉X.ex
 vq:∀b∈X.ex,b∉X.fs
 lI:X.s₀.heap.FunFrames X.base X.outer
 xj:∀b∈X.fs,X.H₀ b=none
 gt:X.prog.given.tree=none
structure Inv(X:Cx)(pins:List (Addr×Obj))(σ:List (Option V))(H:Hp)(s:Shared):Prop where
 ok:X.Ok
 os:s.os=X.s₀.os
 bare:AllBare s.gens
 base:Un X.fs X.ex X.H₀ H X.s₀.heap s.heap
 loc:∃m,s.heap.Ns X.env.locals m/\∀(i:Nat) (x:Str) (v:V),X.N[i]?=some x->σ[i]?=some (some v)->AU X.env.scope x->∃u,RelV v u/\Look X.env s.heap m x u
 cell:∀x c,X.env.cells.lookup x=some c->∃v,s.heap.IsCell c v
 free:H X.env.locals=none
 jh:∀x c,X.env.cells.lookup x=some c->H c=none
 pin:∀p∈X.pn++pins,s.heap.get? p.1=some p.2/\H p.1=none/\p.1≠X.env.locals/\p.1∉X.fs/\∀v,p.2.data≠ .cell v
 aL:iQ X.prog X.w H s.heap
 len:σ.length=X.N.length
section
variable {X:Cx}{pins:List (Addr×Obj)}{σ:List (Option V)}{H H':Hp}{s:Shared}{h':Heap}
def Cx.Ok.QP(ok:X.Ok){b:Addr}{o:Obj}(e:X.base.get? b=some o):b∉X.fs:=λ hb=>by
 have:=(ok.lI.mem hb).1;rw[e]at this;cases this
def Inv.bs(I:Inv X pins σ H s):∀b o,X.base.get? b=some o->s.heap.get? b=some o/\H b=none:=λ b o e=>
 ⟨I.base.keep b o (I.ok.bs b o e).1 (I.ok.bs b o e).2 (I.ok.QP e) (I.ok.vL b o e),I.base.free b o (I.ok.bs b o e).1 (I.ok.bs b o e).2 (I.ok.vL b o e)⟩
def Inv.bk(I:Inv X pins σ H s):∀b o,X.base.get? b=some o->s.heap.get? b=some o:=λ b o e=>(I.bs b o e).1
def Inv.mod(I:Inv X pins σ H s):Mod X.K X.mg X.base:=I.ok.mod
def Inv.iw(I:Inv X pins σ H s):X.K.In s.heap:=I.ok.mod.FZ.keeps I.bk
def Inv.nolimit(I:Inv X pins σ H s):s.heap.NoLimit:=I.ok.mod.nolimit.keeps I.bk
def Inv.lt(I:Inv X pins σ H s):X.env.locals<s.heap.objs.size:=let⟨_,hn,_⟩:=I.loc;hn.lt
def Inv.sz(I:Inv X pins σ H s):X.s₀.heap.objs.size<=s.heap.objs.size:=Se I.ok.above (Tz I.lt)
def Inv.NI(I:Inv X pins σ H s){a:Addr}(h:s.heap.objs.size<=a):a∉X.fs:=λ hb=>by
 obtain⟨_,o,ho,_⟩:=I.ok.lI.mem hb;exact absurd (Sw (Su ho) (Se I.sz h)) (TN _)
def Inv.AH(I:Inv X pins σ H s):∀x c,X.env.cells.lookup x=some c->c≠X.env.locals:=λ x c e z=>by
 obtain⟨v,o,ho,hd⟩:=I.cell x c e;obtain⟨m,⟨o',es,ep,ho',hd',_⟩,_⟩:=I.loc;rw[z,ho']at ho;cases ho;rw[hd']at hd;cases hd
def Inv.lI(I:Inv X pins σ H s):s.heap.FunFrames X.base X.outer:=by
 have all:∀(l:List Env),(∀b∈qK l,b∈X.fs)->X.s₀.heap.FunFrames X.base l->s.heap.FunFrames X.base l:=by
  intro l;induction l with
  |nil=>intro _ _;trivial
  |cons env r ih=>
   intro hs hl;obtain⟨hk,⟨L,o,hf,hn,ho,hd⟩,hr⟩:=hl;have hL:L∈X.fs:=hs L (by unfold qK;rw[VL,hf];exact SD);obtain⟨sl,e⟩:=I.base.slot L o ho (I.ok.xj L hL) hL λ z=>I.ok.vq L z hL;exact⟨hk,⟨L,_,hf,hn,e,hd⟩,ih (λ b hb=>hs b (by unfold qK;rw[VL,hf];exact SG _ hb)) hr⟩
 exact all X.outer (λ _ hb=>hb) I.ok.lI
def Inv.stack(I:Inv X pins σ H s):s.heap.FunFrames X.base X.stack:=by
 rcases I.ok.Cd with e|⟨e,hf⟩
 . rw[e];exact I.lI
 . rw[e];obtain⟨m,hn,_⟩:=I.loc;refine .cons (by rw[I.ok.kind];decide) hf hn ?_ I.lI;exact Heap.get?_none_of_le (Se I.ok.tQ I.ok.above)
def Inv.z8(I:Inv X pins σ H s):∀b∈qK X.stack,b∈X.env.locals::X.fs:=λ b hb=>by
 rcases I.ok.Cd with e|⟨e,hf⟩
 . rw[e]at hb;exact SG _ hb
 . rw[e]at hb;unfold qK at hb;rw[VL,hf]at hb;exact hb
def Inv.xQ(I:Inv X pins σ H s):∀b∈qK X.stack,H b=none:=λ b hb=>by
 rcases SA.mp (I.z8 b hb)with e|hb
 . rw[e];exact I.free
 . obtain⟨_,o,ho,_⟩:=I.ok.lI.mem hb;exact I.base.free b o ho (I.ok.xj b hb) λ z=>I.ok.vq b z hb
def Inv.step{g':Array GenState}{t':Nat}{d':Drawn}{ch:List Addr}(I:Inv X pins σ H s)
 (hch:∀b∈ch,(b∈X.ex\/X.s₀.heap.objs.size<=b)/\b≠X.env.locals/\(∀x c,X.env.cells.lookup x=some c->c≠b)/\∀p∈X.pn++pins,p.1≠b)
 (keep:∀b o,b≠X.env.locals->b∉X.fs->b∉ch->s.heap.get? b=some o->H b=none->h'.get? b=some o)
 (slot:∀b o,b≠X.env.locals->b∈X.fs->b∉ch->s.heap.get? b=some o->H b=none->∃sl,h'.get? b=some {o with slots:=sl}) (free:∀b o,b∉ch->s.heap.get? b=some o->H b=none->H' b=none)
 (there:∀b o,b∉ch->s.heap.get? b=some o->∃o',h'.get? b=some o')
 (qm:∀b xs,H b=some (.tup xs)->H' b=some (.tup xs)) (o7:∀b o u,H b=some (.g4 o u)->H' b=some (.g4 o u)) (o3:∀b ps,H b=some (.kZ ps)->∃more,H' b=some (.kZ (ps++more)))
 (ns:∀m,s.heap.Ns X.env.locals m->h'.Ns X.env.locals m) (aL:iQ X.prog X.w H' h') (hg:AllBare g'):
 Inv X pins σ H' {s with heap:=h',gens:=g',drawn:=d',toks:=t'}:=by
 have neL:∀b o,X.s₀.heap.get? b=some o->b≠X.env.locals:=λ b o e=>SW (Sw (Su e) I.ok.above)
 have neC:∀b o,X.s₀.heap.get? b=some o->b∉X.ex->b∉ch:=λ b o e hx hb=>by
  rcases(hch b hb).1 with z|z
  . exact hx z
  . exact absurd (Sw (Su e) z) (TN _)
 have cellK:∀x c,X.env.cells.lookup x=some c->∀v,s.heap.IsCell c v->h'.IsCell c v:=λ x c e v ⟨o,ho,hd⟩=>by
  have nch:c∉ch:=λ z=>(hch c z).2.2.1 x c e rfl;by_cases hc:c∈X.fs
  . obtain⟨sl,q⟩:=slot c o (I.AH x c e) hc nch ho (I.jh x c e);exact⟨_,q,hd⟩
  . exact⟨o,keep c o (I.AH x c e) hc nch ho (I.jh x c e),hd⟩
 refine⟨I.ok,I.os,hg,⟨λ b o e n hb hx=>?_,λ b o e n hb hx=>?_,λ b o e n hx=>?_,λ b o e hx=>?_,λ b xs e=>qm b xs (I.base.qm b xs e),λ b o xs e=>o7 b o xs (I.base.o7 b o xs e),λ b ps e=>?_⟩,?_,λ x c e=>?_,?_,λ x c e=>?_,λ p hp=>?_,aL,I.len⟩
 . exact keep b o (neL b o e) hb (neC b o e hx) (I.base.keep b o e n hb hx) (I.base.free b o e n hx)
 . obtain⟨sl,e1⟩:=I.base.slot b o e n hb hx;obtain⟨sl',e2⟩:=slot b _ (neL b o e) hb (neC b o e hx) e1 (I.base.free b o e n hx);exact⟨sl',e2⟩
 . obtain⟨o',e1⟩:=I.base.there b o e hx;exact free b o' (neC b o e hx) e1 (I.base.free b o e n hx)
 . obtain⟨o',e1⟩:=I.base.there b o e hx;exact there b o' (neC b o e hx) e1
 . obtain⟨m1,e1⟩:=I.base.o3 b ps e;obtain⟨m2,e2⟩:=o3 b _ e1;exact⟨m1++m2,by rw[e2,Array.append_assoc]⟩
 . obtain⟨m,hn,hl⟩:=I.loc;refine⟨m,ns m hn,λ i x v e1 e2 e3=>?_⟩;obtain⟨u,r,l⟩:=hl i x v e1 e2 e3;refine⟨u,r,?_⟩;rcases l with l|⟨k,c,e,z⟩
   . exact .inl l
   . exact .inr ⟨k,c,e,cellK x c e _ z⟩
 . obtain⟨v,z⟩:=I.cell x c e;exact⟨v,cellK x c e v z⟩
 . obtain⟨m,⟨o,_,_,ho,_⟩,_⟩:=I.loc;exact free _ o (λ z=>(hch _ z).2.1 rfl) ho I.free
 . obtain⟨v,o,ho,hd⟩:=I.cell x c e;exact free c o (λ z=>(hch c z).2.2.1 x c e rfl) ho (I.jh x c e)
 . obtain⟨e,n,ne,nf,d⟩:=I.pin p hp;have nch:p.1∉ch:=λ z=>(hch p.1 z).2.2.2 p hp rfl;exact⟨keep p.1 p.2 ne nf nch e n,free p.1 p.2 nch e n,ne,nf,d⟩
def Inv.un{t':Nat}(I:Inv X pins σ H s)(u:Un X.fs [] H H' s.heap h')(aL:iQ X.prog X.w H' h'):Inv X pins σ H' {s with heap:=h',toks:=t'}:=by
 obtain⟨m,⟨o,es,ep,ho,r⟩,_⟩:=id I.loc;obtain⟨sl,hL⟩:=u.any ho I.free (by simp)
 exact I.step (g':=s.gens) (d':=s.drawn) (ch:=[]) (λ _ z=>nomatch z) (λ b o _ hb _ e n=>u.keep b o e n hb (by simp)) (λ b o _ hb _ e n=>u.slot b o e n hb (by simp)) (λ b o _ e n=>u.free b o e n (by simp)) (λ b o _ e=>u.there b o e (by simp)) u.qm u.o7 u.o3 (λ m' hm=>by
  obtain⟨o',es',ep',ho',r'⟩:=hm;rw[ho]at ho';cases ho';exact⟨_,es',ep',hL,r'⟩) aL I.bare
def Inv.call{g':Array GenState}{t':Nat}{d':Drawn}{ch:List Addr}(I:Inv X pins σ H s)(u:Un (qK X.stack) ch H H' s.heap h')(aL:iQ X.prog X.w H' h')(hg:AllBare g')
 (hch:∀b∈ch,(b∈X.ex\/X.s₀.heap.objs.size<=b)/\b≠X.env.locals/\(∀x c,X.env.cells.lookup x=some c->c≠b)/\∀p∈X.pn++pins,p.1≠b):
 Inv X pins σ H' {s with heap:=h',gens:=g',drawn:=d',toks:=t'}:=by
 obtain⟨m,⟨o,es,ep,ho,r⟩,_⟩:=id I.loc;obtain⟨sl,hL⟩:=u.any ho I.free λ z=>(hch _ z).2.1 rfl
 exact I.step (ch:=ch) hch (λ b o hL hb hc e n=>u.keep b o e n (λ z=>(SA.mp (I.z8 b z)).elim hL hb) hc) (λ b o _ _ hc e n=>u.any e n hc) (λ b o hc e n=>u.free b o e n hc) (λ b o hc e=>u.there b o e hc) u.qm u.o7 u.o3 (λ m' hm=>by
  obtain⟨o',es',ep',ho',r'⟩:=hm;rw[ho]at ho';cases ho';exact⟨_,es',ep',hL,r'⟩) aL hg
def Inv.turned{t':Nat}{it:Addr}(I:Inv X pins σ H s)(k:∀b o,b≠it->s.heap.get? b=some o->h'.get? b=some o)(hn:H it=none)(hL:it≠X.env.locals)
 (h1:it∈X.ex\/X.s₀.heap.objs.size<=it) (h2:∀x c,X.env.cells.lookup x=some c->c≠it) (h3:∀p∈X.pn++pins,p.1≠it):Inv X pins σ H {s with heap:=h',toks:=t'}:=by
 have nit:∀b u,H b=some u->b≠it:=λ b u e z=>by rw[z,hn]at e;cases e
 refine I.step (g':=s.gens) (d':=s.drawn) (ch:=[it]) (λ b hb=>?_) (λ b o _ _ hc e _=>k b o (λ z=>hc (by simp[z])) e) (λ b o _ _ hc e _=>⟨o.slots,k b o (λ z=>hc (by simp[z])) e⟩) (λ _ _ _ _ n=>n)
  (λ b o hc e=>⟨o,k b o (λ z=>hc (by simp[z])) e⟩) (λ _ _ e=>e) (λ _ _ _ e=>e) (λ b ps e=>⟨#[],by rw[e];simp⟩) (λ m hm=>?_) (λ b u e=>?_) I.bare
 . have e:b=it:=by simpa using hb
   subst e;exact⟨h1,hL,h2,h3⟩
 . obtain⟨o,es,ep,ho,r⟩:=hm;exact⟨o,es,ep,k _ o (Sq hL) ho,r⟩
 . refine(I.aL b u e).l9 (λ c v hc q=>k c v ?_ q) (λ _ q=>q) λ _ _ q=>q;rcases hc with z|z
   . rw[z];exact nit b u e
   . exact nit c _ z
def Inv.tok(I:Inv X pins σ H s)(t:Nat):Inv X pins σ H {s with toks:=t}:=I.un (h':=s.heap) (t':=t) Un.refl I.aL
def Inv.kept{t':Nat}(I:Inv X pins σ H s)(k:∀b u,s.heap.get? b=some u->h'.get? b=some u):Inv X pins σ H {s with heap:=h',toks:=t'}:=I.un (Un.kept k) (I.aL.kept k)
def Inv.laid{a:Addr}{o:HO}{t':Nat}(I:Inv X pins σ H s)(k:∀b u,s.heap.get? b=some u->h'.get? b=some u)(hp:s.heap.objs.size<=a)(new:d7 X.prog X.w (upd H a o) h' a o):
 Inv X pins σ (upd H a o) {s with heap:=h',toks:=t'}:=I.un (Un.laid k hp (I.aL.fresh hp)) (I.aL.laid k hp new)
def Inv.write{x e:Addr}{o:HO}{t':Nat}(I:Inv X pins σ H s)(mu:ID (H x))(he:e=x\/H e=some (.own x))(k:∀b u,b≠e->s.heap.get? b=some u->h'.get? b=some u)(heo:∃u,h'.get? e=some u)
 (new:d7 X.prog X.w (upd H x o) h' x o):Inv X pins σ (upd H x o) {s with heap:=h',toks:=t'}:=I.un (Un.write mu he k heo) (I.aL.write mu he k heo new)
def Inv.uM{pins':List (Addr×Obj)}(I:Inv X pins σ H s)(h:∀p∈pins',s.heap.get? p.1=some p.2/\H p.1=none/\p.1≠X.env.locals/\p.1∉X.fs/\∀v,p.2.data≠ .cell v):Inv X pins' σ H s:=
 ⟨I.ok,I.os,I.bare,I.base,I.loc,I.cell,I.free,I.jh,λ p hp=>(SE.mp hp).elim (λ z=>I.pin p (SS _ z)) (h p),I.aL,I.len⟩
def Az{N:List Str}(hN:N.Nodup){i j:Nat}{x:Str}(a:N[i]?=some x)(b:N[j]?=some x):i=j:=by
 obtain⟨h1,e1⟩:=Sg.mp a;obtain⟨h2,e2⟩:=Sg.mp b;exact(List.getElem_inj hN).mp (e1.trans e2.symm)
def yS{M:Model}{A:Around}{E:Value->Shared->Prop}{i:Nat}{x:Str}{v:V}{u:Value}{Q:Unit->Shared->Prop}(I:Inv X pins σ H s)(hN:X.N.Nodup)(hi:X.N[i]?=some x)(hx:Loc X.env.scope x)(r:RelV v u)
 (h:∀s',Inv X pins (σ.set i (some v)) H s'->(∃a,Heap.SameBut a s.heap s'.heap/\(a=X.env.locals\/X.env.cells.lookup x=some a))->Q () s') (hf:X.fn x=true\/X.env.scope.names.lookup x=some .local:=by first|exact .inl rfl|exact .inr rfl|assumption):wpAny M A (storeName X.env x u) Q E s:=by
 obtain⟨m,hn,hl⟩:=id I.loc;have hcls:(X.env.scope.kind== .class||(X.env.scope.kind== .module&&X.env.locals != X.env.globals))=false:=by rw[I.ok.kind];rfl
 have hiσ:i<σ.length:=by rw[I.len];exact(Sg.mp hi).1
 have AH:=I.AH
 have tracked:∀ {a:Addr} {h':Heap},(∃o,s.heap.get? a=some o/\H a=none)->Heap.SameBut a s.heap h'->iQ X.prog X.w H h':=λ{a h'} ha hs b ob e=>by
  obtain⟨_,_,hfree⟩:=ha;refine(I.aL b ob e).l9 (λ c w' hc q=>(hs.2 c ?_).trans q) (λ _ q=>q) λ _ _ q=>q;rintro rfl;rcases hc with rfl|hc
  . rw[hfree]at e;cases e
  . rw[hfree]at hc;cases hc
 rcases hx with hk|hk
 . refine wpAny_storeName_local hk hn (λ h' hn' hs=>?_) hcls;obtain⟨oL,_,_,hoL,_⟩:=id hn;refine h _ ⟨I.ok,I.os,I.bare,⟨λ b o e n hb hx=>?_,λ b o e n hb hx=>?_,I.base.free,λ b o e hx=>?_,I.base.qm,I.base.o7,I.base.o3⟩,⟨_,hn',λ j y v' e1 e2 e3=>?_⟩,λ y c e=>?_,I.free,I.jh,λ p hp=>?_,tracked ⟨oL,hoL,I.free⟩ hs,by simpa using I.len⟩ ⟨_,hs,.inl rfl⟩
   . exact(hs.2 b (SW (Sw (Su e) I.ok.above))).trans (I.base.keep b o e n hb hx)
   . obtain⟨sl,e1⟩:=I.base.slot b o e n hb hx;exact⟨sl,(hs.2 b (SW (Sw (Su e) I.ok.above))).trans e1⟩
   . obtain⟨o',e1⟩:=I.base.there b o e hx;exact⟨o',(hs.2 b (SW (Sw (Su e) I.ok.above))).trans e1⟩
   . by_cases hj:j=i
     . subst hj;rw[hi]at e1;cases e1;rw[Sy hiσ]at e2;cases e2;exact⟨u,r,.inl ⟨hk,by simp⟩⟩
     . rw[Sj (Sq hj)]at e2;obtain⟨u',r',q⟩:=hl j y v' e1 e2 e3;refine⟨u',r',?_⟩;rcases q with⟨k,e⟩|⟨k,c,e,z⟩
       . refine .inl ⟨k,?_⟩;have:y≠x:=λ e=>hj (Az hN e1 (e▸hi));simp[this,e]
       . exact .inr ⟨k,c,e,z.sameBut hs (AH y c e)⟩
   . obtain⟨w',z⟩:=I.cell y c e;exact⟨w',z.sameBut hs (AH y c e)⟩
   . obtain⟨e,n,ne,nf,d⟩:=I.pin p hp;exact⟨(hs.2 p.1 ne).trans e,n,ne,nf,d⟩
 . have hfn:X.fn x=true:=by
    rcases hf with z|z
    . exact z
    . rw[z]at hk;cases hk
   obtain⟨c,hc⟩:=I.ok.has x (.inl hk);obtain⟨w',z⟩:=I.cell x c hc;refine wpAny_storeName_cell I.ok.kind hk hc z (λ h' hc' hs=>?_);obtain⟨oc,hoc,hocd⟩:=id z;refine h {s with heap:=h'} ⟨I.ok,I.os,I.bare,⟨λ b o e n hb hx=>?_,λ b o e n hb hx=>?_,I.base.free,λ b o e hx=>?_,I.base.qm,I.base.o7,I.base.o3⟩,⟨m,hn.sameBut hs (Sq (AH x c hc)),λ j y v' e1 e2 e3=>?_⟩,λ y c' e=>?_,I.free,I.jh,λ p hp=>?_,tracked ⟨oc,hoc,I.jh x c hc⟩ hs,by simpa using I.len⟩ ⟨c,hs,.inr hc⟩
   . exact(hs.2 b (SW (Sw (Su e) (I.ok.Ao x c hfn hc)))).trans (I.base.keep b o e n hb hx)
   . obtain⟨sl,e1⟩:=I.base.slot b o e n hb hx;exact⟨sl,(hs.2 b (SW (Sw (Su e) (I.ok.Ao x c hfn hc)))).trans e1⟩
   . obtain⟨o',e1⟩:=I.base.there b o e hx;exact⟨o',(hs.2 b (SW (Sw (Su e) (I.ok.Ao x c hfn hc)))).trans e1⟩
   . by_cases hj:j=i
     . subst hj;rw[hi]at e1;cases e1;rw[Sy hiσ]at e2;cases e2;exact⟨u,r,.inr ⟨.inl hk,c,hc,hc'⟩⟩
     . rw[Sj (Sq hj)]at e2;obtain⟨u',r',q⟩:=hl j y v' e1 e2 e3;refine⟨u',r',?_⟩;rcases q with q|⟨k,c',e,z'⟩
       . exact .inl q
       . refine .inr ⟨k,c',e,z'.sameBut hs ?_⟩;rintro rfl;exact hj (Az hN e1 (I.ok.inj _ _ _ e hc▸hi))
   . by_cases hcc:c'=c
     . subst hcc;exact⟨_,hc'⟩
     . obtain⟨w2,z2⟩:=I.cell y c' e;exact⟨w2,z2.sameBut hs hcc⟩
   . obtain⟨e,n,ne,nf,d⟩:=I.pin p hp;refine⟨(hs.2 p.1 ?_).trans e,n,ne,nf,d⟩;intro q;rw[q,hoc]at e;have q':oc=p.2:=Tq e;exact d w' (by rw[<-q'];exact hocd)
def o4{M:Model}{A:Around}{E:Value->Shared->Prop}{i:Nat}{x:Str}{v:V}{u:Value}{Q:Unit->Shared->Prop}(I:Inv X pins σ H s)(hN:X.N.Nodup)(hi:X.N[i]?=some x)(hx:Loc X.env.scope x)(r:RelV v u)
 (h:∀s',Inv X pins (σ.set i (some v)) H s'->Q () s') (hf:X.fn x=true\/X.env.scope.names.lookup x=some .local:=by first|exact .inl rfl|exact .inr rfl|assumption):wpAny M A (storeName X.env x u) Q E s:=
 yS I hN hi hx r (λ s' I' _=>h s' I') hf
def Inv.Di{s':Shared}{ch:List Addr}(I:Inv X pins σ H s)(ho:s'.os=s.os)(u:Un (qK X.stack) ch H H' s.heap s'.heap)(aL:iQ X.prog X.w H' s'.heap)(hg:AllBare s'.gens)
 (hch:∀b∈ch,(b∈X.ex\/X.s₀.heap.objs.size<=b)/\b≠X.env.locals/\(∀x c,X.env.cells.lookup x=some c->c≠b)/\∀p∈X.pn++pins,p.1≠b):Inv X pins σ H' s':=by
 obtain⟨h',g',d',t',o'⟩:=s';have e:o'=s.os:=ho;subst e;exact I.call (g':=g') (t':=t') (d':=d') u aL hg hch
end
abbrev XK:=Value->Option Addr->Hp->Prop
abbrev St:=List (Option V)
abbrev VK:=V->Hp->Prop
abbrev TE:=St->Hp->VK->Prop
abbrev TT:=St->Hp->(Bool->Hp->Prop)->Prop
abbrev TA:=St->Hp->(List V->Hp->Prop)->Prop
structure Ends where
 nx:St->Hp->Prop
 rt:VK
 bk:St->Hp->Prop:=λ _ _=>False
 ct:St->Hp->Prop:=λ _ _=>False
abbrev TS:=Ends->St->Hp->Prop
def EP(X:Cx)(pins:List (Addr×Obj))(σ:St)(Q:VK)(u:Value)(s':Shared):Prop:=∃v H',Inv X pins σ H' s'/\RelV v u/\Q v H'
def TP(X:Cx)(pins:List (Addr×Obj))(σ:St)(Q:Bool->Hp->Prop)(b:Bool)(s':Shared):Prop:=∃H',Inv X pins σ H' s'/\Q b H'
def AP(X:Cx)(pins:List (Addr×Obj))(σ:St)(Q:List V->Hp->Prop)(us:List Value)(s':Shared):Prop:=∃vs H',Inv X pins σ H' s'/\Vals vs us/\Q vs H'
def SP(X:Cx)(pins:List (Addr×Obj))(D:Ends)(f:Flow)(s':Shared):Prop:=
 match f with
 | .next=>∃σ' H',Inv X pins σ' H' s'/\D.nx σ' H'
 | .brk=>∃σ' H',Inv X pins σ' H' s'/\D.bk σ' H'
 | .cont=>∃σ' H',Inv X pins σ' H' s'/\D.ct σ' H'
 | .ret u=>∃v σ' H',Inv X pins σ' H' s'/\RelV v u/\D.rt v H'
def PE(X:Cx)(e:Expr)(t:TE):Prop:=
 ∀(pins:List (Addr×Obj)) (s:Shared) (σ:St) (H:Hp) (Q:VK),Inv X pins σ H s->t σ H Q->wpAny (model X.prog X.w) X.A (eval e X.env) (EP X pins σ Q) X.xe s
def PT(X:Cx)(e:Expr)(t:TT):Prop:=
 ∀(pins:List (Addr×Obj)) (s:Shared) (σ:St) (H:Hp) (Q:Bool->Hp->Prop),Inv X pins σ H s->t σ H Q->wpAny (model X.prog X.w) X.A (isTrue e X.env (eval e X.env)) (TP X pins σ Q) X.xe s
def PW(X:Cx)(e:Expr)(t:TT):Prop:=
 ∀(whole:Sem Value) (pins:List (Addr×Obj)) (s:Shared) (σ:St) (H:Hp) (Q:Bool->Hp->Prop),Inv X pins σ H s->t σ H Q->wpAny (model X.prog X.w) X.A (isTrue e X.env whole) (TP X pins σ Q) X.xe s
def PW.pt{X:Cx}{e:Expr}{t:TT}(h:PW X e t):PT X e t:=h _
def PA(X:Cx)(es:List Expr)(t:TA):Prop:=
 ∀(pos:Pos) (pins:List (Addr×Obj)) (s:Shared) (σ:St) (H:Hp) (Q:List V->Hp->Prop),Inv X pins σ H s->t σ H Q->wpAny (model X.prog X.w) X.A (spliced (backTo pos (starEach es X.env))) (AP X pins σ Q) X.xe s
def PS(X:Cx)(st:Stmt)(t:TS):Prop:=
 ∀(pins:List (Addr×Obj)) (s:Shared) (σ:St) (H:Hp) (D:Ends),Inv X pins σ H s->t D σ H->wpAny (model X.prog X.w) X.A (exec st X.env) (SP X pins D) X.xe s
def iu(X:Cx)(st:List Stmt)(t:TS):Prop:=
 ∀(pins:List (Addr×Obj)) (s:Shared) (σ:St) (H:Hp) (D:Ends),Inv X pins σ H s->t D σ H->wpAny (model X.prog X.w) X.A (execs st X.env) (SP X pins D) X.xe s
def cJ{α:Type}{t:Sem α}{Q Q':α->Shared->Prop}{M:Model}{A:Around}{E:Value->Shared->Prop}{s:Shared}(h:wpAny M A t Q E s)(hQ:∀a s,Q a s->Q' a s):wpAny M A t Q' E s:=Uv h hQ λ _ _ x=>x
section
variable {X:Cx}
def M9(i:Nat):TE:=λ σ H Q=>∃v,σ[i]?=some (some v)/\Q v H
def tC(v:V):TE:=λ _ H Q=>Q v H
def Nh{i:Nat}{x:Str}{pos:Pos}(hN:X.N[i]?=some x)(hv:AU X.env.scope x)(hd:(x==("__debug__":Str))=false:=by decide)(hcd:(x==("__classdict__":Str))=false:=by decide):PE X (.Name x pos) (M9 i):=by
 intro pins s σ H Q I h;obtain⟨v,e,h⟩:=h;obtain⟨m,hn,hl⟩:=I.loc;obtain⟨u,r,l⟩:=hl i x v hN e hv;have fin:EP X pins σ Q u s:=⟨v,H,I,r,h⟩
 rcases l with⟨hk,hm⟩|⟨hk,c,hc,hcell⟩
 . exact wpAny_Name (wpAny_loadName_local I.ok.kind hk hn hm fin) hd
 . rcases hk with hk|hk
   . exact wpAny_Name (wpAny_loadName_cell I.ok.kind hk hc hcell fin) hd
   . exact wpAny_Name (wpAny_loadName_free I.ok.kind hk hc hcell fin hcd) hd
def LJ{i j pos}:PE X (.Constant (.int i) j pos) (tC (.int i)):=λ _ _ _ H _ I h=>wpAny_Constant_int ⟨.int i,H,I.tok _,⟨_,rfl⟩,h⟩
def O0{b j pos}:PE X (.Constant (.bool b) j pos) (tC (.bl b)):=λ _ _ _ H _ I h=>Constant_bool ⟨.bl b,H,I,rfl,h⟩
def Np{j pos}:PE X (.Constant .none j pos) (tC .aG):=λ _ _ _ H _ I h=>Constant_none ⟨.aG,H,I,rfl,h⟩
def L8{x j pos}:PE X (.Constant (.str x) j pos) (tC (.str x)):=λ _ _ _ H _ I h=>Calls.Constant_str ⟨.str x,H,I.tok _,⟨_,rfl⟩,h⟩
def Gl(X:Cx)(x:Str):Prop:=X.env.kindOf x=some .globalImplicit
def Cp{E:Value->Shared->Prop}{pins:List (Addr×Obj)}{s:Shared}{σ:St}{H:Hp}{x:Str}{u:Value}{pos:Pos}{Q:Value->Shared->Prop}(I:Inv X pins σ H s)(hg:Gl X x)(hm:X.mg x=some u)(h:Q u s)
 (hd:(x==("__debug__":Str))=false:=by decide):wpAny (model X.prog X.w) X.A (eval (.Name x pos) X.env) Q E s:=
 WO I.ok.kind hg (Calls.loadGlobal_global (by rw[I.ok.glob];exact I.mod.glob.keeps I.bk) hm h) hd
def lq{E:Value->Shared->Prop}{pins:List (Addr×Obj)}{s:Shared}{σ:St}{H:Hp}{x:Str}{u:Value}{pos:Pos}{Q:Value->Shared->Prop}(I:Inv X pins σ H s)(hg:Gl X x)(hm:X.mg x=none)(hv:bootBuiltins x=some u)(h:Q u s)
 (hn:x≠"__name__":=by decide) (hd:(x==("__debug__":Str))=false:=by decide):wpAny (model X.prog X.w) X.A (eval (.Name x pos) X.env) Q E s:=by
 obtain⟨mb,h1,h2⟩:=I.mod.blt;exact WO I.ok.kind hg (Calls.loadGlobal_builtin (by rw[I.ok.glob];exact I.mod.glob.keeps I.bk) hm (by rw[I.ok.blt];exact h1.keeps I.bk) ((h2 x hn).trans hv) h) hd
def KG{x:Str}{v:V}{u:Value}{pos:Pos}(hg:Gl X x)(hm:X.mg x=none)(hv:bootBuiltins x=some u)(r:RelV v u)(hn:x≠"__name__":=by decide)(hd:(x==("__debug__":Str))=false:=by decide):PE X (.Name x pos) (tC v):=
 λ _ _ _ H _ I h=>lq I hg hm hv ⟨v,H,I,r,h⟩ hn hd
variable {a b:Expr}{ta tb:TE}{pos:Pos}
def tB(t:TE):TT:=λ σ H Q=>t σ H λ x H1=>∃c,x= .bl c/\Q c H1
def Ou{e:Expr}{t:TE}(h:PE X e t)(he:∀whole,isTrue e X.env whole=(do let v <-whole;standAt e.pos;holding [v] (truthy v)):=by intro _;rfl):PT X e (tB t):=by
 intro pins s σ H Q I hw;refine isTrue_plain (cJ (h pins s σ H _ I hw) λ v s1 ⟨x,H1,I1,r1,q1⟩=>?_) (he _);obtain⟨d,rfl,q⟩:=q1;cases r1;exact Vx ⟨H1,I1,q⟩
variable {tA tB':TT}{rest:List Expr}
def MI(t u:TT):TT:=λ σ H Q=>t σ H λ c H1=>if c=true then u σ H1 Q else Q false H1
def Qi(t u:TT):TT:=λ σ H Q=>t σ H λ c H1=>if c=true then Q true H1 else u σ H1 Q
def Q4(t:TT):TT:=λ σ H Q=>t σ H λ c H1=>Q (!c) H1
def pw_and1(ha:PT X a tA):PW X (.BoolOp .And [a] pos) tA:=by
 intro wh pins s σ H Q I h;refine isTrue_and (cJ (ha pins s σ H Q I h) λ c s1 e=>?_);cases c with
 |true=>exact isTrue_and_nil e
 |false=>exact e
def pw_or1(ha:PT X a tA):PW X (.BoolOp .Or [a] pos) tA:=by
 intro wh pins s σ H Q I h;refine isTrue_or (cJ (ha pins s σ H Q I h) λ c s1 e=>?_);cases c with
 |false=>exact isTrue_or_nil e
 |true=>exact e
def pw_and(ha:PT X a tA)(hb:PW X (.BoolOp .And (b::rest) pos) tB'):PW X (.BoolOp .And (a::b::rest) pos) (MI tA tB'):=by
 intro wh pins s σ H Q I h;refine isTrue_and (cJ (ha pins s σ H _ I h) λ c s1 ⟨H1,I1,q1⟩=>?_);cases c with
 |true=>exact hb wh pins s1 σ H1 Q I1 q1
 |false=>exact⟨H1,I1,q1⟩
def pw_or(ha:PT X a tA)(hb:PW X (.BoolOp .Or (b::rest) pos) tB'):PW X (.BoolOp .Or (a::b::rest) pos) (Qi tA tB'):=by
 intro wh pins s σ H Q I h;refine isTrue_or (cJ (ha pins s σ H _ I h) λ c s1 ⟨H1,I1,q1⟩=>?_);cases c with
 |true=>exact⟨H1,I1,q1⟩
 |false=>exact hb wh pins s1 σ H1 Q I1 q1
def NL(ha:PT X a tA):PT X (.UnaryOp .Not a pos) (Q4 tA):=by
 intro pins s σ H Q I h;exact isTrue_not (ha pins s σ H (λ c H1=>Q (!c) H1) I h)
def Pf(ta tb:TE):TE:=λ σ H Q=>ta σ H λ x H1=>∃c,x= .bl c/\if c=true then tb σ H1 Q else Q (.bl false) H1
def PN(ta:TE):TE:=λ σ H Q=>ta σ H λ x H1=>∃c,x= .bl c/\Q (.bl (!c)) H1
def M1{op}{t:TE}(h:PE X a t):PE X (.BoolOp op [a] pos) t:=λ pins s σ H Q I hw=>BoolOp_one (h pins s σ H Q I hw)
def Nn(ha:PE X a ta)(hb:PE X (.BoolOp .And (b::rest) pos) tb):PE X (.BoolOp .And (a::b::rest) pos) (Pf ta tb):=by
 intro pins s σ H Q I h;refine BoolOp_and (cJ (ha pins s σ H _ I h) λ v s1 ⟨x,H1,I1,r1,q1⟩=>?_);obtain⟨c,rfl,q1⟩:=q1;cases r1;refine Vx ?_;cases c with
 |true=>exact hb pins s1 σ H1 Q I1 q1
 |false=>exact⟨.bl false,H1,I1,rfl,q1⟩
def Ml(ha:PE X a ta):PE X (.UnaryOp .Not a pos) (PN ta):=by
 intro pins s σ H Q I h;refine UnaryOp_ (cJ (ha pins s σ H _ I h) λ v s1 ⟨x,H1,I1,r1,q1⟩=>?_);obtain⟨c,rfl,q1⟩:=q1;cases r1;exact not_of (Vx ⟨.bl (!c),H1,I1,rfl,q1⟩)
def R6(t:TT)(ta tb:TE):TE:=λ σ H Q=>t σ H λ c H1=>if c=true then ta σ H1 Q else tb σ H1 Q
def GY{c:Expr}(hc:PT X c tA)(ha:PE X a ta)(hb:PE X b tb):PE X (.IfExp c a b pos) (R6 tA ta tb):=by
 intro pins s σ H Q I h;refine wpAny_IfExp (cJ (hc pins s σ H _ I h) λ d s1 ⟨H1,I1,q1⟩=>?_);cases d with
 |true=>exact ha pins s1 σ H1 Q I1 q1
 |false=>exact hb pins s1 σ H1 Q I1 q1
end
def nr(K:PySem.W.Frag)(H:Hp)(a:Addr)(xs:List V):Prop:=
 Rd H a (.lst xs)\/
  ∃(o:Obj) (ao:Array Value) (n:Nat),K.lookup a=some o/\o.cls= .type "list"/\o.dict=none/\o.data= .seq ao n/\ao.size<=sizeLine/\Vals xs ao.toList
def jH(K:PySem.W.Frag)(H:Hp)(a:Addr)(xs:List V):Prop:=
 Rd H a (.tup xs)\/
  ∃(o:Obj) (ao:Array Value) (n:Nat),K.lookup a=some o/\o.cls= .type "tuple"/\o.data= .seq ao n/\ao.size<=sizeLine/\Vals xs ao.toList
def Ra:Value->Option V
 | .none=>some .aG
 | .bool b=>some (.bl b)
 | .int i _=>some (.int i)
 | .str x _=>some (.str x)
 | .bytes b _=>some (.u6 b)
 | .float b _=>some (.uX b)
 | .ref a=>some (.ref a)
 | .type n=>some (.ty n)
 |_=>none
def RelV.abs{x:V}{u:Value}(r:RelV x u):Ra u=some x:=by
 cases x with
 |aG=>cases r;rfl
 |bl _=>cases r;rfl
 |int _=>obtain⟨t,rfl⟩:=r;rfl
 |str _=>obtain⟨t,rfl⟩:=r;rfl
 |u6 _=>obtain⟨t,rfl⟩:=r;rfl
 |uX _=>obtain⟨t,rfl⟩:=r;rfl
 |ref _=>cases r;rfl
 |ty _=>cases r;rfl
def RelV.inj{x y:V}{u:Value}(r:RelV x u)(q:RelV y u):x=y:=Tq (r.abs.symm.trans q.abs)
def Vals.inj:∀ {xs ys:List V} {us:List Value},Vals xs us->Vals ys us->xs=ys
 |_,_,_,.nil,.nil=>rfl
 |_,_,_,.cons r t,.cons r' t'=>by rw[r.inj r',Vals.inj t t']
section
variable {X:Cx}{pins:List (Addr×Obj)}{σ:St}{H:Hp}{s:Shared}{a:Addr}{xs ys:List V}
def nr.of{K:PySem.W.Frag}(h:H a=some (.lst xs)):nr K H a xs:= .inl (.inl h)
def jH.of{K:PySem.W.Frag}(h:H a=some (.tup xs)):jH K H a xs:= .inl (.inl h)
def Inv.list(I:Inv X pins σ H s)(h:nr X.K H a xs):∃ao:List Value,Vals xs ao/\PlainL s.heap a ao.toArray/\xs.length<=sizeLine:=by
 rcases h with h|⟨o,ao,n,hk,hc,hd,hs,hz,r⟩
 . obtain⟨z,ao,n,r,e⟩:=h.ok I.aL;exact⟨ao,r,⟨_,n,e,rfl,rfl,rfl⟩,z⟩
 . refine⟨ao.toList,r,⟨o,n,I.iw a o hk,hc,hd,by simpa using hs⟩,?_⟩;have e:=r.length;simp only[T5]at e;omega
def Inv.tuple(I:Inv X pins σ H s)(h:jH X.K H a xs):∃ao:List Value,Vals xs ao/\IsTup s.heap a ao.toArray/\xs.length<=sizeLine:=by
 rcases h with h|⟨o,ao,n,hk,hc,hs,hz,r⟩
 . obtain⟨z,ao,r,p⟩:=h.ok I.aL;exact⟨ao,r,p,z⟩
 . refine⟨ao.toList,r,⟨o,I.iw a o hk,hc,n,by simpa using hs⟩,?_⟩;have e:=r.length;simp only[T5]at e;omega
def Inv.Ag(I:Inv X pins σ H s)(h:nr X.K H a xs)(h':nr X.K H a ys):xs=ys:=by
 obtain⟨ao,r,⟨o,n,e,_,_,d⟩,_⟩:=I.list h;obtain⟨its',r',⟨o',n',e',_,_,d'⟩,_⟩:=I.list h';rw[e]at e';cases e';rw[d]at d';injection d' with d1 _;have:ao=its':=by simpa using Ui Array.toList d1
 subst this;exact r.inj r'
def Inv.yQ(I:Inv X pins σ H s)(h:jH X.K H a xs)(h':jH X.K H a ys):xs=ys:=by
 obtain⟨ao,r,⟨o,e,_,n,d⟩,_⟩:=I.tuple h;obtain⟨its',r',⟨o',e',_,n',d'⟩,_⟩:=I.tuple h';rw[e]at e';cases e';rw[d]at d';injection d' with d1 _;have:ao=its':=by simpa using Ui Array.toList d1
 subst this;exact r.inj r'
end
abbrev Cx.qd(X:Cx)(E:Value->Shared->Prop):Cx:={X with xe:=E}
abbrev Cx.wZ(X:Cx):Cx:=X.qd λ _ _=>False
def Cx.Ok.qd{X:Cx}(ok:X.Ok)(E:Value->Shared->Prop):(X.qd E).Ok:=
 ⟨ok.mod,ok.kind,ok.glob,ok.blt,ok.above,ok.inj,ok.has,ok.Ao,ok.hd,ok.frames,ok.Cd,ok.GG,ok.bs,ok.tQ,ok.vL,ok.vq,ok.lI,ok.xj,ok.gt⟩
def Cx.Ok.ny{X:Cx}{E:Value->Shared->Prop}(ok:(X.qd E).Ok):X.Ok:=
 ⟨ok.mod,ok.kind,ok.glob,ok.blt,ok.above,ok.inj,ok.has,ok.Ao,ok.hd,ok.frames,ok.Cd,ok.GG,ok.bs,ok.tQ,ok.vL,ok.vq,ok.lI,ok.xj,ok.gt⟩
section
variable {X:Cx}{pins:List (Addr×Obj)}{σ:St}{H:Hp}{s:Shared}{E:Value->Shared->Prop}
def Inv.qd(I:Inv X pins σ H s)(E:Value->Shared->Prop):Inv (X.qd E) pins σ H s:=⟨I.ok.qd E,I.os,I.bare,I.base,I.loc,I.cell,I.free,I.jh,I.pin,I.aL,I.len⟩
def Inv.ny(I:Inv (X.qd E) pins σ H s):Inv X pins σ H s:=⟨I.ok.ny,I.os,I.bare,I.base,I.loc,I.cell,I.free,I.jh,I.pin,I.aL,I.len⟩
def SP.ny{D:Ends}{f:Flow}{s':Shared}(h:SP (X.qd E) pins D f s'):SP X pins D f s':=by
 cases f with
 |next=>obtain⟨σ',H',I,q⟩:=h;exact⟨σ',H',I.ny,q⟩
 |brk=>obtain⟨σ',H',I,q⟩:=h;exact⟨σ',H',I.ny,q⟩
 |cont=>obtain⟨σ',H',I,q⟩:=h;exact⟨σ',H',I.ny,q⟩
 |ret u=>obtain⟨v,σ',H',I,r,q⟩:=h;exact⟨v,σ',H',I.ny,r,q⟩
def iu.wZ{st:List Stmt}{t:TS}(h:iu X.wZ st t):iu X st t:=λ pins s σ H D I hw=>
 Uv (h pins s σ H D (I.qd _) hw) (λ _ _ q=>q.ny) λ _ _ z=>False.elim z
end
section
variable {X:Cx}{st:Stmt}{rest:List Stmt}{t u:TS}{e:Expr}{te:TE}{pos:Pos}
def P0:TS:=λ D σ H=>D.nx σ H
def Rh(t u:TS):TS:=λ D σ H=>t {D with nx:=u D} σ H
def JX:iu X [] P0:=λ _ _ σ H _ I h=>Wn ⟨σ,H,I,h⟩
def GQ(h1:PS X st t)(h2:iu X rest u):iu X (st::rest) (Rh t u):=by
 intro pins s σ H D I h;refine wpAny_execs_cons (cJ (h1 pins s σ H {D with nx:=u D} I h) λ f s1 q=>?_);cases f with
 |next=>
  obtain⟨σ',H',I',q⟩:=q;exact h2 pins s1 σ' H' D I' q
 |ret v=>exact q
 |brk=>exact q
 |cont=>exact q
def Kx(h1:PS X st t):iu X [st] t:=by
 intro pins s σ H D I h;refine wpAny_execs_cons (cJ (h1 pins s σ H D I h) λ f s1 q=>?_);cases f with
 |next=>exact Wn q
 |ret v=>exact q
 |brk=>exact q
 |cont=>exact q
def Inv.quiet{pins:List (Addr×Obj)}{σ:St}{H:Hp}{s:Shared}(I:Inv X pins σ H s):interactive X.env=false:=by simp[interactive,I.ok.kind]
def Pk(te:TE):TS:=λ D σ H=>te σ H λ _ H1=>D.nx σ H1
def J9(he:PE X e te)(hs:swapsWith e none pos.line X.env=pure false:=by rfl):PS X (.Expr e pos) (Pk te):=by
 intro pins s σ H D I h;exact wpAny_Expr_any (cJ (he pins s σ H _ I h) λ v s1 ⟨x,H1,I1,r1,q1⟩=>⟨σ,H1,I1,q1⟩) I.quiet hs
def Q8(te:TE):TS:=λ D σ H=>te σ H D.rt
def NF(he:PE X e te):PS X (.Return (some e) pos) (Q8 te):=by
 intro pins s σ H D I h;exact wpAny_Return_some (cJ (he pins s σ H _ I h) λ v s1 ⟨x,H1,I1,r1,q1⟩=>⟨x,σ,H1,I1,r1,q1⟩)
def Rt(c:TT)(t u:TS):TS:=λ D σ H=>c σ H λ b H1=>if b=true then t D σ H1 else u D σ H1
def Qh{c:Expr}{a b:List Stmt}{tc:TT}(hc:PT X c tc)(ha:iu X a t)(hb:iu X b u):PS X (.If c a b pos) (Rt tc t u):=by
 intro pins s σ H D I h;refine wpAny_If (cJ (hc pins s σ H _ I h) λ d s1 ⟨H1,I1,q1⟩=>?_);cases d with
 |true=>exact ha pins s1 σ H1 D I1 q1
 |false=>exact hb pins s1 σ H1 D I1 q1
end
abbrev TG:=V->St->Hp->(St->Hp->Prop)->Prop
abbrev Ad:=List V->St->Hp->(St->Hp->Prop)->Prop
def PG(X:Cx)(target:Expr)(t:TG):Prop:=
 ∀(pins:List (Addr×Obj)) (s:Shared) (σ:St) (H:Hp) (v:V) (u:Value) (Q:St->Hp->Prop),Inv X pins σ H s->RelV v u->t v σ H Q->
  wpAny (model X.prog X.w) X.A (assign target X.env u) (λ _ s'=>∃σ' H',Inv X pins σ' H' s'/\Q σ' H') X.xe s
def Jc(X:Cx)(ts:List Expr)(t:Ad):Prop:=
 ∀(pins:List (Addr×Obj)) (s:Shared) (σ:St) (H:Hp) (vs:List V) (us:List Value) (Q:St->Hp->Prop),Inv X pins σ H s->Vals vs us->t vs σ H Q->
  wpAny (model X.prog X.w) X.A (assignInOrder ((assignEach ts X.env).map (·.2)) us) (λ _ s'=>∃σ' H',Inv X pins σ' H' s'/\Q σ' H') X.xe s
abbrev GL:=V->V->V->Hp->(Hp->Prop)->Prop
def Md(X:Cx)(t:GL):Prop:=
 ∀(pins:List (Addr×Obj)) (s:Shared) (σ:St) (H:Hp) (o i v:V) (ov iv u:Value) (Q:Hp->Prop),Inv X pins σ H s->RelV o ov->RelV i iv->RelV v u->t o i v H Q->
  wpAny (model X.prog X.w) X.A (setItem ov iv u) (λ _ s'=>∃H',Inv X pins σ H' s'/\Q H') X.xe s
abbrev Jj:=V->V->Hp->VK->Prop
def NY(X:Cx)(op:Operator)(t:Jj):Prop:=
 ∀(pins:List (Addr×Obj)) (s:Shared) (σ:St) (H:Hp) (x y:V) (v u:Value) (Q:VK),Inv X pins σ H s->RelV x v->RelV y u->t x y H Q->
  wpAny (model X.prog X.w) X.A (inplaceOp op v u) (EP X pins σ Q) X.xe s
section
variable {X:Cx}{pos:Pos}
def mS(i:Nat):TG:=λ v σ H Q=>Q (σ.set i (some v)) H
def yi{i:Nat}{x:Str}(hN:X.N.Nodup)(hi:X.N[i]?=some x)(hx:Loc X.env.scope x)(hf:X.fn x=true\/X.env.scope.names.lookup x=some .local:=by first|exact .inl rfl|exact .inr rfl|assumption):PG X (.Name x pos) (mS i):=by
 intro pins s σ H v u Q I r h;exact wpAny_assign_Name (o4 I hN hi hx r (λ s' I'=>⟨_,H,I',h⟩) hf)
def M4:Ad:=λ vs σ H Q=>vs=[]/\Q σ H
def Ef(t:TG)(u:Ad):Ad:=λ vs σ H Q=>∃v r,vs=v::r/\t v σ H λ σ' H'=>u r σ' H' Q
def KW:Jc X [] M4:=by
 intro pins s σ H vs us Q I r h;obtain⟨e,h⟩:=h;subst e;cases r;exact assignInOrder_nil ⟨σ,H,I,h⟩
def zQ{e:Expr}{es:List Expr}{t:TG}{u:Ad}(h1:PG X e t)(h2:Jc X es u)
 (hs:(assignEach (e::es) X.env).map (·.2)=assign e X.env::(assignEach es X.env).map (·.2):=by rfl):Jc X (e::es) (Ef t u):=by
 intro pins s σ H vs us Q I r h;obtain⟨v,vr,e1,h⟩:=h;subst e1;cases r with
 |cons r rr=>
  rw[hs];refine WH (cJ (h1 pins s σ H _ _ _ I r h) λ _ s1 ⟨σ1,H1,I1,q1⟩=>?_);exact h2 pins s1 σ1 H1 _ _ Q I1 rr q1
def Nk(K:PySem.W.Frag)(n:Nat)(t:Ad):TG:=λ v σ H Q=>∃a xs,v= .ref a/\jH K H a xs/\xs.length=n/\t xs σ H Q
def NB{es:List Expr}{k:Nat}{t:Ad}{n:Nat}(hc:X.calm=true)(h:Jc X es t)
 (hn:(assignEach es X.env).length=n:=by rfl) (hst:(assignEach es X.env).findIdx? (·.1)=none:=by rfl):PG X (.Tuple es k pos) (Nk X.K n t):=by
 intro pins s σ H v u Q I r hw;obtain⟨a,xs,e1,hq,hl,hw⟩:=hw;subst e1;cases r;obtain⟨ao,rv,ht,hz⟩:=I.tuple hq;refine assign_Tuple_tuple (I.ok.hd hc) ht (by simp[hn,<-hl,rv.length]) hst λ h' hx=>?_;have I1:Inv X pins σ H {s with heap:=h'}:=I.kept (t':=s.toks) λ b o e=>hx b o (SW (Su e)) e;exact h pins _ σ H xs _ Q I1 (by simpa using rv) hw
def C0(to ti:TE)(t:GL):TG:=λ v σ H Q=>to σ H λ o H1=>ti σ H1 λ i H2=>t o i v H2 λ H3=>Q σ H3
def Mc{o i:Expr}{to ti:TE}{t:GL}(ho:PE X o to)(hi:PE X i ti)(hs:Md X t)
 (ha:∀v,assign (.Subscript o i pos) X.env v=(do
   let ov <-holding [v] (eval o X.env)
   let iv <-holding [v,ov] (eval i X.env)
   standAt pos
   holding [v,ov,iv] (setItem ov iv v)
   release [v,ov,iv] []):=by intro _;rfl):PG X (.Subscript o i pos) (C0 to ti t):=by
 intro pins s σ H v u Q I r h;rw[ha];refine Sa (Vi (cJ (ho pins s σ H _ I h) λ ov s1 ⟨x,H1,I1,r1,q1⟩=>?_));refine Sa (Vi (cJ (hi pins s1 σ H1 _ I1 q1) λ iv s2 ⟨y,H2,I2,r2,q2⟩=>?_));refine Sa (Wd (Sa (Vi (cJ (hs pins s2 σ H2 x y v ov iv u _ I2 r1 r2 r q2) λ _ s3 ⟨H3,I3,q3⟩=>?_))));exact wpAny_release ⟨σ,H3,I3,q3⟩
def o9(te:TE)(g:TG):TS:=λ D σ H=>te σ H λ x H1=>g x σ H1 D.nx
def FU{tg e:Expr}{te:TE}{g:TG}(he:PE X e te)(hg:PG X tg g)(hs:swapsWithSole [tg] e pos.line X.env=pure false:=by rfl)(hw:swappedStores [tg] e X.env=pure none:=by rfl)
 (h1:(assignEach [tg] X.env).map (·.2)=[assign tg X.env]:=by rfl):PS X (.Assign [tg] e pos) (o9 te g):=by
 intro pins s σ H D I h;refine wpAny_Assign_stores (cJ (he pins s σ H _ I h) λ v s1 ⟨x,H1,I1,r1,q1⟩=>?_) hs hw;rw[h1];exact cJ (hg pins s1 σ H1 x v _ I1 r1 q1) λ _ s2 q=>q
def Gs{i:Nat}{x:Str}{e:Expr}{te:TE}{pos':Pos}(hN:X.N.Nodup)(hi:X.N[i]?=some x)(hx:Loc X.env.scope x)(he:PE X e te)(hs:swapsWith e (some (.Name x pos')) pos.line X.env=pure false:=by rfl)(hf:X.fn x=true\/X.env.scope.names.lookup x=some .local:=by first|exact .inl rfl|exact .inr rfl|assumption):
 PS X (.Assign [.Name x pos'] e pos) (o9 te (mS i)):=by
 intro pins s σ H D I h;refine wpAny_Assign_Name (cJ (he pins s σ H _ I h) λ v s1 ⟨y,H1,I1,r1,q1⟩=>?_) hs;exact o4 I1 hN hi hx r1 (λ s2 I2=>⟨_,H1,I2,q1⟩) hf
def LN(i j:Nat)(ta:TA):TS:=λ D σ H=>ta σ H λ vs H1=>∃v w,vs=[v,w]/\D.nx ((σ.set i (some v)).set j (some w)) H1
def Mo{i j:Nat}{x y:Str}{a b:Expr}{ta:TA}{px py pt:Pos}{kt k2 pt2}(hc:X.calm=true)(hN:X.N.Nodup)(hi:X.N[i]?=some x)(hj:X.N[j]?=some y)(hij:i≠j)
 (hx:X.env.scope.names.lookup x=some .local) (hy:X.env.scope.names.lookup y=some .local) (ha:PA X [a,b] ta)
 (hw:swappedStores [.Tuple [.Name x px,.Name y py] kt pt] (.Tuple [a,b] k2 pt2) X.env=pure (some [x,y]))
 (hs:swapsWithSole [.Tuple [.Name x px,.Name y py] kt pt] (.Tuple [a,b] k2 pt2) pos.line X.env=pure false:=by rfl):
 PS X (.Assign [.Tuple [.Name x px,.Name y py] kt pt] (.Tuple [a,b] k2 pt2) pos) (LN i j ta):=by
 intro pins s σ H D I h;rw[exec_Assign_arm];refine Sa (Wd ?_);rw[hs];refine Sa (Sn ?_);rw[Sf (by decide)];refine Sa (Tuple_ (cJ (ha _ pins s σ H _ I h) λ us s1 ⟨vs,H1,I1,r1,q1⟩=>?_));obtain⟨v,w,e1,q1⟩:=q1;subst e1
 obtain⟨u1,u2,rfl,rv,rw'⟩:∃u1 u2,us=[u1,u2]/\RelV v u1/\RelV w u2:=by
  cases r1 with
  |cons p q=>
   cases q with
   |cons p' q'=>
    cases q';exact⟨_,_,rfl,p,p'⟩
 refine UH ?_ (by show 2<=sizeLine;decide);have I2:Inv X pins σ H1 {s1 with heap:=s1.heap.push {cls:= .type "tuple",data:= .seq [u1,u2].toArray}}:=I1.kept (t':=s1.toks) λ b o e=>Sh _ e;rw[hw];refine Sa (Sn ?_);show wpAny (model X.prog X.w) X.A (do rule "assign.swapped-stores";let items <-unpackItems (.ref s1.heap.objs.size) 2 none;assignInOrder [λ v=>bindName X.env y v,λ v=>bindName X.env x v] items.reverse;pure Flow.next) _ _ _;refine Sa (VC (Sa (unpackItems_tuple (items:= #[u1,u2]) (I.ok.hd hc) (IsTup.new s1.heap _) λ h' hx'=>?_)));have I3:=I2.kept (h':=h') (t':=s1.toks) λ b o e=>hx' b o (SW (Su e)) e;show wpAny _ _ (assignInOrder [λ v=>bindName X.env y v,λ v=>bindName X.env x v] [u2,u1] >>= λ _=>pure Flow.next) _ _ _;refine Sa (WH (wpAny_bindName (o4 I3 hN hj (.inl hy) rw' (λ s2 I4=>?_) (.inr hy))));refine WH (wpAny_bindName (o4 I4 hN hi (.inl hx) rv (λ s3 I5=>assignInOrder_nil (Sn ?_)) (.inr hx)));rw[List.set_comm _ _ (Sq hij)]at I5;exact⟨_,H1,I5,q1⟩
def L6(i:Nat)(te:TE)(ti:Jj):TS:=λ D σ H=>∃x,σ[i]?=some (some x)/\te σ H λ y H1=>ti x y H1 λ z H2=>D.nx (σ.set i (some z)) H2
def Ny{i:Nat}{x:Str}{e:Expr}{te:TE}{op:Operator}{ti:Jj}{pos':Pos}(hN:X.N.Nodup)(hi:X.N[i]?=some x)(hx:Loc X.env.scope x)(he:PE X e te)(ho:NY X op ti)(hf:X.fn x=true\/X.env.scope.names.lookup x=some .local:=by first|exact .inl rfl|exact .inr rfl|assumption):
 PS X (.AugAssign (.Name x pos') op e pos) (L6 i te ti):=by
 intro pins s σ H D I h;obtain⟨v,e1,h⟩:=h;obtain⟨m,hn,hl⟩:=I.loc;have vis:AU X.env.scope x:=by rcases hx with k|k;exact .inl k;exact .inr (.inl k)
 obtain⟨u,r,l⟩:=hl i x v hi e1 vis;refine wpAny_AugAssign_Name ?_
 have go:wpAny (model X.prog X.w) X.A (eval e X.env) (λ w s₂=>wpAny (model X.prog X.w) X.A (inplaceOp op u w) (λ r s₃=>wpAny (model X.prog X.w) X.A (storeName X.env x r) (λ _=>SP X pins D .next) X.xe s₃) X.xe s₂) X.xe s:=by
  refine cJ (he pins s σ H _ I h) λ w s1 ⟨y,H1,I1,r1,q1⟩=>?_;refine cJ (ho pins s1 σ H1 v y u w _ I1 r r1 q1) λ z s2 ⟨zv,H2,I2,r2,q2⟩=>?_;exact o4 I2 hN hi hx r2 (λ s3 I3=>⟨_,H2,I3,q2⟩) hf
 rcases l with⟨hk,hm⟩|⟨hk,c,hc,hcell⟩
 . exact wpAny_loadName_local I.ok.kind hk hn hm go
 . rcases hk with hk|hk
   . exact wpAny_loadName_cell I.ok.kind hk hc hcell go
   . rcases hx with k|k
     . have:X.env.scope.names.lookup x=some .free:=hk;rw[k]at this;cases this
     . have:X.env.scope.names.lookup x=some .free:=hk;rw[k]at this;cases this
def Mf(f:Int->Int->Int):Jj:=λ x y H Q=>∃i j,x= .int i/\y= .int j/\Q (.int (f i j)) H
def Mw:NY X .Add (Mf λ i j=>i+j):=by
 intro pins s σ H x y v u Q I r1 r2 h;obtain⟨i,j,e1,e2,q⟩:=h;subst e1;subst e2;obtain⟨t,rfl⟩:=r1;obtain⟨t',rfl⟩:=r2;exact iadd_int ⟨.int _,H,I.tok _,⟨_,rfl⟩,q⟩
def Fe(c:TT)(tb:TS):TS:=λ D σ H=>∃W:Nat->St->Hp->Prop,(∃m,W m σ H)/\∀m σ H,W m σ H->
 c σ H λ b H1=>if b=true then∃N:St->Hp->Prop,(∀σ' H',N σ' H'->∃m',m'<m/\W m' σ' H')/\tb {D with nx:=N,ct:=N,bk:=D.nx} σ H1 else D.nx σ H1
def HQ{c:Expr}{body:List Stmt}{tc:TT}{tb:TS}(hp:PassesOwn (model X.prog X.w) X.A X.env X.xe)(hc:PT X c tc)(hb:iu X body tb):PS X (.While c body [] pos) (Fe tc tb):=by
 intro pins s σ H D I h;obtain⟨W,⟨m0,w0⟩,turn⟩:=h;refine wpAny_While (codeAny_whileLoop (λ n s'=>∃σ' H',Inv X pins σ' H' s'/\W n σ' H') ?_ m0 ⟨σ,H,I,w0⟩);rintro n s1 ⟨σ1,H1,I1,w1⟩;refine UT hp (cJ (hc pins s1 σ1 H1 _ I1 (turn n σ1 H1 w1)) λ b s2 ⟨H2,I2,q2⟩=>?_);cases b with
 |true=>
  obtain⟨N,hN,q2⟩:=q2;rw[Si rfl];refine UT hp (cJ (hb pins s2 σ1 H2 _ I2 q2) λ f s3 q3=>?_);cases f with
  |next=>
   obtain⟨σ3,H3,I3,n3⟩:=q3;obtain⟨m',hm,w3⟩:=hN σ3 H3 n3;exact⟨m',hm,σ3,H3,I3,w3⟩
  |cont=>
   obtain⟨σ3,H3,I3,n3⟩:=q3;obtain⟨m',hm,w3⟩:=hN σ3 H3 n3;exact⟨m',hm,σ3,H3,I3,w3⟩
  |brk=>exact q3
  |ret v=>exact q3
 |false=>
  rw[Sf Ts];exact Wn ⟨σ1,H2,I2,q2⟩
end
structure It where
 go:Nat->Hp->Prop
 pF:Nat->Hp->V->Hp->Prop
 stop:Nat->Hp->Prop
def mi(X:Cx)(pins:List (Addr×Obj))(H:Hp)(b:Addr):Prop:=
 H b=none/\b≠X.env.locals/\b∉X.fs/\(b∈X.ex\/X.s₀.heap.objs.size<=b)/\(∀x c,X.env.cells.lookup x=some c->c≠b)/\∀p∈X.pn++pins,p.1≠b
def Inv.vI{X:Cx}{pins:List (Addr×Obj)}{σ:St}{H H':Hp}{s:Shared}{b:Addr}(I:Inv X pins σ H s)(hb:s.heap.objs.size<=b)(hn:H' b=none):mi X pins H' b:=by
 refine⟨hn,Vc (Sw I.lt hb),I.NI hb,.inr (Se I.sz hb),λ x c e z=>?_,λ p hp z=>?_⟩
 . obtain⟨v,q⟩:=I.cell x c e;exact absurd (Sw q.lt (by rw[z];exact hb)) (TN _)
 . exact absurd (Sw (Su (I.pin p hp).1) (by rw[z];exact hb)) (TN _)
structure Turn(P:Program)(w:World)(K:PySem.W.Frag)(tg:Expr)(J:It)(fp:List Addr)(it:Addr)(tn:Nat->Heap->Prop):Prop where
 mem:it∈fp
 obj:∀i h,tn i h->∀b∈fp,∃o,h.get? b=some o/\∀v,o.data≠ .cell v
 keep:∀i h h',tn i h->(∀b∈fp,∀o,h.get? b=some o->h'.get? b=some o)->tn i h'
 item:∀(X:Cx),X.prog=P->X.w=w->X.K=K->X.calm=true->∀(i:Nat) (pins:List (Addr×Obj)) (s:Shared) (σ:St) (H:Hp) (E:Value->Shared->Prop),Inv X pins σ H s->(∀b∈fp,mi X pins H b)->tn i s.heap->J.go i H->
  wpAny (model P w) X.A (pyNext (.ref it)) (λ r s1=>∃u,r=some u/\
   wpAny (model P w) X.A (letOwnedTupleGo tg (.ref it) u) (λ _ s2=>∃x H',Inv X pins σ H' s2/\RelV x u/\J.pF i H x H'/\tn (i+1) s2.heap/\∀b∈fp,H' b=none) E s1) E s
 done:∀(X:Cx),X.prog=P->X.w=w->X.K=K->X.calm=true->∀(i:Nat) (pins:List (Addr×Obj)) (s:Shared) (σ:St) (H:Hp) (E:Value->Shared->Prop),Inv X pins σ H s->(∀b∈fp,mi X pins H b)->tn i s.heap->J.stop i H->
  wpAny (model P w) X.A (pyNext (.ref it)) (λ r s1=>r=none/\Inv X pins σ H s1) E s
 self:∀(A:Around) (i:Nat) (s:Shared) (Q:Value->Shared->Prop) (E:Value->Shared->Prop),tn i s.heap->Q (.ref it) s->wpAny (model P w) A (pyIter (.ref it)) Q E s
abbrev TI:=St->Hp->(It->Hp->Prop)->Prop
def IU(X:Cx)(pins:List (Addr×Obj))(σ:St)(tg:Expr)(R:It->Hp->Prop)(itv:Value)(s2:Shared):Prop:=
 ∃(it:Addr) (fp:List Addr) (tn:Nat->Heap->Prop) (J:It) (H':Hp),itv= .ref it/\Inv X pins σ H' s2/\Turn X.prog X.w X.K tg J fp it tn/\tn 0 s2.heap/\(∀b∈fp,mi X pins H' b)/\R J H'
def PI(X:Cx)(tg iter:Expr)(wi:TI):Prop:=
 ∀(pins:List (Addr×Obj)) (s:Shared) (σ:St) (H:Hp) (R:It->Hp->Prop),Inv X pins σ H s->wi σ H R->
  wpAny (model X.prog X.w) X.A (eval iter X.env) (λ v s1=>wpAny (model X.prog X.w) X.A (pyIter v) (IU X pins σ tg R) X.xe s1) X.xe s
def zG{M:Model}{A:Around}{E:Value->Shared->Prop}{s:Shared}{tg:Expr}{it:Addr}{u:Value}{o:Obj}{n:String}{vs:Array Value}{Q:Unit->Shared->Prop}(ho:s.heap.get? it=some o)(hc:o.cls= .type n)(hd:o.data= .fields vs)
 (hn: ["enumerate","zip","dict_itemiterator","dict_reverseitemiterator","odict_iterator","itertools.zip_longest","itertools.pairwise"].contains n=false) (hQ:Q () s):wpAny M A (letOwnedTupleGo tg (.ref it) u) Q E s:=by
 unfold letOwnedTupleGo
 cases tg<;>first
  |exact Sn hQ
  |(cases u<;>first
     |exact Sn hQ
     |(refine Sa (wpAny_load ho ?_)
       rw[hc,hd];show wpAny M A (if(["enumerate","zip","dict_itemiterator","dict_reverseitemiterator","odict_iterator","itertools.zip_longest","itertools.pairwise"].contains n&&vs[0]?==some (rawInt _))=true then _ else _) Q E s;rw[Sf (by intro h;rw[hn,Bool.false_and]at h;cases h)];exact Sn hQ))
def Oc(K:PySem.W.Frag)(a:Addr):It:=
 ⟨λ i H=>∃xs x,nr K H a xs/\xs[i]?=some x,λ i H x H'=>H'=H/\∀xs,nr K H a xs->xs[i]?=some x,λ i H=>∃xs,nr K H a xs/\xs.length<=i⟩
def NZ(K:PySem.W.Frag)(a:Addr):It:=
 ⟨λ i H=>∃xs x,jH K H a xs/\xs[i]?=some x,λ i H x H'=>H'=H/\∀xs,jH K H a xs->xs[i]?=some x,λ i H=>∃xs,jH K H a xs/\xs.length<=i⟩
def yl(lo:Int)(n:Nat):It:=⟨λ i _=>i<n,λ i H x H'=>H'=H/\x= .int (lo+i),λ i _=>n<=i⟩
def Gq{P:Program}{w:World}{K:PySem.W.Frag}{tg:Expr}(a it:Addr):Turn P w K tg (Oc K a) [it] it (λ i h=>h.IsListIter it a i) where
 mem:=by simp
 obj:=λ i h st b hb=>by
  have e:b=it:=by simpa using hb
  subst e;obtain⟨o,e,c,d⟩:=st;exact⟨o,e,λ v z=>by rw[d]at z;cases z⟩
 keep:=λ i h h' st k=>st.at λ o e=>k it (by simp) o e
 item:=by
  intro X hP hw hK hc i pins s σ H E I hf st hg;subst hP hw hK;obtain⟨xs,x,hq,hx⟩:=hg;obtain⟨ao,rv,p,hz⟩:=I.list hq;obtain⟨u,hu,ru⟩:=rv.get hx;obtain⟨f0,f1,f2,f3,f4,f5⟩:=hf it (by simp);refine wpAny_pyNext_list_item st p.isList (x:=u) (by simpa using hu) λ h' st' sb=>?_;have I1:Inv X pins σ H {s with heap:=h'}:=I.turned (t':=s.toks) (λ b o hb e=>(sb.2 b hb).trans e) f0 f1 f3 f4 f5;obtain⟨o,e,c,d⟩:=id st';exact⟨u,rfl,zG (s:={s with heap:=h'}) e c d (by decide) ⟨x,H,I1,ru,⟨rfl,λ ys hy=>by rw[I.Ag hy hq];exact hx⟩,st',λ b hb=>(hf b hb).1⟩⟩
 done:=by
  intro X hP hw hK hc i pins s σ H E I hf st hg;subst hP hw hK;obtain⟨xs,hq,hx⟩:=hg;obtain⟨ao,rv,p,hz⟩:=I.list hq;obtain⟨f0,f1,f2,f3,f4,f5⟩:=hf it (by simp);have hl:=rv.length;exact wpAny_pyNext_list_end (I.ok.hd hc) st p.isList (by simp;omega) λ h' eb=>⟨rfl,I.turned (t':=s.toks) (λ b o hb e=>eb b o hb e) f0 f1 f3 f4 f5⟩
 self:=λ _ _ _ _ _ st h=>wpAny_pyIter_listiter st h
def Du{P:Program}{w:World}{K:PySem.W.Frag}{tg:Expr}(a it:Addr):Turn P w K tg (NZ K a) [it] it (λ i h=>h.IsTupleIter it a i) where
 mem:=by simp
 obj:=λ i h st b hb=>by
  have e:b=it:=by simpa using hb
  subst e;obtain⟨o,e,c,d⟩:=st;exact⟨o,e,λ v z=>by rw[d]at z;cases z⟩
 keep:=λ i h h' st k=>st.at λ o e=>k it (by simp) o e
 item:=by
  intro X hP hw hK hc i pins s σ H E I hf st hg;subst hP hw hK;obtain⟨xs,x,hq,hx⟩:=hg;obtain⟨ao,rv,p,hz⟩:=I.tuple hq;obtain⟨u,hu,ru⟩:=rv.get hx;obtain⟨f0,f1,f2,f3,f4,f5⟩:=hf it (by simp);refine wpAny_pyNext_tuple_item st (show s.heap.IsTuple a ao.toArray from p) (x:=u) (by simpa using hu) λ h' st' sb=>?_;have I1:Inv X pins σ H {s with heap:=h'}:=I.turned (t':=s.toks) (λ b o hb e=>(sb.2 b hb).trans e) f0 f1 f3 f4 f5;obtain⟨o,e,c,d⟩:=id st';exact⟨u,rfl,zG (s:={s with heap:=h'}) e c d (by decide) ⟨x,H,I1,ru,⟨rfl,λ ys hy=>by rw[I.yQ hy hq];exact hx⟩,st',λ b hb=>(hf b hb).1⟩⟩
 done:=by
  intro X hP hw hK hc i pins s σ H E I hf st hg;subst hP hw hK;obtain⟨xs,hq,hx⟩:=hg;obtain⟨ao,rv,p,hz⟩:=I.tuple hq;obtain⟨f0,f1,f2,f3,f4,f5⟩:=hf it (by simp);have hl:=rv.length;exact wpAny_pyNext_tuple_end (I.ok.hd hc) st (show s.heap.IsTuple a ao.toArray from p) (by simp;omega) λ h' eb=>⟨rfl,I.turned (t':=s.toks) (λ b o hb e=>eb b o hb e) f0 f1 f3 f4 f5⟩
 self:=λ _ _ _ _ _ st h=>wpAny_pyIter_tupleiter st h
def C7{P:Program}{w:World}{K:PySem.W.Frag}{tg:Expr}(it:Addr)(lo:Int)(n:Nat):Turn P w K tg (yl lo n) [it] it (λ i h=>IsRangeIter h it (lo+(i:Nat)*1) ((n:Int)-(i:Nat)) 1) where
 mem:=by simp
 obj:=λ i h st b hb=>by
  have e:b=it:=by simpa using hb
  subst e
  exact⟨_,st,λ v z=>by
   have z':Data.fields _=Data.cell v:=z;cases z'⟩
 keep:=λ i h h' st k=>k it (by simp) _ st
 item:=by
  intro X hP hw hK hc i pins s σ H E I hf st hg;subst hP hw hK;obtain⟨f0,f1,f2,f3,f4,f5⟩:=hf it (by simp);have W:=Walks.range (prog:=X.prog) (w:=X.w) (I.ok.hd hc) it lo 1 n;refine W.item i s _ _ hg st λ v h' tk hv st' kk=>?_;obtain⟨t,rfl⟩:=hv;have I1:Inv X pins σ H {s with heap:=h',toks:=tk}:=I.turned (λ b o hb e=>kk b o (by simpa using hb) e) f0 f1 f3 f4 f5;refine⟨_,rfl,zG (s:={s with heap:=h',toks:=tk}) (n:="range_iterator") st' rfl rfl (by decide) ⟨.int (lo+i),H,I1,⟨t,?_⟩,⟨rfl,rfl⟩,st',λ b hb=>(hf b hb).1⟩⟩;rw[Vr]
 done:=by
  intro X hP hw hK hc i pins s σ H E I hf st hg;subst hP hw hK;obtain⟨f0,f1,f2,f3,f4,f5⟩:=hf it (by simp);exact Xo (I.ok.hd hc) st (by have:n<=i:=hg;omega) λ h' eb=>⟨rfl,I.turned (t':=s.toks) (λ b o hb e=>eb b o hb e) f0 f1 f3 f4 f5⟩
 self:=λ _ _ _ _ _ st h=>Xp st h
section
variable {X:Cx}{tg:Expr}
def AM{pins:List (Addr×Obj)}{σ:St}{H:Hp}{s:Shared}{R:It->Hp->Prop}{E:Value->Shared->Prop}{lo hi:Int}{t u v:Tok}{tk:Nat}(I:Inv X pins σ H s)(h1: -(2^62)<=lo)(h2:lo<2^62)(h3: -(2^62)<=hi)(h4:hi<2^62)
 (q:R (yl lo (hi-lo).toNat) H):wpAny (model X.prog X.w) X.A (pyIter (.ref s.heap.objs.size)) (IU X pins σ tg R) E {s with heap:=s.heap.push {cls:= .type "range",data:= .fields #[.int lo t,.int hi u,.int 1 v]},toks:=tk}:=by
 refine wpAny_pyIter_range (IsRange.new ..) (small_one h1 h2 h3 h4) ?_;have I1:Inv X pins σ H {s with heap:=s.heap.push {cls:= .type "range",data:= .fields #[.int lo t,.int hi u,.int 1 v]},toks:=tk}:=I.kept λ b o e=>Sh _ e
 refine⟨(s.heap.push {cls:= .type "range",data:= .fields #[.int lo t,.int hi u,.int 1 v]}).objs.size,[(s.heap.push {cls:= .type "range",data:= .fields #[.int lo t,.int hi u,.int 1 v]}).objs.size],_,_,H,rfl,
  I1.kept (t':=tk) λ b o e=>Sh _ e,C7 _ lo (hi-lo).toNat,?_,λ b hb=>?_,q⟩
 . have e1:lo+((0:Nat):Int)*1=lo:=by simp
   have e2:(((hi-lo).toNat:Nat):Int)-((0:Nat):Int)=Builtin.Range.rangeSize lo hi 1:=by rw[rangeSize_one];split<;>omega
   show IsRangeIter _ _ (lo+((0:Nat):Int)*1) ((((hi-lo).toNat:Nat):Int)-((0:Nat):Int)) 1;rw[e1,e2];exact SI _ rfl
 . have e:b=(s.heap.push {cls:= .type "range",data:= .fields #[.int lo t,.int hi u,.int 1 v]}).objs.size:=by simpa using hb
   subst e;exact I1.vI (R_ _) (I1.aL.fresh (R_ _))
def C9(ta:TA):TI:=λ σ H R=>ta σ H λ vs H1=>∃j:Int,vs=[.int j]/\ -(2^62)<=j/\j<2^62/\R (yl 0 j.toNat) H1
def El(ta:TA):TI:=λ σ H R=>ta σ H λ vs H1=>∃i j:Int,vs=[.int i,.int j]/\(-(2^62)<=i/\i<2^62/\ -(2^62)<=j/\j<2^62)/\R (yl i (j-i).toNat) H1
def Gy{a:Expr}{ta:TA}{p pos:Pos}(hg:Gl X "range")(hm:X.mg "range"=none)(ha:PA X [a] ta)(hs:starEach [a] X.env=[(false,eval a X.env)]:=by rfl):PI X tg (.Call (.Name "range" p) [a] [] pos) (C9 ta):=by
 intro pins s σ H R I h;refine Call_ (lq I hg hm boot_range (T8 (cJ (ha pos pins s σ H _ I h) λ us s1 ⟨vs,H1,I1,r1,q1⟩=>?_) hs rfl));obtain⟨j,e,q1,q2,q⟩:=q1;subst e;cases r1 with
 |cons r rr=>
  cases rr;obtain⟨t,rfl⟩:=r;exact call_range_1 (AM I1 (by omega) (by omega) q1 q2 (by simpa using q))
def Fz{a b:Expr}{ta:TA}{p pos:Pos}(hg:Gl X "range")(hm:X.mg "range"=none)(ha:PA X [a,b] ta)(hs:starEach [a,b] X.env=[(false,eval a X.env),(false,eval b X.env)]:=by rfl)(hs2:starEach [b] X.env=[(false,eval b X.env)]:=by rfl):
 PI X tg (.Call (.Name "range" p) [a,b] [] pos) (El ta):=by
 intro pins s σ H R I h;refine Call_ (lq I hg hm boot_range (T8 (cJ (ha pos pins s σ H _ I h) λ us s1 ⟨vs,H1,I1,r1,q1⟩=>?_) (by rw[hs,hs2]) (by rw[hs2];rfl)));obtain⟨i,j,e,⟨q1,q2,q3,q4⟩,q⟩:=q1;subst e;cases r1 with
 |cons r rr=>
  cases rr with
  |cons r' rr=>
   cases rr;obtain⟨t,rfl⟩:=r;obtain⟨t',rfl⟩:=r';exact call_range_2 (AM I1 q1 q2 q3 q4 q)
def M3(wi:TI)(g:TG)(tb:TS):TS:=λ D σ H=>wi σ H λ J H1=>∃W:Nat->Nat->St->Hp->Prop,(∃m,W 0 m σ H1)/\∀i m σ H,W i m σ H->
 (J.stop i H/\D.nx σ H)\/(J.go i H/\∃N:St->Hp->Prop,(∀σ' H',N σ' H'->∃m',m'<m/\W (i+1) m' σ' H')/\∀x H',J.pF i H x H'->g x σ H' λ σ2 H2=>tb {D with nx:=N,ct:=N,bk:=D.nx} σ2 H2)
def tN(fp:List Addr)(h:Heap):List (Addr×Obj):=fp.filterMap λ b=>(h.get? b).map λ o=>(b,o)
def nU{fp:List Addr}{h:Heap}{b:Addr}{o:Obj}(hb:b∈fp)(e:h.get? b=some o):(b,o)∈tN fp h:=VO.mpr ⟨b,hb,by rw[e];rfl⟩
def Ft{fp:List Addr}{h:Heap}{p:Addr×Obj}(hp:p∈tN fp h):p.1∈fp/\h.get? p.1=some p.2:=by
 obtain⟨b,hb,e⟩:=VO.mp hp;cases q:h.get? b with
 |none=>rw[q]at e;cases e
 |some o=>
  rw[q]at e;have e':(b,o)=p:=Tq e;subst e';exact⟨hb,q⟩
def Inv.pinned{pins:List (Addr×Obj)}{σ:St}{H:Hp}{s:Shared}{fp:List Addr}(I:Inv X pins σ H s)(hf:∀b∈fp,mi X pins H b)(ho:∀b∈fp,∃o,s.heap.get? b=some o/\∀v,o.data≠ .cell v):Inv X (pins++tN fp s.heap) σ H s:=
 I.uM λ p hp=>(SE.mp hp).elim (λ z=>I.pin p (So _ z)) λ z=>by
  obtain⟨hb,e⟩:=Ft z;obtain⟨f0,f1,f2,_⟩:=hf p.1 hb;obtain⟨o,e',d⟩:=ho p.1 hb;rw[e]at e';cases e';exact⟨e,f0,f1,f2,d⟩
def Inv.ix{pins pl:List (Addr×Obj)}{σ:St}{H:Hp}{s:Shared}(I:Inv X (pins++pl) σ H s):Inv X pins σ H s:=I.uM λ p hp=>I.pin p (So _ (SS _ hp))
def Ma{iter:Expr}{body:List Stmt}{wi:TI}{g:TG}{tb:TS}{pos:Pos}(hp:PassesOwn (model X.prog X.w) X.A X.env X.xe)(hc:X.calm=true)(hi:PI X tg iter wi)(hg:PG X tg g)(hb:iu X body tb)
 (hs:∀x,foldedSetIterable iter X.env x=pure x:=by intro _;rfl):PS X (.For tg iter body [] pos) (M3 wi g tb):=by
 intro pins s σ H D I h;refine wpAny_For (cJ (hi pins s σ H _ I h) λ v s1 h1=>cJ h1 λ itv s2 h2=>?_) hs;obtain⟨it,fp,tn,J,H2,e,I2,T,st2,f2,W,⟨m0,w0⟩,turn⟩:=h2;subst e;have stat:∀ {H':Hp},(∀b∈fp,H' b=none)->∀b∈fp,mi X pins H' b:=λ hn b hb=>⟨hn b hb,(f2 b hb).2⟩
 refine codeAny_forLoop_any (λ n s'=>∃i σ' H',Inv X pins σ' H' s'/\tn i s'.heap/\(∀b∈fp,H' b=none)/\W i n σ' H') ?_ m0 ⟨0,σ,H2,I2,st2,λ b hb=>(f2 b hb).1,w0⟩;rintro n s3 ⟨i,σ3,H3,I3,st3,fr3,w3⟩;rcases turn i n σ3 H3 w3 with⟨stop,qn⟩|⟨go,N,hN,step⟩
 . refine UT hp (cJ (T.done X rfl rfl rfl hc i pins s3 σ3 H3 X.xe I3 (stat fr3) st3 stop) λ r s4 ⟨hr,I4⟩=>?_);subst hr;exact Wn ⟨σ3,H3,I4,qn⟩
 . refine UT hp (cJ (T.item X rfl rfl rfl hc i pins s3 σ3 H3 X.xe I3 (stat fr3) st3 go) λ r s4 ⟨u,hr,h4⟩=>?_);subst hr;refine UT hp (cJ h4 λ _ s5 ⟨x,H5,I5,r5,y5,st5,fr5⟩=>?_);have I5':=I5.pinned (stat fr5) (T.obj _ _ st5);refine UT hp (cJ (hg _ s5 σ3 H5 x u _ I5' r5 (step x H5 y5)) λ _ s6 ⟨σ6,H6,I6,q6⟩=>?_);refine UT hp (cJ (hb _ s6 σ6 H6 _ I6 q6) λ f s7 q7=>?_)
   have again:∀ {σ7:St} {H7:Hp},Inv X (pins++tN fp s5.heap) σ7 H7 s7->N σ7 H7->∃m,m<n/\∃i σ' H',Inv X pins σ' H' s7/\tn i s7.heap/\(∀b∈fp,H' b=none)/\W i m σ' H':=λ{σ7 H7} I7 n7=>by
    obtain⟨m',hm,w7⟩:=hN σ7 H7 n7;refine⟨m',hm,i+1,σ7,H7,I7.ix,T.keep _ _ _ st5 λ b hb o e=>(I7.pin (b,o) (So _ (So _ (nU hb e)))).1,λ b hb=>?_,w7⟩;obtain⟨o,e,d⟩:=T.obj _ _ st5 b hb;exact(I7.pin (b,o) (So _ (So _ (nU hb e)))).2.1
   cases f with
   |next=>obtain⟨σ7,H7,I7,n7⟩:=q7;exact again I7 n7
   |cont=>obtain⟨σ7,H7,I7,n7⟩:=q7;exact again I7 n7
   |brk=>obtain⟨σ7,H7,I7,q7⟩:=q7;exact⟨σ7,H7,I7.ix,q7⟩
   |ret v=>obtain⟨x7,σ7,H7,I7,r7,q7⟩:=q7;exact⟨x7,σ7,H7,I7.ix,r7,q7⟩
end
def kM{lo:Int}{n:Nat}{g:TG}{tb:TS}{D:Ends}{σ:St}{H:Hp}(Pv:Nat->St->Hp->Prop)(h0:Pv 0 σ H)
 (hs:∀i σ H,i<n->Pv i σ H->g (.int (lo+i)) σ H λ σ2 H2=>tb {D with nx:=Pv (i+1),ct:=Pv (i+1),bk:=D.nx} σ2 H2) (hd:∀σ H,Pv n σ H->D.nx σ H):
 ∃W:Nat->Nat->St->Hp->Prop,(∃m,W 0 m σ H)/\∀i m σ H,W i m σ H->
  ((yl lo n).stop i H/\D.nx σ H)\/((yl lo n).go i H/\∃N:St->Hp->Prop,(∀σ' H',N σ' H'->∃m',m'<m/\W (i+1) m' σ' H')/\∀x H',(yl lo n).pF i H x H'->g x σ H' λ σ2 H2=>tb {D with nx:=N,ct:=N,bk:=D.nx} σ2 H2):=by
 refine⟨λ i m σ H=>m=n-i/\i<=n/\Pv i σ H,⟨n,by simp,SM _,h0⟩,?_⟩;rintro i m σ H ⟨rfl,hi,p⟩;by_cases hlt:i<n
 . refine .inr ⟨hlt,Pv (i+1),λ σ' H' p'=>⟨n-(i+1),by omega,rfl,hlt,p'⟩,λ x H' y=>?_⟩;obtain⟨e,y⟩:=y;subst e y;exact hs i σ _ hlt p
 . have e:i=n:=by omega
   subst e;exact .inl ⟨R_ _,hd σ H p⟩
abbrev R2:=V->V->Hp->VK->Prop
def cx(X:Cx)(f:Value->Value->Sem Value)(r:R2):Prop:=
 ∀(pins:List (Addr×Obj)) (s:Shared) (σ:St) (H:Hp) (x y:V) (v u:Value) (Q:VK),Inv X pins σ H s->RelV x v->RelV y u->r x y H Q->
  wpAny (model X.prog X.w) X.A (f v u) (EP X pins σ Q) X.xe s
def CW(X:Cx)(f:Value->Sem Value)(r:V->Hp->VK->Prop):Prop:=
 ∀(pins:List (Addr×Obj)) (s:Shared) (σ:St) (H:Hp) (x:V) (v:Value) (Q:VK),Inv X pins σ H s->RelV x v->r x H Q->
  wpAny (model X.prog X.w) X.A (f v) (EP X pins σ Q) X.xe s
def cD(X:Cx)(f:Value)(r:List V->Hp->VK->Prop):Prop:=
 ∀(pins:List (Addr×Obj)) (s:Shared) (σ:St) (H:Hp) (xs:List V) (us:List Value) (Q:VK),Inv X pins σ H s->Vals xs us->r xs H Q->
  wpAny (model X.prog X.w) X.A (call f us) (EP X pins σ Q) X.xe s
def FX(r:R2)(ta tb:TE):TE:=λ σ H Q=>ta σ H λ x H1=>tb σ H1 λ y H2=>r x y H2 Q
def Qn(r:V->Hp->VK->Prop)(ta:TE):TE:=λ σ H Q=>ta σ H λ x H1=>r x H1 Q
def rI(C:Int->Int->Prop)(g:Int->Int->V):R2:=λ x y H Q=>∃i j,x= .int i/\y= .int j/\C i j/\Q (g i j) H
def yF(g:Int->Int->V):R2:=λ x y H Q=>∃i j,x= .int i/\y= .int j/\Q (g i j) H
def rU(g:Int->V):V->Hp->VK->Prop:=λ x H Q=>∃i,x= .int i/\Q (g i) H
section
variable {X:Cx}{a b c:Expr}{ta tb tc:TE}{pos:Pos}
def Hm(ha:PE X a ta)(hb:PE X b tb){pins:List (Addr×Obj)}{s:Shared}{σ:St}{H:Hp}{R:V->V->Hp->Prop}(I:Inv X pins σ H s)
 (h:ta σ H λ x H1=>tb σ H1 λ y H2=>R x y H2) {Q:Value->Shared->Prop} {f:Value->Value->Sem Value}
 (hf:∀v u s2 x y H2,Inv X pins σ H2 s2->RelV x v->RelV y u->R x y H2->wpAny (model X.prog X.w) X.A (f v u) Q X.xe s2):
 wpAny (model X.prog X.w) X.A (eval a X.env) (λ v s₁=>wpAny (model X.prog X.w) X.A (eval b X.env) (λ u s₂=>wpAny (model X.prog X.w) X.A (f v u) Q X.xe s₂) X.xe s₁) X.xe s:=by
 refine cJ (ha pins s σ H _ I h) λ v s1 ⟨x,H1,I1,r1,q1⟩=>?_;refine cJ (hb pins s1 σ H1 _ I1 q1) λ u s2 ⟨y,H2,I2,r2,q2⟩=>?_;exact hf v u s2 x y H2 I2 r1 r2 q2
def PD{op:Operator}{r:R2}(ho:cx X (binaryOp op) r)(ha:PE X a ta)(hb:PE X b tb):PE X (.BinOp a op b pos) (FX r ta tb):=by
 intro pins s σ H Q I h;exact wpAny_BinOp (Hm ha hb I h λ v u s2 x y H2 I2 rx ry q=>ho pins s2 σ H2 x y v u Q I2 rx ry q)
def PH{op:UnaryOp}{r:V->Hp->VK->Prop}(ho:CW X (unaryOp op) r)(ha:PE X a ta):PE X (.UnaryOp op a pos) (Qn r ta):=by
 intro pins s σ H Q I h;exact UnaryOp_ (cJ (ha pins s σ H _ I h) λ v s1 ⟨x,H1,I1,r1,q1⟩=>ho pins s1 σ H1 x v Q I1 r1 q1)
def IM{f:Value->Value->Sem Value}{C:Int->Int->Prop}{g:Int->Int->Int}
 (rule:∀(i j:Int) (t u:Tok) (s:Shared) (Q:Value->Shared->Prop) (E:Value->Shared->Prop),C i j->Q (.int (g i j) s.toks) {s with toks:=s.toks+1}->wpAny (model X.prog X.w) X.A (f (.int i t) (.int j u)) Q E s):
 cx X f (rI C λ i j=> .int (g i j)):=by
 intro pins s σ H x y v u Q I rx ry h;obtain⟨i,j,rfl,rfl,hc,q⟩:=h;obtain⟨t,rfl⟩:=rx;obtain⟨t',rfl⟩:=ry;exact rule i j t t' s _ _ hc ⟨.int (g i j),H,I.tok _,⟨_,rfl⟩,q⟩
def LM{f:Value->Value->Sem Value}{g:Int->Int->Int}
 (rule:∀(i j:Int) (t u:Tok) (s:Shared) (Q:Value->Shared->Prop) (E:Value->Shared->Prop),Q (.int (g i j) s.toks) {s with toks:=s.toks+1}->wpAny (model X.prog X.w) X.A (f (.int i t) (.int j u)) Q E s):
 cx X f (yF λ i j=> .int (g i j)):=by
 intro pins s σ H x y v u Q I rx ry h;obtain⟨i,j,rfl,rfl,q⟩:=h;obtain⟨t,rfl⟩:=rx;obtain⟨t',rfl⟩:=ry;exact rule i j t t' s _ _ ⟨.int (g i j),H,I.tok _,⟨_,rfl⟩,q⟩
def Ho{f:Value->Value->Sem Value}{g:Int->Int->Bool}
 (rule:∀(i j:Int) (t u:Tok) (s:Shared) (Q:Value->Shared->Prop) (E:Value->Shared->Prop),Q (.bool (g i j)) s->wpAny (model X.prog X.w) X.A (f (.int i t) (.int j u)) Q E s):
 cx X f (yF λ i j=> .bl (g i j)):=by
 intro pins s σ H x y v u Q I rx ry h;obtain⟨i,j,rfl,rfl,q⟩:=h;obtain⟨t,rfl⟩:=rx;obtain⟨t',rfl⟩:=ry;exact rule i j t t' s _ _ ⟨.bl (g i j),H,I,rfl,q⟩
def Ik(i j:Int):Prop:=0<=j/\j<=1000000/\i.natAbs<2^64
def MT:cx X (binaryOp .Add) (yF λ i j=> .int (i+j)):=LM λ _ _ _ _ _ _ _ q=>add_int q
def Nw:cx X (binaryOp .Sub) (yF λ i j=> .int (i-j)):=LM λ _ _ _ _ _ _ _ q=>sub_int q
def Lb:cx X (binaryOp .Mod) (rI (λ _ j=>j≠0) λ i j=> .int (i.fmod j)):=IM λ _ _ _ _ _ _ _ hc q=>mod_int' hc q
def MU:cx X (binaryOp .Pow) (rI Ik λ i j=> .int (i^j.toNat)):=IM λ _ _ _ _ _ _ _ hc q=>pow_int_small hc.1 hc.2.1 hc.2.2 q
def RN{f:Value->Sem Value}{g:Int->Int}
 (rule:∀(i:Int) (t:Tok) (s:Shared) (Q:Value->Shared->Prop) (E:Value->Shared->Prop),Q (.int (g i) s.toks) {s with toks:=s.toks+1}->wpAny (model X.prog X.w) X.A (f (.int i t)) Q E s):
 CW X f (rU λ i=> .int (g i)):=by
 intro pins s σ H x v Q I rx h;obtain⟨i,rfl,q⟩:=h;obtain⟨t,rfl⟩:=rx;exact rule i t s _ _ ⟨.int (g i),H,I.tok _,⟨_,rfl⟩,q⟩
def MC:CW X (unaryOp .USub) (rU λ i=> .int (-i)):=RN λ _ _ _ _ _ q=>neg_int q
end
def QN:V->V->Bool
 | .aG,.aG=>true| .aG,.int _=>true| .int _,.aG=>true| .aG,.bl _=>true| .bl _,.aG=>true| .aG,.str _=>true| .str _,.aG=>true
 | .int _,.int _=>true| .bl _,.bl _=>true| .str _,.str _=>true| .u6 _,.u6 _=>true
 | .int _,.str _=>true| .str _,.int _=>true| .bl _,.str _=>true| .str _,.bl _=>true
 |_,_=>false
def RB:R2:=λ x y H Q=>QN x y=true/\Q (.bl (!decide (x=y))) H
def KY{i j:Int}:decide (V.int i=V.int j)=(i==j):=by
 rw[Wo];simp
def Mn{i j:Bool}:decide (V.bl i=V.bl j)=(i==j):=by
 rw[Wo];simp
def Ke{i j:Str}:decide (V.str i=V.str j)=(i==j):=by
 rw[Wo];simp
def JZ{i j:Array UInt8}:decide (V.u6 i=V.u6 j)=(i.toList==j.toList):=by
 rw[Wo];cases i;cases j;simp
section
variable {X:Cx}{a b c:Expr}{ta tb tc:TE}{pos:Pos}
def fQ{pins:List (Addr×Obj)}{σ:St}{H:Hp}{s:Shared}{Q:VK}{k k':Bool}(I:Inv X pins σ H s)(q:Q (.bl k) H)(e:k=k'):EP X pins σ Q (.bool k') s:=by
 subst e;exact⟨.bl k,H,I,rfl,q⟩
def OU:cx X (compareOp .NotEq) RB:=by
 intro pins s σ H x y v u Q I rx ry h;obtain⟨hs,q⟩:=h;cases x with
 |aG=>
  cases rx;cases y with
  |aG=>cases ry;exact PySem.EqNone.ne_none_none (fQ I q (by simp))
  |bl j=>cases ry;exact PySem.EqNone.ne_none_bool (fQ I q (by simp))
  |int j=>obtain⟨t',rfl⟩:=ry;exact PySem.EqNone.ne_none_int (fQ I q (by simp))
  |str j=>obtain⟨t',rfl⟩:=ry;exact PySem.EqNone.ne_none_str (fQ I q (by simp))
  |_=>exact absurd (show false=true from hs) Ts
 |bl i=>
  cases rx;cases y with
  |aG=>cases ry;exact PySem.EqNone.ne_bool_none (fQ I q (by simp))
  |bl j=>cases ry;exact ne_bool (fQ I q (Ui not Mn))
  |str j=>obtain⟨t',rfl⟩:=ry;exact PySem.EqMixed.ne_bool_str (fQ I q (by simp))
  |_=>exact absurd (show false=true from hs) Ts
 |int i=>
  obtain⟨t,rfl⟩:=rx;cases y with
  |aG=>cases ry;exact PySem.EqNone.ne_int_none (fQ I q (by simp))
  |int j=>obtain⟨t',rfl⟩:=ry;exact ne_int (fQ I q (Ui not KY))
  |str j=>obtain⟨t',rfl⟩:=ry;exact PySem.EqMixed.ne_int_str (fQ I q (by simp))
  |_=>exact absurd (show false=true from hs) Ts
 |str i=>
  obtain⟨t,rfl⟩:=rx;cases y with
  |aG=>cases ry;exact PySem.EqNone.ne_str_none (fQ I q (by simp))
  |bl j=>cases ry;exact PySem.EqMixed.ne_str_bool (fQ I q (by simp))
  |int j=>obtain⟨t',rfl⟩:=ry;exact PySem.EqMixed.ne_str_int (fQ I q (by simp))
  |str j=>obtain⟨t',rfl⟩:=ry;exact ne_str (fQ I q (Ui not Ke))
  |_=>exact absurd (show false=true from hs) Ts
 |u6 i=>
  obtain⟨t,rfl⟩:=rx;cases y with
  |u6 j=>obtain⟨t',rfl⟩:=ry;exact PySem.W.ne_bytes (fQ I q (Ui not JZ))
  |_=>exact absurd (show false=true from hs) Ts
 |_=>cases y<;>exact absurd (show false=true from hs) Ts
def Py:cx X (compareOp .Lt) (yF λ i j=> .bl (decide (i<j))):=Ho λ _ _ _ _ _ _ _ q=>lt_int q
def P9:cx X (compareOp .Gt) (yF λ i j=> .bl (decide (j<i))):=Ho λ _ _ _ _ _ _ _ q=>gt_int q
def Qe:cx X (compareOp .GtE) (yF λ i j=> .bl (decide (j<=i))):=Ho λ _ _ _ _ _ _ _ q=>ge_int q
def ND:cx X (compareOp .Is) (λ x y H Q=>y= .aG/\Q (.bl (decide (x= .aG))) H):=by
 intro pins s σ H x y v u Q I rx ry h;obtain⟨rfl,q⟩:=h;cases ry;refine is_none_gen (fQ I q ?_)
 cases x<;>first
  |(cases rx;rfl)
  |(obtain⟨t,rfl⟩:=rx;rfl)
def Kq:cx X (compareOp .IsNot) (λ x y H Q=>y= .aG/\Q (.bl (!decide (x= .aG))) H):=by
 intro pins s σ H x y v u Q I rx ry h;obtain⟨rfl,q⟩:=h;cases ry;refine isnot_none_gen (fQ I q ?_)
 cases x<;>first
  |(cases rx;rfl)
  |(obtain⟨t,rfl⟩:=rx;rfl)
def cu(b:Expr){op:CmpOp}(h:op≠ .In:=by decide)(h2:op≠ .NotIn:=by decide):behindInMarks op b=false:=by
 have e1:(op==CmpOp.In)=false:=by cases op<;>first|rfl|exact absurd rfl h
 have e2:(op==CmpOp.NotIn)=false:=by cases op<;>first|rfl|exact absurd rfl h2
 cases b<;>simp[behindInMarks,e1,e2]
def Ks{op:CmpOp}{r:R2}(ho:cx X (compareOp op) r)(ha:PE X a ta)(hb:PE X b tb)(hm:behindInMarks op b=false):PE X (.Compare a [op] [b] pos) (FX r ta tb):=by
 intro pins s σ H Q I h;exact wpAny_Compare1 (Hm ha hb I h λ v u s2 x y H2 I2 rx ry q=>ho pins s2 σ H2 x y v u Q I2 rx ry q) hm
def OF(t:TE):TT:=λ σ H Q=>t σ H λ x H'=>∃k,x= .bl k/\Q k H'
def KP{op:CmpOp}{r:R2}(ho:cx X (compareOp op) r)(ha:PE X a ta)(hb:PE X b tb)(hm:behindInMarks op b=false):PT X (.Compare a [op] [b] pos) (OF (FX r ta tb)):=by
 intro pins s σ H Q I h
 refine wpAny_isTrue_Compare1 (cJ (ha pins s σ H _ I h) λ v s1 ⟨x,H1,I1,r1,q1⟩=>cJ (hb pins s1 σ H1 _ I1 q1) λ u s2 ⟨y,H2,I2,r2,q2⟩=>
  cJ (ho pins s2 σ H2 x y v u _ I2 r1 r2 q2) λ c s3 ⟨z,H3,I3,r3,k,e,q3⟩=>?_) hm
 subst e;cases r3;exact Vx ⟨H3,I3,q3⟩
def sV:(sizeLine:Nat)<2^63:=by rw[Uc];decide
def Ee:cx X (binaryOp .Add) (λ x y H Q=>∃i j,x= .str i/\y= .str j/\i.length+j.length<=sizeLine/\Q (.str (i++j)) H):=by
 intro pins s σ H x y v u Q I rx ry h;obtain⟨i,j,rfl,rfl,hz,q⟩:=h;obtain⟨t,rfl⟩:=rx;obtain⟨t',rfl⟩:=ry;exact add_str (λ t' tk=>⟨.str (i++j),H,I.tok _,⟨_,rfl⟩,q⟩) hz
def vals1{x:V}{us:List Value}(r:Vals [x] us):∃u,us=[u]/\RelV x u:=by
 cases r with
 |cons r1 r2=>cases r2;exact⟨_,rfl,r1⟩
def vals2{x y:V}{us:List Value}(r:Vals [x,y] us):∃u w',us=[u,w']/\RelV x u/\RelV y w':=by
 cases r with
 |cons r1 r2=>
  cases r2 with
  |cons r3 r4=>cases r4;exact⟨_,_,rfl,r1,r3⟩
def G8:cD X (.builtin "abs") (λ xs H Q=>∃i,xs=[.int i]/\Q (.int (if i<0 then-i else i)) H):=by
 intro pins s σ H xs us Q I r h;obtain⟨i,rfl,q⟩:=h;obtain⟨u,rfl,t,rfl⟩:=vals1 r;exact call_abs_int λ u tk=>⟨.int (if i<0 then-i else i),H,I.tok _,⟨_,rfl⟩,q⟩
def GD:cD X (.type "int") (λ xs H Q=>(∃i,xs=[.int i]/\Q (.int i) H)\/∃k,xs=[.bl k]/\Q (.int (if k then 1 else 0)) H):=by
 intro pins s σ H xs us Q I r h;rcases h with⟨i,rfl,q⟩|⟨k,rfl,q⟩
 . obtain⟨u,rfl,t,rfl⟩:=vals1 r;exact call_int_int ⟨.int i,H,I,⟨_,rfl⟩,q⟩
 . obtain⟨u,rfl,r1⟩:=vals1 r;cases r1;exact call_int_bool ⟨.int (if k then 1 else 0),H,I.tok _,⟨_,rfl⟩,q⟩
end
structure vD(h:Heap)(x dx C:Addr)(mA:Str->Option Value):Prop where
 obj:h.get? x=some (PySem.W.instObj C dx)
 ns:h.Ns1 dx mA
 ne:dx≠x
def Eu{h:Heap}{dx:Addr}{mA:Str->Option Value}(n:h.Ns1 dx mA):∃od,h.get? dx=some od/\∀name,PySem.W.lookIn name od=some (mA name):=by
 obtain⟨o,es,ep,ho,hd,hk,_,hm⟩:=n;refine⟨o,ho,λ name=>?_⟩;have e:=hm name;unfold nsFind findBy at e;rw[<-Array.find?_toList]at e;unfold PySem.W.lookIn;rw[hd];dsimp only;split
 . rename_i y q;rw[q]at e;exact Ui some e
 . rename_i q;rw[q]at e
   have a:es.toList.any (·.refKey)=false:=by
    rw[List.any_eq_false];intro y hy;obtain⟨z,t,hkey⟩:=hk y (Array.mem_toList_iff.mp hy);simp[DictEntry.refKey,hkey]
   have a':¬es.toList.any (·.refKey)=true:=by rw[a];exact Ts
   rw[Sf a'];exact Ui some e
def vD.look{h:Heap}{x dx C:Addr}{mA:Str->Option Value}(I:vD h x dx C mA):∃od,PySem.W.InstAt h x (PySem.W.instObj C dx) C (some od)/\∀name,PySem.W.lookIn name od=some (mA name):=
 let⟨od,ho,hl⟩:=Eu I.ns
 ⟨od,⟨I.obj,rfl,rfl,ho⟩,hl⟩
section
variable {prog:Program}{w:World}{A:Around}{E:Value->Shared->Prop}{s:Shared}{K:PySem.W.Frag}{x dx C f:Addr}{mA:Str->Option Value}{name:Str}{v:Value}
def get_map{expr:Bool}{Q:Value->Shared->Prop}(X:K.In s.heap)(I:vD s.heap x dx C mA)(hg:PySem.W.plainGet K C name=true)(hh:PySem.W.hasDictIn K C=true)
 (ha:PySem.W.findIn K (.ref C) name=some none) (hv:mA name=some v) (hv':PySem.W.handedIn v=true) (h:Q v {s with toks:=s.toks+1}):
 wpAny (model prog w) A (getAttr (.ref x) name expr) Q E s:=by
 obtain⟨od,J,hl⟩:=I.look;exact PySem.W.get_value X J (WC hg).1 (PySem.W.findObj_own hh ha rfl (by rw[hl,hv])) hv' h
def HJ{pl:Sem Bool}{Q:Value×List Value->Shared->Prop}(X:K.In s.heap)(I:vD s.heap x dx C mA)(hg:PySem.W.plainGet K C name=true)
 (hf:PySem.W.findIn K (.ref C) name=some (some (.ref f))) (ht:PySem.W.isFn K (.ref f)=true) (hv:mA name=none) (h:Q (.ref f,[.ref x]) s):
 wpAny (model prog w) A (getMethod (.ref x) name pl) Q E s:=by
 obtain⟨od,J,hl⟩:=I.look;exact PySem.W.method_fn X J (WC hg).1 (WC hg).2 hf (UN.mp ht) (by show(PySem.W.lookIn name od).map (·.isSome)=some false;rw[hl,hv];rfl) h
def i4{ns:List Str}{Q:Unit->Shared->Prop}(X:K.In s.heap)(I:vD s.heap x dx C mA)
 (hs:PySem.W.findIn K (.ref C) "__setattr__"=some (some (.builtin "object.__setattr__"))) (hp:PySem.W.plainOver K C=true) (ht:PySem.W.takerIn K C name=some none) (hh:PySem.W.hasDictIn K C=true)
 (hw:PySem.Within mA ns) (hsz:ns.length<=sizeLine)
 (h:∀h',vD h' x dx C (λ y=>if y=name then some v else mA y)->Heap.SameBut dx s.heap h'->Q () {s with heap:=h',toks:=s.toks+2}):
 wpAny (model prog w) A (setAttr (.ref x) name v) Q E s:=by
 obtain⟨od,J,hl⟩:=I.look;refine PySem.W.set_plain X J hs (PySem.W.osa_open (s:={s with toks:=s.toks+1}) (r:=none) X J hp ht λ b=>?_);obtain⟨cd,hc,hd'⟩:=PySem.W.any_some hh;have hx:s.heap.get? x=some ⟨.ref C,some dx,.plain,#[]⟩:=I.obj;refine Sa (Sn (Sa (Sa (wpAny_loadPart hx (Sa (PySem.W.Looks.here (s:={s with toks:=s.toks+1}) (PySem.W.looks_clsIn X hc) ?_))))));rw[hd'];refine Sn (a:=some dx) (Sa (Sn (Sa ?_)));refine wpAny_nsSet1 (s:={s with toks:=s.toks+1}) I.ns λ h' hn2 hs2=>?_;obtain⟨oD,esD,epD,hoD,hdD,hcD⟩:=hn2.count (PySem.Within.cons name v hw);refine Sa (wpAny_lookBehind hoD (by rw[hdD];exact pastItsLine_dict (Se hcD (by rw[SY];omega))) ?_);exact Sn (h _ ⟨(hs2.2 _ (Sq I.ne)).trans I.obj,hn2,I.ne⟩ hs2)
def G_{R:Result->Shared->Prop}{vs:List Value}{kw:List (Str×Value)}(X:K.In s.heap)(hm:PySem.W.makesIn K C=true)
 (hi:PySem.W.findIn K (.ref C) "__init__"=some (some (.ref f))) (hf:PySem.W.typeIn K (.ref f)=some (.type "function"))
 (h:codeAny (model prog w) (A.under (.builtin "type.__call__" ⟨.ref C::vs,kw⟩)) (.call (.ref f) ⟨.ref (s.heap.objs.size+1)::vs,kw⟩) (PySem.W.InitBack (s.heap.objs.size+1) R)
   {s with heap:=(s.heap.push PySem.W.emptyDict).push (PySem.W.instObj C s.heap.objs.size)}):
 codeAny (model prog w) A (.call (.ref C) ⟨vs,kw⟩) R s:=by
 obtain⟨hh,g,d,t,os⟩:=s;exact PySem.W.make_core (PySem.W.makes_of X hm) (PySem.W.looks_findIn X hi) (λ self=>PySem.W.bind_fn X self hf) (.inl rfl) h
end
def h_(f:Str)(v:V):List (Str×V)->List (Str×V)
 | []=>[(f,v)]
 |(g,x)::r=>if g=f then(g,v)::r else(g,x)::h_ f v r
def vf(f g:Str)(v:V):∀fs:List (Str×V),(h_ f v fs).lookup g=if g=f then some v else fs.lookup g
 | []=>by
   show List.lookup g [(f,v)]=_;by_cases h:g=f
   . have hb:(g==f)=true:=UN.mpr h;simp only[List.lookup,hb,Si h]
   . have hb:(g==f)=false:=Ut.mpr h;simp only[List.lookup,hb,Sf h]
 |(k,x)::r=>by
  have ih:=vf f g v r;rw[show h_ f v ((k,x)::r)=(if k=f then(k,v)::r else(k,x)::h_ f v r)from rfl];by_cases hk:k=f
  . rw[Si hk];by_cases h:g=k
    . have hb:(g==k)=true:=UN.mpr h;simp only[List.lookup,hb,Si (h.trans hk)]
    . have hb:(g==k)=false:=Ut.mpr h;simp only[List.lookup,hb,Sf (λ e:g=f=>h (e.trans hk.symm))]
  . rw[Sf hk];by_cases h:g=k
    . have hb:(g==k)=true:=UN.mpr h;simp only[List.lookup,hb,Sf (λ e:g=f=>hk (h.symm.trans e))]
    . have hb:(g==k)=false:=Ut.mpr h;simp only[List.lookup,hb];exact ih
def sP(f:Str)(v:V):∀fs:List (Str×V),f∈(h_ f v fs).map (·.1)/\∀g,g∈fs.map (·.1)->g∈(h_ f v fs).map (·.1)
 | []=>⟨by simp[h_],λ g h=>by simp at h⟩
 |(k,x)::r=>by
  obtain⟨i1,i2⟩:=sP f v r;rw[show h_ f v ((k,x)::r)=(if k=f then(k,v)::r else(k,x)::h_ f v r)from rfl];by_cases hk:k=f
  . rw[Si hk];subst hk;exact⟨by simp,λ g h=>by simpa using h⟩
  . rw[Sf hk];refine⟨?_,λ g h=>?_⟩
    . rw[TH];exact SG _ i1
    . rw[TH]at h⊢;rcases SA.mp h with e|e
      . exact SA.mpr (.inl e)
      . exact SG _ (i2 g e)
def vg(f:Str)(v:V):∀fs:List (Str×V),(h_ f v fs).length<=fs.length+1
 | []=>by simp[h_]
 |(k,x)::r=>by
  have ih:=vg f v r;rw[show h_ f v ((k,x)::r)=(if k=f then(k,v)::r else(k,x)::h_ f v r)from rfl];by_cases hk:k=f
  . rw[Si hk,SY,SY];omega
  . rw[Sf hk,SY,SY];omega
def qt.some_of{v:V}{o:Option Value}(r:qt (some v) o):∃u,o=some u/\RelV v u:=by
 cases o with
 |none=>exact(show False from r).elim
 |some u=>exact⟨u,rfl,r⟩
def qt.none_of{o:Option Value}(r:qt none o):o=none:=by
 cases o with
 |none=>rfl
 |some u=>exact(show False from r).elim
def Gr{v:V}{u:Value}(r:RelV v u):PySem.W.handedIn u=true:=by
 cases v with
 |aG=>cases (show u=Value.none from r);rfl
 |bl b=>cases (show u=Value.bool b from r);rfl
 |int i=>obtain⟨t,e⟩:=(show∃t,u=Value.int i t from r);cases e;rfl
 |str x=>obtain⟨t,e⟩:=(show∃t,u=Value.str x t from r);cases e;rfl
 |u6 b=>obtain⟨t,e⟩:=(show∃t,u=Value.bytes b t from r);cases e;rfl
 |uX b=>obtain⟨t,e⟩:=(show∃t,u=Value.float b t from r);cases e;rfl
 |ref a=>cases (show u=Value.ref a from r);rfl
 |ty n=>cases (show u=Value.type n from r);rfl
section
variable {P:Program}{w:World}{H H':Hp}{h h':Heap}{a C dx:Addr}{fs fs':List (Str×V)}
def qV(aL:iQ P w H h)(e:H a=some (.ins C dx fs)):∃mA,vD h a dx C mA/\(∀f,qt (fs.lookup f) (mA f))/\PySem.Within mA (fs.map (·.1))/\fs.length<=1000/\H dx=some (.own a):=by
 obtain⟨d,z,ne,ob,mA,n,r,q⟩:=(show d7 P w H h a (.ins C dx fs)from aL a _ e)
 exact⟨mA,⟨ob,n,ne⟩,r,q,z,d⟩
end
structure o_(K:PySem.W.Frag)(C:Addr):Prop where
 pg:PySem.W.plainGet K C Str.empty=true
 hd:PySem.W.hasDictIn K C=true
 po:PySem.W.plainOver K C=true
 sa:PySem.W.findIn K (.ref C) "__setattr__"=some (some (.builtin "object.__setattr__"))
def o_.get{K:PySem.W.Frag}{C:Addr}(c:o_ K C)(f:Str):PySem.W.plainGet K C f=true:=c.pg
def gL(K:PySem.W.Frag)(C:Addr)(f:Str):Prop:=PySem.W.findIn K (.ref C) f=some none
def gL.Pm{K:PySem.W.Frag}{C:Addr}{f:Str}(n:gL K C f):PySem.W.takerIn K C f=some none:=by
 unfold PySem.W.takerIn;rw[show PySem.W.findIn K (.ref C) f=some none from n];rfl
structure Meth(K:PySem.W.Frag)(C:Addr)(m:Str)(f:Addr):Prop where
 at_:PySem.W.findIn K (.ref C) m=some (some (.ref f))
 fn:PySem.W.isFn K (.ref f)=true
 kp:PySem.W.keepIn K (.ref f)=true
section
variable {X:Cx}{pins:List (Addr×Obj)}{σ:St}{H:Hp}{s:Shared}{a C dx:Addr}{fs:List (Str×V)}{f:Str}{v:V}{A:Around}{E:Value->Shared->Prop}
def Dm{b:Bool}{Q:Value->Shared->Prop}(I:Inv X pins σ H s)(e:H a=some (.ins C dx fs))(c:o_ X.K C)(n:gL X.K C f)(l:fs.lookup f=some v)
 (h:∀u s',Inv X pins σ H s'->RelV v u->Q u s'):wpAny (model X.prog X.w) A (getAttr (.ref a) f b) Q E s:=by
 obtain⟨mA,O,r,_,_,_⟩:=qV I.aL e;obtain⟨u,hu,ru⟩:=qt.some_of (v:=v) (o:=mA f) (by rw[<-l];exact r f);exact get_map I.iw O (c.get f) c.hd n hu (Gr ru) (h u _ (I.tok _) ru)
def D4{m:Str}{g:Addr}{pl:Sem Bool}{Q:Value×List Value->Shared->Prop}(I:Inv X pins σ H s)(e:H a=some (.ins C dx fs))(c:o_ X.K C)(k:Meth X.K C m g)(l:fs.lookup m=none)
 (h:Q (.ref g,[.ref a]) s):wpAny (model X.prog X.w) A (getMethod (.ref a) m pl) Q E s:=by
 obtain⟨mA,O,r,_,_,_⟩:=qV I.aL e;have hn:mA m=none:=qt.none_of (by rw[<-l];exact r m);exact HJ I.iw O (c.get m) k.at_ k.fn hn h
def DX{y:V}{u:Value}{Q:Unit->Shared->Prop}(I:Inv X pins σ H s)(e:H a=some (.ins C dx fs))(c:o_ X.K C)(n:gL X.K C f)(hl:fs.length<1000)(ry:RelV y u)
 (h:∀s',Inv X pins σ (upd H a (.ins C dx (h_ f y fs))) s'->Q () s'):wpAny (model X.prog X.w) A (setAttr (.ref a) f u) Q E s:=by
 obtain⟨mA,O,r,wi,_,ho⟩:=qV I.aL e;have hz:(fs.map (·.1)).length<=sizeLine:=by rw[Sb,Uc];omega
 refine i4 I.iw O c.sa c.po n.Pm c.hd wi hz λ h' O' sb=>h _ ?_;have hd:∃o,h'.get? dx=some o:=let⟨o,_,_,e',_⟩:=O'.ns;⟨o,e'⟩
 refine I.write (x:=a) (e:=dx) (by rw[e];exact True.intro) (.inr ho) (λ b q hb z=>(sb.2 b hb).trans z) hd ?_;refine⟨by rw[aA O.ne];exact ho,?_,O.ne,O'.obj,_,O'.ns,λ g=>?_,λ g hg=>?_⟩
 . have:=vg f y fs;omega
 . show qt ((h_ f y fs).lookup g) (if g=f then some u else mA g);rw[vf];by_cases q:g=f
   . rw[Si q,Si q];exact ry
   . rw[Sf q,Sf q];exact r g
 . by_cases q:g=f
   . rw[q];exact(sP f y fs).1
   . refine(sP f y fs).2 g (wi g λ z=>hg ?_);show(if g=f then some u else mA g)=none;rw[Sf q];exact z
def Inv.made(I:Inv X pins σ H s):Inv X pins σ (upd (upd H s.heap.objs.size (.own (s.heap.objs.size+1))) (s.heap.objs.size+1) (.ins C s.heap.objs.size []))
 {s with heap:=(s.heap.push PySem.W.emptyDict).push (PySem.W.instObj C s.heap.objs.size)}:=by
 have e1:(s.heap.push PySem.W.emptyDict).get? s.heap.objs.size=some PySem.W.emptyDict:=SI s.heap rfl
 have e2:((s.heap.push PySem.W.emptyDict).push (PySem.W.instObj C s.heap.objs.size)).get? (s.heap.objs.size+1)=some (PySem.W.instObj C s.heap.objs.size):=by
  have:=SI (s.heap.push PySem.W.emptyDict) (o:=PySem.W.instObj C s.heap.objs.size) rfl;rwa [TY]at this
 have e3:(s.heap.push PySem.W.emptyDict).Ns s.heap.objs.size (λ _=>none):=⟨PySem.W.emptyDict,#[],_,e1,rfl,(λ e he=>absurd he (by simp)),λ _=>rfl⟩
 have I1:=I.laid (a:=s.heap.objs.size) (o:= .own (s.heap.objs.size+1)) (h':=s.heap.push PySem.W.emptyDict) (t':=s.toks) (λ b u q=>Sh _ q) (R_ _) ⟨_,e1⟩;refine I1.laid (a:=s.heap.objs.size+1) (o:= .ins C s.heap.objs.size []) (t':=s.toks) (λ b u q=>Sh _ q) (Wq (TY _ _)) ?_;have ne:s.heap.objs.size≠s.heap.objs.size+1:=SW (S0 _);refine⟨by rw[aA ne,a6],SM _,ne,e2,λ _=>none,(Heap.Ns1.of_empty e3).at λ o q=>Sh _ q,λ _=>True.intro,λ y hy=>absurd rfl hy⟩
def Lc{prog:Program}{w:World}{env:Env}{e:Expr}{f:Str}{pos:Pos}{s:Shared}{Q:Value->Shared->Prop}(hb:attributeBase e f env (eval e env)=eval e env)
 (h:wpAny (model prog w) A (eval e env) (λ o s₁=>wpAny (model prog w) A (getAttr o f true) Q E s₁) E s):wpAny (model prog w) A (eval (.Attribute e f pos) env) Q E s:=
 Attribute_any_ h (by rw[arm_eval_Attribute,hb])
end
def QX(K:PySem.W.Frag)(ta:TE)(f:Str):TE:=λ σ H Q=>ta σ H λ x H1=>∃a C dx fs v,x= .ref a/\H1 a=some (.ins C dx fs)/\o_ K C/\gL K C f/\fs.lookup f=some v/\Q v H1
def Rx(K:PySem.W.Frag)(ta tv:TE)(f:Str):TS:=λ D σ H=>tv σ H λ y H1=>ta σ H1 λ x H2=>∃a C dx fs,x= .ref a/\H2 a=some (.ins C dx fs)/\o_ K C/\gL K C f/\fs.length<1000/\
 D.nx σ (upd H2 a (.ins C dx (h_ f y fs)))
section
variable {X:Cx}{o e value:Expr}{f:Str}{pos pos' tpos:Pos}{ta tv:TE}
def L_(he:PE X e ta)(hb:attributeBase e f X.env (eval e X.env)=eval e X.env):PE X (.Attribute e f pos) (QX X.K ta f):=by
 intro pins s σ H Q I h;refine Lc hb (cJ (he pins s σ H _ I h) λ u s1 ⟨x,H1,I1,rx,a,C,dx,fs,v,ex,ea,c,n,l,q⟩=>?_);subst ex;obtain rfl:u=Value.ref a:=rx;exact Dm I1 ea c n l λ u' s2 I2 ru=>⟨v,H1,I2,ru,q⟩
def ML(ha:PE X o ta)(hv:PE X value tv)(hs:swapsWith value (some (.Attribute o f pos')) pos.line X.env=pure false):PS X (.Assign [.Attribute o f pos'] value pos) (Rx X.K ta tv f):=by
 intro pins s σ H D I h;refine plainObj_wpAny_Assign_Attribute (cJ (hv pins s σ H _ I h) λ u s1 ⟨y,H1,I1,ry,q⟩=>cJ (ha pins s1 σ H1 _ I1 q) λ ov s2 ⟨x,H2,I2,rx,a,C,dx,fs,ex,ea,c,n,l,q2⟩=>?_) hs;subst ex;obtain rfl:ov=Value.ref a:=rx;exact DX I2 ea c n l ry λ s3 I3=>⟨σ,_,I3,q2⟩
end
section
variable {X:Cx}{pins:List (Addr×Obj)}{σ:St}{H:Hp}{s:Shared}{A:Around}{E:Value->Shared->Prop}{Q:Value->Shared->Prop}{c:Value}{b:Bool}
inductive kc(K:PySem.W.Frag)(H:Hp):V->Value->Prop where
 |aG:kc K H .aG (.type "NoneType")
 |bl (x:Bool):kc K H (.bl x) (.type "bool")
 |int (i:Int):kc K H (.int i) (.type "int")
 |str (x:Str):kc K H (.str x) (.type "str")
 |uX (x:UInt64):kc K H (.uX x) (.type "float")
 |lst {a:Addr} {xs:List V} (e:H a=some (.lst xs)):kc K H (.ref a) (.type "list")
 |g4 {a:Addr} {o:Obj} {xs:List V} (e:H a=some (.g4 o (.lst xs))):kc K H (.ref a) (.type "list")
 |tup {a:Addr} {xs:List V} (e:H a=some (.tup xs)):kc K H (.ref a) (.type "tuple")
 |dK {a:Addr} {kvs:List (Key×V)} (e:H a=some (.dK kvs)):kc K H (.ref a) (.type "dict")
 |dT {a:Addr} {kvs:List (List Key×V)} (e:H a=some (.dT kvs)):kc K H (.ref a) (.type "dict")
 |ins {a C dx:Addr} {fs:List (Str×V)} (e:H a=some (.ins C dx fs)) (cl:o_ K C) (ha:PySem.W.findIn K (.ref C) "__class__"=some (some (.builtin "object.__class__")))
   (hn:PySem.W.specialIn K (.builtin "object.__class__") "__get__"=some (some (.builtin "getset_descriptor.__get__"))) (htk:PySem.W.takesIn K (.builtin "object.__class__")=some true)
   (hm:PySem.W.mroIn K C (.type "object")=some true):kc K H (.ref a) (.ref C)
def Ex{x:V}{u t:Value}(I:Inv X pins σ H s)(rx:RelV x u)(ty:kc X.K H x t)(e:PySem.W.kitOne X.K t c=some b)(h:∀tk,Q (.bool b) {s with toks:=tk}):
 wpAny (model X.prog X.w) A (call (.builtin "isinstance") [u,c]) Q E s:=by
 cases ty with
 |aG=>cases (show u=Value.none from rx);exact T7 PySem.W.kitx_none I.iw True.intro e (λ z=>nomatch z) h
 |bl y=>cases (show u=Value.bool y from rx);exact T7 PySem.W.kitx_bool I.iw True.intro e (λ z=>nomatch z) h
 |int i=>obtain⟨t,q⟩:=(show∃t,u=Value.int i t from rx);cases q;exact T7 PySem.W.kitx_int I.iw True.intro e (λ z=>nomatch z) h
 |str y=>obtain⟨t,q⟩:=(show∃t,u=Value.str y t from rx);cases q;exact T7 PySem.W.kitx_str I.iw True.intro e (λ z=>nomatch z) h
 |uX y=>obtain⟨t,q⟩:=(show∃t,u=Value.float y t from rx);cases q;exact T7 PySem.W.kitx_float I.iw True.intro e (λ z=>nomatch z) h
 | @lst a xs ea=>
   cases (show u=Value.ref a from rx);obtain⟨_,_,n,_,h1⟩:=(show d7 X.prog X.w H s.heap a (.lst xs)from I.aL a _ ea)
   exact T7 V4 I.iw ⟨_,h1,rfl⟩ e (λ z=>nomatch z) h
 | @g4 a ob xs ea=>
   cases (show u=Value.ref a from rx);obtain⟨_,_,_,n,_,h1⟩:=(show d7 X.prog X.w H s.heap a (.g4 ob (.lst xs))from I.aL a _ ea)
   exact T7 V4 I.iw ⟨_,h1,rfl⟩ e (λ z=>nomatch z) h
 | @tup a xs ea=>
   cases (show u=Value.ref a from rx);obtain⟨_,_,_,p⟩:=(show d7 X.prog X.w H s.heap a (.tup xs)from I.aL a _ ea)
   obtain⟨o,h1,h2,_⟩:=p;exact T7 PySem.W.kitx_tuple I.iw ⟨o,h1,h2⟩ e (λ z=>nomatch z) h
 | @dK a kvs ea=>
   cases (show u=Value.ref a from rx);obtain⟨_,_,vs,_,p⟩:=(show d7 X.prog X.w H s.heap a (.dK kvs)from I.aL a _ ea)
   obtain⟨o,es,ep,h1,h2,_⟩:=p;exact T7 V5 I.iw ⟨o,h1,h2.1⟩ e (λ z=>nomatch z) h
 | @dT a kvs ea=>
   cases (show u=Value.ref a from rx);obtain⟨_,_,xs,_,o,es,ep,h1,h2,_⟩:=(show d7 X.prog X.w H s.heap a (.dT kvs)from I.aL a _ ea)
   exact T7 V5 I.iw ⟨o,h1,h2.1⟩ e (λ z=>nomatch z) h
 | @ins a C dx fs ea cl ha hn htk hm=>
   cases (show u=Value.ref a from rx);obtain⟨mA,O,_⟩:=qV I.aL ea;obtain⟨od,J,_⟩:=O.look;exact T7 (PySem.W.kitx_own (cl.get _) cl.hd ha hn htk hm) I.iw J e (λ z=>nomatch z) h
end
structure dg(k:Nat)(A:Around):Prop where
 hd:A.handled=none
 dp:A.depth+3*k+105<recursionLimit
 un:A.units+16*k+200<cLine
def dg.mono{j k:Nat}{A:Around}(r:dg k A)(h:j<=k):dg j A:=⟨r.hd,by have:=r.dp;omega,by have:=r.un;omega⟩
def dg.deeper{k:Nat}{A:Around}(r:dg (k+1) A)(env:Env):dg k (A.deeper env):=
 ⟨r.hd,by have:=r.dp;show A.depth+1+3*k+105<_;omega,by have:=r.un;show A.units+3+16*k+200<_;omega⟩
def D2{A:Around}{C:Addr}{us:List Value}{kw:List (Str×Value)}:(A.under (.builtin "type.__call__" ⟨.ref C::us,kw⟩)).depth=A.depth+1:=by
 first|rfl|simp[Around.under,Code.weight,Code.isCreation,Code.isGuard,Code.isCaller,Code.frames,Code.isFrame,guardIds]
def DZ{A:Around}{C:Addr}{us:List Value}{kw:List (Str×Value)}:(A.under (.builtin "type.__call__" ⟨.ref C::us,kw⟩)).units=A.units+1:=by
 first|rfl|simp[Around.under,Code.cUnits,Code.frames,Code.isFrame]
def dg.make{k:Nat}{A:Around}(r:dg (k+1) A)(C:Addr)(us:List Value)(kw:List (Str×Value)):dg k (A.under (.builtin "type.__call__" ⟨.ref C::us,kw⟩)):=
 ⟨r.hd,by have:=r.dp;rw[D2];omega,by have:=r.un;rw[DZ];omega⟩
def dg.depth{k:Nat}{A:Around}(r:dg k A):A.depth<recursionLimit:=by have:=r.dp;omega
def dg.units{k:Nat}{A:Around}(r:dg k A):A.units+64<cLine:=by have:=r.un;omega
def Rn:TA:=λ _ H Q=>Q [] H
def Qf(ta:TE)(tr:TA):TA:=λ σ H Q=>ta σ H λ x H1=>tr σ H1 λ xs H2=>Q (x::xs) H2
section
variable {X:Cx}{e:Expr}{es:List Expr}{te:TE}{t:TA}{pos:Pos}
def NO:PA X [] Rn:=λ _ _ _ _ H Q I h=>Calls.spliced_nil ⟨[],H,I,.nil,h⟩
def J4(ha:PE X e te)(hr:PA X es t)(hs:starEach (e::es) X.env=(false,eval e X.env)::starEach es X.env:=by rfl):PA X (e::es) (Qf te t):=by
 intro pos pins s σ H Q I h;rw[hs];show wpAny _ _ (spliced ((false,eval e X.env)::backTo pos (starEach es X.env))) _ _ s;refine Calls.spliced_cons (cJ (ha pins s σ H _ I h) λ u s1 ⟨x,H1,I1,r1,q1⟩=>?_);exact cJ (hr pos pins s1 σ H1 _ I1 q1) λ us s2 ⟨xs,H2,I2,r2,q2⟩=>⟨x::xs,H2,I2,.cons r1 r2,q2⟩
def Rb(t:TA):TE:=λ σ H Q=>t σ H λ xs H1=>xs.length<=sizeLine/\∀p,H1 p=none->Q (.ref p) (upd H1 p (.tup xs))
def QY(t:TA):TE:=λ σ H Q=>t σ H λ xs H1=>xs.length<=sizeLine/\∀p,H1 p=none->Q (.ref p) (upd H1 p (.lst xs))
def MK{x1}(h:PA X es t):PE X (.Tuple es x1 pos) (Rb t):=by
 intro pins s σ H Q I hq;refine wpAny_Tuple_spliced (cJ (h pos pins s σ H _ I hq) λ us s1 ⟨xs,H1,I1,r,z,q⟩=>⟨by rw[<-r.length];exact z,?_⟩);have hf:H1 s1.heap.objs.size=none:=I1.aL.fresh (R_ _);refine⟨.ref s1.heap.objs.size,upd H1 s1.heap.objs.size (.tup xs),I1.laid (t':=s1.toks) (λ b u e=>Sh _ e) (R_ _) ?_,rfl,q _ hf⟩;exact⟨z,us,r,⟨_,SI _ rfl,rfl,_,rfl⟩⟩
def F3(h:PA X es t):PE X (.List es pos) (QY t):=by
 intro pins s σ H Q I hq;refine wpAny_List_spliced (cJ (h pos pins s σ H _ I hq) λ us s1 ⟨xs,H1,I1,r,z,q⟩=>⟨by rw[<-r.length];exact z,?_⟩);have hf:H1 s1.heap.objs.size=none:=I1.aL.fresh (R_ _);refine⟨.ref s1.heap.objs.size,upd H1 s1.heap.objs.size (.lst xs),I1.laid (t':=s1.toks) (λ b u e=>Sh _ e) (R_ _) ?_,rfl,q _ hf⟩;exact⟨z,us,0,r,SI _ rfl⟩
end
abbrev Sp:=List V->Hp->VK->XK->Prop
abbrev vc:=List Env->Hp->Shared->XK->Value->Shared->Prop
structure vi(P:Program)(w:World)(K:PySem.W.Frag)(mg:Str->Option Value)(base:Heap)(A:Around)(outer:List Env)(s:Shared)(H:Hp):Prop where
 frames:A.frames=some outer
 mod:Mod K mg base
 bs:∀b o,base.get? b=some o->s.heap.get? b=some o/\H b=none
 tQ:base.objs.size<=s.heap.objs.size
 lI:s.heap.FunFrames base outer
 xj:∀b∈qK outer,H b=none
 aL:iQ P w H s.heap
 bare:AllBare s.gens
 gt:P.given.tree=none
def CE(outer:List Env)(P:Program)(w:World)(H:Hp)(s:Shared)(Q:VK)(u:Value)(s':Shared):Prop:=
 ∃v H',s'.os=s.os/\AllBare s'.gens/\Un (qK outer) [] H H' s.heap s'.heap/\iQ P w H' s'.heap/\RelV v u/\Q v H'
def CR(CX:vc)(outer:List Env)(P:Program)(w:World)(H:Hp)(s:Shared)(Q:VK)(E:XK)(r:Result)(s':Shared):Prop:=
 match r with
 | .ok (.ret u)=>CE outer P w H s Q u s'
 | .ok _=>False
 | .error e=>CX outer H s E e s'
structure bN(P:Program)(w:World)(K:PySem.W.Frag)(mg:Str->Option Value)(base:Heap)(CX:vc)(k:Nat)(f:Addr)(fd:FuncData)(ps:List Str)(sp:Sp):Prop where
 len:∀vs H Q E,sp vs H Q E->vs.length=ps.length
 run:∀(A:Around) (outer:List Env) (s:Shared) (H:Hp) (args:Args) (us:List Value) (vs:List V) (Q:VK) (E:XK),dg k A->vi P w K mg base A outer s H->BindsTo s fd args (ps.zip us)->Vals vs us->sp vs H Q E->
  codeAny (model P w) A (.call (.ref f) args) (CR CX outer P w H s Q E) s
def bN.imp{P:Program}{w:World}{K:PySem.W.Frag}{mg:Str->Option Value}{base:Heap}{CX:vc}{k:Nat}{f:Addr}{fd:FuncData}{ps:List Str}{sp sp':Sp}(F:bN P w K mg base CX k f fd ps sp)
 (h:∀vs H Q E,sp' vs H Q E->sp vs H Q E):bN P w K mg base CX k f fd ps sp':=
 ⟨λ vs H Q E q=>F.len vs H Q E (h _ _ _ _ q),λ A outer s H args us vs Q E hr he hb hv hs=>F.run A outer s H args us vs Q E hr he hb hv (h _ _ _ _ hs)⟩
def vi.make{P:Program}{w:World}{K:PySem.W.Frag}{mg:Str->Option Value}{base:Heap}{A:Around}{outer:List Env}{s:Shared}{H:Hp}(e:vi P w K mg base A outer s H)(C:Addr)(us:List Value)(kw:List (Str×Value)):
 vi P w K mg base (A.under (.builtin "type.__call__" ⟨.ref C::us,kw⟩)) outer s H:=⟨by first|exact e.frames|(simpa[Around.under,Code.envs,Code.isFrame,pushEnvs]using e.frames),e.mod,e.bs,e.tQ,e.lI,e.xj,e.aL,e.bare,e.gt⟩
section
variable {X:Cx}{pins:List (Addr×Obj)}{σ:St}{H:Hp}{s s':Shared}
def Inv.Ms(I:Inv X pins σ H s):vi X.prog X.w X.K X.mg X.base X.A X.stack s H:=
 ⟨I.ok.frames,I.ok.mod,I.bs,Se I.ok.tQ I.sz,I.stack,I.xQ,I.aL,I.bare,I.ok.gt⟩
def Inv.after{Q:VK}{u:Value}(I:Inv X pins σ H s)(h:CE X.stack X.prog X.w H s Q u s'):EP X pins σ Q u s':=by
 obtain⟨v,H',os,bare,un,aL,r,q⟩:=h;obtain⟨hh,g,d,t,os'⟩:=s';obtain rfl:os'=s.os:=os;exact⟨v,H',I.call (h':=hh) (g':=g) (d':=d) (t':=t) (ch:=[]) un aL bare (λ b z=>absurd z (by simp)),r,q⟩
end
def Ja(sp:Sp)(dvs:List V)(E:XK)(t:TA):TE:=λ σ H Q=>t σ H λ vs H1=>sp (vs++dvs) H1 Q E
def Iq(C:Addr)(m:Str)(sp:Sp)(dvs:List V)(E:XK)(ta:TE)(t:TA):TE:=λ σ H Q=>ta σ H λ x H1=>∃a dx fs,x= .ref a/\H1 a=some (.ins C dx fs)/\fs.lookup m=none/\
 t σ H1 λ vs H2=>sp (x::(vs++dvs)) H2 Q E
def Jw(C:Addr)(sp:Sp)(dvs:List V)(E:XK)(t:TA):TE:=λ σ H Q=>t σ H λ vs H1=>∀x dx,H1 x=none->H1 dx=none->dx≠x->
 sp (.ref x::(vs++dvs)) (upd (upd H1 dx (.own x)) x (.ins C dx [])) (λ v H2=>v= .aG/\Q (.ref x) H2) E
def Binds(K:PySem.W.Frag)(fd:FuncData)(ps:List Str)(ds:List Value):Prop:=
 ∀(s:Shared) (us:List Value),K.In s.heap->(us++ds).length=ps.length->BindsTo s fd ⟨us,[]⟩ (ps.zip (us++ds))
def Binds.all{K:PySem.W.Frag}{fd:FuncData}{ps:List Str}(h:∀us:List Value,us.length=ps.length->bindArgs fd ⟨us,[]⟩=pure (ps.zip us)):Binds K fd ps []:=λ s us _ hl=>by
 rw[TZ]at hl⊢;exact .of_eq (h us hl)
def Passes(CX:vc)(X:Cx)(E:XK):Prop:=∀(pins:List (Addr×Obj)) (σ:St) (H:Hp) (s:Shared) (e:Value) (s':Shared),Inv X pins σ H s->CX X.stack H s E e s'->X.xe e s'
section
variable {X:Cx}{CX:vc}{k:Nat}{f C:Addr}{fd:FuncData}{ps:List Str}{sp:Sp}{dvs:List V}{ds:List Value}{E:XK}{x m:Str}{p pos apos:Pos}{e o:Expr}{es:List Expr}{ta:TE}{t:TA}
def Gi{pins:List (Addr×Obj)}{σ:St}{H:Hp}{s:Shared}{Q:VK}{us:List Value}{vs:List V}(F:bN X.prog X.w X.K X.mg X.base CX k f fd ps sp)(hr:dg k X.A)(hb:Binds X.K fd ps ds)(hd:Vals dvs ds)(hx:Passes CX X E)
 (I:Inv X pins σ H s) (r:Vals vs us) (h:sp (vs++dvs) H Q E):wpAny (model X.prog X.w) X.A (call (.ref f) us) (EP X pins σ Q) X.xe s:=by
 have r2:Vals (vs++dvs) (us++ds):=r.append hd;have hl:(us++ds).length=ps.length:=by rw[<-r2.length];exact F.len _ _ _ _ h
 refine wpAny_call (W5 (F.run X.A X.stack s H ⟨us,[]⟩ (us++ds) (vs++dvs) Q E hr I.Ms (hb s us I.iw hl) r2 h) λ r s' hq=>?_);cases r with
 |error e=>exact hx pins σ H s e s' I hq
 |ok fl=>
  cases fl with
  |ret u=>exact I.after hq
  |next=>exact False.elim hq
  |brk=>exact False.elim hq
  |cont=>exact False.elim hq
def J5(F:bN X.prog X.w X.K X.mg X.base CX k f fd ps sp)(hr:dg k X.A)(hg:Gl X x)(hm:X.mg x=some (.ref f))(hk:PySem.W.keepIn X.K (.ref f)=true)(hb:Binds X.K fd ps ds)(hd:Vals dvs ds)(hx:Passes CX X E)
 (ha:PA X (e::es) t) (hdb:(x==("__debug__":Str))=false:=by decide) (he:starEach (e::es) X.env=(false,eval e X.env)::starEach es X.env:=by rfl) (hpl:(backTo pos (starEach es X.env)).any (·.1)=false:=by rfl):
 PE X (.Call (.Name x p) (e::es) [] pos) (Ja sp dvs E t):=by
 intro pins s σ H Q I h;refine Vk (Cp I hg hm ?_ hdb);refine WI (h₀:=X.base) I.ok.mod.FZ hk (cJ (ha pos pins s σ H _ I h) λ us s1 ⟨vs,H1,I1,r,q⟩=>⟨I1.iw,?_⟩) he hpl;exact Gi F hr hb hd hx I1 r q
def Lv{pl:Sem Bool}(he:PE X o ta)(c:o_ X.K C)(hm:Meth X.K C m f)(F:bN X.prog X.w X.K X.mg X.base CX k f fd ps sp)(hr:dg k X.A)(hb:Binds X.K fd ps ds)(hd:Vals dvs ds)(hx:Passes CX X E)(ha:PA X (e::es) t)
 (hst:starEach (e::es) X.env=(false,eval e X.env)::starEach es X.env:=by rfl) (hpl:(backTo pos (starEach es X.env)).any (·.1)=false:=by rfl)
 (ht:eval (.Call (.Attribute o m apos) (e::es) [] pos) X.env=(do
   let ov <-eval o X.env
   standAt apos.atName
   let(f,first) <-holding [ov] (getMethod ov m pl)
   callWith pos f first (backTo pos (starEach (e::es) X.env)) (backToKw pos (keywordEach [] X.env))):=by rfl):
 PE X (.Call (.Attribute o m apos) (e::es) [] pos) (Iq C m sp dvs E ta t):=by
 intro pins s σ H Q I h;refine PySem.W.methodCall_KW (pl:=pl) (cJ (he pins s σ H _ I h) λ u s1 ⟨x,H1,I1,rx,a,dx,fs,ex,ea,l,q⟩=>?_) ht;subst ex;obtain rfl:u=Value.ref a:=rx;refine D4 I1 ea c hm l ?_;refine WI (first:=[.ref a]) (h₀:=X.base) I.ok.mod.FZ hm.kp (cJ (ha pos pins s1 σ H1 _ I1 q) λ us s2 ⟨vs,H2,I2,r,q2⟩=>⟨I2.iw,?_⟩) hst hpl;exact Gi (us:= .ref a::us) (vs:= .ref a::vs) F hr hb hd hx I2 (.cons rfl r) q2
structure Mk(K:PySem.W.Frag)(C f:Addr):Prop where
 makes:PySem.W.makesIn K C=true
 init:PySem.W.findIn K (.ref C) "__init__"=some (some (.ref f))
 fn:PySem.W.isFn K (.ref f)=true
 kp:PySem.W.keepIn K (.ref C)=true
def HF{pins:List (Addr×Obj)}{σ:St}{H:Hp}{s:Shared}{Q:VK}{us:List Value}{vs:List V}(M:Mk X.K C f)(F:bN X.prog X.w X.K X.mg X.base CX k f fd ps sp)(hr:dg (k+1) X.A)(hb:Binds X.K fd ps ds)(hd:Vals dvs ds)
 (hx:Passes CX X E) (I:Inv X pins σ H s) (r:Vals vs us)
 (h:∀x dx,H x=none->H dx=none->dx≠x->sp (.ref x::(vs++dvs)) (upd (upd H dx (.own x)) x (.ins C dx [])) (λ v H2=>v= .aG/\Q (.ref x) H2) E):
 wpAny (model X.prog X.w) X.A (call (.ref C) us) (EP X pins σ Q) X.xe s:=by
 have hq:=h (s.heap.objs.size+1) s.heap.objs.size (I.aL.fresh (Vs _)) (I.aL.fresh (R_ _)) (SW (S0 _));have I2:=Inv.made (C:=C) I;have r2:Vals (V.ref (s.heap.objs.size+1)::(vs++dvs)) (Value.ref (s.heap.objs.size+1)::(us++ds)):= .cons rfl (r.append hd)
 have hl:(Value.ref (s.heap.objs.size+1)::us++ds).length=ps.length:=by
  have e:=r2.length;rw[F.len _ _ _ _ hq]at e;exact e.symm
 refine wpAny_call (G_ (f:=f) I.iw M.makes M.init (UN.mp M.fn) (W5 (F.run _ X.stack _ _ ⟨Value.ref (s.heap.objs.size+1)::us,[]⟩ (Value.ref (s.heap.objs.size+1)::(us++ds)) _ _ E (hr.make C us [])
  (I2.Ms.make C us []) (hb _ (Value.ref (s.heap.objs.size+1)::us) I2.iw hl) r2 hq) λ r s' hq'=>?_))
 cases r with
 |error e=>exact hx pins σ _ _ e s' I2 hq'
 |ok fl=>
  cases fl with
  |ret u=>
   obtain⟨v,H',I3,rv,ev,q3⟩:=I2.after hq';subst ev;exact⟨rv,⟨V.ref (s.heap.objs.size+1),H',I3,rfl,q3⟩⟩
  |next=>exact False.elim hq'
  |brk=>exact False.elim hq'
  |cont=>exact False.elim hq'
def Kt(M:Mk X.K C f)(F:bN X.prog X.w X.K X.mg X.base CX k f fd ps sp)(hr:dg (k+1) X.A)(hg:Gl X x)(hm:X.mg x=some (.ref C))(hb:Binds X.K fd ps ds)(hd:Vals dvs ds)(hx:Passes CX X E)
 (ha:PA X (e::es) t) (hdb:(x==("__debug__":Str))=false:=by decide) (he:starEach (e::es) X.env=(false,eval e X.env)::starEach es X.env:=by rfl) (hpl:(backTo pos (starEach es X.env)).any (·.1)=false:=by rfl):
 PE X (.Call (.Name x p) (e::es) [] pos) (Jw C sp dvs E t):=by
 intro pins s σ H Q I h;refine Vk (Cp I hg hm ?_ hdb);refine WI (h₀:=X.base) I.ok.mod.FZ M.kp (cJ (ha pos pins s σ H _ I h) λ us s1 ⟨vs,H1,I1,r,q⟩=>⟨I1.iw,?_⟩) he hpl;exact HF M F hr hb hd hx I1 r q
end
section
variable {X:Cx}{CX:vc}{k:Nat}{f C:Addr}{fd:FuncData}{ps ks:List Str}{sp:Sp}{E:XK}{x m:Str}{p pos apos kpos:Pos}{e o:Expr}{es:List Expr}{kws:List Keyword}{te ta:TE}{t tk:TA}{nm:Option Str}
variable {g:List Value->List Value->List Value}{gV:List V->List V->List V}
end
structure aR(N P:List Str)(sc:Scope):Prop where
 kind:sc.kind= .function
 co:sc.isCoroutine=false
 gen:sc.isGenerator=false
 nd:N.Nodup
 pre:N.take P.length=P
 par:∀x∈P,sc.names.lookup x=some .local\/sc.names.lookup x=some .cell
 NX:∀y∈sc.names,y.2≠ .free
def yT{kindOf:Str->Option NameKind}{x:Str}:∀ {binds:List (Str×Value)} {m:Str->Option Value},(∀v,(x,v)∉binds)->bindL kindOf binds m x=m x
 | [],_,_=>rfl
 |(n,v)::r,m,h=>by
  unfold bindL;rw[yT λ w hw=>h w (SG _ hw)];split
  . have:x≠n:=by rintro rfl;exact h v SD
    simp[this]
  . rfl
def yN{kindOf:Str->Option NameKind}{x:Str}:∀ {binds:List (Str×Value)} {m:Str->Option Value},(∀v,(x,v)∉binds)->bindC kindOf binds m x=m x
 | [],_,_=>rfl
 |(n,v)::r,m,h=>by
  unfold bindC;rw[yN λ w hw=>h w (SG _ hw)];split
  . rfl
  . have:x≠n:=by rintro rfl;exact h v SD
    simp[this]
def yD{kindOf:Str->Option NameKind}{x:Str}{v:Value}:∀ {P:List Str} {vs:List Value} {i:Nat} {m:Str->Option Value},P.Nodup->P[i]?=some x->vs[i]?=some v->kindOf x=some .local->
 bindL kindOf (P.zip vs) m x=some v
 | [],_,_,_,_,h,_,_=>by simp at h
 |_::_,[],_,_,_,_,h,_=>by simp at h
 |p::P,w::vs,0,m,nd,h1,h2,hk=>by
  simp at h1 h2;subst h1;subst h2;show bindL kindOf ((p,w)::P.zip vs) m p=_;unfold bindL;rw[yT λ v hv=>(Vl.mp nd).1 (Wr hv).1,Si hk];simp
 |p::P,w::vs,i+1,m,nd,h1,h2,hk=>by
  show bindL kindOf ((p,w)::P.zip vs) m x=_;unfold bindL;exact yD (i:=i) (Vl.mp nd).2 (by simpa using h1) (by simpa using h2) hk
def yx{kindOf:Str->Option NameKind}{x:Str}{v:Value}:∀ {P:List Str} {vs:List Value} {i:Nat} {m:Str->Option Value},P.Nodup->P[i]?=some x->vs[i]?=some v->kindOf x≠some .local->
 bindC kindOf (P.zip vs) m x=some v
 | [],_,_,_,_,h,_,_=>by simp at h
 |_::_,[],_,_,_,_,h,_=>by simp at h
 |p::P,w::vs,0,m,nd,h1,h2,hk=>by
  simp at h1 h2;subst h1;subst h2;show bindC kindOf ((p,w)::P.zip vs) m p=_;unfold bindC;rw[yN λ v hv=>(Vl.mp nd).1 (Wr hv).1,Sf hk];simp
 |p::P,w::vs,i+1,m,nd,h1,h2,hk=>by
  show bindC kindOf ((p,w)::P.zip vs) m x=_;unfold bindC;exact yx (i:=i) (Vl.mp nd).2 (by simpa using h1) (by simpa using h2) hk
def start(N:List Str)(vs:List V):St:=vs.map some++List.replicate (N.length-vs.length) none
def rL(CX:vc)(P:Program)(w:World)(K:PySem.W.Frag)(mg:Str->Option Value)(base:Heap)(N:List Str)(qual:Str)(scope:Scope)(f:Addr)(cd:Value)(A:Around)(outer:List Env)(s:Shared)(H:Hp)(E:XK):Cx where
 prog:=P
 w:=w
 K:=K
 mg:=mg
 base:=base
 A:=A.deeper (envOfC qual scope s.heap.objs.size f cd)
 N:=N
 s₀:=s
 H₀:=H
 env:=envOfC qual scope s.heap.objs.size f cd
 outer:=outer
 stack:=envOfC qual scope s.heap.objs.size f cd::outer
 ex:=[]
 calm:=true
 fn:=λ _=>true
 pn:=[]
 xe:=λ e s'=>wpAny (model P w) (A.deeper (envOfC qual scope s.heap.objs.size f cd)) (leaving (envOfC qual scope s.heap.objs.size f cd) e) (λ _ s''=>CX outer H s E e s'') (λ e' s''=>CX outer H s E e' s'') s'
def A4{sc:Scope}{n:Nat}{x:Str}(h:sc.names.lookup x=some .cell):∃c,(cellsFrom n sc.names []).lookup x=some c:=by
 have q:=UO sc.names n [] (.inl h);exact Vd.mp q
def E6{CX:vc}{P:Program}{w:World}{K:PySem.W.Frag}{mg:Str->Option Value}{base:Heap}{N ps:List Str}{qual:Str}{scope:Scope}{f:Addr}{cd:Value}{A:Around}{outer:List Env}{s s1:Shared}{H:Hp}{E:XK}{us:List Value}{vs:List V}
 (S:aR N ps scope) (hd:A.handled=none) (e0:vi P w K mg base A outer s H) (hl:vs.length=ps.length) (r:Vals vs us)
 (x:InCallC s s.heap.objs.size (bindL (envOfC qual scope s.heap.objs.size f cd).kindOf (ps.zip us) λ _=>none) (cellsFrom (s.heap.objs.size+1) scope.names []) (bindC (envOfC qual scope s.heap.objs.size f cd).kindOf (ps.zip us) λ _=>none) s1):
 Inv (rL CX P w K mg base N qual scope f cd A outer s H E) [] (start N vs) H s1:=by
 have hpl:ps.length<=N.length:=by have:=Ui List.length S.pre;rw[Tr]at this;omega
 obtain⟨h1,tk,rfl,hk⟩:=x.done;have noA:∀b:Addr,b∉(rL CX P w K mg base N qual scope f cd A outer s H E).ex:=λ b z=>absurd (show b∈([]:List Addr)from z) (by simp)
 refine⟨⟨e0.mod,S.kind,rfl,rfl,R_ _,λ y z c h1 h2=>?_,λ y hy=>?_,λ y c _ h=>?_,λ _=>hd,Around.frames_deeper e0.frames,.inr ⟨rfl,rfl⟩,λ b z=>absurd z (noA b),e0.bs,e0.tQ,λ b _ _=>noA b,λ b z=>absurd z (noA b),e0.lI,e0.xj,e0.gt⟩,
  rfl,e0.bare,Un.kept hk,⟨_,x.toInCall.ns,λ i y v h1 h2 h3=>?_⟩,λ y c h=>⟨_,x.cell y c h⟩,e0.aL.fresh (R_ _),λ y c h=>?_,λ p hp=>absurd (show p∈([]:List (Addr×Obj))from hp) (by simp),e0.aL.kept hk,?_⟩
 . exact name_of_addr x.apart (To h1) (To h2)
 . have hy:scope.names.lookup y=some .cell\/scope.names.lookup y=some .free:=hy;rcases hy with hy|hy
   . exact A4 hy
   . exact absurd rfl (S.NX _ (To hy))
 . exact Tz (x.above y c (To h))
 . have hi:i<vs.length:=by
    unfold start at h2;by_cases hi:i<vs.length
    . exact hi
    . rw[S7 (by simpa using hi)]at h2;rw[VY]at h2;split at h2<;>cases h2
   have ha:vs[i]?=some v:=by
    unfold start at h2;rw[Sk (by simpa using hi),SF]at h2;cases e:vs[i]? with
    |none=>rw[e]at h2;cases h2
    |some a=>rw[e]at h2;cases h2;rfl
   obtain⟨u,hu,rv⟩:=r.get ha
   have hp:ps[i]?=some y:=by
    rw[<-S.pre,VP (by omega)];exact h1
   have ndP:ps.Nodup:=by rw[<-S.pre];exact S.nd.sublist (List.take_sublist _ _)
   refine⟨u,rv,?_⟩;rcases S.par y (S8 hp)with k|k
   . exact .inl ⟨k,yD ndP hp hu k⟩
   . obtain⟨c,e⟩:=A4 (n:=s.heap.objs.size+1) k;refine .inr ⟨.inl k,c,e,?_⟩;have q:=x.cell y c e;rw[yx ndP hp hu (by show scope.names.lookup y≠_;rw[k];decide)]at q;exact q
 . exact e0.aL.fresh (Tz (x.above y c (To h)))
 . unfold start;show _=N.length;rw[TB,Sb,Xy];omega
def Jf{CX:vc}{P:Program}{w:World}{K:PySem.W.Frag}{mg:Str->Option Value}{base:Heap}{k:Nat}{f:Addr}{name qual:Str}{params:Arguments}{body:List Stmt}{scope:Scope}{dV kV doc pm cdv ct oc:Value}{an od:Option Addr}
 {osl:Array (Option Value)} {N ps:List Str} {sp:Sp} (lk:K.lookup f=some ⟨oc,od,.func (PySem.W.fnOf name qual params body scope dV kV doc pm an cdv ct),osl⟩) (hcd:PySem.W.codeIn K cdv qual=true) (S:aR N ps scope)
 (len:∀vs H Q E,sp vs H Q E->vs.length=ps.length)
 (hbody:∀(A:Around) (outer:List Env) (s:Shared) (H:Hp) (vs:List V) (Q:VK) (E:XK),dg k (A.deeper (envOfC qual scope s.heap.objs.size f cdv))->sp vs H Q E->
   ∃t,iu (rL CX P w K mg base N qual scope f cdv A outer s H E) body t/\t {nx:=λ _ H'=>Q .aG H',rt:=Q} (start N vs) H):
 bN P w K mg base CX (k+1) f (PySem.W.fnOf name qual params body scope dV kV doc pm an cdv ct) ps sp:=by
 refine⟨len,λ A outer s H args us vs Q E hr e0 hb r hsp=>?_⟩;have hl:=len _ _ _ _ hsp;have KX:K.In s.heap:=e0.mod.FZ.keeps λ b o e=>(e0.bs b o e).1;have lim:s.heap.NoLimit:=e0.mod.nolimit.keeps λ b o e=>(e0.bs b o e).1
 have hkind:∀y∈ps.zip us,scope.names.lookup y.1=some .local\/(scope.names.lookup y.1=some .cell/\((cellsFrom (s.heap.objs.size+1) scope.names []).lookup y.1).isSome=true):=λ⟨n,v⟩ hy=>by
  rcases S.par n (Wr hy).1 with q|q
  . exact .inl q
  . exact .inr ⟨q,UO _ _ _ (.inl q)⟩
 refine codeAny_call_function hr.depth (KX _ _ lk) rfl S.co S.gen rfl (PySem.W.codeRec_of KX hcd) (hb _ _ _ _ ?_);refine wpAny_newFunctionEnv_cells S.kind hkind λ env he s1 x=>?_;subst he;refine⟨lim.keeps x.toInCall.keep,codeAny_func ?_⟩;obtain⟨t,ht,hq⟩:=hbody A outer s H vs Q E (hr.deeper _) hsp;have I:Inv (rL CX P w K mg base N qual scope f cdv A outer s H E) [] (start N vs) H s1:=E6 S hr.hd e0 hl r x;refine Uv (ht [] s1 (start N vs) H _ I hq) (λ fl s' hs=>?_) λ e s' hs=>hs
 have fin:∀ {σ':St} {H':Hp} {v:V} {u:Value},Inv (rL CX P w K mg base N qual scope f cdv A outer s H E) [] σ' H' s'->RelV v u->Q v H'->CE outer P w H s Q u s':=
  λ{σ' H' v u} J rv q=>⟨v,H',J.os,J.bare,J.base,J.aL,rv,q⟩
 cases fl with
 |ret u=>
  obtain⟨v,σ',H',J,rv,q⟩:=hs;exact fin J rv q
 |next=>
  obtain⟨σ',H',J,q⟩:=hs;exact fin (v:=V.aG) (u:=Value.none) J rfl q
 |brk=>
  obtain⟨_,_,_,q⟩:=hs;exact False.elim q
 |cont=>
  obtain⟨_,_,_,q⟩:=hs;exact False.elim q
section
variable {X:Cx}{x:Str}{p pos:Pos}{e:Expr}{es:List Expr}{t:TA}{id T:String}{r:List V->Hp->VK->Prop}
def M6(r:List V->Hp->VK->Prop)(t:TA):TE:=λ σ H Q=>t σ H λ vs H1=>r vs H1 Q
def HD(hc:cD X (.builtin id) r)(hg:Gl X x)(hm:X.mg x=none)(hv:bootBuiltins x=some (.builtin id))(ha:PA X (e::es) t)(hn:x≠"__name__":=by decide)(hdb:(x==("__debug__":Str))=false:=by decide)
 (he:starEach (e::es) X.env=(false,eval e X.env)::starEach es X.env:=by rfl) (hpl:(backTo pos (starEach es X.env)).any (·.1)=false:=by rfl):PE X (.Call (.Name x p) (e::es) [] pos) (M6 r t):=by
 intro pins s σ H Q I h;refine Vk (lq I hg hm hv ?_ hn hdb);exact PyProof.Rows.callWith_builtin1 (cJ (ha pos pins s σ H _ I h) λ us s1 ⟨vs,H1,I1,r1,q1⟩=>hc pins s1 σ H1 vs us Q I1 r1 q1) he hpl
def FH(hc:cD X (.type T) r)(hg:Gl X x)(hm:X.mg x=none)(hv:bootBuiltins x=some (.type T))(ha:PA X (e::es) t)(hn:x≠"__name__":=by decide)(hdb:(x==("__debug__":Str))=false:=by decide)
 (he:starEach (e::es) X.env=(false,eval e X.env)::starEach es X.env:=by rfl) (hpl:(backTo pos (starEach es X.env)).any (·.1)=false:=by rfl):PE X (.Call (.Name x p) (e::es) [] pos) (M6 r t):=by
 intro pins s σ H Q I h;refine Vk (lq I hg hm hv ?_ hn hdb);exact T8 (cJ (ha pos pins s σ H _ I h) λ us s1 ⟨vs,H1,I1,r1,q1⟩=>hc pins s1 σ H1 vs us Q I1 r1 q1) he hpl
end
end L2
namespace HT
open PySem PyProof.Rows
section
open PySem.SeqAt
open PySem.AutoSeq1 (wpAny_loadPart')
open PySem.MeetsSeq PySem.MeetsSeq2 PySem.MeetsSeq3
end
section
variable {prog:Program}{w:World}{A:Around}{E:Value->Shared->Prop}{s:Shared}
def KC{t b:Addr}{vs ws:List Value}{Q:Value->Shared->Prop}(ht:IsTup s.heap t vs.toArray)(hb:IsTup s.heap b ws.toArray)(hv:vs≠ [])
 (h1:ws=[]->Q (.ref t) s) (h2:ws≠ []->Q (.ref s.heap.objs.size) {s with heap:=s.heap.push {cls:= .type "tuple",data:= .seq (vs++ws).toArray}})
 (hsz:vs.length+ws.length<=sizeLine):wpAny (model prog w) A (binaryOp .Add (.ref t) (.ref b)) Q E s:=by
 obtain⟨⟨cls,dd,data,sl⟩,ho,hc,n,hd⟩:=id ht;obtain⟨⟨cls2,dd2,data2,sl2⟩,ho2,hc2,n2,hd2⟩:=id hb;simp only at hc hd hc2 hd2;subst hc hd hc2 hd2;have e:vs.toArray++ws.toArray=(vs++ws).toArray:=by simp
 by_cases hw:ws=[]
 . exact XM ⟨_,ho,rfl⟩ ⟨_,ho2,rfl⟩ W6 XH V_ VZ (VQ _ _)
    (tuple_addW1 t b vs.toArray ws.toArray n n2 dd dd2 sl sl2 (by simpa using hv) (by simp[hw])) ⟨ho,ho2,h1 hw⟩
 . refine XM ⟨_,ho,rfl⟩ ⟨_,ho2,rfl⟩ W6 XH V_ VZ (VQ _ _)
    (tuple_addW2 t b vs.toArray ws.toArray n n2 dd dd2 sl sl2 (by simpa using hv) (by simpa using hw) (by rw[Sl,Sl];exact hsz)) ⟨ho,ho2,?_⟩
   rw[e];exact h2 hw
def cM(n d:Nat):Option Int->Nat
 |none=>d
 |some v=>if v<0 then(v+(n:Int)).toNat else min v.toNat n
def Be(n d:Nat):cM n d none=d:=rfl
def CG(n d k:Nat):cM n d (some (k:Int))=min k n:=by
 show(if(k:Int)<0 then((k:Int)+(n:Int)).toNat else min (k:Int).toNat n)=min k n;rw[Sf (by omega),SH]
def Ot(n d:Nat)(hd:d<=n)(o:Option Int):cM n d o<=n:=by
 cases o with
 |none=>exact hd
 |some v=>
  show(if v<0 then(v+(n:Int)).toNat else min v.toNat n)<=n;by_cases hv:v<0
  . rw[Si hv];omega
  . rw[Sf hv];exact Nat.min_le_right _ _
def Cu(v:Int)(n d:Nat):(if v<0 then max (v+(n:Int)) 0 else min v (n:Int))=((cM n d (some v):Nat):Int):=by
 show(if v<0 then max (v+(n:Int)) 0 else min v (n:Int))=(((if v<0 then(v+(n:Int)).toNat else min v.toNat n):Nat):Int)
 by_cases hv:v<0
 . simp only[Si hv];omega
 . simp only[Sf hv];omega
def Dl(lo hi:Option Int)(n:Nat):Builtin.Slice.sliceAdjust lo hi 1 (n:Int)=(((cM n 0 lo:Nat):Int),((cM n n hi:Nat):Int)):=by
 have h1:¬((1:Int)<0):=by omega
 unfold Builtin.Slice.sliceAdjust;simp only[h1,Uw];refine Prod.ext ?_ ?_
 . cases lo with
   |none=>rfl
   |some v=>exact Cu v n 0
 . cases hi with
   |none=>rfl
   |some v=>exact Cu v n n
def C1(i j:Nat):Builtin.Slice.slicePlaces (i:Int) (j:Int) 1=j-i:=by
 unfold Builtin.Slice.slicePlaces;have h1:(1:Int)>0:=by omega
 simp only[h1,UU,Int.ediv_one];split<;>omega
def xg{v:Value}{o:Option Int}{Q:Option Int->Shared->Prop}(p:IsPart v o)(h:Q o s):wpAny (model prog w) A (Builtin.Slice.slicePartIndex v) Q E s:=by
 cases p with
 |none=>exact slicePart_none h
 |int i t=>exact slicePart_int h
def oW{sl:Addr}{vl vu:Value}{lo hi:Option Int}{n:Nat}{Q:Int×Int×Nat->Shared->Prop}(hs:s.heap.IsSliceOf sl vl vu .none)(pl:IsPart vl lo)(pu:IsPart vu hi)
 (h:Q (((cM n 0 lo:Nat):Int),1,cM n n hi-cM n 0 lo) s):wpAny (model prog w) A (Builtin.Slice.sliceApplied (.ref sl) (pure (n:Int))) Q E s:=by
 obtain⟨os,hos,hcs,hds⟩:=id hs;unfold Builtin.Slice.sliceApplied Builtin.Slice.sliceFields;refine Sa (Sa (T4 hos hds (x:=vl) rfl (Sa (T4 hos hds (x:=vu) rfl (Sa (T4 hos hds (x:= .none) rfl (Sn ?_)))))));refine Sa (slicePart_none ?_);show wpAny _ _ (if((1:Int)==0)=true then _ else _) _ _ s;rw[Sf (by decide)];refine Sa (xg pl (Sa (xg pu (Sa (Sn ?_)))));show wpAny _ _ (match Builtin.Slice.sliceAdjust lo hi 1 (n:Int)with|(lo,hi)=>pure (lo,(1:Int),Builtin.Slice.slicePlaces lo hi 1)) _ _ s;rw[Dl lo hi n];show wpAny _ _ (pure (((cM n 0 lo:Nat):Int),(1:Int),Builtin.Slice.slicePlaces ((cM n 0 lo:Nat):Int) ((cM n n hi:Nat):Int) 1)) _ _ s;rw[C1];exact Sn h
def Ia(xs:Array Value)(i k:Nat):((List.range k).filterMap λ(m:Nat)=>xs[((i:Int)+(m:Int)*1).toNat]?).toArray=((xs.toList.drop i).take k).toArray:=by
 have e:(λ(m:Nat)=>xs[((i:Int)+(m:Int)*1).toNat]?)=λ m=>xs[i+m]?:=by
  funext m;have:((i:Int)+(m:Int)*1).toNat=i+m:=by omega
  rw[this]
 rw[e];have:=pick_run xs i k;rw[List.filterMap_map]at this;have e2:((λ x=>xs[x]?)∘λ x=>i+x)=λ m=>xs[i+m]?:=rfl;rw[e2]at this;rw[this]
def uV{t sl:Addr}{items:Array Value}{vl vu:Value}{lo hi:Option Int}{Q:Value->Shared->Prop}(ht:IsTup s.heap t items)(hs:s.heap.IsSliceOf sl vl vu .none)(pl:IsPart vl lo)(pu:IsPart vu hi)
 (hw:¬(cM items.size 0 lo=0/\cM items.size items.size hi=items.size))
 (h:Q (.ref s.heap.objs.size) {s with heap:=s.heap.push {cls:= .type "tuple",data:= .seq ((items.toList.drop (cM items.size 0 lo)).take (cM items.size items.size hi-cM items.size 0 lo)).toArray}})
 (hsz:items.size<=sizeLine):wpAny (model prog w) A (getItem (.ref t) (.ref sl)) Q E s:=by
 have htake:sizeOk (.seq ((items.toList.drop (cM items.size 0 lo)).take (cM items.size items.size hi-cM items.size 0 lo)).toArray):=by
  show((items.toList.drop (cM items.size 0 lo)).take (cM items.size items.size hi-cM items.size 0 lo)).toArray.size<=sizeLine;rw[Sl,Tr,TJ,T5];omega
 have hj:cM items.size items.size hi<=items.size:=Ot _ _ (R_ _) hi;obtain⟨os,hos,hcs,hds⟩:=id hs;have hTs:s.TypeIs (.ref sl) "slice":=⟨os,hos,hcs⟩
 unfold getItem;try with_reducible refine Vi ?_
 first|refine Sa (Sn ?_)|skip
 refine Sa (wpAny_sequenceKey ht.typeIs (by decide) ?_)
 refine Sa (T9 (name:=Str.ofString "__getitem__") ht.typeIs TX
  (UL TX ht.typeIs entry_tuple_getitem ?_ (args_tuple_getitem _ _)))
 show wpAny _ _ (Builtin.Tuple.tupleItemsOf (.ref t) >>= _) _ _ s;refine Sa (tupleItemsOf_ ht ?_);refine Sa (XN hTs ?_);rw[Si (by decide)];refine Sa (oW hs pl pu ?_)
 have hno:¬((((cM items.size 0 lo:Nat):Int)==0&&(1:Int)==1&&(cM items.size items.size hi-cM items.size 0 lo)==items.size)=true):=by
  intro q;rw[Tv,Tv]at q;have q1:((cM items.size 0 lo:Nat):Int)=0:=eq_of_beq q.1.1;have q2:cM items.size items.size hi-cM items.size 0 lo=items.size:=eq_of_beq q.2;exact hw ⟨by omega,by omega⟩
 show wpAny _ _ (if(((cM items.size 0 lo:Nat):Int)==0&&(1:Int)==1&&(cM items.size items.size hi-cM items.size 0 lo)==items.size)=true then _ else _) _ _ s;rw[Sf hno,Ia]
 first
  |exact Sa (m:=Builtin.Tuple.tupleExact _) (UH (Sn ⟨_,rfl,Sn h⟩) htake)
  |exact Sa (m:=Builtin.Tuple.tupleExact _) (UH (Sa (Sn (Sn ⟨_,rfl,Sn h⟩))) htake)
  |exact Sa (Sa (m:=Builtin.Tuple.tupleExact _) (UH (Sn (Sn ⟨_,rfl,Sn h⟩)) htake))
  |exact Sa (Sa (m:=Builtin.Tuple.tupleExact _) (UH (Sn ⟨_,rfl,Sn h⟩) htake))
end
end HT
namespace L2
open PySem PySem.Spec PyProof.Rows
abbrev TO:=St->Hp->(Option Int->Hp->Prop)->Prop
def PO(X:Cx)(e:Option Expr)(t:TO):Prop:=
 ∀(pins:List (Addr×Obj)) (s:Shared) (σ:St) (H:Hp) (Q:Option Int->Hp->Prop),Inv X pins σ H s->t σ H Q->
  wpAny (model X.prog X.w) X.A (evalPart e X.env) (λ u s'=>∃o H',Inv X pins σ H' s'/\IsPart u o/\Q o H') X.xe s
def JP:TO:=λ _ H Q=>Q none H
def Pq(t:TE):TO:=λ σ H Q=>t σ H λ x H1=>∃i,x= .int i/\Q (some i) H1
section
variable {X:Cx}{e:Expr}{te:TE}{lo hi:Option Expr}{tl th:TO}{pos p2:Pos}
def Lx:PO X none JP:=by
 intro pins s σ H Q I h;rw[evalPart_none];exact Sn ⟨none,H,I,.none,h⟩
def Kz(h:PE X e te):PO X (some e) (Pq te):=by
 intro pins s σ H Q I hw;rw[evalPart_some];refine cJ (h pins s σ H _ I hw) λ u s1 ⟨x,H1,I1,r1,q1⟩=>?_;obtain⟨i,rfl,q⟩:=q1;obtain⟨t,rfl⟩:=r1;exact⟨some i,H1,I1,.int i t,q⟩
def Fi(X:Cx)(r:V->Option Int->Option Int->Hp->VK->Prop):Prop:=
 ∀(pins:List (Addr×Obj)) (s:Shared) (σ:St) (H:Hp) (x:V) (v vl vu:Value) (lo hi:Option Int) (sl:Addr) (Q:VK),Inv X pins σ H s->RelV x v->s.heap.IsSliceOf sl vl vu .none->IsPart vl lo->IsPart vu hi->r x lo hi H Q->
  ∃T id,typeLookup (.type T) "__getitem__"=pure (some (.builtin id))/\s.TypeIs v T/\wpAny (model X.prog X.w) X.A (getItem v (.ref sl)) (EP X pins σ Q) X.xe s
def RF(r:V->Option Int->Option Int->Hp->VK->Prop)(te:TE)(tl th:TO):TE:=λ σ H Q=>te σ H λ x H1=>tl σ H1 λ l H2=>th σ H2 λ u H3=>r x l u H3 Q
def GN{r:V->Option Int->Option Int->Hp->VK->Prop}(hr:Fi X r)(he:PE X e te)(hl:PO X lo tl)(hu:PO X hi th):PE X (.Subscript e (.Slice lo hi none p2) pos) (RF r te tl th):=by
 intro pins s σ H Q I h;refine Subscript_ (cJ (he pins s σ H _ I h) λ v s1 ⟨x,H1,I1,r1,q1⟩=>?_);refine wpAny_Slice (cJ (hl pins s1 σ H1 _ I1 q1) λ vl s2 ⟨l,H2,I2,pl,q2⟩=>cJ (hu pins s2 σ H2 _ I2 q2) λ vu s3 ⟨u,H3,I3,pu,q3⟩=>?_);rw[evalPart_none];refine Sn ?_;have I4:Inv X pins σ H3 {s3 with heap:=s3.heap.push {cls:= .type "slice",data:= .fields #[vl,vu,.none]}}:=I3.kept (t':=s3.toks) λ b ob q=>Sh _ q;obtain⟨T,id,hT,ht,hg⟩:=hr pins {s3 with heap:=s3.heap.push {cls:= .type "slice",data:= .fields #[vl,vu,.none]}} σ H3 x v vl vu l u s3.heap.objs.size Q I4 r1 (Heap.IsSliceOf.new ..) pl pu q3;show wpAny (model X.prog X.w) X.A (subscriptTail e (.Slice lo hi none p2) v (.ref s3.heap.objs.size)) (EP X pins σ Q) X.xe {s3 with heap:=s3.heap.push {cls:= .type "slice",data:= .fields #[vl,vu,.none]}};exact tail_any (ops:=[.ref s3.heap.objs.size,v]) ht hT hg (by with_unfolding_all rfl)
def rZ(xs:List V)(lo hi:Option Int):List V:=(xs.drop (HT.cM xs.length 0 lo)).take (HT.cM xs.length xs.length hi-HT.cM xs.length 0 lo)
def va(xs:List V)(lo hi:Option Int):(rZ xs lo hi).length<=xs.length:=by
 unfold rZ;rw[Tr,TJ];omega
def Q1(K:PySem.W.Frag):V->Option Int->Option Int->Hp->VK->Prop:=λ x lo hi H Q=>∃a xs,x= .ref a/\jH K H a xs/\
 ¬(HT.cM xs.length 0 lo=0/\HT.cM xs.length xs.length hi=xs.length)/\∀p,H p=none->Q (.ref p) (upd H p (.tup (rZ xs lo hi)))
def NT:Fi X (Q1 X.K):=by
 intro pins s σ H x v vl vu lo hi sl Q I rx hs pl pu h;obtain⟨a,xs,rfl,hx,hw,q⟩:=h;cases rx;obtain⟨ao,r,ht,hz⟩:=I.tuple hx;have hlen:ao.toArray.size=xs.length:=by rw[Sl];exact r.length.symm
 refine⟨"tuple",_,TX.lookup,ht.typeIs,?_⟩;refine HT.uV ht hs pl pu (by rw[hlen];exact hw) ?_ (by rw[hlen];exact hz);rw[hlen];refine⟨.ref s.heap.objs.size,_,I.laid (t':=s.toks) (o:= .tup (rZ xs lo hi)) (λ b ob q=>Sh _ q) (R_ _) ?_,rfl,q _ (I.aL.fresh (R_ _))⟩;exact⟨Se (va xs lo hi) hz,_,(r.drop (HT.cM xs.length 0 lo)).take (HT.cM xs.length xs.length hi-HT.cM xs.length 0 lo),IsTup.new _ _⟩
def P7(K:PySem.W.Frag):R2:=λ x y H Q=>∃a b xs ys,x= .ref a/\y= .ref b/\jH K H a xs/\jH K H b ys/\xs≠ []/\xs.length+ys.length<=sizeLine/\
 (ys=[]->Q (.ref a) H)/\(ys≠ []->∀p,H p=none->Q (.ref p) (upd H p (.tup (xs++ys))))
def Vals.uJ{xs:List V}{us:List Value}(r:Vals xs us):us=[]↔xs=[]:=by
 cases r with
 |nil=>simp
 |cons _ _=>simp
def JQ:cx X (binaryOp .Add) (P7 X.K):=by
 intro pins s σ H x y v u Q I rx ry h;obtain⟨a,b,xs,ys,rfl,rfl,ha,hb,hx,hz,q1,q2⟩:=h;cases rx;cases ry;obtain⟨ao,r1,p1,_⟩:=I.tuple ha;obtain⟨its2,r2,p2,_⟩:=I.tuple hb;refine HT.KC p1 p2 (λ z=>hx (r1.uJ.mp z)) (λ z=>⟨.ref a,H,I,rfl,q1 (r2.uJ.mp z)⟩) (λ z=>?_) (by rw[<-r1.length,<-r2.length];exact hz);refine⟨.ref s.heap.objs.size,_,I.laid (t':=s.toks) (o:= .tup (xs++ys)) (λ b ob q=>Sh _ q) (R_ _) ?_,rfl,q2 (λ w=>z (r2.uJ.mpr w)) _ (I.aL.fresh (R_ _))⟩;exact⟨by rw[TB];exact hz,_,r1.append r2,IsTup.new _ _⟩
end
def j7(n:Nat)(i:Int):Option Nat:=if 0<=i then(if i<n then some i.toNat else none)else if-(n:Int)<=i then some (i+n).toNat else none
def eV{α:Type}(xs:List α)(i:Int):Option α:=(j7 xs.length i).bind λ j=>xs[j]?
def ye{n:Nat}{i:Int}{j:Nat}(h:j7 n i=some j):seqIndex? i n=some j/\j<n/\ -(n:Int)<=i/\i<n:=by
 unfold j7 at h;by_cases h0:0<=i
 . rw[Si h0]at h;by_cases h1:i<n
   . rw[Si h1]at h;have e:i.toNat=j:=Tq h;exact⟨by rw[seqIndex_of h0 h1,e],by omega,by omega,h1⟩
   . rw[Sf h1]at h;cases h
 . rw[Sf h0]at h;by_cases h1: -(n:Int)<=i
   . rw[Si h1]at h;have e:(i+n).toNat=j:=Tq h;exact⟨by rw[seqIndex_neg (by omega) h1,e],by omega,h1,by omega⟩
   . rw[Sf h1]at h;cases h
def ya{α:Type}{xs:List α}{i:Int}{v:α}(h:eV xs i=some v):∃j,seqIndex? i xs.length=some j/\xs[j]?=some v/\j<xs.length/\ -(xs.length:Int)<=i/\i<xs.length:=by
 unfold eV at h;cases e:j7 xs.length i with
 |none=>rw[e]at h;cases h
 |some j=>
  rw[e]at h;obtain⟨h1,h2,h3,h4⟩:=ye e;exact⟨j,h1,h,h2,h3,h4⟩
def kX{α:Type}{xs:List α}{j:Nat}{v:α}(h:xs[j]?=some v):eV xs (j:Int)=some v:=by
 have hj:j<xs.length:=(Sg.mp h).1
 have e:j7 xs.length (j:Int)=some j:=by
  unfold j7;rw[Si (by omega),Si (by omega)];simp
 unfold eV;rw[e];exact h
def uC(b:Expr):Prop:=∀o i,subscripted b false o i=operate [o,i] (getItem o i)
def IT(X:Cx)(r:R2):Prop:=
 ∀(value slice:Expr) (pins:List (Addr×Obj)) (s:Shared) (σ:St) (H:Hp) (x y:V) (v u:Value) (Q:VK),Inv X pins σ H s->RelV x v->RelV y u->r x y H Q->
  subscripted slice false v u=operate [v,u] (getItem v u)->wpAny (model X.prog X.w) X.A (subscriptTail value slice v u) (EP X pins σ Q) X.xe s
def Mr(X:Cx)(id:String)(r:V->List V->Hp->VK->Prop):Prop:=
 ∀(pins:List (Addr×Obj)) (s:Shared) (σ:St) (H:Hp) (x:V) (xs:List V) (v:Value) (us:List Value) (Q:VK),Inv X pins σ H s->RelV x v->Vals xs us->r x xs H Q->
  wpAny (model X.prog X.w) X.A (call (.builtin id) (v::us)) (EP X pins σ Q) X.xe s
section
variable {X:Cx}{a b:Expr}{ta tb:TE}{pos:Pos}
def O5{r:R2}(hr:IT X r)(ha:PE X a ta)(hb:PE X b tb)(hs:uC b):PE X (.Subscript a b pos) (FX r ta tb):=by
 intro pins s σ H Q I h;exact Subscript_ (Hm ha hb I h λ v u s2 x y H2 I2 rx ry q=>hr a b pins s2 σ H2 x y v u Q I2 rx ry q (hs _ _))
def QS(K:PySem.W.Frag):R2:=λ x y H Q=>∃p xs i v,x= .ref p/\y= .int i/\nr K H p xs/\eV xs i=some v/\Q v H
def QR(K:PySem.W.Frag):R2:=λ x y H Q=>∃p xs i v,x= .ref p/\y= .int i/\jH K H p xs/\eV xs i=some v/\Q v H
def Cr:IT X (QS X.K):=by
 intro value slice pins s σ H x y v u Q I rx ry h hs;obtain⟨p,xs,i,z,rfl,rfl,hq,he,q⟩:=h;cases rx;obtain⟨t,rfl⟩:=ry;obtain⟨ao,r,pl,hz⟩:=I.list hq;obtain⟨j,h1,h2,h3,h4,h5⟩:=ya he;obtain⟨w,ew,rw'⟩:=r.get h2;have hl:=r.length;have hn:=sV;have fin:EP X pins σ Q w s:=⟨z,H,I,rw',q⟩
 by_cases h0:0<=i
 . have hj:i.toNat=j:=by
    rw[seqIndex_of h0 h5]at h1;exact Tq h1
   exact item_listR pl.isList h0 (by omega) (by rw[hj];simpa using ew) fin hs
 . have hj:(i+(ao.toArray.size:Int)).toNat=j:=by
    rw[seqIndex_neg (by omega) h4]at h1;rw[Sl,<-hl];exact Tq h1
   exact subscriptTail_builtinR (x:=w) pl.isList.typeIs slot_list_getitem.lookup
    (wpAny_getItem_list_neg (Q:=λ r s'=>r=w/\EP X pins σ Q r s') pl.isList (by omega) (by rw[Sl]<;>omega) (by omega) (by rw[hj];simpa using ew) ⟨rfl,fin⟩) hs
def Mm:IT X (QR X.K):=by
 intro value slice pins s σ H x y v u Q I rx ry h hs;obtain⟨p,xs,i,z,rfl,rfl,hq,he,q⟩:=h;cases rx;obtain⟨t,rfl⟩:=ry;obtain⟨ao,r,pl,hz⟩:=I.tuple hq;obtain⟨j,h1,h2,h3,h4,h5⟩:=ya he;obtain⟨w,ew,rw'⟩:=r.get h2;have hl:=r.length;have hn:=sV;have fin:EP X pins σ Q w s:=⟨z,H,I,rw',q⟩
 exact subscriptTail_builtinR (x:=w) pl.typeIs slot_tuple_getitem.lookup
  (getItem_tuple (j:=j) (Q:=λ r s'=>r=w/\EP X pins σ Q r s') pl (by omega) (by omega) (by rw[Sl,<-hl];exact h1) (by simpa using ew) ⟨rfl,fin⟩) hs
def C3(ao:List Value)(n j:Nat)(u:Value):Obj.mapSeq (·.setIfInBounds j u) {cls:= .type "list",data:= .seq ao.toArray n}= {cls:= .type "list",data:= .seq (ao.set j u).toArray n}:=by
 simp[Obj.mapSeq]
def Inv.lst{pins:List (Addr×Obj)}{σ:St}{H:Hp}{s:Shared}{p:Addr}{xs:List V}(I:Inv X pins σ H s)(h:H p=some (.lst xs)):
 ∃(ao:List Value) (n:Nat),Vals xs ao/\s.heap.get? p=some {cls:= .type "list",data:= .seq ao.toArray n}/\xs.length<=sizeLine:=by
 obtain⟨z,ao,n,r,e⟩:=I.aL p _ h;exact⟨ao,n,r,e,z⟩
def Inv.Ov{pins:List (Addr×Obj)}{σ:St}{H:Hp}{s:Shared}{p:Addr}{xs ys:List V}{ao its':List Value}{n n':Nat}{f:Obj->Obj}(I:Inv X pins σ H s)(h:H p=some (.lst xs))
 (ho:s.heap.get? p=some {cls:= .type "list",data:= .seq ao.toArray n}) (hf:f {cls:= .type "list",data:= .seq ao.toArray n}= {cls:= .type "list",data:= .seq its'.toArray n'}) (r:Vals ys its') (hz:ys.length<=sizeLine) (t:Nat):
 Inv X pins σ (upd H p (.lst ys)) {s with heap:=s.heap.update p f,toks:=t}:=by
 have e:(s.heap.update p f).get? p=some {cls:= .type "list",data:= .seq its'.toArray n'}:=by
  rw[Heap.get?_update_self f ho (by rw[hf]<;>rfl),hf]
 refine I.write (x:=p) (e:=p) (by rw[h];trivial) (.inl rfl) (λ b u hb q=>(Xq _ _ (Sq hb)).trans q) ⟨_,e⟩ ?_;exact⟨hz,its',n',r,e⟩
def zA:V->V->V->Hp->(Hp->Prop)->Prop:=λ o i v H Q=>∃p xs k j,o= .ref p/\i= .int k/\H p=some (.lst xs)/\j7 xs.length k=some j/\Q (upd H p (.lst (xs.set j v)))
def set_list:Md X zA:=by
 intro pins s σ H o i v ov iv u Q I ro ri rv h;obtain⟨p,xs,k,j,rfl,rfl,hp,hj,q⟩:=h;cases ro;obtain⟨t,rfl⟩:=ri;obtain⟨ao,n,r,ho,hz⟩:=I.lst hp;obtain⟨h1,h2,h3,h4⟩:=ye hj;have hl:=r.length;have hn:=sV
 have I':Inv X pins σ (upd H p (.lst (xs.set j v))) {s with heap:=s.heap.update p (Obj.mapSeq (·.setIfInBounds j u))}:=
  I.Ov hp ho (C3 ao n j u) (r.set rv j) (by rw[SO];exact hz) s.toks
 by_cases h0:0<=k
 . have hk:k.toNat=j:=by
    rw[seqIndex_of h0 h4]at h1;exact Tq h1
   exact PySem.W.ki_setAt ho h0 (by omega) (by rw[Sl,<-hl];exact h4) (by rw[hk];exact⟨_,I',q⟩)
 . have hk:(k+(ao.toArray.size:Int)).toNat=j:=by
    rw[seqIndex_neg (by omega) h3]at h1;rw[Sl,<-hl];exact Tq h1
   exact PySem.W.ki_setBack ho (by omega) (by rw[Sl,<-hl];exact h3) (by omega) (by rw[hk];exact⟨_,I',q⟩)
def z9(lo hi:Option Int)(n:Nat):(sliceBounds lo hi none n).1=((HT.cM n 0 lo:Nat):Int)/\(sliceBounds lo hi none n).2.1=((HT.cM n n hi:Nat):Int)/\(sliceBounds lo hi none n).2.2=1:=by
 refine⟨?_,?_,rfl⟩
 . cases lo with
   |none=>simp[sliceBounds,HT.cM]
   |some i=>
    simp only[sliceBounds,HT.cM,Option.getD_none,show(1:Int)>0 by decide,UU];by_cases h:i<0
    . simp only[h,UU]<;>omega
    . simp only[h,Uw]<;>omega
 . cases hi with
   |none=>simp[sliceBounds,HT.cM]
   |some i=>
    simp only[sliceBounds,HT.cM,Option.getD_none,show(1:Int)>0 by decide,UU];by_cases h:i<0
    . simp only[h,UU]<;>omega
    . simp only[h,Uw]<;>omega
def y9(ao:List Value)(lo hi:Option Int):slicePick ao.toArray lo hi none=((ao.drop (HT.cM ao.length 0 lo)).take (HT.cM ao.length ao.length hi-HT.cM ao.length 0 lo)).toArray:=by
 obtain⟨h1,h2,h3⟩:=z9 lo hi ao.toArray.size;unfold slicePick;rw[h1,h2,h3];simp only[sliceRange_one,pick_run,Sl]<;>rfl
def QI(K:PySem.W.Frag):V->Option Int->Option Int->Hp->VK->Prop:=λ x lo hi H Q=>∃a xs,x= .ref a/\nr K H a xs/\∀p,H p=none->Q (.ref p) (upd H p (.lst (rZ xs lo hi)))
def B_:Fi X (QI X.K):=by
 intro pins s σ H x v vl vu lo hi sl Q I rx hs pl pu h;obtain⟨a,xs,rfl,hx,q⟩:=h;cases rx;obtain⟨ao,r,ht,hz⟩:=I.list hx;have hlen:=r.length;refine⟨"list",_,slot_list_getitem.lookup,ht.isList.typeIs,?_⟩;refine wpAny_getItem_list_slice ht.isList hs pl pu .none (by simp) ?_ (by rw[Sl]<;>omega);rw[y9,<-hlen];refine⟨.ref s.heap.objs.size,_,I.laid (t':=s.toks) (o:= .lst (rZ xs lo hi)) (λ b ob q=>Sh _ q) (R_ _) ?_,rfl,q _ (I.aL.fresh (R_ _))⟩;exact⟨Se (va xs lo hi) hz,_,0,(r.drop (HT.cM xs.length 0 lo)).take (HT.cM xs.length xs.length hi-HT.cM xs.length 0 lo),SI _ rfl⟩
def Bv:cD X (.builtin "len") (λ xs H Q=>∃p ys,xs=[.ref p]/\(nr X.K H p ys\/jH X.K H p ys)/\Q (.int ys.length) H):=by
 intro pins s σ H xs us Q I r h;obtain⟨p,ys,rfl,hq,q⟩:=h;obtain⟨u,rfl,rx⟩:=vals1 r;cases rx;have hn:=sV;rcases hq with hq|hq
 . obtain⟨ao,r',pl,hz⟩:=I.list hq;have hlen:=r'.length;exact Calls.call_len_list pl.isList (by simp only[Sl]<;>omega) ⟨.int ys.length,H,I.tok _,⟨s.toks+1,by rw[Sl,hlen]⟩,q⟩
 . obtain⟨ao,r',pl,hz⟩:=I.tuple hq;have hlen:=r'.length;exact len_tuple pl (by simp only[Sl]<;>omega) ⟨.int ys.length,H,I.tok _,⟨s.toks+1,by rw[Sl,hlen]⟩,q⟩
def Ak:cD X (.builtin "len") (λ xs H Q=>∃z,xs=[.str z]/\z.length<=sizeLine/\Q (.int z.length) H):=by
 intro pins s σ H xs us Q I r h;obtain⟨z,rfl,hz,q⟩:=h;obtain⟨u,rfl,t,rfl⟩:=vals1 r;have hn:=sV;exact len_str (by omega) ⟨.int z.length,H,I.tok _,⟨_,rfl⟩,q⟩
def tE:cD X (.type "list") (λ xs H Q=>∃p ys,xs=[.ref p]/\(nr X.K H p ys\/jH X.K H p ys)/\∀l,H l=none->Q (.ref l) (upd H l (.lst ys))):=by
 intro pins s σ H xs us Q I r h;obtain⟨p,ys,rfl,hq,q⟩:=h;obtain⟨u,rfl,rx⟩:=vals1 r;cases rx
 have fin:∀(ao:List Value),Vals ys ao->ys.length<=sizeLine->∀(h':Heap) (c':Nat),(∀b o',s.heap.get? b=some o'->h'.get? b=some o')->
  h'.get? s.heap.objs.size=some {cls:= .type "list",dict:=none,data:= .seq ao.toArray c',slots:= #[]}->EP X pins σ Q (.ref s.heap.objs.size) {s with heap:=h'}:=λ ao r' hz h' c' kp e=>
  ⟨.ref s.heap.objs.size,_,I.laid (t':=s.toks) kp (R_ _) (show d7 X.prog X.w _ h' _ (.lst ys)from⟨hz,ao,c',r',e⟩),rfl,q _ (I.aL.fresh (R_ _))⟩
 rcases hq with hq|hq
 . obtain⟨ao,r',pl,hz⟩:=I.list hq;have hlen:=r'.length;obtain⟨o,ho,hc,n,hd⟩:=pl.isList;exact call_list_seq p (.inl rfl) ho hc hd (λ h' c' kp e=>fin ao r' hz h' c' kp e) (by simp only[Sl]<;>omega)
 . obtain⟨ao,r',pl,hz⟩:=I.tuple hq;have hlen:=r'.length;obtain⟨o,ho,hc,n,hd⟩:=pl;exact call_list_seq p (.inr rfl) ho hc hd (λ h' c' kp e=>fin ao r' hz h' c' kp e) (by simp only[Sl]<;>omega)
def zc:cD X (.type "tuple") (λ xs H Q=>∃p ys,xs=[.ref p]/\((nr X.K H p ys/\∀l,H l=none->Q (.ref l) (upd H l (.tup ys)))\/(jH X.K H p ys/\Q (.ref p) H))):=by
 intro pins s σ H xs us Q I r h;obtain⟨p,ys,rfl,h⟩:=h;obtain⟨u,rfl,rx⟩:=vals1 r;cases rx;rcases h with⟨hq,q⟩|⟨hq,q⟩
 . obtain⟨ao,r',pl,hz⟩:=I.list hq;have hlen:=r'.length;refine call_tuple_list pl.isList (λ h' kp=>?_) (by simp only[Sl]<;>omega);have I1:Inv X pins σ H {s with heap:=h'}:=I.kept (t':=s.toks) kp
   have I2:Inv X pins σ (upd H h'.objs.size (.tup ys)) {s with heap:=h'.push {cls:= .type "tuple",data:= .seq ao.toArray}}:=
    I1.laid (t':=s.toks) (λ b o e=>Sh _ e) (R_ _) (show d7 X.prog X.w _ _ _ (.tup ys)from⟨hz,ao,r',IsTup.new _ _⟩)
   exact⟨.ref h'.objs.size,_,I2,rfl,q _ (I1.aL.fresh (R_ _))⟩
 . obtain⟨ao,r',pl,hz⟩:=I.tuple hq;exact call_tuple_same pl ⟨.ref p,H,I,rfl,q⟩
def Qr(K:PySem.W.Frag)(T:String)(x:V)(H:Hp):Prop:=match x with
 | .str _=>T="str"
 | .int _=>T="int"
 | .ref p=>(T="list"/\∃xs,nr K H p xs)\/(T="tuple"/\∃o,K.lookup p=some o/\o.cls= .type "tuple"/\o.dict=none)\/
    (T="dict"/\((∃kvs,H p=some (.dK kvs))\/∃kvs,H p=some (.dT kvs)))\/(T="set"/\∃S n,H p=some (.set S n))
 |_=>False
def Mu{pins:List (Addr×Obj)}{σ:St}{H:Hp}{s:Shared}{T:String}{x:V}{v:Value}(I:Inv X pins σ H s)(r:RelV x v)(ty:Qr X.K T x H):
 s.TypeIs v T/\∀a,v= .ref a->∃ob,s.heap.get? a=some ob/\ob.dict=none:=by
 cases x with
 |str z=>
  obtain⟨t,rfl⟩:=r;cases (show T="str" from ty);exact⟨typeIs_str s z t,λ _ e=>nomatch e⟩
 |int i=>
  obtain⟨t,rfl⟩:=r;cases (show T="int" from ty);exact⟨WY s i t,λ _ e=>nomatch e⟩
 |ref p=>
  cases r;rcases ty with⟨rfl,xs,hq⟩|⟨rfl,o,hk,hc,hd⟩|⟨rfl,hk⟩|⟨rfl,S,n,hk⟩
  . obtain⟨ao,_,pl,_⟩:=I.list hq;refine⟨pl.isList.typeIs,λ a e=>?_⟩;cases e;obtain⟨o,n,e,c,hd,_⟩:=pl;exact⟨o,e,hd⟩
  . refine⟨⟨o,I.iw p o hk,hc⟩,λ a e=>?_⟩;cases e;exact⟨o,I.iw _ o hk,hd⟩
  . have z:∃o,s.heap.get? p=some o/\o.ExactDict:=by
     rcases hk with⟨kvs,hk⟩|⟨kvs,hk⟩
     . obtain⟨_,_,_,_,o,_,_,e,ex,_⟩:=I.aL p _ hk;exact⟨o,e,ex⟩
     . obtain⟨_,_,_,_,o,_,_,e,ex,_⟩:=I.aL p _ hk;exact⟨o,e,ex⟩
    obtain⟨o,e,ex⟩:=z;refine⟨⟨o,e,ex.1⟩,λ a e2=>?_⟩;cases e2;exact⟨o,e,ex.2.1⟩
  . obtain⟨o,_,_,_,e,ex,_⟩:=I.aL p _ hk;refine⟨⟨o,e,ex.1⟩,λ a e2=>?_⟩;cases e2;exact⟨o,e,ex.2.1⟩
 |_=>exact False.elim ty
def Ip(K:PySem.W.Frag)(T:String)(r:V->List V->Hp->VK->Prop)(to:TE)(t:TA):TE:=λ σ H Q=>to σ H λ x H1=>Qr K T x H1/\t σ H1 λ xs H2=>r x xs H2 Q
variable {o e:Expr}{es:List Expr}{to:TE}{t:TA}{name:Str}{apos cpos:Pos}{T id:String}{r:V->List V->Hp->VK->Prop}
def D7(pa:PlainAttrs T)(slot:Slot T name id)(hty:typeOf (.builtin id)=pure (.type "method_descriptor"))(hm:Mr X id r)(ho:PE X o to)(ha:PA X (e::es) t)
 (hbase:attributeBase o name X.env (eval o X.env)=eval o X.env:=by rfl)
 (hfew:((backTo cpos (starEach (e::es) X.env)).all (λ x=> !x.1)&&(backToKw cpos (keywordEach [] X.env)).all (λ x=>x.1.isSome)
   &&decide ((e::es).length+([]:List Keyword).length+(if([]:List Keyword).isEmpty then 0 else 1)<30))=true:=by rfl)
 (hline:(apos.endLine==cpos.line)=true:=by rfl) (hs:starEach (e::es) X.env=(false,eval e X.env)::starEach es X.env:=by rfl) (hplain:(backTo cpos (starEach es X.env)).any (·.1)=false:=by rfl):
 PE X (.Call (.Attribute o name apos) (e::es) [] cpos) (Ip X.K T r to t):=by
 intro pins s σ H Q I h;refine wpAny_Call_method_late hbase hfew hline rfl (cJ (ho pins s σ H _ I h) λ v s1 ⟨x,H1,I1,r1,ty,q1⟩=>?_);obtain⟨h1,h2⟩:=Mu I1 r1 ty;refine⟨T,id,pa,slot,hty,h1,h2,?_⟩;have hA:=ha cpos pins s1 σ H1 _ I1 q1;rw[hs]at hA⊢;refine Calls.callWith_builtin (by show(false||(backTo cpos (starEach es X.env)).any (·.1))=false;rw[hplain]<;>rfl) (Calls.evalArgs_plain ?_);exact cJ hA λ us s2 ⟨vs,H2,I2,r2,q2⟩=>hm pins s2 σ H2 x vs v us Q I2 r1 r2 q2
/-xs.append(e),list.index on a module's tuple .. are Mr facts of 06m-/
end
def Nv(X:Cx)(id:String)(r:V->List V->Hp->VK->Prop):Prop:=
 ∀(pins:List (Addr×Obj)) (s:Shared) (σ:St) (H:Hp) (x:V) (xs:List V) (v:Value) (us:List Value) (Q:VK),Inv X pins σ H s->RelV x v->Vals xs us->r x xs H Q->
  wpAny (model X.prog X.w) X.A (call (.builtin id) (v::us)) (EP X pins σ Q) X.xe s
def Vals.one:∀ {x:V} {us:List Value},Vals [x] us->∃u,us=[u]/\RelV x u
 |_,_,.cons r .nil=>⟨_,rfl,r⟩
def Vals.eraseIdx:∀ {xs:List V} {us:List Value} (i:Nat),Vals xs us->Vals (xs.eraseIdx i) (us.eraseIdx i)
 |_,_,_,.nil=> .nil
 |_,_,0,.cons _ t=>t
 |_,_,i+1,.cons r t=> .cons r (Vals.eraseIdx i t)
def Vals.rep{xs:List V}{us:List Value}(h:Vals xs us):∀k:Nat,Vals (List.replicate k xs).flatten (List.replicate k us).flatten
 |0=> .nil
 |k+1=>by
  rw[TQ,TQ,Uq,Uq];exact Vals.append h (Vals.rep h k)
def yL{α:Type}:∀(l:List α) (i:Nat),(l.eraseIdx i).length<=l.length
 | [],_=>R_ _
 |_::_,0=>Vs _
 |_::r,i+1=>Nat.succ_le_succ (yL r i)
def foldl_rep(ao:List Value):∀(k:Nat) (acc:List Value),
 List.foldl (λ x1 x2=>x1++x2) acc.toArray (List.replicate k ao.toArray)=(acc++(List.replicate k ao).flatten).toArray
 |0,acc=>by simp
 |k+1,acc=>by
  have e:acc.toArray++ao.toArray=(acc++ao).toArray:=by simp
  have e2:(acc++ao)++(List.replicate k ao).flatten=acc++(List.replicate (k+1) ao).flatten:=by
   rw[TQ,Uq,UZ]
  rw[<-e2,<-foldl_rep ao k (acc++ao),<-e,TQ,List.foldl_cons]
section
variable {X:Cx}{pins:List (Addr×Obj)}{σ:St}{H:Hp}{s:Shared}{l b:Addr}{xs ys zs:List V}
def Inv.Mt{ao its':List Value}{n:Nat}{f:Array Value->Array Value}{t':Nat}(I:Inv X pins σ H s)(hH:H l=some (.lst xs))
 (e:s.heap.get? l=some {cls:= .type "list",data:= .seq ao.toArray n}) (hf:f ao.toArray=its'.toArray) (hv:Vals ys its') (hz:ys.length<=sizeLine):
 Inv X pins σ (upd H l (.lst ys)) {s with heap:=s.heap.update l (Obj.mapSeq f),toks:=t'}:=by
 have q:=PySem.IsL.update e f;rw[hf]at q;refine I.write (x:=l) (e:=l) (by rw[hH];exact trivial) (.inl rfl) (λ b' u hb hu=>(Xq s.heap (Obj.mapSeq f) (Sq hb)).trans hu) ⟨_,q⟩ ?_;exact⟨hz,its',_,hv,q⟩
def Inv.Hu{ao:List Value}{t':Nat}(I:Inv X pins σ H s)(hv:Vals ys ao)(hz:ys.length<=sizeLine):
 Inv X pins σ (upd H s.heap.objs.size (.lst ys)) {s with heap:=s.heap.push {cls:= .type "list",data:= .seq ao.toArray},toks:=t'}:=
 I.laid (λ _ _ q=>Sh _ q) (R_ _) ⟨hz,ao,0,hv,SI _ rfl⟩
def Inv.fresh(I:Inv X pins σ H s):H s.heap.objs.size=none:=I.aL.fresh (R_ _)
def Inv.M_(I:Inv X pins σ H s)(hH:H l=some (.lst xs)):xs.length<=sizeLine/\∃(ao:List Value) (n:Nat),Vals xs ao/\xs.length=ao.length/\s.heap.get? l=some {cls:= .type "list",data:= .seq ao.toArray n}:=by
 obtain⟨z,ao,n,r,e⟩:=I.aL l _ hH;exact⟨z,ao,n,r,r.length,e⟩
def GV{n:Nat}(h:n<=sizeLine):Builtin.List.listTooLong n=false:=by
 unfold Builtin.List.listTooLong;exact Tf (by omega)
end
section
variable {X:Cx}
def Cf:V->List V->Hp->VK->Prop:=λ x vs H Q=>∃l xs y,x= .ref l/\vs=[y]/\H l=some (.lst xs)/\xs.length<sizeLine/\Q .aG (upd H l (.lst (xs++[y])))
def yO:Nv X "list.append" Cf:=by
 intro pins s σ H x vs v us Q I rx rv h;obtain⟨l,xs,y,rfl,rfl,hH,hz,q⟩:=h;cases rx;obtain⟨u,rfl,ru⟩:=rv.one;obtain⟨z,ao,n,r,hl,e⟩:=I.M_ hH;refine Vm F.slot_list_append ⟨_,e,rfl⟩ F.entry_list_append (F.args_list_append_2 _ _) (PySem.list_append l ao.toArray n u (by rw[Sl];omega)) ⟨e,?_⟩;refine⟨.aG,_,I.Mt (its':=ao++[u]) hH e (by simp) (r.append (.cons ru .nil)) ?_,rfl,q⟩;rw[TB,Xz];omega
def EI:V->List V->Hp->VK->Prop:=λ x vs H Q=>∃l xs i k y,x= .ref l/\vs=[.int i]/\H l=some (.lst xs)/\ -(2^63)<=i/\i<2^63/\seqIndex? i xs.length=some k/\xs[k]?=some y/\Q y (upd H l (.lst (xs.eraseIdx k)))
def G7:Nv X "list.pop" EI:=by
 intro pins s σ H x vs v us Q I rx rv h;obtain⟨l,xs,i,k,y,rfl,rfl,hH,h1,h2,hk,hy,q⟩:=h;cases rx;obtain⟨u,rfl,ru⟩:=rv.one;obtain⟨t,rfl⟩:=ru;obtain⟨z,ao,n,r,hl,e⟩:=I.M_ hH;obtain⟨w,hw,rw'⟩:=r.get hy
 refine Vm F.slot_list_pop ⟨_,e,rfl⟩ F.entry_list_pop (F.args_list_pop_2 _ _)
  (MeetsSeq.list_pop_at l ao.toArray n i t k w (fitsIndex_both h1 h2) (by rw[Sl,<-hl];exact hk) (by rw[<-Wi];exact hw) (by rw[Sl];omega)) ⟨e,?_⟩
 refine⟨y,_,I.Mt (its':=ao.eraseIdx k) hH e ?_ (r.eraseIdx k) ?_,rw',q⟩
 . show ao.toArray.eraseIdxIfInBounds k=(ao.eraseIdx k).toArray;rw[List.eraseIdxIfInBounds_toArray]
 . have:=yL xs k;omega
def len_rep{α:Type}(xs:List α)(k:Nat):(List.replicate k xs).flatten.length=k*xs.length:=by
 induction k with
 |zero=>simp
 |succ k ih=>rw[TQ,Uq,TB,ih,VR,Nat.add_comm]
end
section
variable {prog:Program}{w:World}{A:Around}{E:Value->Shared->Prop}{s:Shared}
set_option maxRecDepth 100000 in
end
section
variable {X:Cx}
end
end L2
namespace Att
open PySem PySem.W PySem.Calls PyProof.Rows
def wB{P:Params}{h:Heap}:∀(ns:List Int) (vs:List Value),WellAll P h vs (ns.map WData.int)->IntsAre vs ns:=by
 intro ns;induction ns with
 |nil=>
  intro vs w;rw[List.map_nil]at w;cases w;exact .nil
 |cons n ns ih=>
  intro vs w;rw[TH]at w;cases w with
  |cons a b=>
   cases a;exact .cons _ _ (ih _ b)
def ED{l:OpenLaw}{n:Nat}(hn:l.most=some n){P:Params}{h:Heap}{args:List WData}{vals:List Value}
 (hpre:l.row.toRowW.claim.pre args=true) (hwl:WellAll P h vals args):
 ∃a vs ns,vals=[Value.ref a]/\args=[WData.list (ns.map WData.int)]/\h.get? a=some {cls:= .type "list",data:= .seq vs.toArray}/\IntsAre vs ns/\ns.length<=n:=by
 have hsh:WShape.hasAll [] args [.list .int]=true:=(pre_splitW hpre).1;have hc:l.pre.holds [] {args:=args}=true:=(pre_splitW hpre).2;obtain⟨d,r,rfl,h1,h2⟩:=hasAllW_cons hsh;obtain rfl:=hasAllW_nil h2;obtain⟨xs,rfl,h3⟩:=hasW_list h1;obtain⟨ns,rfl⟩:=items_int h3
 have hlen:ns.length<=n:=by
  unfold OpenLaw.pre at hc
  have h4:(WTm.not (.lt (.lit (.int (n:Int))) (.len (.arg 0)))).holds [] {args:=[.list (ns.map .int)]}=true:=by
   have h4:=(holds_andW hc).1;rw[hn]at h4;exact h4
  have h5:=condW_of h4 (w_not (w_lt w_lit (w_len_list (w_arg rfl))));rw[Sb]at h5;refine Ux λ q=>?_;have q':(n:Int)<((ns.length:Nat):Int):=by omega
  first
   |(rw[TF q']at h5;exact absurd h5 (by decide))
   |(simp at h5;omega)
 cases hwl with
 |cons w1 w2=>
  cases w2;cases w1 with
  |list ho hall=>exact⟨_,_,ns,rfl,rfl,ho,wB ns _ hall,hlen⟩
def FA(l:OpenLaw)(args:List WData):l.row.toRowW.claim.post args (.bool true) args=true:=
 postW_of (r:=l.row.toRowW) (X:=(true==true))
  (show WShape.has [] (.bool true) .bool=true by first|rfl|decide|simp[WShape.has,WShape.arms,WShape.armsAll])
  (show(WTm.eq .res (.lit (.bool true))).value [] {args:=args,res:=some (.bool true),after:=args}=some (.bool (true==true))from w_eq_bool (w_res rfl) w_lit) rfl
def BO{l:OpenLaw}{n:Nat}{q:Program}{loose:List Str}{XP:(Str->Option Value)->Heap->Prop}{YP:World->Heap->Prop}{d:DefRec}
 (hn:l.most=some n) (hdf:d.params.defaults=[])
 (call:∀(w:World) (s₀ s₁:Shared) (mg mb:Str->Option Value) (fa:Addr) (o:Obj) (pm cd doc:Value) (a:Addr) (vs:List Value) (ns:List Int),
   Ground q loose [] XP w s₀ mg mb s₁.heap->YP w s₁.heap->
   s₁.heap.get? fa=some o->o.data= .func (docDef d.name d.params d.body d.scope pm cd doc)->s₁.heap.CodeRec cd d.name->mg d.name=some (.ref fa)->
   s₁.heap.get? a=some {cls:= .type "list",data:= .seq vs.toArray}->IntsAre vs ns->ns.length<=n->s₁.gens= #[]->
   codeAny (model l.prog w) callerA (.call (.ref fa) ⟨[.ref a],[]⟩) (λ r s'=>r= .ok (.ret (.bool true))/\OldK s₁.heap s'.heap/\s'.os=s₁.os/\AllBare s'.gens) s₁):
 WalkO q loose XP YP l.row.toRowW d [] (λ f vs=>PySem.call f vs):=by
 intro w s₀ s₁ mg mb G Y fa o pm cd doc dV kV ho hd hcd hD hmg hg args vals as hpre hlay hrd hwl hlo;obtain rfl:dV= .none:=Dflts.none hD hdf;obtain rfl:kV= .none:=Dflts.noKw hD;obtain⟨a,vs,ns,rfl,rfl,hobj,hints,hlen⟩:=ED hn hpre hwl;refine enter_call (W5 (call w s₀ s₁ mg mb fa o pm cd doc a vs ns G Y ho (fd_plain hd) hcd hmg hobj hints hlen hg) λ r s' hq=>?_);obtain⟨rfl,h2,h3,h4⟩:=hq;exact⟨.inl ⟨.bool true,.bool true,[],rfl,λ _=>rfl,.bool true,FA l _,λ _=>⟨List.Pairwise.nil,λ _ hm=>(nomatch hm)⟩⟩,h2,h3,h4⟩
section
variable {prog:Program}{w:World}{A:Around}{E:Value->Shared->Prop}{s:Shared}{K:Frag}
end
end Att
namespace L2
open PySem PySem.Spec PyProof.Rows
def jE:∀ {vs:List Value} {ns:List Int},IntsAre vs ns->Vals (ns.map V.int) vs
 |_,_,.nil=> .nil
 |_,_,.cons n t h=> .cons ⟨t,rfl⟩ (jE h)
end L2
/-THE LAST THEOREM (shape;LID,My.*are yours):
 My.Adr:a structure of the addresses that your layer names (classes,functions);My.Txt K t:a structure (Prop) of the equations over K;
 My.txt_mk:{K} {implicit addresses ..} (e1:nsIn K mainGlobals "law"=some (some (.ref f))) (e2:K.lookup f=some ⟨oc,od,.func (fnOf "law" "law" params body scope dV kV doc pm an cdv ct),sl⟩) (e3:codeIn K cdv "law"=true) .. :∃t,My.Txt K t
set_option maxRecDepth 100000 in
set_option maxHeartbeats 0 in
(the tactic k_is has no namespace:write k_is)-/
namespace L2
open PySem PySem.Spec PyProof.Rows
def inClass(s:Stmt)(j:Nat):Stmt:=match s with
 | .ClassDef _ _ _ body _ _ _ _ _ _ _=>body.getD j (.Pass ⟨0,0,0,0⟩)
 |_=> .Pass ⟨0,0,0,0⟩
def kY(s:Stmt):Arguments:=match s with
 | .FunctionDef _ a _ _ _ _ _ _ _ _=>a
 |_=>{posonlyargs:=[],args:=[],vararg:=none,kwonlyargs:=[],kw_defaults:=[],kwarg:=none,defaults:=[]}
def ie(s:Stmt):List Stmt:=match s with
 | .FunctionDef _ _ b _ _ _ _ _ _ _=>b
 |_=>[]
def ai(s:Stmt):Scope:=match s with
 | .FunctionDef _ _ _ _ _ _ sc _ _ _=>sc
 |_=>{kind:= .function,names:=[],isGenerator:=false,isCoroutine:=false}
abbrev c5:vc:=λ _ _ _ _ _ _=>False
abbrev E0:XK:=λ _ _ _=>False
def DQ{X:Cx}:Passes c5 X E0:=λ _ _ _ _ _ _ _ h=>h.elim
structure oV(K:PySem.W.Frag)(x qual:Str)(st:Stmt)(f:Addr)(fd:FuncData):Prop where
 ex:∃(oc:Value) (od:Option Addr) (kV doc pm:Value) (an:Option Addr) (cdv ct:Value) (osl:Array (Option Value)),
  fd=PySem.W.fnOf x qual (kY st) (ie st) (ai st) .none kV doc pm an cdv ct/\K.lookup f=some ⟨oc,od,.func fd,osl⟩/\PySem.W.codeIn K cdv qual=true
 kp:PySem.W.keepIn K (.ref f)=true
section
variable {P:Program}{w:World}{K:PySem.W.Frag}{mg:Str->Option Value}{base:Heap}
def oV.ok{x qual:Str}{st:Stmt}{f:Addr}{fd:FuncData}{N ps:List Str}{k:Nat}{sp:Sp}(F:oV K x qual st f fd)(S:aR N ps (ai st))(len:∀vs H Q E,sp vs H Q E->vs.length=ps.length)
 (hbody:∀(cdv:Value) (A:Around) (outer:List Env) (s:Shared) (H:Hp) (vs:List V) (Q:VK) (E:XK),dg k (A.deeper (envOfC qual (ai st) s.heap.objs.size f cdv))->sp vs H Q E->
   ∃t,iu (rL c5 P w K mg base N qual (ai st) f cdv A outer s H E).wZ (ie st) t/\t {nx:=λ _ H'=>Q .aG H',rt:=Q} (start N vs) H):bN P w K mg base c5 (k+1) f fd ps sp:=by
 obtain⟨oc,od,kV,doc,pm,an,cdv,ct,osl,rfl,lk,hcd⟩:=F.ex;refine Jf lk hcd S len λ A outer s H vs Q E hr hsp=>?_;obtain⟨t,h,q⟩:=hbody cdv A outer s H vs Q E hr hsp;exact⟨t,h.wZ,q⟩
def oV.binds{x qual:Str}{st:Stmt}{f:Addr}{fd:FuncData}{ps:List Str}(F:oV K x qual st f fd)
 (h:∀(kV doc pm:Value) (an:Option Addr) (cdv ct:Value) (us:List Value),us.length=ps.length->bindArgs (PySem.W.fnOf x qual (kY st) (ie st) (ai st) .none kV doc pm an cdv ct) ⟨us,[]⟩=pure (ps.zip us)):Binds K fd ps []:=by
 obtain⟨oc,od,kV,doc,pm,an,cdv,ct,osl,rfl,lk,hcd⟩:=F.ex;exact .all (h kV doc pm an cdv ct)
def FK{x qual:Str}{st:Stmt}{f:Addr}{oc:Value}{od an:Option Addr}{osl:Array (Option Value)}{kV doc pm cdv ct:Value}(l:K.lookup f=some ⟨oc,od,.func (PySem.W.fnOf x qual (kY st) (ie st) (ai st) .none kV doc pm an cdv ct),osl⟩)
 (c:PySem.W.codeIn K cdv qual=true) (k:PySem.W.keepIn K (.ref f)=true):oV K x qual st f (PySem.W.fnOf x qual (kY st) (ie st) (ai st) .none kV doc pm an cdv ct):=⟨⟨oc,od,kV,doc,pm,an,cdv,ct,osl,rfl,l,c⟩,k⟩
end
section
variable {X:Cx}
end
def fT{A B:Prop}(h:A):if true=true then A else B:=by
 rw[Si rfl];exact h
def Hf(H H':Hp):Prop:=∀b o,H b=some o->H' b=some o
end L2
set_option maxHeartbeats 4000000
namespace Hd
open PySem PySem.W PySem.Calls PyProof.Rows
noncomputable def bt (P:Params):BT:=(.node (boot_o_0 P) (.node (boot_o_1 P) (.node (boot_o_3 P) (.node (boot_o_7 P) .nil .nil) .nil) (.node (boot_o_5 P) (.node (boot_o_9 P) .nil .nil) .nil)) (.node (boot_o_2 P) (.node (boot_o_4 P) (.node (boot_o_8 P) .nil .nil) .nil) (.node (boot_o_6 P) (.node (boot_o_10 P) .nil .nil) .nil)))
def Me(P:Params):absHeap (bt P) 11 (boot_heap P).life=boot_heap P:=by kernel_rfl
noncomputable def run (p:Program) (w:World) (n:Nat) (ann:Option Value):Nat->SharedT->Thread->Option SharedT
 |0,_,_=>none
 |k+1,s,t=>match through t with
  |true=>some s
  |false=>match Fast.tw6613529449190102663 n ann t with
   |false=>none
   |true=>match Fast.tw10156331382660048174 (Fast.tw11892475500146522536 Fast.tw14364793385576792824) p w s t with
    |some (s',t')=>run p w n ann k s' t'
    |none=>none
def E7{p:Program}{w:World}{n:Nat}{ann:Option Value}:∀ {k:Nat} {s s':SharedT} {t:Thread},run p w n ann k s t=some s'->topRun treeTable p w n ann k s.abs t=some s'.abs
 |0,_,_,_,h=>by cases h
 |k+1,s,s',t,h=>by
  unfold run at h;unfold topRun;cases he:through t with
  |true=>rw[he]at h;cases h;rfl
  |false=>
   rw[he]at h;rw[<-Fast.te6613529449190102663,<-Fast.te10156331382660048174,<-Fast.te11892475500146522536,<-Fast.te14364793385576792824]at h;cases hk:stepOk n ann t with
   |false=>simp only[hk]at h;cases h
   |true=>
    simp only[hk]at h;cases hs:stepT (denote treeTable) p w s t with
    |none=>rw[hs]at h;cases h
    |some r=>obtain⟨s2,t2⟩:=r;rw[hs]at h;rw[stepT_spec hs];exact E7 h
noncomputable def b0 (w:World) (os:OsState):SharedT:=⟨bt w.params,11,(boot_heap w.params).life,⟨[]⟩,boot_drawn,boot_toks,os⟩
def Oj(w:World)(os:OsState):(b0 w os).abs=⟨boot_heap w.params,⟨[]⟩,boot_drawn,boot_toks,os⟩:=by
 unfold b0 SharedT.abs;dsimp only;rw[Me]
def left{p q:Program}{loose:List Str}{α:Type}{Yf:Shared->α}{Ya:World->α}{N:Nat}
 (e:opening p=plainProg p.main.scope.names) (f:∀s,fenceModules? p s=some s) (hN:Nat.ble 600 N=true)
 (h:∀(w:World) (os:OsState),(run p w 11 (some (.ref 6)) N (b0 w os) (topStub p)).bind (λ s=>match staticsOk (importedModules p.main.body) (boot_heap w.params) s.abs.heap&&namesBound p s.abs.heap&&gensDone s.abs&&laidKept (boot_heap w.params) s.abs.heap with
   |true=>some (Fast.tw4187177175401517315 q loose (importedModules p.main.body) (λ _=>true) true s.abs,Yf s.abs)
   |false=>none)=some (openGood q loose,Ya w)):LeftO p q loose (λ _=>true) Yf Ya N:=λ w=>by
 obtain⟨⟨hp,gs,d,k,os⟩,e1,e2⟩:=Option.map_eq_some_iff.mp (boot_open e hN f w);obtain⟨rfl,rfl,rfl,rfl⟩:hp=boot_heap w.params/\gs=⟨[]⟩/\d=boot_drawn/\k=boot_toks:=by simpa using e2
 obtain⟨s,r1,r2⟩:=Option.bind_eq_some_iff.mp (h w os);have r3:=E7 r1;rw[Oj]at r3;rw[<-Fast.te4187177175401517315]at r2;unfold openEnds;rw[e1];show(topFrom treeTable p w N _).map _=_;unfold topFrom;rw[show((boot_heap w.params).isNs mainGlobals&&(⟨[]⟩:Array GenState).size==0)=true from by kernel_rfl];dsimp only;rw[show(boot_heap w.params).objs.size=11 from by kernel_rfl,show(boot_heap w.params).nsMap mainGlobals "__annotations__"=some (.ref 6)from by kernel_rfl,r3];show((match staticsOk (importedModules p.main.body) (boot_heap w.params) s.abs.heap&&namesBound p s.abs.heap&&gensDone s.abs&&laidKept (boot_heap w.params) s.abs.heap with|true=>some s.abs|false=>none):Option Shared).map _=_;cases z:(staticsOk (importedModules p.main.body) (boot_heap w.params) s.abs.heap&&namesBound p s.abs.heap&&gensDone s.abs&&laidKept (boot_heap w.params) s.abs.heap)with
 |false=>rw[z]at r2;cases r2
 |true=>rw[z]at r2;exact r2
abbrev e(x:Str)(t:Nat)(v:Value):Str×Nat×Value:=(x,t,v)
abbrev k(a:Addr)(o:Obj):Addr×Obj:=(a,o)
def no(P:Params)(n:Nat)(l:List (Str×Nat×Value)):Obj:=⟨.type "dict",none,.dict (l.map λ e=>⟨PyData.keyHash P e.1,.str e.1 e.2.1,e.2.2⟩).toArray n,#[]⟩
def fd(st:Stmt)(x q:Str)(pm:Value)(c:Addr):FuncData:=fnOf x q (L2.kY st) (L2.ie st) (L2.ai st) .none .none .none pm none (.ref c) .none
def fq(st:Stmt)(x q:Str)(pm:Value)(c:Addr):Obj:=⟨.type "function",none,.func (fd st x q pm c),#[]⟩
def co(x q:Str)(t:Nat)(line argc:Int)(a b:Addr)(u v:Value)(d:Addr)(i:Int)(z:Nat):Obj:=⟨.type "code",none,.fields #[.str x t,.str q (t+1),.str "/claim/cut.py" (t+2),.int line 0,.int argc 0,.int 0 0,.int 0 0,.int 3 0,.ref a,.bool true,.int 181 0,.ref b,.none,u,v,.ref d,.int i 0,.int line 0,.str "/claim/cut.py" z],#[]⟩
end Hd
namespace Row
open PySem L2
open PySem.Spec hiding items?
open PyProof.Rows hiding St
def top(i:Nat):Stmt:=PySem.Challenge.pw_latticeworks_k53_any_equations.main.body.getD i (.Pass ⟨0,0,0,0⟩)
abbrev PW:Program:=PySem.Challenge.pw_latticeworks_k53_any_equations
abbrev mz:Stmt:=top 1
abbrev rf:Stmt:=top 2
abbrev qC:Stmt:=top 3
abbrev oq:Stmt:=top 4
abbrev oE:Stmt:=top 5
abbrev qL:Stmt:=top 6
abbrev oy:Stmt:=top 7
abbrev jv:Stmt:=top 9
abbrev mn:Stmt:=top 10
abbrev mq:Stmt:=top 11
abbrev kC:Stmt:=top 12
abbrev fW:Stmt:=top 13
abbrev iJ:Stmt:=top 14
abbrev gZ:Stmt:=top 15
abbrev kW:Stmt:=top 17
abbrev ff:Stmt:=top 18
abbrev i3:Stmt:=top 19
abbrev jo:Stmt:=top 20
abbrev dv:Stmt:=inClass (top 21) 0
abbrev ip:Stmt:=inClass (top 21) 1
abbrev fL:Stmt:=inClass (top 21) 2
abbrev eK:Stmt:=inClass (top 21) 3
abbrev dH:Stmt:=inClass (top 21) 4
abbrev gh:Stmt:=inClass (top 21) 5
abbrev eO:Stmt:=inClass (top 21) 6
abbrev jK:Stmt:=top 22
abbrev kK:Stmt:=top 23
abbrev oo:Stmt:=top 24
abbrev iW:Stmt:=top 26
abbrev i5:Stmt:=top 27
abbrev fU:Stmt:=top 28
abbrev gj:Stmt:=top 30
abbrev kO:Stmt:=top 31
abbrev jP:Stmt:=top 33
abbrev jT:Stmt:=top 34
abbrev jn:Stmt:=top 35
abbrev iF:Stmt:=top 36
abbrev fF:Stmt:=top 37
abbrev dB:Stmt:=top 38
abbrev iD:Stmt:=top 39
abbrev iY:Stmt:=top 40
abbrev fN:Stmt:=top 41
abbrev iy:Stmt:=top 42
abbrev dD:Stmt:=top 43
abbrev dX:Stmt:=top 44
abbrev fC:Stmt:=top 45
abbrev gI:Stmt:=top 46
abbrev pL:Stmt:=top 47
def kj:Value:=(.str "latticeworks.fractions" 187)
def ki:Value:=(.str "latticeworks.rows" 248)
def e9:Value:=(.str "latticeworks.standing" 298)
def v_:Value:=(.str "latticeworks.inside" 449)
def CU:Value:=(.str "latticeworks.answers" 485)
def d5:Value:=(.str "law_latticeworks_k53_any_equations" 510)
def KX(P:Params):PySem.W.Frag:=[Hd.k 3 (Hd.no P 51 [Hd.e "__name__" 165 (.str "law_latticeworks_k53_any_equations" 510),Hd.e "__doc__" 166 .none,Hd.e "__package__" 167 .none,Hd.e "__loader__" 168 (.builtin "__main__.__loader__#opaque"),Hd.e "__spec__" 169 .none,Hd.e "__annotations__" 170 (.ref 6),Hd.e "__builtins__" 171 (.ref 4),Hd.e "__file__" 173 (.str "/claim/cut.py" 172),Hd.e "__cached__" 174 .none,Hd.e "common" 199 (.ref 21),Hd.e "part" 208 (.ref 28),Hd.e "plus" 216 (.ref 35),Hd.e "minus" 224 (.ref 42),Hd.e "times" 232 (.ref 49),Hd.e "over" 240 (.ref 56),Hd.e "whole" 247 (.ref 63),Hd.e "as_rows" 255 (.ref 68),Hd.e "added" 261 (.ref 73),Hd.e "sum_by" 273 (.ref 80),Hd.e "column" 279 (.ref 85),Hd.e "turned_over" 285 (.ref 90),Hd.e "unit_row" 291 (.ref 95),Hd.e "unit_rows" 297 (.ref 100),Hd.e "lead_of" 308 (.ref 107),Hd.e "nearest_quotient" 316 (.ref 114),Hd.e "exchanged" 326 (.ref 121),Hd.e "negated" 332 (.ref 126),Hd.e "Bench" 416 (.ref 181),Hd.e "standing" 427 (.ref 192),Hd.e "weighed" 440 (.ref 199),Hd.e "falls" 448 (.ref 206),Hd.e "parts_dot" 461 (.ref 213),Hd.e "bottom_at" 471 (.ref 220),Hd.e "parts_against" 484 (.ref 227),Hd.e "steps_behind" 494 (.ref 234),Hd.e "answers" 509 (.ref 241),Hd.e "_law_hand" 520 (.ref 248),Hd.e "_law_take" 531 (.ref 255),Hd.e "_law_dot" 537 (.ref 260),Hd.e "_law_less" 543 (.ref 265),Hd.e "_law_led" 549 (.ref 270),Hd.e "_law_standing" 555 (.ref 275),Hd.e "_law_rest" 561 (.ref 280),Hd.e "_law_whole" 568 (.ref 287),Hd.e "_law_are_rows" 574 (.ref 292),Hd.e "_law_over" 580 (.ref 297),Hd.e "_law_reckoned" 586 (.ref 302),Hd.e "_law_any" 592 (.ref 307),Hd.e "_law_wide_number" 600 (.ref 314),Hd.e "_law_far" 606 (.ref 319),Hd.e "law" 620 (.ref 326)]),
 Hd.k 20 (Hd.co "common" "common" 189 2 2 15 16 (.ref 17) (.ref 18) 19 197 198),
 Hd.k 21 (Hd.fq mz "common" "common" kj 20),
 Hd.k 27 (Hd.co "part" "part" 200 10 2 22 23 (.ref 24) (.ref 25) 26 206 207),
 Hd.k 28 (Hd.fq rf "part" "part" kj 27),
 Hd.k 34 (Hd.co "plus" "plus" 209 15 2 29 30 (.ref 31) (.ref 32) 33 214 215),
 Hd.k 35 (Hd.fq qC "plus" "plus" kj 34),
 Hd.k 41 (Hd.co "minus" "minus" 217 17 2 36 37 (.ref 38) (.ref 39) 40 222 223),
 Hd.k 42 (Hd.fq oq "minus" "minus" kj 41),
 Hd.k 48 (Hd.co "times" "times" 225 19 2 43 44 (.ref 45) (.ref 46) 47 230 231),
 Hd.k 49 (Hd.fq oE "times" "times" kj 48),
 Hd.k 55 (Hd.co "over" "over" 233 21 2 50 51 (.ref 52) (.ref 53) 54 238 239),
 Hd.k 56 (Hd.fq qL "over" "over" kj 55),
 Hd.k 62 (Hd.co "whole" "whole" 241 23 1 57 58 (.ref 59) (.ref 60) 61 245 246),
 Hd.k 63 (Hd.fq oy "whole" "whole" kj 62),
 Hd.k 67 (Hd.co "as_rows" "as_rows" 250 26 1 64 65 .none .none 66 253 254),
 Hd.k 68 (Hd.fq jv "as_rows" "as_rows" ki 67),
 Hd.k 72 (Hd.co "added" "added" 256 28 3 69 70 .none .none 71 259 260),
 Hd.k 73 (Hd.fq mn "added" "added" ki 72),
 Hd.k 79 (Hd.co "sum_by" "sum_by" 262 30 3 74 75 (.ref 76) (.ref 77) 78 271 272),
 Hd.k 80 (Hd.fq mq "sum_by" "sum_by" ki 79),
 Hd.k 84 (Hd.co "column" "column" 274 35 2 81 82 .none .none 83 277 278),
 Hd.k 85 (Hd.fq kC "column" "column" ki 84),
 Hd.k 89 (Hd.co "turned_over" "turned_over" 280 37 2 86 87 .none .none 88 283 284),
 Hd.k 90 (Hd.fq fW "turned_over" "turned_over" ki 89),
 Hd.k 94 (Hd.co "unit_row" "unit_row" 286 39 2 91 92 .none .none 93 289 290),
 Hd.k 95 (Hd.fq iJ "unit_row" "unit_row" ki 94),
 Hd.k 99 (Hd.co "unit_rows" "unit_rows" 292 41 1 96 97 .none .none 98 295 296),
 Hd.k 100 (Hd.fq gZ "unit_rows" "unit_rows" ki 99),
 Hd.k 106 (Hd.co "lead_of" "lead_of" 300 44 1 101 102 (.ref 103) (.ref 104) 105 306 307),
 Hd.k 107 (Hd.fq kW "lead_of" "lead_of" e9 106),
 Hd.k 113 (Hd.co "nearest_quotient" "nearest_quotient" 309 49 2 108 109 (.ref 110) (.ref 111) 112 314 315),
 Hd.k 114 (Hd.fq ff "nearest_quotient" "nearest_quotient" e9 113),
 Hd.k 120 (Hd.co "exchanged" "exchanged" 317 51 3 115 116 (.ref 117) (.ref 118) 119 324 325),
 Hd.k 121 (Hd.fq i3 "exchanged" "exchanged" e9 120),
 Hd.k 125 (Hd.co "negated" "negated" 327 56 1 122 123 .none .none 124 330 331),
 Hd.k 126 (Hd.fq jo "negated" "negated" e9 125),
 Hd.k 137 (Hd.co "__init__" "Bench.__init__" 345 60 2 134 135 .none .none 136 348 349),
 Hd.k 138 (Hd.fq dv "__init__" "Bench.__init__" e9 137),
 Hd.k 144 (Hd.co "take" "Bench.take" 351 65 4 139 140 (.ref 141) (.ref 142) 143 358 359),
 Hd.k 145 (Hd.fq ip "take" "Bench.take" e9 144),
 Hd.k 151 (Hd.co "exchange" "Bench.exchange" 361 70 3 146 147 (.ref 148) (.ref 149) 150 367 368),
 Hd.k 152 (Hd.fq fL "exchange" "Bench.exchange" e9 151),
 Hd.k 158 (Hd.co "change_sign" "Bench.change_sign" 370 75 2 153 154 (.ref 155) (.ref 156) 157 375 376),
 Hd.k 159 (Hd.fq eK "change_sign" "Bench.change_sign" e9 158),
 Hd.k 163 (Hd.co "live_rows" "Bench.live_rows" 378 80 3 160 161 .none .none 162 381 382),
 Hd.k 164 (Hd.fq dH "live_rows" "Bench.live_rows" e9 163),
 Hd.k 170 (Hd.co "gather" "Bench.gather" 384 84 3 165 166 (.ref 167) (.ref 168) 169 393 394),
 Hd.k 171 (Hd.fq gh "gather" "Bench.gather" e9 170),
 Hd.k 177 (Hd.co "lower_above" "Bench.lower_above" 396 98 3 172 173 (.ref 174) (.ref 175) 176 403 404),
 Hd.k 178 (Hd.fq eO "lower_above" "Bench.lower_above" e9 177),
 Hd.k 180 (Hd.no P 4 [Hd.e "__module__" 340 (.str "latticeworks.standing" 298),Hd.e "__firstlineno__" 344 (.int (58) 343),Hd.e "__init__" 350 (.ref 138),Hd.e "take" 360 (.ref 145),Hd.e "exchange" 369 (.ref 152),Hd.e "change_sign" 377 (.ref 159),Hd.e "live_rows" 383 (.ref 164),Hd.e "gather" 395 (.ref 171),Hd.e "lower_above" 405 (.ref 178),Hd.e "__static_attributes__" 409 (.ref 179),Hd.e "__dict__" 411 (.ref 182),Hd.e "__weakref__" 413 (.ref 183),Hd.e "__doc__" 414 .none]),
 Hd.k 181 (⟨(.type "type"),none,.cls {name:="Bench",bases:=[(.type "object")],mro:=[(.ref 181),(.type "object")],ns:=180,qualname:="Bench",hasDict:=true,subclasses:=[],abstract:=false,hasDel:=false},#[none,none,(some (.str "Bench" 333)),(some (.str "Bench" 341)),(some (.builtin "object.__new__")),(some (.bool true))]⟩),
 Hd.k 191 (Hd.co "standing" "standing" 417 101 1 186 187 (.ref 188) (.ref 189) 190 425 426),
 Hd.k 192 (Hd.fq jK "standing" "standing" e9 191),
 Hd.k 198 (Hd.co "weighed" "weighed" 428 110 2 193 194 (.ref 195) (.ref 196) 197 438 439),
 Hd.k 199 (Hd.fq kK "weighed" "weighed" e9 198),
 Hd.k 205 (Hd.co "falls" "falls" 441 119 2 200 201 (.ref 202) (.ref 203) 204 446 447),
 Hd.k 206 (Hd.fq oo "falls" "falls" e9 205),
 Hd.k 212 (Hd.co "parts_dot" "parts_dot" 451 122 2 207 208 (.ref 209) (.ref 210) 211 459 460),
 Hd.k 213 (Hd.fq iW "parts_dot" "parts_dot" v_ 212),
 Hd.k 219 (Hd.co "bottom_at" "bottom_at" 462 127 3 214 215 (.ref 216) (.ref 217) 218 469 470),
 Hd.k 220 (Hd.fq i5 "bottom_at" "bottom_at" v_ 219),
 Hd.k 226 (Hd.co "parts_against" "parts_against" 472 132 2 221 222 (.ref 223) (.ref 224) 225 482 483),
 Hd.k 227 (Hd.fq fU "parts_against" "parts_against" v_ 226),
 Hd.k 233 (Hd.co "steps_behind" "steps_behind" 487 143 2 228 229 (.ref 230) (.ref 231) 232 492 493),
 Hd.k 234 (Hd.fq gj "steps_behind" "steps_behind" CU 233),
 Hd.k 240 (Hd.co "answers" "answers" 495 145 2 235 236 (.ref 237) (.ref 238) 239 507 508),
 Hd.k 241 (Hd.fq kO "answers" "answers" CU 240),
 Hd.k 247 (Hd.co "_law_hand" "_law_hand" 512 157 1 242 243 (.ref 244) (.ref 245) 246 518 519),
 Hd.k 248 (Hd.fq jP "_law_hand" "_law_hand" d5 247),
 Hd.k 254 (Hd.co "_law_take" "_law_take" 521 161 2 249 250 (.ref 251) (.ref 252) 253 529 530),
 Hd.k 255 (Hd.fq jT "_law_take" "_law_take" d5 254),
 Hd.k 259 (Hd.co "_law_dot" "_law_dot" 532 170 2 256 257 .none .none 258 535 536),
 Hd.k 260 (Hd.fq jn "_law_dot" "_law_dot" d5 259),
 Hd.k 264 (Hd.co "_law_less" "_law_less" 538 172 3 261 262 .none .none 263 541 542),
 Hd.k 265 (Hd.fq iF "_law_less" "_law_less" d5 264),
 Hd.k 269 (Hd.co "_law_led" "_law_led" 544 174 2 266 267 .none .none 268 547 548),
 Hd.k 270 (Hd.fq fF "_law_led" "_law_led" d5 269),
 Hd.k 274 (Hd.co "_law_standing" "_law_standing" 550 184 2 271 272 .none .none 273 553 554),
 Hd.k 275 (Hd.fq dB "_law_standing" "_law_standing" d5 274),
 Hd.k 279 (Hd.co "_law_rest" "_law_rest" 556 194 2 276 277 .none .none 278 559 560),
 Hd.k 280 (Hd.fq iD "_law_rest" "_law_rest" d5 279),
 Hd.k 286 (Hd.co "_law_whole" "_law_whole" 562 200 1 281 282 (.ref 283) (.ref 284) 285 566 567),
 Hd.k 287 (Hd.fq iY "_law_whole" "_law_whole" d5 286),
 Hd.k 291 (Hd.co "_law_are_rows" "_law_are_rows" 569 202 3 288 289 .none .none 290 572 573),
 Hd.k 292 (Hd.fq fN "_law_are_rows" "_law_are_rows" d5 291),
 Hd.k 296 (Hd.co "_law_over" "_law_over" 575 209 1 293 294 .none .none 295 578 579),
 Hd.k 297 (Hd.fq iy "_law_over" "_law_over" d5 296),
 Hd.k 301 (Hd.co "_law_reckoned" "_law_reckoned" 581 211 2 298 299 .none .none 300 584 585),
 Hd.k 302 (Hd.fq dD "_law_reckoned" "_law_reckoned" d5 301),
 Hd.k 306 (Hd.co "_law_any" "_law_any" 587 222 1 303 304 .none .none 305 590 591),
 Hd.k 307 (Hd.fq dX "_law_any" "_law_any" d5 306),
 Hd.k 313 (Hd.co "_law_wide_number" "_law_wide_number" 593 238 1 308 309 (.ref 310) (.ref 311) 312 598 599),
 Hd.k 314 (Hd.fq fC "_law_wide_number" "_law_wide_number" d5 313),
 Hd.k 318 (Hd.co "_law_far" "_law_far" 601 241 1 315 316 .none .none 317 604 605),
 Hd.k 319 (Hd.fq gI "_law_far" "_law_far" d5 318),
 Hd.k 325 (Hd.co "law" "law" 607 249 1 320 321 (.ref 322) (.ref 323) 324 618 619),
 Hd.k 326 (Hd.fq pL "law" "law" d5 325)]
def KA:List Addr:=[3,20,21,27,28,34,35,41,42,48,49,55,56,62,63,67,68,72,73,79,80,84,85,89,90,94,95,99,100,106,107,113,114,120,121,125,126,137,138,144,145,151,152,158,159,163,164,170,171,177,178,180,181,191,192,198,199,205,206,212,213,219,220,226,227,233,234,240,241,247,248,254,255,259,260,264,265,269,270,274,275,279,280,286,287,291,292,296,297,301,302,306,307,313,314,318,319,325,326]
set_option maxHeartbeats 0 in
def left:PySem.W.LeftO PW (PySem.W.view PW [1,2,3,4,5,6,7,9,10,11,12,13,14,15,17,18,19,20,21,22,23,24,26,27,28,30,31,33,34,35,36,37,38,39,40,41,42,43,44,45,46,47]) [] (λ _=>true) (PySem.W.kmHook Row.KX Row.KA (λ _=>rfl) [161]).obs (PySem.W.kmHook Row.KX Row.KA (λ _=>rfl) [161]).val 3480:=
 Hd.left (by kernel_rfl) (λ s=>by kernel_rfl) rfl λ w os=>by kernel_rfl
end Row
namespace L3
open PySem PySem.Spec PyProof.Rows L2
section
variable {prog:Program}{w:World}{A:Around}{R:Result->Shared->Prop}{s:Shared}
def BU{elt target iter:Expr}{ifs:List Expr}{scope:Scope}{pos:Pos}{it acc:Value}{env:Env}(I:Nat->Shared->Prop)
 (turn:∀n s,I n s->wpAny (model prog w) A (pyNext it) (λ r s₁=>match r with
   |none=>R (.ok .next) s₁
   |some v=>wpAny (model prog w) A (letOwnedTupleGo target it v) (λ _ s₀=>wpAny (model prog w) A (assign target env v) (λ _ s₂=>
     wpAny (model prog w) A (forIn ifs true λ c r=>if r=true then do let ok <-isTrue c env (eval c env);pure (ForInStep.yield ok)else pure (ForInStep.yield r)) (λ ok s₃=>
      if ok=true then wpAny (model prog w) A (eval elt env) (λ x s₄=>
       wpAny (model prog w) A (call (.builtin "list.append") [acc,x]) (λ _ s₅=>∃m,m<n/\I m s₅) (λ _ _=>False) s₄) (λ _ _=>False) s₃
      else∃m,m<n/\I m s₃) (λ _ _=>False) s₂) (λ _ _=>False) s₀) (λ _ _=>False) s₁) (λ _ _=>False) s)
 (n:Nat) (h:I n s):
 codeAny (model prog w) A (.compLoop (.ListComp elt [⟨target,iter,ifs,0⟩] scope pos) 0 it acc env) R s:=by
 refine codeAny_loop rfl I (λ n s hI=>?_) n h;show wpAny _ A ((compTurn (.ListComp elt [⟨target,iter,ifs,0⟩] scope pos) 0 it acc env).onRaise (λ x=>do noteFrame x env;theTreesLotGoes x)) _ _ s;refine wpAny_noted ?_;rw[compTurn_list];refine Sa (Wd (Sa (Uv (turn n s hI) (λ r s₁ h₁=>?_) λ _ _ h'=>h'.elim)));cases r with
 |none=>exact Sn h₁
 |some v=>
  refine Sa (Uv h₁ (λ _ s₀ h₀=>?_) λ _ _ h'=>h'.elim);refine Sa (Uv h₀ (λ _ s₂ h₂=>Sa (Uv h₂ (λ ok s₃ h₃=>?_) λ _ _ h'=>h'.elim)) λ _ _ h'=>h'.elim);cases ok with
  |false=>exact Sn ⟨rfl,h₃⟩
  |true=>
   exact Sa (Sa (Uv h₃ (λ x s₄ h₄=>Sa (Uv h₄ (λ _ s₅ h₅=>Sn (Sn ⟨rfl,h₅⟩)) λ _ _ h'=>h'.elim)) λ _ _ h'=>h'.elim))
end
def dW(cells:List (Str×Addr)):List (Str×NameKind)->List (Str×Addr)->List (Str×Addr)
 | [],acc=>acc
 |(n,k)::r,acc=>if k== .free then(match cells.lookup n with|some c=>dW cells r ((n,c)::acc)|none=>dW cells r acc)else dW cells r acc
def dw{cells:List (Str×Addr)}:∀(names:List (Str×NameKind)) (acc:List (Str×Addr)),(∀x c,acc.lookup x=some c->cells.lookup x=some c)->
 ∀x c,(dW cells names acc).lookup x=some c->cells.lookup x=some c
 | [],acc,h,x,c,e=>h x c e
 |(n,k)::r,acc,h,x,c,e=>by
  unfold dW at e;split at e
  . split at e
    . rename_i d q;refine dw r _ (λ y b e'=>?_) x c e;rw[Ti]at e';split at e'
      . rename_i z;cases e';have z':y=n:=by simpa using z
        rw[z'];exact q
      . exact h y b e'
    . exact dw r _ h x c e
  . exact dw r _ h x c e
def jq{cells:List (Str×Addr)}{x:Str}:∀(names:List (Str×NameKind)) (acc:List (Str×Addr)),(∃c,cells.lookup x=some c)->((x,NameKind.free)∈names\/∃c,acc.lookup x=some c)->
 ∃c,(dW cells names acc).lookup x=some c
 | [],acc,_,h=>by
   rcases h with h|h
   . simp at h
   . exact h
 |(n,k)::r,acc,hc,h=>by
  unfold dW;split
  . rename_i hk;split
    . rename_i d q;refine jq r _ hc ?_;rcases h with h|⟨c,h⟩
      . rcases SA.mp h with e|e
        . cases e;exact .inr ⟨d,by simp[Ti]⟩
        . exact .inl e
      . refine .inr ?_;rw[Ti];split
        . exact⟨_,rfl⟩
        . exact⟨c,h⟩
    . rename_i q;refine jq r _ hc ?_;rcases h with h|h
      . rcases SA.mp h with e|e
        . cases e;obtain⟨c,hc⟩:=hc;rw[hc]at q;cases q
        . exact .inl e
      . exact .inr h
  . rename_i hk;refine jq r _ hc ?_;rcases h with h|h
    . rcases SA.mp h with e|e
      . cases e;exact absurd rfl hk
      . exact .inl e
    . exact .inr h
def nC{scope:Scope}{env:Env}(h:∀x∈scope.names,x.2= .free->∃c,env.cells.lookup x.1=some c):closureFor scope env=pure (dW env.cells scope.names []):=by
 have key:∀(names:List (Str×NameKind)) (acc:List (Str×Addr)),(∀x∈names,x.2= .free->∃c,env.cells.lookup x.1=some c)->
  (forIn names acc (λ(x:Str×NameKind) (cs:List (Str×Addr))=>if(x.2==NameKind.free)=true then(do let a <-cellOf env x.1;pure (ForInStep.yield ((x.1,a)::cs)):Sem (ForInStep (List (Str×Addr))))else pure (ForInStep.yield cs)))=(pure (dW env.cells names acc):Sem (List (Str×Addr))):=by
  intro names;induction names with
  |nil=>intro acc _;rfl
  |cons p r ih=>
   intro acc hh;obtain⟨n,k⟩:=p;rw[Xh];have ih':=ih;by_cases hk:(k==NameKind.free)=true
   . obtain⟨c,e⟩:=hh (n,k) SD (by simpa using hk);simp only[hk,UU]
     have e1:cellOf env n=pure c:=by
      unfold cellOf;rw[e]
     rw[e1];simp only[pure_bind];rw[ih _ λ x hx=>hh x (SG _ hx)];conv=>rhs;unfold dW
     simp only[hk,UU];rw[show env.cells.lookup n=some c from e]
   . have hk':(k==NameKind.free)=false:=by simpa using hk
     simp only[hk',TM,Uw,pure_bind];rw[ih _ λ x hx=>hh x (SG _ hx)];conv=>rhs;unfold dW
     simp only[hk',TM,Uw]
 unfold closureFor;have:=key scope.names [] h;rw[bind_pure]
 first
  |exact this
  |(simp only[bind_pure]at this⊢;exact this)
end L3
namespace L3
open PySem PySem.Spec L2
open PyProof.Rows hiding St
def jN(env:Env):∀(names:List (Str×NameKind)) (x:Str),
 (names.map λ(n,k)=>if(k==NameKind.free&&env.scope.kind== .function&&env.kindOf n==some .cell)then(n,NameKind.cell)else(n,k)).lookup x=
   (names.lookup x).map λ k=>if(k==NameKind.free&&env.scope.kind== .function&&env.kindOf x==some .cell)then NameKind.cell else k
 | [],_=>rfl
 |(n,k)::r,x=>by
  show List.lookup x ((if(k==NameKind.free&&env.scope.kind== .function&&env.kindOf n==some .cell)=true then(n,NameKind.cell)else(n,k))::_)=_;cases hx:x==n with
  |true=>
   have e:x=n:=by simpa using hx
   subst e;by_cases hc:(k==NameKind.free&&env.scope.kind== .function&&env.kindOf x==some .cell)=true
   . rw[Si hc];simp only[Ti,We,Vn];rw[Si hc]
   . rw[Sf hc];simp only[Ti,We,Vn];rw[Sf hc]
  |false=>
   by_cases hc:(k==NameKind.free&&env.scope.kind== .function&&env.kindOf n==some .cell)=true
   . rw[Si hc];simp only[Ti,hx];exact jN env r x
   . rw[Sf hc];simp only[Ti,hx];exact jN env r x
def A8{env:Env}{scope:Scope}{x:Str}(h:scope.names.lookup x=some .free):(relabel scope env).names.lookup x=some .cell\/(relabel scope env).names.lookup x=some .free:=by
 have e:(relabel scope env).names.lookup x=_:=jN env scope.names x;rw[e,h];simp only[Vn];split
 . exact .inl rfl
 . exact .inr rfl
def A5{env:Env}{scope:Scope}{x:Str}(h:(relabel scope env).names.lookup x=some .cell\/(relabel scope env).names.lookup x=some .free):(x,NameKind.free)∈scope.names\/scope.names.lookup x=some .cell:=by
 have e:(relabel scope env).names.lookup x=_:=jN env scope.names x;rw[e]at h;cases q:scope.names.lookup x with
 |none=>rw[q]at h;rcases h with h|h<;>cases h
 |some k=>
  rw[q]at h;simp only[Vn]at h;have m:=To q;by_cases hc:(k==NameKind.free&&env.scope.kind== .function&&env.kindOf x==some .cell)=true
  . have:k= .free:=by
     simp only[Tv]at hc;simpa using hc.1.1
    subst this;exact .inl m
  . rw[Sf hc]at h;rcases h with h|h
    . cases h;exact .inr rfl
    . cases h;exact .inl m
def gG:∀(names:List (Str×NameKind)) (L:Nat) (acc:List (Str×Addr)),cellsFrom L names acc=cellsFrom L names []++acc
 | [],_,_=>rfl
 |(n,k)::r,L,acc=>by
  unfold cellsFrom;by_cases hk:(k==NameKind.cell)=true
  . rw[Si hk,Si hk,gG r (L+1) ((n,L)::acc),gG r (L+1) [(n,L)],UZ];rfl
  . rw[Sf hk,Sf hk];exact gG r L acc
def tL:∀ {names:List (Str×NameKind)} {L:Nat} {x:Str} {c:Addr},(x,c)∈cellsFrom L names []->(x,NameKind.cell)∈names
 | [],_,_,_,h=>by unfold cellsFrom at h;cases h
 |(n,k)::r,L,x,c,h=>by
  unfold cellsFrom at h;by_cases hk:(k==NameKind.cell)=true
  . rw[Si hk,gG]at h;have hk':k= .cell:=by simpa using hk
    subst hk';rcases SE.mp h with h|h
    . exact SG _ (tL h)
    . have:(x,c)=(n,L):=by simpa using h
      cases this;exact SD
  . rw[Sf hk]at h;exact SG _ (tL h)
def rE:∀ {l1 l2:List (Str×Addr)} {x:Str} {c:Addr},(l1++l2).lookup x=some c->l1.lookup x=some c\/(l1.lookup x=none/\l2.lookup x=some c)
 | [],_,_,_,h=> .inr ⟨rfl,h⟩
 |(n,d)::l1,l2,x,c,h=>by
  rw[W7,Ti]at h;rw[Ti];cases hx:x==n with
  |true=>rw[hx]at h;exact .inl h
  |false=>rw[hx]at h;exact rE h
def u_:∀ {l1 l2:List (Str×Addr)} {x:Str},l1.lookup x=none->(l1++l2).lookup x=l2.lookup x
 | [],_,_,_=>rfl
 |(n,d)::l1,l2,x,h=>by
  rw[Ti]at h;rw[W7,Ti];cases hx:x==n with
  |true=>rw[hx]at h;cases h
  |false=>rw[hx]at h;exact u_ h
def m6(scope:Scope)(C:Addr)(cl:List (Str×Addr)):List (Str×Addr):=cellsFrom (C+1) scope.names cl
def jA{scope:Scope}{C:Addr}{cl:List (Str×Addr)}{x:Str}{c:Addr}(h:(m6 scope C cl).lookup x=some c):(x,c)∈cellsFrom (C+1) scope.names []\/cl.lookup x=some c:=by
 unfold m6 at h;rw[gG]at h;rcases rE h with h|h
 . exact .inl (To h)
 . exact .inr h.2
def Od(names:List (Str×NameKind))(h:Heap){C:Addr}(e:h.objs.size=C+1):CellsOk (pushCells h names) (C+1) (cellsFrom (C+1) names []):=by
 have:=cellsFrom_ok names h (C+1) [] ⟨λ _ _ hm=>(nomatch hm),List.Pairwise.nil⟩ (by rw[e];exact R_ _);rw[e]at this;exact this
def pj{names:List (Str×NameKind)}{C:Addr}{x:Str}{c:Addr}:∀ {L:Nat},C<=L->(x,c)∈cellsFrom L names []->C<=c:=by
 induction names with
 |nil=>intro L _ h;unfold cellsFrom at h;cases h
 |cons p r ih=>
  obtain⟨n,k⟩:=p;intro L hL h;unfold cellsFrom at h;by_cases hk:(k==NameKind.cell)=true
  . rw[Si hk,gG]at h;rcases SE.mp h with h|h
    . exact ih (Se hL (Vs L)) h
    . have:(x,c)=(n,L):=by simpa using h
      cases this;exact hL
  . rw[Sf hk]at h;exact ih hL h
def own_apart{names:List (Str×NameKind)}{x y:Str}{c:Addr}:∀ {L:Nat},(x,c)∈cellsFrom L names []->(y,c)∈cellsFrom L names []->x=y:=by
 induction names with
 |nil=>intro L h;unfold cellsFrom at h;cases h
 |cons p r ih=>
  obtain⟨n,k⟩:=p;intro L h1 h2;unfold cellsFrom at h1 h2;by_cases hk:(k==NameKind.cell)=true
  . rw[Si hk,gG]at h1 h2;rcases SE.mp h1 with g1|g1<;>rcases SE.mp h2 with g2|g2
    . exact ih g1 g2
    . have e2:(y,c)=(n,L):=by simpa using g2
      have ec:c=L:=(Xr e2).2;have:=pj (C:=L+1) (R_ _) g1;rw[ec]at this;exact absurd this (Nat.not_succ_le_self _)
    . have e1:(x,c)=(n,L):=by simpa using g1
      have ec:c=L:=(Xr e1).2;have:=pj (C:=L+1) (R_ _) g2;rw[ec]at this;exact absurd this (Nat.not_succ_le_self _)
    . have e1:(x,c)=(n,L):=by simpa using g1
      have e2:(y,c)=(n,L):=by simpa using g2
      exact(Xr e1).1.trans (Xr e2).1.symm
  . rw[Sf hk]at h1 h2;exact ih h1 h2
def vO{M:Model}{A:Around}{E:Value->Shared->Prop}{s:Shared}{scope:Scope}{globals:Addr}{cl:List (Str×Addr)}{qual:Str}{env:Env}{Q:Env->Shared->Prop}
 (hQ:Q (newEnv scope s.heap.objs.size globals (m6 scope s.heap.objs.size cl) qual none .none (some env) builtinsNs) {s with heap:=pushCells (s.heap.push {cls:= .type "dict",data:= .dict #[]}) scope.names}):
 wpAny M A (newFunctionEnv scope globals cl [] qual none .none (some env)) Q E s:=by
 simp only[newFunctionEnv,Option.isSome_some,UU];refine Sa (wpAny_alloc ?_);refine Sa (wpAny_layCells _ (λ name kind cells=>by cases hkc:kind==NameKind.cell<;>simp[hkc]) _ _ _ _ ?_);rw[show({s with heap:=s.heap.push {cls:= .type "dict",data:= .dict #[]}}:Shared).heap.objs.size=s.heap.objs.size+1 from TY ..];rw[XA];exact Sa (Sn (Sn hQ))
structure aW(X:Cx)(scope:Scope)(Nc:List Str)(fr:List (Option Nat)):Prop where
 kind:scope.kind= .function
 cells:∀x∈scope.names,x.2= .cell->scope.names.lookup x.1=some .cell
 names:∀x∈scope.names,x.2= .local->scope.names.lookup x.1=some .local
 free:∀x∈scope.names,x.2= .free->X.env.kindOf x.1=some .cell\/X.env.kindOf x.1=some .free
 len:fr.length=Nc.length
 map:∀(i j:Nat) (x:Str),Nc[i]?=some x->fr[i]?=some (some j)->X.N[j]?=some x/\scope.names.lookup x=some .free/\(X.env.kindOf x=some .cell\/X.env.kindOf x=some .free)
def σC(fr:List (Option Nat))(σ:St):St:=fr.map λ o=>o.bind λ j=>(σ[j]?).join
def fS(X:Cx)(scope:Scope)(Nc:List Str)(C:Addr)(s:Shared)(H:Hp)(ex:List Addr):Cx:=
 {X with N:=Nc,s₀:=s,H₀:=H,env:=compEnvC scope (m6 scope C (dW X.env.cells scope.names [])) C X.env,outer:=X.stack,stack:=X.stack,ex:=ex,fn:=λ x=>scope.names.lookup x==some .cell,pn:=[],xe:=λ _ _=>False}
def uN(wi:TI)(fr:List (Option Nat))(g:TG)(c:TT)(te:TE):TE:=λ σ H Q=>wi σ H λ J H1=>∀l,H1 l=none->
 ∃W:Nat->Nat->L2.St->Hp->Prop,(∃m,W 0 m (σC fr σ) (upd H1 l (.lst [])))/\∀i m σ H,W i m σ H->
  (J.stop i H/\Q (.ref l) H)\/(J.go i H/\∃N:L2.St->Hp->Prop,(∀σ' H',N σ' H'->∃m',m'<m/\W (i+1) m' σ' H')/\∀x H',J.pF i H x H'->
    g x σ H' λ σ2 H2=>c σ2 H2 λ b H3=>if b=true then te σ2 H3 λ y H4=>∃ys,H4 l=some (.lst ys)/\ys.length<sizeLine/\N σ2 (upd H4 l (.lst (ys++[y])))else N σ2 H3)
def tY(X:Cx)(ifs:List Expr)(t:TT):Prop:=
 ∀(pins:List (Addr×Obj)) (s:Shared) (σ:St) (H:Hp) (Q:Bool->Hp->Prop),Inv X pins σ H s->t σ H Q->
  wpAny (model X.prog X.w) X.A (forIn ifs true λ c r=>if r=true then do let ok <-isTrue c X.env (eval c X.env);pure (ForInStep.yield ok)else pure (ForInStep.yield r)) (TP X pins σ Q) X.xe s
def Qd:TT:=λ _ H Q=>Q true H
def K4{X:Cx}:tY X [] Qd:=λ _ _ _ H _ I h=>wpAny_tests_nil ⟨H,I,h⟩
def K7{X:Cx}{c:Expr}{t:TT}(h:PT X c t):tY X [c] t:=λ pins s σ H Q I q=>wpAny_tests_one (h pins s σ H Q I q)
section
variable {X:Cx}{scope:Scope}{Nc:List Str}{fr:List (Option Nat)}{pins:List (Addr×Obj)}{σ:St}{H:Hp}{s:Shared}
def MR{C:Addr}{fp:List Addr}(S:aW X scope Nc fr)(I:Inv X pins σ H s)(hC:C=s.heap.objs.size)(hf:∀b∈fp,mi X pins H b)(hlt:∀b∈fp,b<s.heap.objs.size)(hnc:∀b∈fp,∀x c,X.env.cells.lookup x=some c->c≠b):
 (fS X scope Nc C s H fp).Ok where
 mod:=I.ok.mod
 kind:=S.kind
 glob:=I.ok.glob
 blt:=I.ok.blt
 above:=Wq hC.symm
 inj:=λ x y c h1 h2=>by
  have low:∀ {z},(dW X.env.cells scope.names []).lookup z=some c->c<s.heap.objs.size:=λ{z} hz=>by
   obtain⟨v,q⟩:=I.cell z c (dw _ [] (λ _ _ e=>by cases e) z c hz);exact q.lt
  rcases jA h1 with h1|h1<;>rcases jA h2 with h2|h2
  . exact own_apart h1 h2
  . have a:=pj (C:=C+1) (R_ _) h1;have b:c<C:=by rw[hC];exact low h2
    exact absurd a (Nat.not_le_of_gt (S9 b))
  . have a:=pj (C:=C+1) (R_ _) h2;have b:c<C:=by rw[hC];exact low h1
    exact absurd a (Nat.not_le_of_gt (S9 b))
  . exact I.ok.inj x y c (dw _ [] (λ _ _ e=>by cases e) x c h1) (dw _ [] (λ _ _ e=>by cases e) y c h2)
 has:=λ x hx=>by
  rcases A5 hx with m|m
  . obtain⟨c,e⟩:=jq scope.names [] (I.ok.has x (S.free _ m rfl)) (.inl m);exact Vd.mp (UO _ _ _ (.inr (by rw[e];rfl)))
  . exact Vd.mp (UO _ _ _ (.inl m))
 Ao:=λ x c hf h=>by
  have hl:scope.names.lookup x=some .cell:=by
   have:(scope.names.lookup x==some .cell)=true:=hf;simpa using this
  obtain⟨c',e⟩:=Vd.mp (UO (x:=x) scope.names (C+1) [] (.inl hl))
  have h':(cellsFrom (C+1) scope.names []++dW X.env.cells scope.names []).lookup x=some c:=by
   rw[<-gG];exact h
  rcases rE h' with q|q
  . have:=pj (C:=C+1) (R_ _) (To q);show s.heap.objs.size<=c;rw[<-hC];exact WW this
  . rw[q.1]at e;cases e
 hd:=I.ok.hd
 frames:=I.ok.frames
 Cd:= .inl rfl
 GG:=λ b hb=>⟨by rw[show(fS X scope Nc C s H fp).env.locals=s.heap.objs.size from hC];exact SW (hlt b hb),λ x c h=>by
  rcases jA h with h|h
  . have a:=pj (C:=C+1) (R_ _) h;have b':b<C:=by rw[hC];exact hlt b hb
    exact Vc (Sw b' (WW a))
  . exact hnc b hb x c (dw _ [] (λ _ _ e=>by cases e) x c h)⟩
 bs:=I.bs
 tQ:=Se I.ok.tQ I.sz
 vL:=λ b o e hb=>by
  have hn:=(hf b hb).2.2.2.1;rcases hn with hn|hn
  . exact I.ok.vL b o e hn
  . exact absurd (Su (I.ok.bs b o e).1) (Nat.not_lt.mpr hn)
 vq:=λ b hb z=>by
  have q:=I.z8 b z;rcases SA.mp q with q|q
  . exact(hf b hb).2.1 q
  . exact(hf b hb).2.2.1 q
 lI:=I.stack
 xj:=λ b hb=>I.xQ b hb
 gt:=I.ok.gt
def CI{i:Nat}{v:V}(h:(σC fr σ)[i]?=some (some v)):∃j,fr[i]?=some (some j)/\σ[j]?=some (some v):=by
 unfold σC at h;rw[SF]at h;cases q:fr[i]? with
 |none=>rw[q]at h;cases h
 |some o=>
  rw[q]at h;cases o with
  |none=>simp at h
  |some j=>
   simp only[Vn,Option.some.injEq,Option.bind_some]at h;refine⟨j,rfl,?_⟩;cases r:σ[j]? with
   |none=>rw[r]at h;cases h
   |some u=>rw[r]at h;simp at h;rw[h]
def HM{s':Shared}{h':Heap}{C:Addr}{fp:List Addr}{t':Nat}(S:aW X scope Nc fr)(I:Inv X pins σ H s)(hC:C=s.heap.objs.size)(ok:(fS X scope Nc C s H fp).Ok)(hfr:∀b∈fp,H b=none)
 (k:∀b o,s.heap.get? b=some o->h'.get? b=some o) (hn:h'.Ns C (λ _=>none)) (hcs:∀x c,(x,c)∈cellsFrom (C+1) scope.names []->h'.IsCell c none):Inv (fS X scope Nc C s H fp) [] (σC fr σ) H {s with heap:=h',toks:=t'} where
 ok:=ok
 os:=rfl
 bare:=I.bare
 base:=Un.kept k
 loc:=⟨_,hn,λ i x v h1 h2 h3=>by
  obtain⟨j,q1,q2⟩:=CI h2;obtain⟨n1,n2,n3⟩:=S.map i j x h1 q1;obtain⟨m,hm,hl⟩:=I.loc
  have vis:AU X.env.scope x:=by
   rcases n3 with z|z
   . exact .inr (.inl z)
   . exact .inr (.inr z)
  obtain⟨u,r,lk⟩:=hl j x v n1 q2 vis;refine⟨u,r,?_⟩;rcases lk with⟨z,_⟩|⟨z,c,e,ic⟩
  . rcases n3 with y|y
    . rw[y]at z;cases z
    . rw[y]at z;cases z
  . refine .inr ⟨A8 n2,?_⟩;obtain⟨c',e'⟩:=jq scope.names [] ⟨c,e⟩ (.inl (To n2));have e2:=dw _ [] (λ _ _ e=>by cases e) x c' e';rw[e]at e2;cases e2;refine⟨c,?_,ic.keeps k⟩;show(m6 scope C (dW X.env.cells scope.names [])).lookup x=some c;unfold m6;rw[gG,u_ ?_]
    . exact e'
    . cases q:(cellsFrom (C+1) scope.names []).lookup x with
      |none=>rfl
      |some c2=>
       have:=S.cells _ (tL (To q)) rfl;rw[n2]at this;cases this⟩
 cell:=λ x c h=>by
  rcases jA h with h|h
  . exact⟨_,hcs x c h⟩
  obtain⟨v,q⟩:=I.cell x c (dw _ [] (λ _ _ e=>by cases e) x c h);exact⟨v,q.keeps k⟩
 free:=by show H C=none;rw[hC];exact I.aL.fresh (R_ _)
 jh:=λ x c h=>by
  rcases jA h with h|h
  . have a:=pj (C:=C+1) (R_ _) h;exact I.aL.fresh (by rw[<-hC];exact WW a)
  . exact I.jh x c (dw _ [] (λ _ _ e=>by cases e) x c h)
 pin:=λ p hp=>by cases hp
 aL:=I.aL.kept k
 len:=by unfold σC;rw[Sb];exact S.len
def Inv.forget{C:Addr}{h':Heap}(I:Inv X pins σ H s)(f:mi X pins H C)(hs:Heap.SameBut C s.heap h'):Inv X pins σ H {s with heap:=h'}:=by
 refine I.Di (s':={s with heap:=h'}) (ch:=[C]) rfl ?_ ?_ I.bare λ b hb=>?_
 . have ne:∀b,b∉[C]->b≠C:=λ b hb z=>hb (by simp[z]);exact{keep:=λ b o q _ _ hx=>(hs.2 b (ne b hx)).trans q,slot:=λ b o q _ _ hx=>⟨o.slots,(hs.2 b (ne b hx)).trans q⟩,free:=λ b o q n _=>n,there:=λ b o q hx=>⟨o,(hs.2 b (ne b hx)).trans q⟩,qm:=λ _ _ e=>e,o7:=λ _ _ _ e=>e,o3:=λ b ps e=>⟨#[],by rw[e];simp⟩}
 . intro a o q;have na:∀b u,H b=some u->b≠C:=λ b u q z=>by rw[z,f.1]at q;cases q
   refine(I.aL a o q).l9 (λ b u hb e=>?_) (λ _ q=>q) λ _ _ q=>q;rw[hs.2 b ?_]
   . exact e
   . rcases hb with rfl|hb
     . exact na _ _ q
     . exact na _ _ hb
 . have:b=C:=by simpa using hb
   subst this;exact⟨f.2.2.2.1,f.2.1,f.2.2.2.2.1,f.2.2.2.2.2⟩
def wI{elt tg iter:Expr}{ifs:List Expr}{wi:TI}{g:TG}{c:TT}{te:TE}{pos:Pos}{Q:VK}{RR:Value->Addr->Result->Shared->Prop}(hx:X.xe=λ _ _=>False)(hc:X.calm=true)(S:aW X scope Nc fr)(hi:PI X tg iter wi)
 (hg:∀C s H ex,PG (fS X scope Nc C s H ex) tg g) (ht:∀C s H ex,tY (fS X scope Nc C s H ex) ifs c) (he:∀C s H ex,PE (fS X scope Nc C s H ex) elt te) (I:Inv X pins σ H s) (h:uN wi fr g c te σ H Q)
 (fin:∀(l C:Addr) (s6:Shared) (H5:Hp) (m:Str->Option Value),s6.heap.Ns C m->mi X pins H5 C->Inv X pins σ H5 s6->Q (.ref l) H5->RR (.ref l) C (.ok .next) s6):
 wpAny (model X.prog X.w) X.A (eval iter X.env) (λ x s₁=>wpAny (model X.prog X.w) X.A (pyIter x) (λ it s₂=>wpAny (model X.prog X.w) X.A (newList []) (λ acc s₃=>
  wpAny (model X.prog X.w) X.A (newFunctionEnv scope X.env.globals (dW X.env.cells scope.names []) [] X.env.qual none .none (some X.env)) (λ cenv s₄=>
   codeAny (model X.prog X.w) X.A (.compStart (.ListComp elt [⟨tg,iter,ifs,0⟩] scope pos) 0 it acc {cenv with scope:=relabel scope X.env}) (RR acc cenv.locals) s₄) X.xe s₃) X.xe s₂) X.xe s₁) X.xe s:=by
 refine cJ (hi pins s σ H _ I h) λ v s1 h1=>cJ h1 λ itv s2 h2=>?_;obtain⟨it,fp,tn,J,H2,e,I2,T,st2,f2,hR⟩:=h2;subst e;refine XI ?_ (SM _);have I3:=I2.Hu (t':=s2.toks) (ao:=[]) (ys:=[]) .nil (SM _);generalize e3:({s2 with heap:=s2.heap.push {cls:= .type "list",data:= .seq ([]:List Value).toArray}}:Shared)=s3;have I3:Inv X pins σ (upd H2 s2.heap.objs.size (.lst [])) s3:=by rw[<-e3];exact I3
 have ml:s2.heap.objs.size<s3.heap.objs.size:=by rw[<-e3];show _<(s2.heap.push _).objs.size;rw[TY];omega
 have k3:∀b o,s2.heap.get? b=some o->s3.heap.get? b=some o:=λ b o q=>by rw[<-e3];exact Sh _ q
 obtain⟨W,⟨m0,w0⟩,turn⟩:=hR s2.heap.objs.size (I2.aL.fresh (R_ _));refine vO ?_;have hn:(pushCells (s3.heap.push {cls:= .type "dict",data:= .dict #[]}) scope.names).Ns s3.heap.objs.size (λ _=>none):=(Heap.Ns.new s3.heap (.type "dict")).keeps (pushCells_keeps _ _);have hcs:∀x c,(x,c)∈cellsFrom (s3.heap.objs.size+1) scope.names []->(pushCells (s3.heap.push {cls:= .type "dict",data:= .dict #[]}) scope.names).IsCell c none:=λ x c h=>((Od scope.names _ (TY ..)).empty x c h).1;have k4:∀b o,s3.heap.get? b=some o->(pushCells (s3.heap.push {cls:= .type "dict",data:= .dict #[]}) scope.names).get? b=some o:=λ b o q=>pushCells_keeps _ _ b o (Sh _ q);generalize(pushCells (s3.heap.push {cls:= .type "dict",data:= .dict #[]}) scope.names)=h' at hn hcs k4⊢;have hobj:∀b∈fp,∃o,s2.heap.get? b=some o/\∀v,o.data≠ .cell v:=T.obj _ _ st2;have hlt2:∀b∈fp,b<s3.heap.objs.size:=λ b hb=>let⟨o,q,_⟩:=hobj b hb;Su (k3 b o q)
 have hnl:∀b∈fp,b≠s2.heap.objs.size:=λ b hb=>by
  obtain⟨o,q,_⟩:=hobj b hb;exact SW (Su q)
 have f3:∀b∈fp,mi X pins (upd H2 s2.heap.objs.size (.lst [])) b:=λ b hb=>⟨by rw[aA (hnl b hb)];exact(f2 b hb).1,(f2 b hb).2⟩
 have ok:=MR (C:=s3.heap.objs.size) (fp:=fp) S I3 rfl f3 hlt2 λ b hb=>(f2 b hb).2.2.2.2.1
 have I4:Inv (fS X scope Nc s3.heap.objs.size s3 (upd H2 s2.heap.objs.size (.lst [])) fp) [] (σC fr σ) (upd H2 s2.heap.objs.size (.lst [])) {s3 with heap:=h',toks:=s3.toks}:=
  HM (s':=s3) S I3 rfl ok (λ b hb=>(f3 b hb).1) k4 hn hcs
 have st4:tn 0 h':=T.keep _ _ _ st2 λ b _ o q=>k4 b o (k3 b o q);generalize hXc:fS X scope Nc s3.heap.objs.size s3 (upd H2 s2.heap.objs.size (.lst [])) fp=Xc at I4;have hgc:PG Xc tg g:=by rw[<-hXc];exact hg _ _ _ _
 have htc:tY Xc ifs c:=by rw[<-hXc];exact ht _ _ _ _
 have hec:PE Xc elt te:=by rw[<-hXc];exact he _ _ _ _
 have xP:Xc.prog=X.prog:=by rw[<-hXc];rfl
 have xW:Xc.w=X.w:=by rw[<-hXc];rfl
 have xK:Xc.K=X.K:=by rw[<-hXc];rfl
 have xc:Xc.calm=true:=by rw[<-hXc];exact hc
 have xA:Xc.A=X.A:=by rw[<-hXc];rfl
 have xE:Xc.env=compEnvC scope (m6 scope s3.heap.objs.size (dW X.env.cells scope.names [])) s3.heap.objs.size X.env:=by rw[<-hXc];rfl
 have xx:Xc.xe=λ _ _=>False:=by rw[<-hXc];rfl
 have fpc:∀ {H':Hp},(∀b∈fp,H' b=none)->∀b∈fp,mi Xc [] H' b:=λ{H'} hn b hb=>by
  rw[<-hXc];refine⟨hn b hb,SW (hlt2 b hb),ok.vq b hb,.inl hb,(ok.GG b hb).2,λ p hp=>by cases hp⟩
 have loop:codeAny (model X.prog X.w) X.A (.compLoop (.ListComp elt [⟨tg,iter,ifs,0⟩] scope pos) 0 (.ref it) (.ref s2.heap.objs.size) (compEnvC scope (m6 scope s3.heap.objs.size (dW X.env.cells scope.names [])) s3.heap.objs.size X.env))
  (RR (.ref s2.heap.objs.size) s3.heap.objs.size) {s3 with heap:=h',toks:=s3.toks}:=by
  refine BU (λ n s'=>∃i σ' H',Inv Xc [] σ' H' s'/\tn i s'.heap/\(∀b∈fp,H' b=none)/\W i n σ' H') ?_ m0 ⟨0,_,_,I4,st4,λ b hb=>(f3 b hb).1,w0⟩;rintro n s5 ⟨i,σ5,H5,I5,st5,fr5,w5⟩;rcases turn i n σ5 H5 w5 with⟨stop,qn⟩|⟨go,N,hN,step⟩
  . have q:=T.done Xc xP xW xK xc i [] s5 σ5 H5 (λ _ _=>False) I5 (fpc fr5) st5 stop;rw[xA]at q;refine cJ q λ r s6 ⟨hr,I6⟩=>?_;subst hr;obtain⟨m,hm,_⟩:=I6.loc;rw[xE]at hm;have free6:H5 s3.heap.objs.size=none:=by have:=I6.free;rw[xE]at this;exact this
    have un6:Un (qK X.stack) fp (upd H2 s2.heap.objs.size (.lst [])) H5 s3.heap s6.heap:=by have:=I6.base;rw[<-hXc]at this;exact this
    have os6:s6.os=s3.os:=by have:=I6.os;rw[<-hXc]at this;exact this
    have hok6:iQ X.prog X.w H5 s6.heap:=by have:=I6.aL;rw[xP,xW]at this;exact this
    have J:=I3.Di (s':=s6) (ch:=fp) os6 un6 hok6 I6.bare λ b hb=>⟨(f3 b hb).2.2.2.1,(f3 b hb).2.1,(f3 b hb).2.2.2.2.1,(f3 b hb).2.2.2.2.2⟩
    exact fin _ _ s6 H5 m hm (I3.vI (R_ _) free6) J qn
  . have q:=T.item Xc xP xW xK xc i [] s5 σ5 H5 (λ _ _=>False) I5 (fpc fr5) st5 go;rw[xA]at q;refine cJ q λ r s6 ⟨u,hr,h6⟩=>?_;subst hr;refine cJ h6 λ _ s7 ⟨x,H7,I7,r7,y7,st7,fr7⟩=>?_;have I7':=I7.pinned (fpc fr7) (T.obj _ _ st7);have q8:=hgc _ s7 σ5 H7 x u _ I7' r7 (step x H7 y7);rw[xP,xW,xA,xE,xx]at q8;refine cJ q8 λ _ s8 ⟨σ8,H8,I8,q8⟩=>?_;have q9:=htc _ s8 σ8 H8 _ I8 q8;rw[xP,xW,xA,xE,xx]at q9;refine cJ q9 λ b s9 ⟨H9,I9,q9⟩=>?_
    have again:∀ {H':Hp} {s':Shared},Inv Xc ([]++tN fp s7.heap) σ8 H' s'->N σ8 H'->∃m,m<n/\∃i σ' H',Inv Xc [] σ' H' s'/\tn i s'.heap/\(∀b∈fp,H' b=none)/\W i m σ' H':=λ{H' s'} J nn=>by
     obtain⟨m',hm,w7⟩:=hN σ8 H' nn;refine⟨m',hm,i+1,σ8,H',J.ix,T.keep _ _ _ st7 λ b hb o e=>(J.pin (b,o) (So _ (So _ (nU hb e)))).1,λ b hb=>?_,w7⟩;obtain⟨o,e,d⟩:=T.obj _ _ st7 b hb;exact(J.pin (b,o) (So _ (So _ (nU hb e)))).2.1
    cases b with
    |false=>exact again I9 q9
    |true=>
     have qe:=hec _ s9 σ8 H9 _ I9 q9;rw[xP,xW,xA,xE,xx]at qe;refine cJ qe λ y s10 ⟨vy,H10,I10,ry,ys,hy,hlt,qN⟩=>?_;have qa:=yO (X:=Xc) _ s10 σ8 H10 (.ref s2.heap.objs.size) [vy] (.ref s2.heap.objs.size) [y] (λ _ H'=>N σ8 H') I10 rfl (.cons ry .nil) ⟨_,ys,vy,rfl,rfl,hy,hlt,qN⟩;rw[xP,xW,xA,xx]at qa;exact cJ qa λ _ s11 ⟨_,H11,I11,_,q11⟩=>again I11 q11
 refine codeAny_compStart_list ?_ ?_
 . exact loop
 . exact T.self _ 0 _ _ _ st4 loop
def CY{elt tg iter:Expr}{ifs:List Expr}{wi:TI}{g:TG}{c:TT}{te:TE}{pos:Pos}(hx:X.xe=λ _ _=>False)(hc:X.calm=true)(S:aW X scope Nc fr)(hi:PI X tg iter wi)
 (hg:∀C s H ex,PG (fS X scope Nc C s H ex) tg g) (ht:∀C s H ex,tY (fS X scope Nc C s H ex) ifs c) (he:∀C s H ex,PE (fS X scope Nc C s H ex) elt te)
 (hs:∀x,foldedSetIterable iter X.env x=pure x:=by intro _;rfl):PE X (.ListComp elt [⟨tg,iter,ifs,0⟩] scope pos) (uN wi fr g c te):=by
 intro pins s σ H Q I h;rw[eval_ListComp];have hcl:closureFor scope X.env=pure (dW X.env.cells scope.names []):=nC λ x hx hk=>I.ok.has x.1 (S.free x hx hk);refine W8 rfl hs hcl S.kind S.names ?_;exact wI (RR:=λ acc C=>compPost (model X.prog X.w) X.A X.xe none (EP X pins σ Q) acc C) hx hc S hi hg ht he I h λ l C s6 H5 m hm f J q=>⟨m,hm,λ h'' hs''=>⟨.ref l,H5,Inv.forget J f hs'',rfl,q⟩⟩
def Cv{elt tg iter:Expr}{ifs:List Expr}{wi:TI}{g:TG}{c:TT}{te:TE}{pos pos' spos:Pos}{i:Nat}{x:Str}(hx:X.xe=λ _ _=>False)(hc:X.calm=true)(S:aW X scope Nc fr)(hi:PI X tg iter wi)
 (hg:∀C s H ex,PG (fS X scope Nc C s H ex) tg g) (ht:∀C s H ex,tY (fS X scope Nc C s H ex) ifs c) (he:∀C s H ex,PE (fS X scope Nc C s H ex) elt te) (hN:X.N.Nodup) (hni:X.N[i]?=some x) (hl:Loc X.env.scope x) (hf:X.fn x=true\/X.env.scope.names.lookup x=some .local)
 (hsw:swapsWith (.ListComp elt [⟨tg,iter,ifs,0⟩] scope pos) (some (.Name x pos')) spos.line X.env=pure true)
 (hs:∀x,foldedSetIterable iter X.env x=pure x:=by intro _;rfl):PS X (.Assign [.Name x pos'] (.ListComp elt [⟨tg,iter,ifs,0⟩] scope pos) spos) (o9 (uN wi fr g c te) (mS i)):=by
 intro pins s σ H D I h;have hcl:closureFor scope X.env=pure (dW X.env.cells scope.names []):=nC λ x hx hk=>I.ok.has x.1 (S.free x hx hk);rw[exec_Assign_Name_used _ _ _ _ hsw];refine Sa (Wd (Sa ?_));show wpAny _ X.A (do let _ <-comprehension (.ListComp elt [⟨tg,iter,ifs,0⟩] scope pos) scope X.env _ (newList []) false (eval iter X.env) (some (assign (.Name x pos') X.env))) _ _ s
 refine Sa (Uv (W8 (use:=some (assign (.Name x pos') X.env)) (Q:=λ _ s'=>SP X pins D .next s') rfl hs hcl S.kind S.names
  (wI (RR:=λ acc C=>compPost (model X.prog X.w) X.A X.xe (some (assign (.Name x pos') X.env)) (λ _ s'=>SP X pins D .next s') acc C) hx hc S hi hg ht he I h λ l C s6 H5 m hm f J q=>?_)) (λ _ s' hq=>Sn (Sn hq)) λ _ _ e=>e)
 show wpAny _ X.A (assign (.Name x pos') X.env (.ref l)) _ _ _;refine wpAny_assign_Name (yS J hN hni hl (show RelV (.ref l) (.ref l)from rfl) (λ s7 J7 hch=>?_) hf);obtain⟨a,hsame,ha⟩:=hch
 have hCa:C≠a:=by
  rcases ha with rfl|ha
  . exact f.2.1
  . exact λ z=>f.2.2.2.2.1 x a ha z.symm
 refine⟨m,hm.sameBut hsame hCa,λ h'' hs''=>⟨σ.set i (some (.ref l)),H5,Inv.forget J7 f hs'',q⟩⟩
end
inductive D where
 |aG|bl (b:Bool)|int (i:Int)|str (x:Str)|ty (n:String)|ref (n:Nat)|lst (xs:List D)|tup (xs:List D)
inductive Cell where
 |lst (xs:List D)|ins (C:Addr) (fs:List (Str×D))|dead
  |tab (P:Addr) (pos:Pos) (qual:Str) (b:Bool)
abbrev ag:=List Cell
abbrev cm:=List (Option D)
mutual
def Rep(α:List (Option Addr))(H:Hp):D->V->Prop
 | .aG,v=>v= .aG
 | .bl b,v=>v= .bl b
 | .int i,v=>v= .int i
 | .str x,v=>v= .str x
 | .ty n,v=>v= .ty n
 | .ref n,v=>α[n]?=some none\/∃a,α[n]?=some (some a)/\v= .ref a
 | .lst xs,v=>∃a vs,v= .ref a/\some a∉α/\Rd H a (.lst vs)/\aN α H xs vs
 | .tup xs,v=>∃a vs,v= .ref a/\some a∉α/\H a=some (.tup vs)/\aN α H xs vs
def aN(α:List (Option Addr))(H:Hp):List D->List V->Prop
 | [],vs=>vs=[]
 |d::ds,vs=>∃v r,vs=v::r/\Rep α H d v/\aN α H ds r
end
def aT{α:List (Option Addr)}{H:Hp}:∀ {ds:List D} {vs:List V},aN α H ds vs↔Paired (Rep α H) ds vs
 | [],vs=>by
   unfold aN;constructor
   . rintro rfl;exact .nil
   . intro h;cases h;rfl
 |d::ds,vs=>by
  unfold aN;constructor
  . rintro⟨v,r,rfl,h1,h2⟩;exact .cons h1 (aT.mp h2)
  . intro h;cases h with|cons h1 h2=>exact⟨_,_,rfl,h1,aT.mpr h2⟩
section
variable {α:List (Option Addr)}{H:Hp}
def aN.length{ds:List D}{vs:List V}(h:aN α H ds vs):ds.length=vs.length:=Paired.length (aT.mp h)
def wq{A B:Type}{F:A->B->Prop}:∀ {xs:List A} {ys:List B} {i:Nat} {x:A},Paired F xs ys->xs[i]?=some x->∃y,ys[i]?=some y/\F x y
 |_,_,_,_,.nil,e=>by simp at e
 |_,_,0,_,.cons r _,e=>by simp at e;subst e;exact⟨_,rfl,r⟩
 |_,_,i+1,x,.cons _ t,e=>by
  obtain⟨u,h1,h2⟩:=wq (i:=i) (x:=x) t (by simpa using e);exact⟨u,by simpa using h1,h2⟩
def fD{A B:Type}{F:A->B->Prop}:∀ {xs xs':List A} {ys ys':List B},Paired F xs ys->Paired F xs' ys'->Paired F (xs++xs') (ys++ys')
 |_,_,_,_,.nil,s=>s
 |_,_,_,_,.cons r t,s=> .cons r (fD t s)
def u7{A B:Type}{F:A->B->Prop}:∀ {xs:List A} {ys:List B} (n:Nat),Paired F xs ys->Paired F (xs.take n) (ys.take n)
 |_,_,0,_=> .nil
 |_,_,_+1,.nil=> .nil
 |_,_,n+1,.cons r t=> .cons r (u7 n t)
def uY{A B:Type}{F:A->B->Prop}:∀ {xs:List A} {ys:List B} (n:Nat),Paired F xs ys->Paired F (xs.drop n) (ys.drop n)
 |_,_,0,r=>r
 |_,_,_+1,.nil=> .nil
 |_,_,n+1,.cons _ t=>uY n t
def wG{A B:Type}{F:A->B->Prop}{x:A}{y:B}(r:F x y):∀ {xs:List A} {ys:List B} (i:Nat),Paired F xs ys->Paired F (xs.set i x) (ys.set i y)
 |_,_,_,.nil=> .nil
 |_,_,0,.cons _ t=> .cons r t
 |_,_,i+1,.cons q t=> .cons q (wG r i t)
def mM{A B:Type}{F:A->B->Prop}{xs:List A}{ys:List B}(h:Paired F xs ys):∀k:Nat,Paired F (List.replicate k xs).flatten (List.replicate k ys).flatten
 |0=> .nil
 |k+1=>by
  rw[TQ,TQ,Uq,Uq];exact fD h (mM h k)
def aN.get{ds:List D}{vs:List V}{i:Nat}{d:D}(h:aN α H ds vs)(e:ds[i]?=some d):∃v,vs[i]?=some v/\Rep α H d v:=wq (aT.mp h) e
end
structure Step(α:List (Option Addr))(H:Hp)(α':List (Option Addr))(H':Hp):Prop where
 ext:∀b o,some b∉α->H b=some o->H' b=some o
 pre:∀(n:Nat) (x:Option Addr),α[n]?=some x->α'[n]?=some x\/α'[n]?=some none
 new:∀b,some b∈α'->some b∉α->H b=none
def Step.refl{α:List (Option Addr)}{H:Hp}:Step α H α H:=⟨λ _ _ _ h=>h,λ _ _ h=> .inl h,λ _ h n=>absurd h n⟩
def Step.trans{α α1 α2:List (Option Addr)}{H H1 H2:Hp}(a:Step α H α1 H1)(b:Step α1 H1 α2 H2):Step α H α2 H2 where
 ext:=λ c o hc e=>b.ext c o (λ z=>by rw[a.new c z hc]at e;cases e) (a.ext c o hc e)
 pre:=λ n x e=>by
  rcases a.pre n x e with h|h
  . exact b.pre n x h
  . rcases b.pre n none h with h'|h'
    . exact .inr h'
    . exact .inr h'
 new:=λ c hc n=>by
  by_cases h1:some c∈α1
  . exact a.new c h1 n
  . have:=b.new c hc h1;cases q:H c with
    |none=>rfl
    |some o=>rw[a.ext c o n q]at this;cases this
def Step.laid{α:List (Option Addr)}{H:Hp}{p:Addr}{o:HO}(h:H p=none):Step α H α (upd H p o):=
 ⟨λ b u _ e=>by rw[aA (d_ e h)];exact e,λ _ _ h=> .inl h,λ _ h n=>absurd h n⟩
def Step.cell{α:List (Option Addr)}{H:Hp}{p:Addr}{o:HO}(h:H p=none):Step α H (α++[some p]) (upd H p o):=
 ⟨λ b u _ e=>by rw[aA (d_ e h)];exact e,λ n x e=> .inl (by rw[Sk (Sg.mp e).1];exact e),λ b hb n=>by
  rcases SE.mp hb with z|z
  . exact absurd z n
  . have:b=p:=by simpa using z
    subst this;exact h⟩
def Step.write{α:List (Option Addr)}{H:Hp}{p:Addr}{o:HO}(h:some p∈α):Step α H α (upd H p o):=
 ⟨λ b u n e=>by rw[aA (λ z=>by subst z;exact n h)];exact e,λ _ _ h=> .inl h,λ _ h n=>absurd h n⟩
mutual
def Rep.step{α α':List (Option Addr)}{H H':Hp}(s:Step α H α' H'):∀ {d:D} {v:V},Rep α H d v->Rep α' H' d v
 | .aG,_,h=>by unfold Rep at h⊢;exact h
 | .bl _,_,h=>by unfold Rep at h⊢;exact h
 | .int _,_,h=>by unfold Rep at h⊢;exact h
 | .str _,_,h=>by unfold Rep at h⊢;exact h
 | .ty _,_,h=>by unfold Rep at h⊢;exact h
 | .ref n,_,h=>by
   unfold Rep at h⊢;rcases h with h|⟨a,e,r⟩
   . rcases s.pre _ _ h with z|z<;>exact .inl z
   . rcases s.pre _ _ e with z|z
     . exact .inr ⟨a,z,r⟩
     . exact .inl z
 | .lst xs,_,h=>by
   unfold Rep at h⊢;obtain⟨a,vs,e,n,r,q⟩:=h;refine⟨a,vs,e,λ z=>?_,?_,aN.step s q⟩
   . have:=s.new a z n;rcases r with r|⟨o,r⟩<;>(rw[this]at r;cases r)
   . rcases r with r|⟨o,r⟩
     . exact .inl (s.ext _ _ n r)
     . exact .inr ⟨o,s.ext _ _ n r⟩
 | .tup xs,_,h=>by
   unfold Rep at h⊢;obtain⟨a,vs,e,n,r,q⟩:=h;exact⟨a,vs,e,(λ z=>by rw[s.new a z n]at r;exact nomatch r),s.ext _ _ n r,aN.step s q⟩
def aN.step{α α':List (Option Addr)}{H H':Hp}(s:Step α H α' H'):∀ {ds:List D} {vs:List V},aN α H ds vs->aN α' H' ds vs
 | [],_,h=>by unfold aN at h⊢;exact h
 |d::ds,_,h=>by
  unfold aN at h⊢;obtain⟨v,r,e,h1,h2⟩:=h;exact⟨v,r,e,Rep.step s h1,aN.step s h2⟩
end
structure cO(G F H:Hp):Prop where
 eq:∀b,H b=(G b).or (F b)
 AZ:∀b o,G b=some o->F b=none
section
variable {G F H:Hp}
def cO.get(P:cO G F H){b:Addr}{o:HO}(h:G b=some o):H b=some o:=by rw[P.eq b,h];rfl
def cO.same(P:cO G F H):Hf G H:=λ _ _ h=>P.get h
def cO.none(P:cO G F H){b:Addr}(h:H b=none):G b=none/\F b=none:=by
 have e:=P.eq b;rw[h]at e;cases q:G b with
 |none=>rw[q]at e;exact⟨rfl,e.symm⟩
 |some o=>rw[q]at e;cases e
def cO.frame(P:cO G F H){b:Addr}{o:HO}(h:F b=some o):H b=some o/\G b=Option.none:=by
 have hn:G b=Option.none:=by
  cases q:G b with
  |none=>rfl
  |some u=>rw[P.AZ b u q]at h;cases h
 exact⟨by rw[P.eq b,hn,h];rfl,hn⟩
def cO.laid(P:cO G F H){p:Addr}{o:HO}(h:H p=Option.none):cO (upd G p o) F (upd H p o):=by
 obtain⟨h1,h2⟩:=P.none h;refine⟨λ b=>?_,λ b u e=>?_⟩
 . by_cases hb:b=p
   . subst hb;rw[a6,a6];rfl
   . rw[aA hb,aA hb];exact P.eq b
 . by_cases hb:b=p
   . subst hb;exact h2
   . rw[aA hb]at e;exact P.AZ b u e
def cO.write(P:cO G F H){p:Addr}{o o':HO}(h:G p=some o):cO (upd G p o') F (upd H p o'):=by
 refine⟨λ b=>?_,λ b u e=>?_⟩
 . by_cases hb:b=p
   . subst hb;rw[a6,a6];rfl
   . rw[aA hb,aA hb];exact P.eq b
 . by_cases hb:b=p
   . subst hb;exact P.AZ b o h
   . rw[aA hb]at e;exact P.AZ b u e
def cO.hide(P:cO G F H){p:Addr}{o:HO}(h:H p=Option.none):cO G (upd F p o) (upd H p o):=by
 obtain⟨h1,h2⟩:=P.none h;refine⟨λ b=>?_,λ b u e=>?_⟩
 . by_cases hb:b=p
   . subst hb;rw[a6,a6,h1];rfl
   . rw[aA hb,aA hb];exact P.eq b
 . by_cases hb:b=p
   . subst hb;rw[h1]at e;cases e
   . rw[aA hb];exact P.AZ b u e
def cO.Jr(P:cO G F H){p:Addr}{o o':HO}(h:F p=some o):cO G (upd F p o') (upd H p o'):=by
 have h1:=(P.frame h).2;refine⟨λ b=>?_,λ b u e=>?_⟩
 . by_cases hb:b=p
   . subst hb;rw[a6,a6,h1];rfl
   . rw[aA hb,aA hb];exact P.eq b
 . by_cases hb:b=p
   . subst hb;rw[h1]at e;cases e
   . rw[aA hb];exact P.AZ b u e
def cO.show{p:Addr}{o:HO}(P:cO G (upd F p o) H)(h:F p=Option.none):cO (upd G p o) F H:=by
 have h1:=(P.frame (b:=p) a6)
 refine⟨λ b=>?_,λ b u e=>?_⟩
 . by_cases hb:b=p
   . subst hb;rw[a6,h1.1];rfl
   . rw[aA hb,P.eq b,aA hb]
 . by_cases hb:b=p
   . subst hb;exact h
   . rw[aA hb]at e;have:=P.AZ b u e;rw[aA hb]at this;exact this
end
mutual
def Rep.mono{α:List (Option Addr)}{G H:Hp}(s:Hf G H):∀ {d:D} {v:V},Rep α G d v->Rep α H d v
 | .aG,_,h=>by unfold Rep at h⊢;exact h
 | .bl _,_,h=>by unfold Rep at h⊢;exact h
 | .int _,_,h=>by unfold Rep at h⊢;exact h
 | .str _,_,h=>by unfold Rep at h⊢;exact h
 | .ty _,_,h=>by unfold Rep at h⊢;exact h
 | .ref n,_,h=>by unfold Rep at h⊢;exact h
 | .lst xs,_,h=>by
   unfold Rep at h⊢;obtain⟨a,vs,e,n,r,q⟩:=h;refine⟨a,vs,e,n,?_,aN.mono s q⟩;rcases r with r|⟨o,r⟩
   . exact .inl (s _ _ r)
   . exact .inr ⟨o,s _ _ r⟩
 | .tup xs,_,h=>by
   unfold Rep at h⊢;obtain⟨a,vs,e,n,r,q⟩:=h;exact⟨a,vs,e,n,s _ _ r,aN.mono s q⟩
def aN.mono{α:List (Option Addr)}{G H:Hp}(s:Hf G H):∀ {ds:List D} {vs:List V},aN α G ds vs->aN α H ds vs
 | [],_,h=>by unfold aN at h⊢;exact h
 |d::ds,_,h=>by
  unfold aN at h⊢;obtain⟨v,r,e,h1,h2⟩:=h;exact⟨v,r,e,Rep.mono s h1,aN.mono s h2⟩
end
def kD(α:List (Option Addr))(H:Hp):List (Str×D)->List (Str×V)->Prop:=Paired λ p q=>p.1=q.1/\Rep α H p.2 q.2
def lD(α:List (Option Addr))(H:Hp)(a:Addr):Cell->Prop
 | .lst xs=>∃vs,H a=some (.lst vs)/\aN α H xs vs
 | .ins C fs=>∃dx vs,H a=some (.ins C dx vs)/\kD α H fs vs
 | .dead=>False
 | .tab P pos qual b=>a=P/\∃ps:Array Value,H a=some (.kZ ps)/\TriplesOk ps.toList/\
    ((b=false/\codeAmong pos ps.toList=none)\/(b=true/\∃c o vs t,codeAmong pos ps.toList=some (.ref c)/\some c∉α/\H c=some (.g4 o (.own c))/\o.data= .fields vs/\vs[1]?=some (.str qual t)))
structure aX(α:List (Option Addr))(st:ag)(H:Hp):Prop where
 len:α.length=st.length
 nd:∀(i j:Nat) (a:Addr),α[i]?=some (some a)->α[j]?=some (some a)->i=j
 at':∀(n:Nat) (c:Cell),st[n]?=some c->(c= .dead/\α[n]?=some none)\/∃a,α[n]?=some (some a)/\lD α H a c
def kD.step{α α':List (Option Addr)}{H H':Hp}(s:Step α H α' H'){ds:List (Str×D)}{vs:List (Str×V)}(h:kD α H ds vs):kD α' H' ds vs:=Paired.Hl h λ _ _ z=>⟨z.1,z.2.step s⟩
def lD.same{α α':List (Option Addr)}{H H':Hp}{a:Addr}{c:Cell}(s:Step α H α' H')(e:H' a=H a)(h:lD α H a c):lD α' H' a c:=by
 cases c with
 |lst xs=>obtain⟨vs,h1,h2⟩:=h;exact⟨vs,e.trans h1,h2.step s⟩
 |ins C fs=>obtain⟨dx,vs,h1,h2⟩:=h;exact⟨dx,vs,e.trans h1,h2.step s⟩
 |dead=>exact h.elim
 |tab P pos qual b=>
  obtain⟨z,ps,h1,h2,h3⟩:=h;refine⟨z,ps,e.trans h1,h2,?_⟩;rcases h3 with h3|⟨hb,c,o,vs,t,q1,q2,q3,q4⟩
  . exact .inl h3
  . exact .inr ⟨hb,c,o,vs,t,q1,(λ y=>by rw[s.new c y q2]at q3;cases q3),s.ext c _ q2 q3,q4⟩
def lD.some{α:List (Option Addr)}{H:Hp}{a:Addr}{c:Cell}(h:lD α H a c):∃o,H a=some o:=by
 cases c with
 |lst xs=>obtain⟨vs,h1,h2⟩:=h;exact⟨_,h1⟩
 |ins C fs=>obtain⟨dx,vs,h1,h2⟩:=h;exact⟨_,h1⟩
 |dead=>exact h.elim
 |tab P pos qual b=>obtain⟨_,ps,h1,_⟩:=h;exact⟨_,h1⟩
def eQ{α:List (Option Addr)}{H:Hp}{n:Nat}{v:V}{a:Addr}(e:α[n]?=Option.some (Option.some a))(r:Rep α H (.ref n) v):v= .ref a:=by
 unfold Rep at r;rcases r with r|⟨b,eb,rfl⟩
 . rw[e]at r;cases r
 . rw[e]at eb;cases eb;rfl
section
variable {α:List (Option Addr)}{st:ag}{H:Hp}
def aX.g5(S:aX α st H){n:Nat}{xs:List D}(e:st[n]?=Option.some (.lst xs)):∃a,α[n]?=Option.some (Option.some a)/\∃vs,H a=Option.some (.lst vs)/\aN α H xs vs:=by
 rcases S.at' n _ e with⟨z,_⟩|z
 . cases z
 . exact z
def aX.ze(S:aX α st H){n:Nat}{C:Addr}{fs:List (Str×D)}(e:st[n]?=Option.some (.ins C fs)):∃a,α[n]?=Option.some (Option.some a)/\∃dx vs,H a=Option.some (.ins C dx vs)/\kD α H fs vs:=by
 rcases S.at' n _ e with⟨z,_⟩|z
 . cases z
 . exact z
def aX.mem(S:aX α st H){a:Addr}(h:Option.some a∈α):∃(n:Nat) (c:Cell),α[n]?=Option.some (Option.some a)/\st[n]?=Option.some c/\lD α H a c:=by
 obtain⟨n,hn,e⟩:=SV.mp h;have hl:n<st.length:=by rw[<-S.len];exact hn
 have e':α[n]?=Option.some (Option.some a):=by rw[Sm hn,e]
 rcases S.at' n st[n] (by simp[hl])with⟨_,q⟩|⟨a',q,ca⟩
 . rw[e']at q;cases q
 . rw[e']at q;cases q;exact⟨n,_,e',by simp[hl],ca⟩
def aX.ll(S:aX α st H){p:Addr}(h:H p=none):Option.some p∉α:=λ z=>by
 obtain⟨n,c,_,_,ca⟩:=S.mem z;obtain⟨o,e⟩:=ca.some;rw[h]at e;cases e
def aX.laid(S:aX α st H){p:Addr}{o:HO}(h:H p=none):aX α st (upd H p o):=
 ⟨S.len,S.nd,λ n c e=>by
  rcases S.at' n c e with z|⟨a,q,ca⟩
  . exact .inl z
  . exact .inr ⟨a,q,ca.same (Step.laid h) (aA (by obtain⟨u,z⟩:=ca.some;exact d_ z h))⟩⟩
def aX.cell(S:aX α st H){p:Addr}{o:HO}{c:Cell}(h:H p=none)(hc:lD (α++[Option.some p]) (upd H p o) p c):aX (α++[Option.some p]) (st++[c]) (upd H p o) where
 len:=by rw[TB,TB,S.len];rfl
 nd:=λ i j a ei ej=>by
  have key:∀(i:Nat) (a:Addr),(α++[Option.some p])[i]?=Option.some (Option.some a)->(i<α.length/\α[i]?=Option.some (Option.some a))\/(i=α.length/\a=p):=by
   intro i a e;by_cases hi:i<α.length
   . rw[Sk hi]at e;exact .inl ⟨hi,e⟩
   . rw[S7 (Ux hi)]at e
     have h0:i-α.length=0:=by
      cases q:i-α.length with
      |zero=>rfl
      |succ k=>rw[q]at e;simp at e
     rw[h0]at e;have:p=a:=by simpa using e
     exact .inr ⟨by omega,this.symm⟩
  rcases key i a ei with⟨h1,e1⟩|⟨h1,e1⟩<;>rcases key j a ej with⟨h2,e2⟩|⟨h2,e2⟩
  . exact S.nd i j a e1 e2
  . subst e2;exact absurd (S8 e1) (S.ll h)
  . subst e1;exact absurd (S8 e2) (S.ll h)
  . omega
 at':=λ n d e=>by
  by_cases hn:n<st.length
  . rw[Sk hn]at e;have hl:n<α.length:=by rw[S.len];exact hn
    rcases S.at' n d e with⟨z,q⟩|⟨a,q,ca⟩
    . exact .inl ⟨z,by rw[Sk hl];exact q⟩
    . exact .inr ⟨a,by rw[Sk hl];exact q,ca.same (Step.cell h) (aA (by obtain⟨u,z⟩:=ca.some;exact d_ z h))⟩
  . rw[S7 (Ux hn)]at e
    have h0:n-st.length=0:=by
     cases q:n-st.length with
     |zero=>rfl
     |succ k=>rw[q]at e;simp at e
    rw[h0]at e;have hd:c=d:=by simpa using e
    subst hd;refine .inr ⟨p,?_,hc⟩;rw[S7 (by rw[S.len];exact Ux hn),S.len,h0];rfl
def aX.write(S:aX α st H){p:Addr}{o:HO}{c:Cell}{n:Nat}(e:α[n]?=Option.some (Option.some p))(hc:lD α (upd H p o) p c):aX α (st.set n c) (upd H p o) where
 len:=by rw[SO];exact S.len
 nd:=S.nd
 at':=λ m d q=>by
  have hp:Option.some p∈α:=S8 e;by_cases hm:m=n
  . subst hm
    have hl:m<st.length:=by
     have:=(Sg.mp q).1;rw[SO]at this;exact this
    rw[Sy hl]at q;cases q;exact .inr ⟨p,e,hc⟩
  . rw[Sj (Sq hm)]at q;rcases S.at' m d q with z|⟨a,r,ca⟩
    . exact .inl z
    . refine .inr ⟨a,r,ca.same (Step.write hp) (aA λ z=>?_)⟩;subst z;exact hm (S.nd m n _ r e)
end
abbrev DK:=D->ag->Prop
abbrev DE:=cm->ag->DK->Prop
abbrev DT:=cm->ag->(Bool->ag->Prop)->Prop
abbrev DA:=cm->ag->(List D->ag->Prop)->Prop
structure oi where
 nx:cm->ag->Prop
 rt:DK
 bk:cm->ag->Prop:=λ _ _=>False
 ct:cm->ag->Prop:=λ _ _=>False
abbrev DS:=oi->cm->ag->Prop
structure fu(α:List (Option Addr))(H:Hp)(σd:cm)(σ:L2.St):Prop where
 len:σd.length=σ.length
 at':∀(i:Nat) (d:D),σd[i]?=some (some d)->∃v,σ[i]?=some (some v)/\Rep α H d v
def fu.step{α α':List (Option Addr)}{H H':Hp}{σd:cm}{σ:L2.St}(s:Step α H α' H')(h:fu α H σd σ):fu α' H' σd σ:=
 ⟨h.len,λ i d e=>let⟨v,q,r⟩:=h.at' i d e;⟨v,q,r.step s⟩⟩
def fu.set{α:List (Option Addr)}{H:Hp}{σd:cm}{σ:L2.St}(h:fu α H σd σ)(i:Nat){d:D}{v:V}(r:Rep α H d v):fu α H (σd.set i (some d)) (σ.set i (some v)):=by
 refine⟨by rw[SO,SO,h.len],λ j e q=>?_⟩;have hl:=h.len;by_cases hj:j=i
 . subst hj
   have hlt:j<σd.length:=by
    have:=(Sg.mp q).1;rw[SO]at this;exact this
   rw[Sy hlt]at q;cases q;exact⟨v,Sy (by omega),r⟩
 . rw[Sj (Sq hj)]at q;rw[Sj (Sq hj)];exact h.at' j e q
def LK(α:List (Option Addr))(G F:Hp)(K:DK)(Q:VK):Prop:=∀d st',K d st'->∀α' G' H' v,Step α G α' G'->cO G' F H'->aX α' st' G'->Rep α' G' d v->Q v H'
def II(α:List (Option Addr))(G F:Hp)(K:Bool->ag->Prop)(Q:Bool->Hp->Prop):Prop:=∀b st',K b st'->∀α' G' H',Step α G α' G'->cO G' F H'->aX α' st' G'->Q b H'
def RE(α:List (Option Addr))(G F:Hp)(K:List D->ag->Prop)(Q:List V->Hp->Prop):Prop:=∀ds st',K ds st'->∀α' G' H' vs,Step α G α' G'->cO G' F H'->aX α' st' G'->aN α' G' ds vs->Q vs H'
inductive Qz(t:DE)(σ:L2.St)(H:Hp)(Q:VK):Prop
 |mk (α:List (Option Addr)) (σd:cm) (st:ag) (K:DK) (G F:Hp) (P:cO G F H) (R:fu α G σd σ) (S:aX α st G) (h:t σd st K) (k:LK α G F K Q):Qz t σ H Q
def LE(t:DE):TE:=Qz t
inductive Qp(t:DT)(σ:L2.St)(H:Hp)(Q:Bool->Hp->Prop):Prop
 |mk (α:List (Option Addr)) (σd:cm) (st:ag) (K:Bool->ag->Prop) (G F:Hp) (P:cO G F H) (R:fu α G σd σ) (S:aX α st G) (h:t σd st K) (k:II α G F K Q):Qp t σ H Q
def LT(t:DT):TT:=Qp t
inductive Qy(t:DA)(σ:L2.St)(H:Hp)(Q:List V->Hp->Prop):Prop
 |mk (α:List (Option Addr)) (σd:cm) (st:ag) (K:List D->ag->Prop) (G F:Hp) (P:cO G F H) (R:fu α G σd σ) (S:aX α st G) (h:t σd st K) (k:RE α G F K Q):Qy t σ H Q
def LA(t:DA):TA:=Qy t
def LK.here{α:List (Option Addr)}{G F H:Hp}{K:DK}{Q:VK}(h:LK α G F K Q)(P:cO G F H){d:D}{st:ag}{v:V}(k:K d st)(S:aX α st G)(r:Rep α G d v):Q v H:=h d st k α G H v Step.refl P S r
def LK.at{α α1:List (Option Addr)}{G F G1:Hp}{K:DK}{Q:VK}(h:LK α G F K Q)(s:Step α G α1 G1):LK α1 G1 F K Q:=λ d st' k α' G' H' v s' P S r=>h d st' k α' G' H' v (s.trans s') P S r
def II.at{α α1:List (Option Addr)}{G F G1:Hp}{K:Bool->ag->Prop}{Q:Bool->Hp->Prop}(h:II α G F K Q)(s:Step α G α1 G1):II α1 G1 F K Q:=λ d st' k α' G' H' s' P S=>h d st' k α' G' H' (s.trans s') P S
section
variable {X:Cx}{a b c e:Expr}{es:List Expr}{ta tb tc te:DE}{pos:Pos}
def PE.imp{t t':TE}(h:PE X e t)(f:∀σ H Q,t' σ H Q->t σ H Q):PE X e t':=λ pins s σ H Q I q=>h pins s σ H Q I (f σ H Q q)
def PT.imp{t t':TT}(h:PT X e t)(f:∀σ H Q,t' σ H Q->t σ H Q):PT X e t':=λ pins s σ H Q I q=>h pins s σ H Q I (f σ H Q q)
def PW.imp{t t':TT}(h:PW X e t)(f:∀σ H Q,t' σ H Q->t σ H Q):PW X e t':=λ w pins s σ H Q I q=>h w pins s σ H Q I (f σ H Q q)
def PA.imp{t t':TA}(h:PA X es t)(f:∀σ H Q,t' σ H Q->t σ H Q):PA X es t':=λ p pins s σ H Q I q=>h p pins s σ H Q I (f σ H Q q)
def ae(i:Nat):DE:=λ σ st K=>match σ[i]? with|some (some d)=>K d st|_=>False
def dC(d:D):DE:=λ _ st K=>K d st
def PC{i:Nat}{x:Str}(h:PE X (.Name x pos) (M9 i)):PE X (.Name x pos) (LE (ae i)):=PE.imp h λ σ H Q ⟨α,σd,st,K,G,F,P,R,S,t,k⟩=>by
 unfold ae at t;split at t
 . rename_i d q;obtain⟨v,e,r⟩:=R.at' i d q;exact⟨v,e,k.here P t S r⟩
 . exact t.elim
def qE{v:V}{d:D}(h:PE X e (tC v))(r:∀α H,Rep α H d v):PE X e (LE (dC d)):=PE.imp h λ σ H Q ⟨α,σd,st,K,G,F,P,R,S,t,k⟩=>k.here P t S (r α G)
def Pp{i:Int}{j:Nat}:PE X (.Constant (.int i) j pos) (LE (dC (.int i))):=qE LJ λ _ _=>by unfold Rep;rfl
def Q5{i:Bool}{j:Nat}:PE X (.Constant (.bool i) j pos) (LE (dC (.bl i))):=qE O0 λ _ _=>by unfold Rep;rfl
def OE{i:Str}{j:Nat}:PE X (.Constant (.str i) j pos) (LE (dC (.str i))):=qE L8 λ _ _=>by unfold Rep;rfl
def OG{j:Nat}:PE X (.Constant .none j pos) (LE (dC .aG)):=qE Np λ _ _=>by unfold Rep;rfl
abbrev dy:=D->D->ag->DK->Prop
abbrev zZ:=D->ag->DK->Prop
abbrev fX:=List D->ag->DK->Prop
inductive Qu(r:dy)(x y:V)(H:Hp)(Q:VK):Prop
 |mk (α:List (Option Addr)) (d e:D) (st:ag) (K:DK) (G F:Hp) (P:cO G F H) (rx:Rep α G d x) (ry:Rep α G e y) (S:aX α st G) (h:r d e st K) (k:LK α G F K Q):Qu r x y H Q
def LR(r:dy):R2:=Qu r
inductive Ol(r:zZ)(x:V)(H:Hp)(Q:VK):Prop
 |mk (α:List (Option Addr)) (d:D) (st:ag) (K:DK) (G F:Hp) (P:cO G F H) (rx:Rep α G d x) (S:aX α st G) (h:r d st K) (k:LK α G F K Q):Ol r x H Q
def Iy(r:zZ):V->Hp->VK->Prop:=Ol r
inductive NJ(r:fX)(xs:List V)(H:Hp)(Q:VK):Prop
 |mk (α:List (Option Addr)) (ds:List D) (st:ag) (K:DK) (G F:Hp) (P:cO G F H) (rx:aN α G ds xs) (S:aX α st G) (h:r ds st K) (k:LK α G F K Q):NJ r xs H Q
def gJ(r:fX):List V->Hp->VK->Prop:=NJ r
def aw(r:dy)(ta tb:DE):DE:=λ σ st K=>ta σ st λ x st1=>tb σ st1 λ y st2=>r x y st2 K
def pD(r:zZ)(ta:DE):DE:=λ σ st K=>ta σ st λ x st1=>r x st1 K
def LE.op{r:dy}{σ:L2.St}{H:Hp}{Q:VK}(h:LE (aw r ta tb) σ H Q):FX (LR r) (LE ta) (LE tb) σ H Q:=by
 obtain⟨α,σd,st,K,G,F,P,R,S,t,k⟩:=h;refine⟨α,σd,st,_,G,F,P,R,S,t,λ d st1 q α1 G1 H1 v s1 P1 S1 r1=>?_⟩;refine⟨α1,σd,st1,_,G1,F,P1,R.step s1,S1,q,λ d2 st2 q2 α2 G2 H2 v2 s2 P2 S2 r2=>?_⟩;exact⟨α2,d,d2,st2,K,G2,F,P2,r1.step s2,r2,S2,q2,(k.at s1).at s2⟩
def LE.un{r:zZ}{σ:L2.St}{H:Hp}{Q:VK}(h:LE (pD r ta) σ H Q):Qn (Iy r) (LE ta) σ H Q:=by
 obtain⟨α,σd,st,K,G,F,P,R,S,t,k⟩:=h;refine⟨α,σd,st,_,G,F,P,R,S,t,λ d st1 q α1 G1 H1 v s1 P1 S1 r1=>?_⟩;exact⟨α1,d,st1,K,G1,F,P1,r1,S1,q,k.at s1⟩
def Q_{op:Operator}{r:dy}(ho:cx X (binaryOp op) (LR r))(ha:PE X a (LE ta))(hb:PE X b (LE tb)):PE X (.BinOp a op b pos) (LE (aw r ta tb)):=PE.imp (PD ho ha hb) λ _ _ _ h=>LE.op h
def QQ{op:UnaryOp}{r:zZ}(ho:CW X (unaryOp op) (Iy r))(ha:PE X a (LE ta)):PE X (.UnaryOp op a pos) (LE (pD r ta)):=PE.imp (PH ho ha) λ _ _ _ h=>LE.un h
def OH{op:CmpOp}{r:dy}(ho:cx X (compareOp op) (LR r))(ha:PE X a (LE ta))(hb:PE X b (LE tb))(hm:behindInMarks op b=false:=by first|exact cu _|rfl):PE X (.Compare a [op] [b] pos) (LE (aw r ta tb)):=PE.imp (Ks ho ha hb hm) λ _ _ _ h=>LE.op h
def bS(t:DE):DT:=λ σ st K=>t σ st λ d st1=>match d with| .bl b=>K b st1|_=>False
def LT.test{σ:L2.St}{H:Hp}{Q:Bool->Hp->Prop}(h:LT (bS te) σ H Q):LE te σ H λ x H'=>∃k,x= .bl k/\Q k H':=by
 obtain⟨α,σd,st,K,G,F,P,R,S,t,k⟩:=h;refine⟨α,σd,st,_,G,F,P,R,S,t,λ d st1 q α1 G1 H1 v s1 P1 S1 r1=>?_⟩;cases d with
 |bl b=>
  unfold Rep at r1;exact⟨b,r1,k b st1 q α1 G1 H1 s1 P1 S1⟩
 |_=>exact q.elim
def Og{op:CmpOp}{r:dy}(ho:cx X (compareOp op) (LR r))(ha:PE X a (LE ta))(hb:PE X b (LE tb))(hm:behindInMarks op b=false:=by first|exact cu _|rfl):PT X (.Compare a [op] [b] pos) (LT (bS (aw r ta tb))):=PT.imp (KP ho ha hb hm) λ σ H Q h=>by
 have q:=LT.test h;exact LE.op (Q:=λ x H'=>∃k,x= .bl k/\Q k H') q
def L0(he:PE X e (LE te))(hv:∀whole,isTrue e X.env whole=(do let v <-whole;standAt e.pos;holding [v] (truthy v)):=by intro _;rfl):PT X e (LT (bS te)):=PT.imp (Ou he hv) λ σ H Q h=>LT.test h
def nP(t:DT):DT:=λ σ st K=>t σ st λ b st1=>K (!b) st1
def zE(t u:DT):DT:=λ σ st K=>t σ st λ b st1=>if b=true then u σ st1 K else K false st1
def qk(t u:DT):DT:=λ σ st K=>t σ st λ b st1=>if b=true then K true st1 else u σ st1 K
def Oq{t:DT}(ha:PT X a (LT t)):PT X (.UnaryOp .Not a pos) (LT (nP t)):=PT.imp (NL ha) λ σ H Q ⟨α,σd,st,K,G,F,P,R,S,t,k⟩=>
 ⟨α,σd,st,_,G,F,P,R,S,t,λ b st1 q α1 G1 H1 s1 P1 S1=>k _ st1 q α1 G1 H1 s1 P1 S1⟩
def LT.and{t u:DT}{σ:L2.St}{H:Hp}{Q:Bool->Hp->Prop}(h:LT (zE t u) σ H Q):MI (LT t) (LT u) σ H Q:=by
 obtain⟨α,σd,st,K,G,F,P,R,S,t,k⟩:=h;refine⟨α,σd,st,_,G,F,P,R,S,t,λ b st1 q α1 G1 H1 s1 P1 S1=>?_⟩;cases b with
 |true=>exact⟨α1,σd,st1,K,G1,F,P1,R.step s1,S1,q,k.at s1⟩
 |false=>exact k _ st1 q α1 G1 H1 s1 P1 S1
def LT.or{t u:DT}{σ:L2.St}{H:Hp}{Q:Bool->Hp->Prop}(h:LT (qk t u) σ H Q):Qi (LT t) (LT u) σ H Q:=by
 obtain⟨α,σd,st,K,G,F,P,R,S,t,k⟩:=h;refine⟨α,σd,st,_,G,F,P,R,S,t,λ b st1 q α1 G1 H1 s1 P1 S1=>?_⟩;cases b with
 |false=>exact⟨α1,σd,st1,K,G1,F,P1,R.step s1,S1,q,k.at s1⟩
 |true=>exact k _ st1 q α1 G1 H1 s1 P1 S1
def K6{t:DT}(ha:PT X a (LT t)):PW X (.BoolOp .And [a] pos) (LT t):=pw_and1 ha
def N4{t:DT}(ha:PT X a (LT t)):PW X (.BoolOp .Or [a] pos) (LT t):=pw_or1 ha
def L4{t u:DT}(ha:PT X a (LT t))(hb:PW X (.BoolOp .And (b::es) pos) (LT u)):PW X (.BoolOp .And (a::b::es) pos) (LT (zE t u)):=PW.imp (pw_and ha hb) λ _ _ _ h=>LT.and h
def Pg{t u:DT}(ha:PT X a (LT t))(hb:PW X (.BoolOp .Or (b::es) pos) (LT u)):PW X (.BoolOp .Or (a::b::es) pos) (LT (qk t u)):=PW.imp (pw_or ha hb) λ _ _ _ h=>LT.or h
def CZ(ta tb:DE):DE:=λ σ st K=>ta σ st λ d st1=>match d with| .bl b=>if b=true then tb σ st1 K else K (.bl false) st1|_=>False
def D_(t:DT):DE:=λ σ st K=>t σ st λ b st1=>K (.bl (!b)) st1
def OL{op:BoolOp}(ha:PE X a (LE ta)):PE X (.BoolOp op [a] pos) (LE ta):=M1 ha
def OM(ha:PE X a (LE ta))(hb:PE X (.BoolOp .And (b::es) pos) (LE tb)):PE X (.BoolOp .And (a::b::es) pos) (LE (CZ ta tb)):=PE.imp (Nn ha hb) λ σ H Q ⟨α,σd,st,K,G,F,P,R,S,t,k⟩=>by
 refine⟨α,σd,st,_,G,F,P,R,S,t,λ d st1 q α1 G1 H1 v s1 P1 S1 r1=>?_⟩;cases d with
 |bl b=>
  unfold Rep at r1;refine⟨b,r1,?_⟩;cases b with
  |true=>exact⟨α1,σd,st1,K,G1,F,P1,R.step s1,S1,q,k.at s1⟩
  |false=>exact k _ st1 q α1 G1 H1 _ s1 P1 S1 (by unfold Rep;rfl)
 |_=>exact q.elim
def Oy(ha:PE X a (LE ta)):PE X (.UnaryOp .Not a pos) (LE (D_ (bS ta))):=PE.imp (Ml ha) λ σ H Q ⟨α,σd,st,K,G,F,P,R,S,t,k⟩=>by
 refine⟨α,σd,st,_,G,F,P,R,S,t,λ d st1 q α1 G1 H1 v s1 P1 S1 r1=>?_⟩;cases d with
 |bl b=>
  unfold Rep at r1;exact⟨b,r1,k _ st1 q α1 G1 H1 _ s1 P1 S1 (by unfold Rep;rfl)⟩
 |_=>exact q.elim
def ES(t:DT)(ta tb:DE):DE:=λ σ st K=>t σ st λ b st1=>if b=true then ta σ st1 K else tb σ st1 K
def OS{t:DT}(hc:PT X c (LT t))(ha:PE X a (LE ta))(hb:PE X b (LE tb)):PE X (.IfExp c a b pos) (LE (ES t ta tb)):=PE.imp (GY hc ha hb) λ σ H Q ⟨α,σd,st,K,G,F,P,R,S,t,k⟩=>by
 refine⟨α,σd,st,_,G,F,P,R,S,t,λ b st1 q α1 G1 H1 s1 P1 S1=>?_⟩;cases b with
 |true=>exact⟨α1,σd,st1,K,G1,F,P1,R.step s1,S1,q,k.at s1⟩
 |false=>exact⟨α1,σd,st1,K,G1,F,P1,R.step s1,S1,q,k.at s1⟩
def ak:DA:=λ _ st K=>K [] st
def af(ta:DE)(tr:DA):DA:=λ σ st K=>ta σ st λ x st1=>tr σ st1 λ xs st2=>K (x::xs) st2
def t7:PA X [] (LA ak):=PA.imp NO λ σ H Q ⟨α,σd,st,K,G,F,P,R,S,t,k⟩=>k [] st t α G H [] Step.refl P S (by unfold aN;rfl)
def qU{tr:DA}(ha:PE X e (LE te))(hr:PA X es (LA tr))(hs:starEach (e::es) X.env=(false,eval e X.env)::starEach es X.env:=by rfl):PA X (e::es) (LA (af te tr)):=PA.imp (J4 ha hr hs) λ σ H Q ⟨α,σd,st,K,G,F,P,R,S,t,k⟩=>by
 refine⟨α,σd,st,_,G,F,P,R,S,t,λ d st1 q α1 G1 H1 v s1 P1 S1 r1=>?_⟩;refine⟨α1,σd,st1,_,G1,F,P1,R.step s1,S1,q,λ ds st2 q2 α2 G2 H2 vs s2 P2 S2 r2=>?_⟩;exact k _ st2 q2 α2 G2 H2 (v::vs) (s1.trans s2) P2 S2 (by unfold aN;exact⟨v,vs,rfl,r1.step s2,r2⟩)
def jb(t:DA):DE:=λ σ st K=>t σ st λ ds st1=>ds.length<=sizeLine/\K (.tup ds) st1
def nD(t:DA):DE:=λ σ st K=>t σ st λ ds st1=>ds.length<=sizeLine/\K (.lst ds) st1
def Ax(t:DA):DE:=λ σ st K=>t σ st λ ds st1=>ds.length<=sizeLine/\K (.ref st1.length) (st1++[.lst ds])
def LK.tup{α:List (Option Addr)}{G F H:Hp}{K:DK}{Q:VK}{ds:List D}{vs:List V}{st:ag}{p:Addr}(k:LK α G F K Q)(P:cO G F H)(q:K (.tup ds) st)(S:aX α st G)(r:aN α G ds vs)(hp:H p=none):Q (.ref p) (upd H p (.tup vs)):=
 have hg:=(P.none hp).1
 k _ st q α _ _ _ (Step.laid hg) (P.laid hp) (S.laid hg) (by unfold Rep;exact⟨p,vs,rfl,S.ll hg,a6,r.step (Step.laid hg)⟩)
def LK.lst{α:List (Option Addr)}{G F H:Hp}{K:DK}{Q:VK}{ds:List D}{vs:List V}{st:ag}{p:Addr}(k:LK α G F K Q)(P:cO G F H)(q:K (.lst ds) st)(S:aX α st G)(r:aN α G ds vs)(hp:H p=none):Q (.ref p) (upd H p (.lst vs)):=
 have hg:=(P.none hp).1
 k _ st q α _ _ _ (Step.laid hg) (P.laid hp) (S.laid hg) (by unfold Rep;exact⟨p,vs,rfl,S.ll hg,.of a6,r.step (Step.laid hg)⟩)
def LK.new{α:List (Option Addr)}{G F H:Hp}{K:DK}{Q:VK}{ds:List D}{vs:List V}{st:ag}{p:Addr}(k:LK α G F K Q)(P:cO G F H)(q:K (.ref st.length) (st++[.lst ds]))(S:aX α st G)(r:aN α G ds vs)(hp:H p=none):Q (.ref p) (upd H p (.lst vs)):=
 have hg:=(P.none hp).1
 k _ _ q (α++[some p]) _ _ _ (Step.cell hg) (P.laid hp) (S.cell hg ⟨vs,a6,r.step (Step.cell hg)⟩) (by
  unfold Rep;refine .inr ⟨p,?_,rfl⟩;rw[S7 (by rw[S.len];exact R_ _),S.len,Ve];rfl)
def O_{n:Nat}{t:DA}(h:PA X es (LA t)):PE X (.Tuple es n pos) (LE (jb t)):=PE.imp (MK h) λ σ H Q ⟨α,σd,st,K,G,F,P,R,S,t,k⟩=>
 ⟨α,σd,st,_,G,F,P,R,S,t,λ ds st1 q α1 G1 H1 vs s1 P1 S1 r1=>⟨by rw[<-r1.length];exact q.1,λ p hp=>(k.at s1).tup P1 q.2 S1 r1 hp⟩⟩
def PK{t:DA}(h:PA X es (LA t)):PE X (.List es pos) (LE (nD t)):=PE.imp (F3 h) λ σ H Q ⟨α,σd,st,K,G,F,P,R,S,t,k⟩=>
 ⟨α,σd,st,_,G,F,P,R,S,t,λ ds st1 q α1 G1 H1 vs s1 P1 S1 r1=>⟨by rw[<-r1.length];exact q.1,λ p hp=>(k.at s1).lst P1 q.2 S1 r1 hp⟩⟩
def O9{t:DA}(h:PA X es (LA t)):PE X (.List es pos) (LE (Ax t)):=PE.imp (F3 h) λ σ H Q ⟨α,σd,st,K,G,F,P,R,S,t,k⟩=>
 ⟨α,σd,st,_,G,F,P,R,S,t,λ ds st1 q α1 G1 H1 vs s1 P1 S1 r1=>⟨by rw[<-r1.length];exact q.1,λ p hp=>(k.at s1).new P1 q.2 S1 r1 hp⟩⟩
abbrev cY:=List D->ag->DK->Prop
inductive Oa(T:cY)(vs:List V)(H:Hp)(Q:VK):Prop
 |mk (α:List (Option Addr)) (ds:List D) (st:ag) (K:DK) (G F:Hp) (P:cO G F H) (rx:aN α G ds vs) (S:aX α st G) (h:T ds st K) (k:LK α G F K Q):Oa T vs H Q
def c_(S:cY):Sp:=λ vs H Q _=>Oa S vs H Q
def aH(S:cY)(t:DA):DE:=λ σ st K=>t σ st λ ds st1=>S ds st1 K
def LE.call{S:cY}{t:DA}{σ:L2.St}{H:Hp}{Q:VK}(h:LE (aH S t) σ H Q):Ja (c_ S) [] E0 (LA t) σ H Q:=by
 obtain⟨α,σd,st,K,G,F,P,R,S,t,k⟩:=h;refine⟨α,σd,st,_,G,F,P,R,S,t,λ ds st1 q α1 G1 H1 vs s1 P1 S1 r1=>?_⟩;try dsimp only
 rw[TZ];exact⟨α1,ds,st1,K,G1,F,P1,r1,S1,q,k.at s1⟩
def MY{S:cY}{k:Nat}{f:Addr}{fd:FuncData}{ps:List Str}{x:Str}{p:Pos}{t:DA}(F:bN X.prog X.w X.K X.mg X.base c5 k f fd ps (c_ S))(hr:dg k X.A)(hg:Gl X x)(hm:X.mg x=some (.ref f))(hk:PySem.W.keepIn X.K (.ref f)=true)(hb:Binds X.K fd ps [])
 (ha:PA X (e::es) (LA t)) (hdb:(x==("__debug__":Str))=false:=by decide) (he:starEach (e::es) X.env=(false,eval e X.env)::starEach es X.env:=by rfl) (hpl:(backTo pos (starEach es X.env)).any (·.1)=false:=by rfl):
 PE X (.Call (.Name x p) (e::es) [] pos) (LE (aH S t)):=PE.imp (J5 F hr hg hm hk hb .nil DQ ha hdb he hpl) λ _ _ _ h=>LE.call h
def b_(r:fX)(t:DA):DE:=λ σ st K=>t σ st λ ds st1=>r ds st1 K
def LE.cb{r:fX}{t:DA}{σ:L2.St}{H:Hp}{Q:VK}(h:LE (b_ r t) σ H Q):M6 (gJ r) (LA t) σ H Q:=by
 obtain⟨α,σd,st,K,G,F,P,R,S,t,k⟩:=h;refine⟨α,σd,st,_,G,F,P,R,S,t,λ ds st1 q α1 G1 H1 vs s1 P1 S1 r1=>?_⟩;exact⟨α1,ds,st1,K,G1,F,P1,r1,S1,q,k.at s1⟩
end
section
variable {X:Cx}
def cx.imp{f:Value->Value->Sem Value}{r r':R2}(h:cx X f r)(k:∀x y H Q,r' x y H Q->r x y H Q):cx X f r':=λ pins s σ H x y v u Q I rx ry q=>h pins s σ H x y v u Q I rx ry (k x y H Q q)
def cD.imp{f:Value}{r r':List V->Hp->VK->Prop}(h:cD X f r)(k:∀xs H Q,r' xs H Q->r xs H Q):cD X f r':=λ pins s σ H xs us Q I rs q=>h pins s σ H xs us Q I rs (k xs H Q q)
def wH(C:Int->Int->Prop)(g:Int->Int->D):dy:=λ x y st K=>match x,y with| .int i,.int j=>C i j/\K (g i j) st|_,_=>False
def lO{f:Value->Value->Sem Value}{C:Int->Int->Prop}{g:Int->Int->D}{g':Int->Int->V}(hg:∀i j α H,Rep α H (g i j) (g' i j))(h:cx X f (rI C g')):cx X f (LR (wH C g)):=cx.imp h λ x y H Q ⟨α,d,e,st,K,G,F',P,r1,r2,S,q,k⟩=>by
 cases d<;>cases e<;>first
  |exact q.elim
  |(unfold Rep at r1 r2;exact⟨_,_,r1,r2,q.1,k.here P q.2 S (hg _ _ _ _)⟩)
abbrev T2:Int->Int->Prop:=λ _ _=>True
def zp{g:Int->Int->V}{f:Value->Value->Sem Value}(h:cx X f (yF g)):cx X f (rI T2 g):=cx.imp h λ x y H Q ⟨i,j,e1,e2,_,q⟩=>⟨i,j,e1,e2,q⟩
abbrev IX:dy:=wH T2 λ i j=> .int (i-j)
abbrev F8:dy:=wH (λ _ j=>j≠0/\j.natAbs.log2<9000) λ i j=> .int (i.fdiv j)
abbrev IF:dy:=wH (λ _ j=>j≠0) λ i j=> .int (i.fmod j)
abbrev Ir:dy:=wH Ik λ i j=> .int (i^j.toNat)
abbrev LX:dy:=wH T2 λ i j=> .bl (decide (i<j))
abbrev NQ:dy:=wH T2 λ i j=> .bl (decide (j<i))
abbrev Mq:dy:=wH T2 λ i j=> .bl (decide (j<=i))
def Qb:cx X (binaryOp .Sub) (LR IX):=lO (λ _ _ _ _=>by unfold Rep;rfl) (zp Nw)
def NH:cx X (binaryOp .FloorDiv) (LR F8):=lO (λ _ _ _ _=>by unfold Rep;rfl) (IM λ i j _ _ _ _ _ hc q=>floordiv_int hc.1 q (.inl (W9 hc.2)))
def P_:cx X (binaryOp .Mod) (LR IF):=lO (λ _ _ _ _=>by unfold Rep;rfl) Lb
def O3:cx X (binaryOp .Pow) (LR Ir):=lO (λ _ _ _ _=>by unfold Rep;rfl) MU
def QM:cx X (compareOp .Lt) (LR LX):=lO (λ _ _ _ _=>by unfold Rep;rfl) (zp Py)
def Q7:cx X (compareOp .Gt) (LR NQ):=lO (λ _ _ _ _=>by unfold Rep;rfl) (zp P9)
def QU:cx X (compareOp .GtE) (LR Mq):=lO (λ _ _ _ _=>by unfold Rep;rfl) (zp Qe)
def IW:zZ:=λ x st K=>match x with| .int i=>K (.int (-i)) st|_=>False
def Pj:CW X (unaryOp .USub) (Iy IW):=λ pins s σ H x v Q I rx ⟨α,d,st,K,G,F',P,r,S,q,k⟩=>by
 cases d<;>first
  |exact q.elim
  |(unfold Rep at r;exact MC pins s σ H x v Q I rx ⟨_,r,k.here P q S (by unfold Rep;rfl)⟩)
def Inv.sZ{pins:List (Addr×Obj)}{σ:L2.St}{H:Hp}{s:Shared}{l:Addr}{xs:List V}(I:Inv X pins σ H s)(h:Rd H l (.lst xs)):
 xs.length<=sizeLine/\∃(ao:List Value) (n:Nat),Vals xs ao/\xs.length=ao.length/\s.heap.get? l=some {cls:= .type "list",data:= .seq ao.toArray n}:=by
 obtain⟨z,ao,n,r,e⟩:=h.ok I.aL;exact⟨z,ao,n,r,r.length,e⟩
def fI{G F H:Hp}(P:cO G F H){a:Addr}{u:HO}(h:Rd G a u):Rd H a u:=by
 rcases h with h|⟨o,h⟩
 . exact .inl (P.get h)
 . exact .inr ⟨o,P.get h⟩
def xN:cx X (binaryOp .Add) (λ x y H Q=>∃l b xs zs,x= .ref l/\y= .ref b/\Rd H l (.lst xs)/\Rd H b (.lst zs)/\xs.length+zs.length<=sizeLine/\∀p,H p=none->Q (.ref p) (upd H p (.lst (xs++zs)))):=by
 intro pins s σ H x y v u Q I rx ry h;obtain⟨l,b,xs,zs,rfl,rfl,hH,hB,hz,q⟩:=h;cases rx;cases ry;obtain⟨z,ao,n,r,hl,e⟩:=Inv.sZ I hH;obtain⟨z2,its2,n2,r2,hl2,e2⟩:=Inv.sZ I hB;refine PySem.P.add_list e e2 ?_ (by rw[Sl,Sl];omega);have ea:ao.toArray++its2.toArray=(ao++its2).toArray:=by simp
 rw[ea];exact⟨.ref _,_,I.Hu (t':=s.toks) (r.append r2) (by rw[TB];omega),rfl,q _ I.fresh⟩
def CC:cx X (binaryOp .Mult) (λ x y H Q=>∃l k xs,x= .ref l/\y= .int k/\Rd H l (.lst xs)/\ -(2^63)<=k/\k<2^63/\xs.length*k.toNat<=sizeLine/\
 ∀p,H p=none->Q (.ref p) (upd H p (.lst (List.replicate k.toNat xs).flatten))):=by
 intro pins s σ H x y v u Q I rx ry h;obtain⟨l,k,xs,rfl,rfl,hH,h1,h2,hz,q⟩:=h;cases rx;obtain⟨t,rfl⟩:=ry;obtain⟨z,ao,n,r,hl,e⟩:=Inv.sZ I hH;have hlen:ao.toArray.size*k.toNat<=sizeLine:=by rw[Sl,<-hl];exact hz
 have hcap:¬ao.toArray.size*k.toNat>(2^63-1)/8:=by
  have:(sizeLine:Nat)<=(2^63-1)/8:=by decide
  omega
 have hfit:¬(!Builtin.List.listFitsIndex k)=true:=by
  rw[fitsIndex_both h1 h2];exact Ts
 have hlong:¬Builtin.List.listTooLong (ao.toArray.size*k.toNat)=true:=by
  rw[GV hlen];exact Ts
 have hnew:List.foldl (λ x1 x2=>x1++x2) #[] (List.replicate (if ao.toArray.isEmpty=true then 0 else k.toNat) ao.toArray)=(List.replicate k.toNat ao).flatten.toArray:=by
  have f0:∀m:Nat,List.foldl (λ x1 x2=>x1++x2) #[] (List.replicate m ao.toArray)=(List.replicate m ao).flatten.toArray:=λ m=>by
   have:=foldl_rep ao m [];rw[Ws]at this;exact this
  rw[f0];cases ao with
  |nil=>simp
  |cons a r'=>rw[Sf (by simp)]
 refine WZ (T:="list") (U:="int") (by decide) ⟨_,e,rfl⟩ (λ s'=>WY s' k t) noFill_list_mul F.fills_int_mul Wt repeat_list F.slot_int_index.lookup
  (Vm Wt (WY s k t) F.entry_int_rmul (F.args_int_rmul_2 _ _) (int___rmul___int_list k t l ao.toArray n)
    ⟨e,rfl,⟨_,e,rfl⟩,Vm F.slot_list_mul ⟨_,e,rfl⟩ F.entry_list_mul (F.args_list_mul_2 _ _) (AutoListH.list___mul___list_int_3 l ao.toArray n k t hfit hcap hlong) ⟨e,?_⟩⟩)
 rw[hnew];exact⟨.ref _,_,I.Hu (t':=s.toks) (r.rep k.toNat) (by rw[len_rep,Uj];exact hz),rfl,q _ I.fresh⟩
def Il:cx X (binaryOp .Add) (λ x y H Q=>∃a b xs ys,x= .ref a/\y= .ref b/\H a=some (.tup xs)/\H b=some (.tup ys)/\xs.length+ys.length<=sizeLine/\
 (xs=[]->Q (.ref b) H)/\(xs≠ []->ys=[]->Q (.ref a) H)/\(xs≠ []->ys≠ []->∀p,H p=none->Q (.ref p) (upd H p (.tup (xs++ys))))):=by
 intro pins s σ H x y v u Q I rx ry h;obtain⟨a,b,xs,ys,rfl,rfl,ha,hb,hz,q0,q1,q2⟩:=h;by_cases hx:xs=[]
 . cases rx;cases ry;obtain⟨ao,r1,p1,_⟩:=I.tuple (.of ha);obtain⟨its2,r2,p2,_⟩:=I.tuple (.of hb);obtain⟨⟨cls,dd,data,sl⟩,ho,hc,n,hd⟩:=id p1;obtain⟨⟨cls2,dd2,data2,sl2⟩,ho2,hc2,n2,hd2⟩:=id p2;simp only at hc hd hc2 hd2;subst hc hd hc2 hd2;have hi:ao=[]:=(L2.Vals.uJ r1).mpr hx
   exact XM ⟨_,ho,rfl⟩ ⟨_,ho2,rfl⟩ W6 XH V_ VZ (VQ _ _)
    (tuple_addW0 a b ao.toArray its2.toArray n n2 dd dd2 sl sl2 (by simp[hi])) ⟨ho,ho2,⟨.ref b,H,I,rfl,q0 hx⟩⟩
 . exact JQ pins s σ H _ _ v u Q I rx ry ⟨a,b,xs,ys,rfl,rfl,.of ha,.of hb,hx,hz,q1 hx,q2 hx⟩
def xG:fillsNumberSlot (.type "tuple") "mul"=pure false:=
 PySem.fillsNumberSlot_seq (id:="tuple.__mul__") (r:=some (.builtin "tuple.__rmul__")) VD.lookup (by decide+kernel) F.slot_tuple_rmul.lookup (by decide+kernel)
def Ei:seqRepeat? (.type "tuple")=pure (some (.builtin "tuple.__mul__")):=by
 unfold seqRepeat?;rw[PySem.seqSlot_of (T:="tuple") (name:="__mul__") (id:="tuple.__mul__") VD.lookup (by decide+kernel),PySem.seqSlot_of (T:="tuple") (name:="__rmul__") (id:="tuple.__rmul__") F.slot_tuple_rmul.lookup (by decide+kernel)];rfl
def Ai(a:Int)(t:Tok)(l:Addr)(ao:Array Value)(n:Nat)(dd:Option Addr)(sl:Array (Option Value)):Meets (Builtin.«int.__rmul__» ⟨[.int a t,.ref l],[]⟩) (λ _ R s=>s.heap.get? l=some {cls:= .type "tuple",dict:=dd,data:= .seq ao n,slots:=sl}/\R (.ok (.ret Value.notImplemented)) s):=
 .of_wp λ P w A R s h=>by
  obtain⟨hp,g,d,tk,os⟩:=s;obtain⟨hl,h⟩:=h
  wp_walk
  exact⟨_,rfl,h⟩
def AI(l:Addr)(ao:Array Value)(n:Nat)(dd:Option Addr)(sl:Array (Option Value))(x:Int)(u:Tok)(h0:(decide (x< -(2^63))||decide (x>=2^63))=false)(h1:(ao.isEmpty||x==1)=true):
 Meets (Builtin.«tuple.__mul__» ⟨[.ref l,.int x u],[]⟩) (λ _ R s=>s.heap.get? l=some {cls:= .type "tuple",dict:=dd,data:= .seq ao n,slots:=sl}/\R (.ok (.ret (.ref l))) s):=
 .of_wp λ P w A R s h=>by
  obtain⟨hp,g,d,tk,os⟩:=s;obtain⟨hl,h⟩:=h
  wp_walk
  refine Wu (by rw[h0];rfl) ?_
  wp_walk
  exact⟨_,rfl,h⟩
def AX(l:Addr)(ao:Array Value)(n:Nat)(dd:Option Addr)(sl:Array (Option Value))(x:Int)(u:Tok)(h0:(decide (x< -(2^63))||decide (x>=2^63))=false)(h1:(ao.isEmpty||x==1)=false)(h2:(decide (x<=0)||ao.isEmpty)=true):
 Meets (Builtin.«tuple.__mul__» ⟨[.ref l,.int x u],[]⟩) (λ _ R s=>s.heap.get? l=some {cls:= .type "tuple",dict:=dd,data:= .seq ao n,slots:=sl}/\R (.ok (.ret (.ref s.heap.objs.size))) {s with heap:=s.heap.push {cls:= .type "tuple",data:= .seq #[]}}):=
 .of_wp λ P w A R s h=>by
  obtain⟨hp,g,d,tk,os⟩:=s;obtain⟨hl,h⟩:=h
  wp_walk
  refine Wu (by rw[h0];rfl) ?_
  wp_walk
  exact⟨_,rfl,h⟩
def An(l:Addr)(ao:Array Value)(n:Nat)(dd:Option Addr)(sl:Array (Option Value))(x:Int)(u:Tok)(h0:(decide (x< -(2^63))||decide (x>=2^63))=false)(h1:(ao.isEmpty||x==1)=false)(h2:(decide (x<=0)||ao.isEmpty)=false)(h3:¬((ao.size:Int)*x>(2^63-1)/8))(h4:Builtin.Tuple.tupleTooMany (ao.size*x)=false)
 (hz:(List.foldl (λ x1 x2=>x1++x2) #[] (List.replicate x.toNat ao)).size<=sizeLine):
 Meets (Builtin.«tuple.__mul__» ⟨[.ref l,.int x u],[]⟩) (λ _ R s=>s.heap.get? l=some {cls:= .type "tuple",dict:=dd,data:= .seq ao n,slots:=sl}/\R (.ok (.ret (.ref s.heap.objs.size))) {s with heap:=s.heap.push {cls:= .type "tuple",data:= .seq (List.foldl (λ x1 x2=>x1++x2) #[] (List.replicate x.toNat ao))}}):=
 .of_wp λ P w A R s h=>by
  obtain⟨hp,g,d,tk,os⟩:=s;obtain⟨hl,h⟩:=h
  wp_walk
  refine Wu (by rw[h0];rfl) ?_
  wp_walk
  refine Wu (Tf h3) ?_
  wp_walk
  exact⟨_,rfl,h⟩
def KZ:cx X (binaryOp .Mult) (λ x y H Q=>∃l k xs,x= .ref l/\y= .int k/\H l=some (.tup xs)/\ -(2^63)<=k/\k<2^63/\xs.length*k.toNat<=sizeLine/\
 ((xs=[]\/k=1)->Q (.ref l) H)/\(¬(xs=[]\/k=1)->∀p,H p=none->Q (.ref p) (upd H p (.tup (List.replicate k.toNat xs).flatten)))):=by
 intro pins s σ H x y v u Q I rx ry h;obtain⟨l,k,xs,rfl,rfl,hH,h1,h2,hz,q1,q2⟩:=h;cases rx;obtain⟨t,rfl⟩:=ry;obtain⟨ao,r,p1,_⟩:=I.tuple (.of hH);obtain⟨⟨cls,dd,data,sl⟩,ho,hc,n,hd⟩:=id p1;simp only at hc hd;subst hc hd;have hl:xs.length=ao.length:=r.length
 have f0:(decide (k< -(2^63))||decide (k>=2^63))=false:=by
  rw[Tf (by omega),Tf (by omega)];rfl
 refine WZ (T:="tuple") (U:="int") (by decide) ⟨_,ho,rfl⟩ (λ s'=>WY s' k t) xG F.fills_int_mul Wt Ei F.slot_int_index.lookup
  (Vm Wt (WY s k t) F.entry_int_rmul (F.args_int_rmul_2 _ _) (Ai k t l ao.toArray n dd sl) ⟨ho,rfl,⟨_,ho,rfl⟩,?_⟩)
 by_cases hs:xs=[]\/k=1
 . have f1:(ao.toArray.isEmpty||k==1)=true:=by
    rcases hs with z|z
    . have:ao=[]:=T_.mp (by rw[<-hl,z];rfl);rw[this];rfl
    . rw[z];simp
   exact Vm VD ⟨_,ho,rfl⟩ WX (WJ _ _) (AI l ao.toArray n dd sl k t f0 f1) ⟨ho,⟨.ref l,H,I,rfl,q1 hs⟩⟩
 . have hne:ao≠ []:=λ z=>hs (.inl (T_.mp (by rw[hl,z];rfl)));have hk1:k≠1:=λ z=>hs (.inr z);have e1:ao.toArray.isEmpty=false:=by simpa using hne
   have f1:(ao.toArray.isEmpty||k==1)=false:=by rw[e1];simpa using hk1
   have new:∀(us:List Value) (ys:List V),Vals ys us->ys.length<=sizeLine->Inv X pins σ (upd H s.heap.objs.size (.tup ys)) {s with heap:=s.heap.push {cls:= .type "tuple",data:= .seq us.toArray}}:=λ us ys hv hy=>
    I.laid (t':=s.toks) (λ _ _ q=>Sh _ q) (R_ _) ⟨hy,us,hv,⟨_,SI _ rfl,rfl,_,rfl⟩⟩
   by_cases h0:k<=0
   . have f2:(decide (k<=0)||ao.toArray.isEmpty)=true:=by rw[TF h0];rfl
     refine Vm VD ⟨_,ho,rfl⟩ WX (WJ _ _) (AX l ao.toArray n dd sl k t f0 f1 f2) ⟨ho,?_⟩;have ez:k.toNat=0:=by omega
     rw[ez]at q2;exact⟨.ref _,_,new [] [] .nil (SM _),rfl,q2 hs _ I.fresh⟩
   . have f2:(decide (k<=0)||ao.toArray.isEmpty)=false:=by rw[Tf h0,e1];rfl
     have hk:(k.toNat:Int)=k:=by omega
     have hlen:ao.toArray.size*k.toNat<=sizeLine:=by rw[Sl,<-hl];exact hz
     have hsz:((ao.toArray.size:Nat):Int)*k<=(sizeLine:Int):=by
      rw[<-hk]
      exact_mod_cast hlen
     have f3:¬(((ao.toArray.size:Nat):Int)*k>(2^63-1)/8):=by
      have:((sizeLine:Nat):Int)<=(2^63-1)/8:=by decide
      omega
     have f4:Builtin.Tuple.tupleTooMany (((ao.toArray.size:Nat):Int)*k)=false:=by
      unfold Builtin.Tuple.tupleTooMany;exact Tf (by omega)
     have hnew:List.foldl (λ x1 x2=>x1++x2) #[] (List.replicate k.toNat ao.toArray)=(List.replicate k.toNat ao).flatten.toArray:=by
      have:=foldl_rep ao k.toNat [];rw[Ws]at this;exact this
     have hfl:(List.replicate k.toNat ao).flatten.length=ao.length*k.toNat:=by rw[len_rep,Uj]
     refine Vm VD ⟨_,ho,rfl⟩ WX (WJ _ _) (An l ao.toArray n dd sl k t f0 f1 f2 f3 f4 (by rw[hnew,Sl,hfl];exact hlen)) ⟨ho,?_⟩;rw[hnew];exact⟨.ref _,_,new _ _ (r.rep k.toNat) (by rw[len_rep,Uj];exact hz),rfl,q2 hs _ I.fresh⟩
def IL:dy:=λ x y st K=>match x,y with
 | .int i,.int j=>K (.int (i+j)) st
 | .tup xs,.tup ys=>xs.length+ys.length<=sizeLine/\K (.tup (xs++ys)) st
 | .lst xs,.lst ys=>xs.length+ys.length<=sizeLine/\K (.lst (xs++ys)) st
 | .str x,.str y=>x.length+y.length<=sizeLine/\K (.str (x++y)) st
 |_,_=>False
def PQ:cx X (binaryOp .Add) (LR IL):=λ pins s σ H x y v u Q I rx ry ⟨α,d,e,st,K,G,F',P,r1,r2,S,q,k⟩=>by
 cases d<;>cases e<;>try exact q.elim
 . unfold Rep at r1 r2;exact MT pins s σ H x y v u Q I rx ry ⟨_,_,r1,r2,k.here P q S (by unfold Rep;rfl)⟩
 . unfold Rep at r1 r2;exact Ee pins s σ H x y v u Q I rx ry ⟨_,_,r1,r2,q.1,k.here P q.2 S (by unfold Rep;rfl)⟩
 . unfold Rep at r1 r2;obtain⟨a,vs,rfl,na,ha,ra⟩:=r1;obtain⟨b,ws,rfl,nb,hb,rb⟩:=r2;refine xN pins s σ H _ _ v u Q I rx ry ⟨a,b,vs,ws,rfl,rfl,fI P ha,fI P hb,by rw[<-ra.length,<-rb.length];exact q.1,λ p hp=>?_⟩;exact k.lst P q.2 S (aT.mpr (fD (aT.mp ra) (aT.mp rb))) hp
 . rename_i xs ys;unfold Rep at r1 r2;obtain⟨a,vs,rfl,na,ha,ra⟩:=r1;obtain⟨b,ws,rfl,nb,hb,rb⟩:=r2;have hl1:=ra.length;have hl2:=rb.length;refine Il pins s σ H _ _ v u Q I rx ry ⟨a,b,vs,ws,rfl,rfl,P.get ha,P.get hb,by rw[<-hl1,<-hl2];exact q.1,λ z=>?_,λ _ z=>?_,λ _ _ p hp=>?_⟩
   . refine k.here P q.2 S ?_;unfold Rep;have:xs=[]:=by rw[z]at hl1;exact T_.mp hl1
     subst this;exact⟨b,ws,rfl,nb,hb,rb⟩
   . refine k.here P q.2 S ?_;unfold Rep;have:ys=[]:=by rw[z]at hl2;exact T_.mp hl2
     subst this;rw[TZ];exact⟨a,vs,rfl,na,ha,ra⟩
   . exact k.tup P q.2 S (aT.mpr (fD (aT.mp ra) (aT.mp rb))) hp
def Iv:dy:=λ x y st K=>match x,y with
 | .int i,.int j=>IntMulOk i j/\K (.int (i*j)) st
 | .lst xs,.int k=>(-(2^63)<=k/\k<2^63/\xs.length*k.toNat<=sizeLine)/\K (.lst (List.replicate k.toNat xs).flatten) st
 | .tup xs,.int k=>(-(2^63)<=k/\k<2^63/\xs.length*k.toNat<=sizeLine)/\K (.tup (List.replicate k.toNat xs).flatten) st
 |_,_=>False
def OZ:cx X (binaryOp .Mult) (LR Iv):=λ pins s σ H x y v u Q I rx ry ⟨α,d,e,st,K,G,F',P,r1,r2,S,q,k⟩=>by
 cases d<;>cases e<;>try exact q.elim
 . unfold Rep at r1 r2;have h:cx X (binaryOp .Mult) (rI IntMulOk λ i j=> .int (i*j)):=IM λ _ _ _ _ _ _ _ hc q=>mul_int q hc;exact h pins s σ H x y v u Q I rx ry ⟨_,_,r1,r2,q.1,k.here P q.2 S (by unfold Rep;rfl)⟩
 . unfold Rep at r1 r2;obtain⟨a,vs,rfl,na,ha,ra⟩:=r1;refine CC pins s σ H _ _ v u Q I rx ry ⟨a,_,vs,rfl,r2,fI P ha,q.1.1,q.1.2.1,by rw[<-ra.length];exact q.1.2.2,λ p hp=>?_⟩;exact k.lst P q.2 S (aT.mpr (mM (aT.mp ra) _)) hp
 . rename_i xs m;have r1':=r1;unfold Rep at r1 r2;obtain⟨a,vs,rfl,na,ha,ra⟩:=r1;refine KZ pins s σ H _ _ v u Q I rx ry ⟨a,_,vs,rfl,r2,P.get ha,q.1.1,q.1.2.1,by rw[<-ra.length];exact q.1.2.2,λ hs=>?_,λ _ p hp=>k.tup P q.2 S (aT.mpr (mM (aT.mp ra) _)) hp⟩
   have e:(List.replicate m.toNat xs).flatten=xs:=by
    rcases hs with z|z
    . have:xs=[]:=T_.mp (by rw[ra.length,z];rfl);rw[this];simp
    . rw[z];simp
   have q2:=q.2;rw[e]at q2;exact k.here P q2 S r1'
def live(st:ag):D->Bool
 | .ref n=>(match st[n]? with|some (.lst _)=>true|some (.ins _ _)=>true|_=>false)
 |_=>true
def vH{α:List (Option Addr)}{H:Hp}{st:ag}{n:Nat}{v:V}(S:aX α st H)(h:live st (.ref n)=true)(r:Rep α H (.ref n) v):∃a,v= .ref a:=by
 unfold live at h;simp only at h;split at h
 . rename_i e;obtain⟨a,ea,_⟩:=S.g5 e;exact⟨a,eQ ea r⟩
 . rename_i e;obtain⟨a,ea,_⟩:=S.ze e;exact⟨a,eQ ea r⟩
 . cases h
def KH:dy:=λ x y st K=>match y with| .aG=>live st x=true/\K (.bl (match x with| .aG=>false|_=>true)) st|_=>False
def JN:cx X (compareOp .IsNot) (LR KH):=cx.imp Kq λ x y H Q ⟨α,d,e,st,K,G,F',P,r1,r2,S,q,k⟩=>by
 cases e<;>try exact q.elim
 unfold Rep at r2;refine⟨r2,k.here P q.2 S ?_⟩;unfold Rep;cases d
 case ref n=>
  obtain⟨a,rfl⟩:=vH S q.1 r1;rfl
 all_goals(unfold Rep at r1;first|(rw[r1];rfl)|(obtain⟨a,vs,rfl,_⟩:=r1;rfl))
def rK:dy:=λ x y st K=>match y with
 | .int i=>(match x with
   | .lst xs=>(match eV xs i with|some d=>K d st|none=>False)
   | .tup xs=>(match eV xs i with|some d=>K d st|none=>False)
   | .ref n=>(match st[n]? with|some (.lst xs)=>(match eV xs i with|some d=>K d st|none=>False)|_=>False)
   |_=>False)
 |_=>False
def aN.eV{α:List (Option Addr)}{H:Hp}{ds:List D}{vs:List V}{i:Int}{d:D}(h:aN α H ds vs)(e:L2.eV ds i=some d):∃v,L2.eV vs i=some v/\Rep α H d v:=by
 unfold L2.eV at e⊢;rw[<-h.length];cases q:j7 ds.length i with
 |none=>rw[q]at e;cases e
 |some j=>rw[q]at e;exact h.get e
def Rw:IT X (LR rK):=λ value slice pins s σ H x y v u Q I rx ry ⟨α,d,e,st,K,G,F',P,r1,r2,S,q,k⟩ hs=>by
 cases e<;>try exact q.elim
 unfold Rep at r2;cases d<;>try exact q.elim
 . rename_i i n;unfold rK at q;simp only at q;split at q
   . split at q
     . rename_i xs e1 _ d' e2;obtain⟨a,ea,vs,hv,rv⟩:=S.g5 e1;have r1':=eQ ea r1;subst r1';obtain⟨z,ez,rz⟩:=rv.eV e2;exact Cr value slice pins s σ H _ _ v u Q I rx ry ⟨a,vs,_,z,rfl,r2,.of (P.get hv),ez,k.here P q S rz⟩ hs
     . exact q.elim
   . exact q.elim
 . unfold rK at q;simp only at q;split at q
   . rename_i xs d' e2;unfold Rep at r1;obtain⟨a,vs,rfl,na,ha,ra⟩:=r1;obtain⟨z,ez,rz⟩:=ra.eV e2;exact Cr value slice pins s σ H _ _ v u Q I rx ry ⟨a,vs,_,z,rfl,r2,.inl (fI P ha),ez,k.here P q S rz⟩ hs
   . exact q.elim
 . unfold rK at q;simp only at q;split at q
   . rename_i xs d' e2;unfold Rep at r1;obtain⟨a,vs,rfl,na,ha,ra⟩:=r1;obtain⟨z,ez,rz⟩:=ra.eV e2;exact Mm value slice pins s σ H _ _ v u Q I rx ry ⟨a,vs,_,z,rfl,r2,.of (P.get ha),ez,k.here P q S rz⟩ hs
   . exact q.elim
def Rg{a b:Expr}{ta tb:DE}{pos:Pos}(ha:PE X a (LE ta))(hb:PE X b (LE tb))(hs:uC b:=by intro _ _;rfl):PE X (.Subscript a b pos) (LE (aw rK ta tb)):=PE.imp (O5 Rw ha hb hs) λ _ _ _ h=>LE.op h
def items?(st:ag):D->Option (List D)
 | .lst xs=>some xs
 | .tup xs=>some xs
 | .ref n=>(match st[n]? with|some (.lst xs)=>some xs|_=>none)
 |_=>none
@[simp] theorem Qm(st:ag)(xs:List D):items? st (.lst xs)=some xs:=rfl
@[simp] theorem QC(st:ag)(xs:List D):items? st (.tup xs)=some xs:=rfl
@[simp] theorem items_int(st:ag)(i:Int):items? st (.int i)=none:=rfl
@[simp] theorem QO(st:ag)(i:Bool):items? st (.bl i)=none:=rfl
@[simp] theorem items_str(st:ag)(i:Str):items? st (.str i)=none:=rfl
@[simp] theorem QD(st:ag):items? st .aG=none:=rfl
def aO{st:ag}{n:Nat}{xs:List D}(h:st[n]?=some (.lst xs)):items? st (.ref n)=some xs:=by unfold items?;simp only[h]
def pJ{α:List (Option Addr)}{H:Hp}{st:ag}{d:D}{v:V}{xs:List D}(S:aX α st H)(r:Rep α H d v)(e:items? st d=some xs):
 ∃p vs,v= .ref p/\aN α H xs vs/\(Rd H p (.lst vs)\/H p=some (.tup vs)):=by
 cases d<;>try(cases e;done)
 . unfold items? at e;simp only at e;split at e
   . rename_i ys q;cases e;obtain⟨a,ea,vs,h1,h2⟩:=S.g5 q;have r':=eQ ea r;subst r';exact⟨a,vs,rfl,h2,.inl (.of h1)⟩
   . cases e
 . cases e;unfold Rep at r;obtain⟨a,vs,rfl,_,h1,h2⟩:=r;exact⟨a,vs,rfl,h2,.inl h1⟩
 . cases e;unfold Rep at r;obtain⟨a,vs,rfl,_,h1,h2⟩:=r;exact⟨a,vs,rfl,h2,.inr h1⟩
def C5{K:PySem.W.Frag}{G F H:Hp}(P:cO G F H){p:Addr}{vs:List V}(h:Rd G p (.lst vs)\/G p=some (.tup vs)):nr K H p vs\/jH K H p vs:=h.elim (λ z=> .inl (.inl (fI P z))) λ z=> .inr (.of (P.get z))
def gw{α:List (Option Addr)}{H:Hp}{ds:List D}{xs:List V}{d:D}(r:aN α H ds xs)(e:ds=[d]):∃v,xs=[v]/\Rep α H d v:=by
 subst e;unfold aN at r;obtain⟨v,q,rfl,h1,h2⟩:=r;unfold aN at h2;subst h2;exact⟨v,rfl,h1⟩
def rV{α:List (Option Addr)}{H:Hp}{ds:List D}{xs:List V}{d e:D}(r:aN α H ds xs)(q:ds=[d,e]):∃v u,xs=[v,u]/\Rep α H d v/\Rep α H e u:=by
 subst q;unfold aN at r;obtain⟨v,q,rfl,h1,h2⟩:=r;obtain⟨u,rfl,h3⟩:=gw h2 rfl;exact⟨v,u,rfl,h1,h3⟩
def zH:fX:=λ ds st K=>match ds with
 | [.str x]=>x.length<=sizeLine/\K (.int x.length) st
 | [d]=>(match items? st d with|some xs=>K (.int xs.length) st|none=>False)
 |_=>False
def Oz:cD X (.builtin "len") (gJ zH):=λ pins s σ H xs us Q I rs ⟨α,ds,st,K,G,F',P,r,S,q,k⟩=>by
 unfold zH at q;split at q
 . rename_i x;obtain⟨v,rfl,r1⟩:=gw r rfl;unfold Rep at r1;subst r1;exact Ak pins s σ H _ us Q I rs ⟨x,rfl,q.1,k.here P q.2 S (by unfold Rep;rfl)⟩
 . rename_i d _;split at q
   . rename_i ys e;obtain⟨v,rfl,r1⟩:=gw r rfl;obtain⟨p,vs,rfl,r2,h⟩:=pJ S r1 e;refine Bv pins s σ H _ us Q I rs ⟨p,vs,rfl,C5 P h,k.here P q S (by unfold Rep;rw[r2.length])⟩
   . exact q.elim
 . exact q.elim
def Qx(g:Int->Int):fX:=λ ds st K=>match ds with| [.int i]=>K (.int (g i)) st|_=>False
abbrev Dd:fX:=Qx λ i=>if i<0 then-i else i
def Pe:cD X (.builtin "abs") (gJ Dd):=cD.imp G8 λ xs H Q ⟨α,ds,st,K,G,F',P,r,S,q,k⟩=>by
 unfold Dd Qx at q;split at q
 . obtain⟨v,rfl,r1⟩:=gw r rfl;unfold Rep at r1;subst r1;exact⟨_,rfl,k.here P q S (by unfold Rep;rfl)⟩
 . exact q.elim
def C6:fX:=λ ds st K=>match ds with| [.int i]=>K (.int i) st| [.bl b]=>K (.int (if b then 1 else 0)) st|_=>False
def OY:cD X (.type "int") (gJ C6):=cD.imp GD λ xs H Q ⟨α,ds,st,K,G,F',P,r,S,q,k⟩=>by
 unfold C6 at q;split at q
 . obtain⟨v,rfl,r1⟩:=gw r rfl;unfold Rep at r1;subst r1;exact .inl ⟨_,rfl,k.here P q S (by unfold Rep;rfl)⟩
 . obtain⟨v,rfl,r1⟩:=gw r rfl;unfold Rep at r1;subst r1;exact .inr ⟨_,rfl,k.here P q S (by unfold Rep;rfl)⟩
 . exact q.elim
def uy:fX:=λ ds st K=>match ds with| [d]=>(match items? st d with|some xs=>K (.tup xs) st|none=>False)|_=>False
def Kf:cD X (.type "tuple") (gJ uy):=cD.imp zc λ xs H Q ⟨α,ds,st,K,G,F',P,r,S,q,k⟩=>by
 unfold uy at q;split at q
 . rename_i d;split at q
   . rename_i ys e;obtain⟨v,rfl,r1⟩:=gw r rfl;cases d with
     |tup zs=>
      cases e;have r0:=r1;unfold Rep at r1;obtain⟨a,vs,rfl,na,h1,h2⟩:=r1;exact⟨a,vs,rfl,.inr ⟨.of (P.get h1),k.here P q S r0⟩⟩
     |_=>
      obtain⟨p,vs,rfl,r2,h⟩:=pJ S r1 e;refine⟨p,vs,rfl,?_⟩;rcases h with h|h
      . exact .inl ⟨.inl (fI P h),λ l hl=>k.tup P q S r2 hl⟩
      . first
         |(cases e;done)
         |(exfalso
           unfold items? at e;simp only at e
           first
            |(split at e
              . rename_i z;obtain⟨a,ea,vs',h1,h2⟩:=S.g5 z;have e':=eQ ea r1;cases e';rw[h]at h1;cases h1
              . cases e)
            |(unfold Rep at r1
              obtain⟨a,vs',e',_,h1,_⟩:=r1;cases e';rcases h1 with h1|⟨o,h1⟩<;>(rw[h]at h1;cases h1)))
   . exact q.elim
 . exact q.elim
def wd:fX:=λ ds st K=>match ds with| [d]=>(match items? st d with|some xs=>K (.lst xs) st|none=>False)|_=>False
def NR:cD X (.type "list") (gJ wd):=cD.imp tE λ xs H Q ⟨α,ds,st,K,G,F',P,r,S,q,k⟩=>by
 unfold wd at q;split at q
 . split at q
   . rename_i ys e;obtain⟨v,rfl,r1⟩:=gw r rfl;obtain⟨p,vs,rfl,r2,h⟩:=pJ S r1 e;exact⟨p,vs,rfl,C5 P h,λ l hl=>k.lst P q S r2 hl⟩
   . exact q.elim
 . exact q.elim
def uO:fX:=λ ds st K=>match ds with| [d]=>(match items? st d with|some xs=>K (.ref st.length) (st++[.lst xs])|none=>False)|_=>False
def Lp:cD X (.type "list") (gJ uO):=cD.imp tE λ xs H Q ⟨α,ds,st,K,G,F',P,r,S,q,k⟩=>by
 unfold uO at q;split at q
 . split at q
   . rename_i ys e;obtain⟨v,rfl,r1⟩:=gw r rfl;obtain⟨p,vs,rfl,r2,h⟩:=pJ S r1 e;exact⟨p,vs,rfl,C5 P h,λ l hl=>k.new P q S r2 hl⟩
   . exact q.elim
 . exact q.elim
def m4:List D->Option (List Bool)
 | []=>some []
 | .bl b::r=>(m4 r).map (b:: ·)
 |_::_=>none
def iH:List D->Option (List Int)
 | []=>some []
 | .int b::r=>(iH r).map (b:: ·)
 |_::_=>none
def w9{α:List (Option Addr)}{H:Hp}:∀ {ds:List D} {vs:List V} {bs:List Bool},aN α H ds vs->m4 ds=some bs->vs=bs.map V.bl
 | [],vs,bs,r,e=>by
   unfold aN at r;cases e;exact r
 |d::ds,vs,bs,r,e=>by
  unfold aN at r;obtain⟨v,q,rfl,h1,h2⟩:=r;cases d<;>try(cases e;done)
  unfold m4 at e;cases z:m4 ds with
  |none=>rw[z]at e;cases e
  |some cs=>
   rw[z]at e;cases e;unfold Rep at h1;rw[h1,w9 h2 z];rfl
def nc{α:List (Option Addr)}{H:Hp}:∀ {ds:List D} {vs:List V} {bs:List Int},aN α H ds vs->iH ds=some bs->vs=bs.map V.int
 | [],vs,bs,r,e=>by
   unfold aN at r;cases e;exact r
 |d::ds,vs,bs,r,e=>by
  unfold aN at r;obtain⟨v,q,rfl,h1,h2⟩:=r;cases d<;>try(cases e;done)
  unfold iH at e;cases z:iH ds with
  |none=>rw[z]at e;cases e
  |some cs=>
   rw[z]at e;cases e;unfold Rep at h1;rw[h1,nc h2 z];rfl
def wW:∀ {bs:List Bool} {us:List Value},Vals (bs.map V.bl) us->us=bs.map Value.bool
 | [],_,.nil=>rfl
 |b::bs,_,.cons h t=>by
  have h:_=Value.bool b:=h;rw[h,wW t];rfl
def zm:fX:=λ ds st K=>match ds with| [.lst xs]=>(match m4 xs with|some bs=>K (.bl (bs.all id)) st|none=>False)|_=>False
def range_all{α:Type}(l:List α)(f:α->Bool)(tr:Nat->Bool)(h:∀i x,l[i]?=some x->tr i=f x):(List.range l.length).all tr=l.all f:=by
 induction l generalizing tr with
 |nil=>rfl
 |cons a l ih=>
  rw[SY,Tw,Vj,Vj,List.all_map,h 0 a rfl];congr 1;exact ih (tr∘Nat.succ) λ i x e=>h (i+1) x (by simpa using e)
def Ow(hc:X.calm=true):cD X (.builtin "all") (gJ zm):=λ pins s σ H xs us Q I rs ⟨α,ds,st,K,G,F',P,r,S,q,k⟩=>by
 unfold zm at q;split at q
 . rename_i ys;split at q
   . rename_i bs e;obtain⟨v,rfl,r1⟩:=gw r rfl;unfold Rep at r1;obtain⟨a,vs,rfl,na,h1,h2⟩:=r1;obtain⟨u,rfl,ru⟩:=vals1 rs;cases ru;have hv:=w9 h2 e;subst hv;obtain⟨z,ao,n,rv,hl,eo⟩:=Inv.sZ I (fI P h1);have hits:=wW rv;subst hits;have isL:s.heap.IsList a (bs.map Value.bool).toArray:=⟨_,eo,rfl,n,rfl⟩
     refine call_all_walk (Vy isL ?_);have hne:a≠s.heap.objs.size:=SW (Su eo);refine⟨s.heap.objs.size,_,_,_,_,_,λ i=>(bs[i]?).getD true,rfl,Walks.list (A:=X.A.in1) (I.ok.hd hc) _ a hne (bs.map Value.bool).toArray,⟨⟨_,SI _ rfl,rfl,rfl⟩,⟨_,Sh _ eo,rfl,n,rfl⟩⟩,?_,?_⟩
     . intro i w s' Q' E' hP hQ;rw[List.getElem?_toArray,SF]at hP;cases zb:bs[i]? with
       |none=>rw[zb]at hP;cases hP
       |some b=>
        rw[zb]at hP;cases hP;simp only[zb]at hQ;exact Vx hQ
     . intro h' tk hk
       have kp:∀b o,s.heap.get? b=some o->h'.get? b=some o:=λ b o q=>hk b o (by
        intro hb;have:b=s.heap.objs.size:=by simpa using hb
        exact absurd (Su q) (by rw[this];exact TN _)) (Sh _ q)
       have ea:(List.range (bs.map Value.bool).toArray.size).all (λ i=>(bs[i]?).getD true)=bs.all id:=by
        rw[Sl,Sb];exact range_all bs id _ λ i x e=>by rw[e];rfl
       rw[ea];exact⟨.bl (bs.all id),H,I.kept (t':=tk) kp,rfl,k.here P q S (by unfold Rep;rfl)⟩
   . exact q.elim
 . exact q.elim
def jR(st:ag):D->Option String
 | .aG=>some "NoneType"
 | .bl _=>some "bool"
 | .int _=>some "int"
 | .str _=>some "str"
 | .lst _=>some "list"
 | .tup _=>some "tuple"
 | .ref n=>(match st[n]? with|some (.lst _)=>some "list"|_=>none)
 | .ty _=>none
@[simp] theorem Ry(st:ag)(xs:List D):jR st (.lst xs)=some "list":=rfl
@[simp] theorem RM(st:ag)(xs:List D):jR st (.tup xs)=some "tuple":=rfl
@[simp] theorem ty_int(st:ag)(i:Int):jR st (.int i)=some "int":=rfl
@[simp] theorem R8(st:ag)(i:Bool):jR st (.bl i)=some "bool":=rfl
@[simp] theorem ty_str(st:ag)(i:Str):jR st (.str i)=some "str":=rfl
@[simp] theorem RD(st:ag):jR st .aG=some "NoneType":=rfl
def vw(t c:String):Bool:=t==c||(t=="bool"&&c=="int")
def zM{α:List (Option Addr)}{H:Hp}{st:ag}{K:PySem.W.Frag}{d:D}{v:V}{t:String}(S:aX α st H)(r:Rep α H d v)(e:jR st d=some t):kc K H v (.type t):=by
 cases d<;>unfold jR at e<;>try(cases e;done)
 . unfold Rep at r;cases e;subst r;exact .aG
 . unfold Rep at r;cases e;subst r;exact .bl _
 . unfold Rep at r;cases e;subst r;exact .int _
 . unfold Rep at r;cases e;subst r;exact .str _
 . simp only at e;split at e
   . rename_i z;cases e;obtain⟨a,ea,vs',h1,h2⟩:=S.g5 z;have r':=eQ ea r;subst r';exact .lst h1
   . cases e
 . cases e;unfold Rep at r;obtain⟨a,vs,rfl,na,h1,h2⟩:=r;rcases h1 with h1|⟨o,h1⟩
   . exact .lst h1
   . exact .g4 h1
 . cases e;unfold Rep at r;obtain⟨a,vs,rfl,na,h1,h2⟩:=r;exact .tup h1
def Cj{G F H:Hp}{K:PySem.W.Frag}(P:cO G F H){x:V}{t:Value}(h:kc K G x t):kc K H x t:=by
 cases h with
 |aG=>exact .aG
 |bl x=>exact .bl x
 |int x=>exact .int x
 |str x=>exact .str x
 |uX x=>exact .uX x
 |lst e=>exact .lst (P.get e)
 |g4 e=>exact .g4 (P.get e)
 |tup e=>exact .tup (P.get e)
 |dK e=>exact .dK (P.get e)
 |dT e=>exact .dT (P.get e)
 |ins e a b c d f=>exact .ins (P.get e) a b c d f
def uq:List String:=["NoneType","bool","int","str","list","tuple"]
def oG:List String:=["bool","int","str","list","tuple"]
def Ct(K:PySem.W.Frag){t c:String}(ht:t∈uq)(hc:c∈oG):PySem.W.kitOne K (.type t) (.type c)=some (vw t c):=by
 simp only[uq,oG,SA,S_,VE]at ht hc;rcases ht with rfl|rfl|rfl|rfl|rfl|rfl<;>rcases hc with rfl|rfl|rfl|rfl|rfl<;>with_unfolding_all rfl
def Bf{st:ag}{d:D}{t:String}(e:jR st d=some t):t∈uq:=by
 cases d<;>unfold jR at e<;>first
  |(cases e;done)
  |(cases e;decide)
  |(simp only at e;split at e<;>cases e;decide)
def kitx_of{pins:List (Addr×Obj)}{σ:L2.St}{H:Hp}{s:Shared}{x:V}{u:Value}{t:String}(I:Inv X pins σ H s)(rx:RelV x u)(ty:kc X.K H x (.type t)):
 ∃Hh:Heap->Prop,PySem.W.KitX X.K u (.type t) Hh/\Hh s.heap/\u≠ .builtin "__main__.__loader__#opaque":=by
 cases ty with
 |aG=>cases (show u=Value.none from rx);exact⟨_,PySem.W.kitx_none,True.intro,λ z=>nomatch z⟩
 |bl y=>cases (show u=Value.bool y from rx);exact⟨_,PySem.W.kitx_bool,True.intro,λ z=>nomatch z⟩
 |int i=>obtain⟨t,q⟩:=(show∃t,u=Value.int i t from rx);cases q;exact⟨_,PySem.W.kitx_int,True.intro,λ z=>nomatch z⟩
 |str y=>obtain⟨t,q⟩:=(show∃t,u=Value.str y t from rx);cases q;exact⟨_,PySem.W.kitx_str,True.intro,λ z=>nomatch z⟩
 |uX y=>obtain⟨t,q⟩:=(show∃t,u=Value.float y t from rx);cases q;exact⟨_,PySem.W.kitx_float,True.intro,λ z=>nomatch z⟩
 | @lst a xs ea=>
   cases (show u=Value.ref a from rx);obtain⟨_,_,n,_,h1⟩:=(show d7 X.prog X.w H s.heap a (.lst xs)from I.aL a _ ea)
   exact⟨_,V4,⟨_,h1,rfl⟩,λ z=>nomatch z⟩
 | @g4 a ob xs ea=>
   cases (show u=Value.ref a from rx);obtain⟨_,_,_,n,_,h1⟩:=(show d7 X.prog X.w H s.heap a (.g4 ob (.lst xs))from I.aL a _ ea)
   exact⟨_,V4,⟨_,h1,rfl⟩,λ z=>nomatch z⟩
 | @tup a xs ea=>
   cases (show u=Value.ref a from rx);obtain⟨_,_,_,p⟩:=(show d7 X.prog X.w H s.heap a (.tup xs)from I.aL a _ ea)
   obtain⟨o,h1,h2,_⟩:=p;exact⟨_,PySem.W.kitx_tuple,⟨o,h1,h2⟩,λ z=>nomatch z⟩
 | @dK a kvs ea=>
   cases (show u=Value.ref a from rx);obtain⟨_,_,vs,_,p⟩:=(show d7 X.prog X.w H s.heap a (.dK kvs)from I.aL a _ ea)
   obtain⟨o,es,ep,h1,h2,_⟩:=p;exact⟨_,V5,⟨o,h1,h2.1⟩,λ z=>nomatch z⟩
 | @dT a kvs ea=>
   cases (show u=Value.ref a from rx);obtain⟨_,_,xs,_,o,es,ep,h1,h2,_⟩:=(show d7 X.prog X.w H s.heap a (.dT kvs)from I.aL a _ ea)
   exact⟨_,V5,⟨o,h1,h2.1⟩,λ z=>nomatch z⟩
def qX:List D->Option (List String)
 | []=>some []
 | .ty b::r=>(qX r).map (b:: ·)
 |_::_=>none
def Bc{α:List (Option Addr)}{H:Hp}:∀ {ds:List D} {vs:List V} {bs:List String},aN α H ds vs->qX ds=some bs->vs=bs.map V.ty
 | [],vs,bs,r,e=>by
   unfold aN at r;cases e;exact r
 |d::ds,vs,bs,r,e=>by
  unfold aN at r;obtain⟨v,q,rfl,h1,h2⟩:=r;cases d<;>try(cases e;done)
  unfold qX at e;cases z:qX ds with
  |none=>rw[z]at e;cases e
  |some cs=>
   rw[z]at e;cases e;unfold Rep at h1;rw[h1,Bc h2 z];rfl
def AJ:∀ {bs:List String} {us:List Value},Vals (bs.map V.ty) us->us=bs.map Value.type
 | [],_,.nil=>rfl
 |b::bs,_,.cons h t=>by
  have h:_=Value.type b:=h;rw[h,AJ t];rfl
def CF(K:PySem.W.Frag){t:String}(ht:t∈uq):∀cs:List String,(∀c∈cs,c∈oG)->PySem.W.kitAny K (.type t) (cs.map Value.type)=some (cs.any (vw t))
 | [],_=>rfl
 |c::cs,h=>by
  show(match PySem.W.kitOne K (.type t) (.type c)with|some true=>some true|some false=>PySem.W.kitAny K (.type t) (cs.map Value.type)|none=>none)=_;rw[Ct K ht (h c SD),WQ];cases vw t c with
  |true=>rfl
  |false=>exact CF K ht cs λ c hc=>h c (SG _ hc)
def zg:fX:=λ ds st K=>match ds with
 | [d,.ty c]=>(match jR st d with|some t=>c∈oG/\K (.bl (vw t c)) st|none=>False)
 | [d,.tup cs]=>(match jR st d,qX cs with|some t,some cl=>(∀c∈cl,c∈oG)/\K (.bl (cl.any (vw t))) st|_,_=>False)
 |_=>False
def Pc:cD X (.builtin "isinstance") (gJ zg):=λ pins s σ H xs us Q I rs ⟨α,ds,st,K,G,F',P,r,S,q,k⟩=>by
 unfold zg at q;split at q
 . rename_i d c;split at q
   . rename_i t e;obtain⟨v,v2,rfl,r1,r2⟩:=rV r rfl;obtain⟨u,u2,rfl,ru,ru2⟩:=vals2 rs;unfold Rep at r2;subst r2;cases (show u2=Value.type c from ru2);exact Ex I ru (Cj P (zM S r1 e)) (Ct _ (Bf e) q.1) λ tk=>⟨.bl (vw t c),H,I.tok tk,rfl,k.here P q.2 S (by unfold Rep;rfl)⟩
   . exact q.elim
 . rename_i d cs;split at q
   . rename_i t cl e ec;obtain⟨v,v2,rfl,r1,r2⟩:=rV r rfl;obtain⟨u,u2,rfl,ru,ru2⟩:=vals2 rs;unfold Rep at r2;obtain⟨a,vs,rfl,na,h1,h2⟩:=r2;cases (show u2=Value.ref a from ru2);have hv:=Bc h2 ec;subst hv;obtain⟨Hh,Z,hh,hne⟩:=kitx_of I ru (Cj P (zM S r1 e));obtain⟨ao,r',pl,hz⟩:=I.tuple (jH.of (P.get h1));have hi:=AJ r';subst hi;obtain⟨⟨cls,dd,data,sl⟩,ho,hc,n,hd⟩:=pl;simp only at hc hd;subst hc hd;exact PySem.W.kia_tup Z I.iw hh ho (CF _ (Bf e) cl q.1) hne λ tk=>⟨.bl _,H,I.tok tk,rfl,k.here P q.2 S (by unfold Rep;rfl)⟩
   . exact q.elim
 . exact q.elim
end
end L3
namespace L3
open PySem PySem.Spec L2 PySem.SeqAt
open PyProof.Rows hiding St
mutual
def di:D->D->Bool
 | .aG,.aG=>true
 | .bl a,.bl b=>a==b
 | .bl a,.int b=>(if a then 1 else 0)==b
 | .int a,.bl b=>a==(if b then 1 else 0)
 | .int a,.int b=>a==b
 | .str a,.str b=>a==b
 | .lst xs,.lst ys=>mE xs ys
 | .tup xs,.tup ys=>mE xs ys
 |_,_=>false
def mE:List D->List D->Bool
 | [],[]=>true
 |x::xs,y::ys=>di x y&&mE xs ys
 |_,_=>false
end
def pl:Nat->D->Bool
 |_,.aG=>true
 |_,.bl _=>true
 |_,.int _=>true
 |_,.str _=>true
 |n+1,.lst xs=>xs.all (pl n)
 |n+1,.tup xs=>xs.all (pl n)
 |_,_=>false
mutual
def vo:∀(n:Nat) (d:D),pl n d=true->di d d=true
 |_,.aG,_=>rfl
 |_,.bl _,_=>by simp[di]
 |_,.int _,_=>by simp[di]
 |_,.str _,_=>by simp[di]
 |n+1,.lst xs,h=>by unfold di;exact sW n xs (by unfold pl at h;exact h)
 |n+1,.tup xs,h=>by unfold di;exact sW n xs (by unfold pl at h;exact h)
 |0,.lst xs,h=>by cases h
 |0,.tup xs,h=>by cases h
 |_,.ref _,h=>by unfold pl at h;cases h
 |_,.ty _,h=>by unfold pl at h;cases h
def sW:∀(n:Nat) (xs:List D),xs.all (pl n)=true->mE xs xs=true
 |_,[],_=>by unfold mE;rfl
 |n,x::xs,h=>by
  rw[Vj,Tv]at h;unfold mE;rw[vo n x h.1,sW n xs h.2];rfl
end
mutual
def Rep.inj{α:List (Option Addr)}{H:Hp}:∀ {d e:D} {v:V} (n:Nat),pl n d=true->pl n e=true->Rep α H d v->Rep α H e v->d=e
 | .aG,e,v,n,_,he,h1,h2=>by
   unfold Rep at h1;subst h1;cases e<;>first|(unfold pl at he;cases he;done)|(unfold Rep at h2;cases h2;rfl)|(unfold Rep at h2;cases h2;done)|(unfold Rep at h2;obtain⟨_,_,h2,_⟩:=h2;cases h2)|rfl|(cases h2;done)|(obtain⟨_,_,h2,_⟩:=h2;cases h2)|(obtain⟨_,_,h2⟩:=h2;cases h2)
 | .bl b,e,v,n,_,he,h1,h2=>by
   unfold Rep at h1;subst h1;cases e<;>first|(unfold pl at he;cases he;done)|(unfold Rep at h2;cases h2;rfl)|(unfold Rep at h2;cases h2;done)|(unfold Rep at h2;obtain⟨_,_,h2,_⟩:=h2;cases h2)|(cases h2;rfl)|(cases h2;done)|(obtain⟨_,_,h2,_⟩:=h2;cases h2)|(obtain⟨_,_,h2⟩:=h2;cases h2)
 | .int b,e,v,n,_,he,h1,h2=>by
   unfold Rep at h1;subst h1;cases e<;>first|(unfold pl at he;cases he;done)|(unfold Rep at h2;cases h2;rfl)|(unfold Rep at h2;cases h2;done)|(unfold Rep at h2;obtain⟨_,_,h2,_⟩:=h2;cases h2)|(cases h2;rfl)|(cases h2;done)|(obtain⟨_,_,h2,_⟩:=h2;cases h2)|(obtain⟨_,_,h2⟩:=h2;cases h2)
 | .str b,e,v,n,_,he,h1,h2=>by
   unfold Rep at h1;subst h1;cases e<;>first|(unfold pl at he;cases he;done)|(unfold Rep at h2;cases h2;rfl)|(unfold Rep at h2;cases h2;done)|(unfold Rep at h2;obtain⟨_,_,h2,_⟩:=h2;cases h2)|(cases h2;rfl)|(cases h2;done)|(obtain⟨_,_,h2,_⟩:=h2;cases h2)|(obtain⟨_,_,h2⟩:=h2;cases h2)
 | .ty b,e,v,n,hd,he,h1,h2=>by unfold pl at hd;cases hd
 | .ref b,e,v,n,hd,he,h1,h2=>by unfold pl at hd;cases hd
 | .lst xs,e,v,0,hd,he,h1,h2=>by cases hd
 | .tup xs,e,v,0,hd,he,h1,h2=>by cases hd
 | .lst xs,e,v,n+1,hd,he,h1,h2=>by
   unfold Rep at h1;obtain⟨a,vs,rfl,na,ha,ra⟩:=h1;cases e<;>unfold Rep at h2<;>try(cases h2;done)
   . unfold pl at he;cases he
   . obtain⟨a',vs',e',na',ha',ra'⟩:=h2;cases e'
     have:vs=vs':=by
      rcases ha with ha|⟨o,ha⟩<;>rcases ha' with ha'|⟨o',ha'⟩<;>(rw[ha]at ha';first|(cases ha';rfl)|(cases ha';done))
     subst this;rw[aN.inj n (by unfold pl at hd;exact hd) (by unfold pl at he;exact he) ra ra']
   . obtain⟨a',vs',e',na',ha',ra'⟩:=h2;cases e';rcases ha with ha|⟨o,ha⟩<;>(rw[ha]at ha';cases ha')
 | .tup xs,e,v,n+1,hd,he,h1,h2=>by
   unfold Rep at h1;obtain⟨a,vs,rfl,na,ha,ra⟩:=h1;cases e<;>unfold Rep at h2<;>try(cases h2;done)
   . unfold pl at he;cases he
   . obtain⟨a',vs',e',na',ha',ra'⟩:=h2;cases e';rcases ha' with ha'|⟨o,ha'⟩<;>(rw[ha]at ha';cases ha')
   . obtain⟨a',vs',e',na',ha',ra'⟩:=h2;cases e';rw[ha]at ha';cases ha';rw[aN.inj n (by unfold pl at hd;exact hd) (by unfold pl at he;exact he) ra ra']
def aN.inj{α:List (Option Addr)}{H:Hp}:∀ {ds es:List D} {vs:List V} (n:Nat),ds.all (pl n)=true->es.all (pl n)=true->aN α H ds vs->aN α H es vs->ds=es
 | [],es,vs,n,_,_,h1,h2=>by
   unfold aN at h1;subst h1;cases es with
   |nil=>rfl
   |cons e es=>unfold aN at h2;obtain⟨_,_,h,_⟩:=h2;cases h
 |d::ds,es,vs,n,hd,he,h1,h2=>by
  unfold aN at h1;obtain⟨v,r,rfl,r1,r2⟩:=h1;cases es with
  |nil=>unfold aN at h2;cases h2
  |cons e es=>
   unfold aN at h2;obtain⟨v',r',h,q1,q2⟩:=h2;cases h;rw[Vj,Tv]at hd he;rw[Rep.inj n hd.1 he.1 r1 q1,aN.inj n hd.2 he.2 r2 q2]
end
def oU:∀ {xs ys:List D},xs.length≠ys.length->mE xs ys=false
 | [],[],h=>absurd rfl h
 | [],_::_,_=>by unfold mE;rfl
 |_::_,[],_=>by unfold mE;rfl
 |x::xs,y::ys,h=>by
  unfold mE;rw[oU (by simpa using h),XB]
def oZ:∀ {xs ys:List D},xs.length=ys.length->mE xs ys=(List.range xs.length).all λ j=>di (xs.getD j .aG) (ys.getD j .aG)
 | [],[],_=>by unfold mE;rfl
 | [],_::_,h=>by cases h
 |_::_,[],h=>by cases h
 |x::xs,y::ys,h=>by
  unfold mE;rw[SY,Tw,Vj,List.all_map,oZ (by simpa using h)];rfl
section
variable {X:Cx}{pins:List (Addr×Obj)}{σ:L2.St}{H:Hp}{s:Shared}{α:List (Option Addr)}
def kR{xs:List D}{vs:List V}{ao:List Value}(r:aN α H xs vs)(v:Vals vs ao)(j:Nat)(hj:j<ao.length):∃x,xs[j]?=some (xs.getD j .aG)/\Rep α H (xs.getD j .aG) x/\RelV x ao[j]:=by
 have h1:=r.length;have h2:=v.length;have hx:j<xs.length:=by omega
 have e:xs[j]?=some (xs.getD j .aG):=by rw[Sm hx,Sd,Sm hx];rfl
 obtain⟨x,q,rr⟩:=r.get e;obtain⟨u,q2,rv⟩:=v.get q;rw[Sm hj]at q2;cases q2;exact⟨x,e,rr,rv⟩
def jw{xs:List D}{n:Nat}(h:xs.all (pl n)=true)(j:Nat):pl n (xs.getD j .aG)=true:=by
 rw[Sd];cases e:xs[j]? with
 |none=>cases n<;>rfl
 |some d=>exact Tp.mp h d (S8 e)
def yr:D->Bool
 | .aG=>true
 | .bl _=>true
 | .int _=>true
 | .str _=>true
 |_=>false
def Cq{A:Around}{d e:D}{x y:V}{u v:Value}(hd:yr d=true)(he:yr e=true)(rd:Rep α H d x)(re:Rep α H e y)(rx:RelV x u)(ry:RelV y v):RcAt A s u v (di d e)/\EqAt A s u v (di d e):=by
 cases d<;>cases e<;>try(first|(cases hd;done)|(cases he;done))
 all_goals(unfold Rep at rd re;subst rd re)
 all_goals(first|(obtain⟨t,rfl⟩:=rx;obtain⟨t',rfl⟩:=ry)|(obtain⟨t,rfl⟩:=rx;cases ry)|(cases rx;obtain⟨t,rfl⟩:=ry)|(cases rx;cases ry))
 all_goals unfold di
 . exact⟨RcAt.none_none,EqAt.same _⟩
 . exact⟨RcAt.none_bool _,EqAt.none_bool _⟩
 . exact⟨RcAt.none_int _ _,EqAt.none_int _ _⟩
 . exact⟨RcAt.none_str _ _,EqAt.none_str _ _⟩
 . exact⟨RcAt.bool_none _,EqAt.bool_none _⟩
 . exact⟨RcAt.bool_bool _ _,EqAt.bool_bool _ _⟩
 . exact⟨RcAt.bool_int _ _ _,EqAt.bool_int _ _ _⟩
 . exact⟨RcAt.bool_str _ _ _,EqAt.bool_str _ _ _⟩
 . exact⟨RcAt.int_none _ _,EqAt.int_none _ _⟩
 . exact⟨RcAt.int_bool _ _ _,EqAt.int_bool _ _ _⟩
 . exact⟨RcAt.int_int _ _ _ _,EqAt.int_int _ _ _ _⟩
 . exact⟨RcAt.int_str _ _ _ _,EqAt.int_str _ _ _ _⟩
 . exact⟨RcAt.str_none _ _,EqAt.str_none _ _⟩
 . exact⟨RcAt.str_bool _ _ _,EqAt.str_bool _ _ _⟩
 . exact⟨RcAt.str_int _ _ _ _,EqAt.str_int _ _ _ _⟩
 . exact⟨RcAt.str_str _ _ _ _,EqAt.str_str _ _ _ _⟩
def lst_is(I:Inv X pins σ H s){xs:List D}{x:V}{u:Value}(r:Rep α H (.lst xs) x)(rx:RelV x u):∃a vs ao,u= .ref a/\aN α H xs vs/\Vals vs ao/\s.heap.IsList a ao.toArray:=by
 unfold Rep at r;obtain⟨a,vs,rfl,na,ha,ra⟩:=r;cases rx;obtain⟨z,ao,n,rv,hl,eo⟩:=Inv.sZ I ha;exact⟨a,vs,ao,rfl,ra,rv,⟨_,eo,rfl,n,rfl⟩⟩
def tup_is(I:Inv X pins σ H s){xs:List D}{x:V}{u:Value}(r:Rep α H (.tup xs) x)(rx:RelV x u):∃a vs ao,u= .ref a/\aN α H xs vs/\Vals vs ao/\s.heap.IsTuple a ao.toArray:=by
 unfold Rep at r;obtain⟨a,vs,rfl,na,ha,ra⟩:=r;cases rx;obtain⟨ao,r',p,hz⟩:=I.tuple (jH.of ha);exact⟨a,vs,ao,rfl,ra,r',p⟩
def yy(I:Inv X pins σ H s){A:Around}{xs:List D}{e:D}{x y:V}{u v:Value}(he:yr e=true)(rd:Rep α H (.lst xs) x)(re:Rep α H e y)(rx:RelV x u)(ry:RelV y v)(hu:A.units<cLine):
 (RcAt A s u v (di (.lst xs) e)/\EqAt A s u v (di (.lst xs) e))/\RcAt A s v u (di e (.lst xs))/\EqAt A s v u (di e (.lst xs)):=by
 obtain⟨a,vs,ao,rfl,_,_,hl⟩:=lst_is I rd rx;cases e<;>try(cases he;done)
 all_goals(unfold Rep at re;subst re)
 all_goals(first|(obtain⟨t,rfl⟩:=ry)|(cases ry))
 all_goals unfold di
 . exact⟨⟨RcAt.list_none hl hu,EqAt.list_none hl hu⟩,RcAt.none_list hl hu,EqAt.none_list hl hu⟩
 . exact⟨⟨RcAt.list_bool _ hl hu,EqAt.list_bool _ hl hu⟩,RcAt.bool_list _ hl hu,EqAt.bool_list _ hl hu⟩
 . exact⟨⟨RcAt.list_int _ _ hl hu,EqAt.list_int _ _ hl hu⟩,RcAt.int_list _ _ hl hu,EqAt.int_list _ _ hl hu⟩
 . exact⟨⟨RcAt.list_str _ _ hl hu,EqAt.list_str _ _ hl hu⟩,RcAt.str_list _ _ hl hu,EqAt.str_list _ _ hl hu⟩
def yv(I:Inv X pins σ H s){A:Around}{xs:List D}{e:D}{x y:V}{u v:Value}(he:yr e=true)(rd:Rep α H (.tup xs) x)(re:Rep α H e y)(rx:RelV x u)(ry:RelV y v)(hu:A.units<cLine):
 (RcAt A s u v (di (.tup xs) e)/\EqAt A s u v (di (.tup xs) e))/\RcAt A s v u (di e (.tup xs))/\EqAt A s v u (di e (.tup xs)):=by
 obtain⟨a,vs,ao,rfl,_,_,hl⟩:=tup_is I rd rx;cases e<;>try(cases he;done)
 all_goals(unfold Rep at re;subst re)
 all_goals(first|(obtain⟨t,rfl⟩:=ry)|(cases ry))
 all_goals unfold di
 . exact⟨⟨RcAt.tuple_none hl hu,EqAt.tuple_none hl hu⟩,RcAt.none_tuple hl hu,EqAt.none_tuple hl hu⟩
 . exact⟨⟨RcAt.tuple_bool _ hl hu,EqAt.tuple_bool _ hl hu⟩,RcAt.bool_tuple _ hl hu,EqAt.bool_tuple _ hl hu⟩
 . exact⟨⟨RcAt.tuple_int _ _ hl hu,EqAt.tuple_int _ _ hl hu⟩,RcAt.int_tuple _ _ hl hu,EqAt.int_tuple _ _ hl hu⟩
 . exact⟨⟨RcAt.tuple_str _ _ hl hu,EqAt.tuple_str _ _ hl hu⟩,RcAt.str_tuple _ _ hl hu,EqAt.str_tuple _ _ hl hu⟩
def CJ{A:Around}{n:Nat}{d e:D}{x y:V}{a b:Addr}(hd:pl n d=true)(he:pl n e=true)(rd:Rep α H d x)(re:Rep α H e y)(rx:RelV x (.ref a))(ry:RelV y (.ref b))(h:RcAt A s (.ref a) (.ref b) (di d e)):
 RcAt A s (.ref a) (.ref b) (di d e)/\EqAt A s (.ref a) (.ref b) (di d e):=by
 refine⟨h,?_⟩;by_cases hab:a=b
 . subst hab;have hx:x=y:=RelV.inj rx ry;subst hx;have:=Rep.inj n hd he rd re;subst this;rw[vo n d hd];exact EqAt.same _
 . exact EqAt.of_refs hab h
def Df(I:Inv X pins σ H s):∀(n:Nat) (A:Around) (d e:D) (x y:V) (u v:Value),pl n d=true->pl n e=true->Rep α H d x->Rep α H e y->RelV x u->RelV y v->A.units+n<cLine->
 RcAt A s u v (di d e)/\EqAt A s u v (di d e):=by
 intro n;induction n with
 |zero=>
  intro A d e x y u v hd he rd re rx ry hu;refine Cq ?_ ?_ rd re rx ry
  . cases d<;>first|rfl|(cases hd)
  . cases e<;>first|rfl|(cases he)
 |succ n ih=>
  intro A d e x y u v hd he rd re rx ry hu;have hu0:A.units<cLine:=by omega
  have hin:A.in1.units+n<cLine:=by rw[Around.in1_units];omega
  cases d<;>try(cases hd;done)
  case lst xs=>
   cases e<;>try(cases he;done)
   case lst ys=>
    have rd0:=rd;have re0:=re;have rx0:=rx;have ry0:=ry;obtain⟨a,vs,ao,rfl,r1,v1,l1⟩:=lst_is I rd rx;obtain⟨b,ws,jts,rfl,r2,v2,l2⟩:=lst_is I re ry;have e1:=r1.length;have e2:=v1.length;have e3:=r2.length;have e4:=v2.length;refine CJ hd he rd0 re0 rx0 ry0 ?_;unfold di;by_cases hlen:xs.length=ys.length
    . rw[oZ hlen];have hsz:ao.toArray.size=jts.toArray.size:=by simp only[Sl];omega
      have hx:xs.length=ao.toArray.size:=by simp only[Sl];omega
      rw[hx];refine RcAt.lists l1 l2 hsz hu0 λ j h1 h2=>?_;have h1':j<ao.length:=by simpa using h1
      have h2':j<jts.length:=by simpa using h2
      obtain⟨p,_,q1,q2⟩:=kR r1 v1 j h1';obtain⟨p',_,q1',q2'⟩:=kR r2 v2 j h2';exact(ih A.in1 _ _ p p' _ _ (jw (by unfold pl at hd;exact hd) j) (jw (by unfold pl at he;exact he) j) q1 q1' (by simpa using q2) (by simpa using q2') hin).2
    . rw[oU hlen];exact RcAt.lists_lengths l1 l2 (by simp only[Sl,W0,ne_eq];omega) hu0
   case tup ys=>
    obtain⟨a,vs,ao,rfl,r1,v1,l1⟩:=lst_is I rd rx;obtain⟨b,ws,jts,rfl,r2,v2,l2⟩:=tup_is I re ry;unfold di;exact⟨RcAt.list_tuple l1 l2 hu0,EqAt.list_tuple l1 l2 hu0⟩
   all_goals exact(yy I rfl rd re rx ry hu0).1
  case tup xs=>
   cases e<;>try(cases he;done)
   case tup ys=>
    have rd0:=rd;have re0:=re;have rx0:=rx;have ry0:=ry;obtain⟨a,vs,ao,rfl,r1,v1,l1⟩:=tup_is I rd rx;obtain⟨b,ws,jts,rfl,r2,v2,l2⟩:=tup_is I re ry;have e1:=r1.length;have e2:=v1.length;have e3:=r2.length;have e4:=v2.length;refine CJ hd he rd0 re0 rx0 ry0 ?_;unfold di
    have key:=RcAt.tuples (e:=λ j=>di (xs.getD j .aG) (ys.getD j .aG)) l1 l2 hu0 λ j h1 h2=>by
     have h1':j<ao.length:=by simpa using h1
     have h2':j<jts.length:=by simpa using h2
     obtain⟨p,_,q1,q2⟩:=kR r1 v1 j h1';obtain⟨p',_,q1',q2'⟩:=kR r2 v2 j h2';exact(ih A.in1 _ _ p p' _ _ (jw (by unfold pl at hd;exact hd) j) (jw (by unfold pl at he;exact he) j) q1 q1' (by simpa using q2) (by simpa using q2') hin).2
    by_cases hlen:xs.length=ys.length
    . rw[oZ hlen];have hsz:ao.toArray.size=jts.toArray.size:=by simp only[Sl];omega
      have hx:xs.length=ao.toArray.size:=by simp only[Sl];omega
      rw[hsz,W_,We,WR,<-hsz,<-hx]at key;exact key
    . rw[oU hlen];have hne:(ao.toArray.size==jts.toArray.size)=false:=by simp only[Sl,Ut,ne_eq];omega
      rw[hne,XB]at key;exact key
   case lst ys=>
    obtain⟨a,vs,ao,rfl,r1,v1,l1⟩:=tup_is I rd rx;obtain⟨b,ws,jts,rfl,r2,v2,l2⟩:=lst_is I re ry;unfold di;exact⟨RcAt.tuple_list l1 l2 hu0,EqAt.tuple_list l1 l2 hu0⟩
   all_goals exact(yv I rfl rd re rx ry hu0).1
  all_goals
   cases e<;>try(cases he;done)
   case lst ys=>exact(yy I rfl re rd ry rx hu0).2
   case tup ys=>exact(yv I rfl re rd ry rx hu0).2
   all_goals exact Cq rfl rfl rd re rx ry
def N0:dy:=λ x y st K=>pl 40 x=true/\pl 40 y=true/\K (.bl (di x y)) st
def Ro{k:Nat}(hr:dg k X.A):cx X (compareOp .Eq) (LR N0):=λ pins s σ H x y v u Q I rx ry ⟨α,d,e,st,K,G,F',P,r1,r2,S,q,k⟩=>by
 have hu:=hr.units;exact(Df I 40 X.A d e x y v u q.1 q.2.1 (r1.mono P.same) (r2.mono P.same) rx ry (by omega)).1 _ _ _ _ ⟨.bl (di d e),H,I,rfl,k.here P q.2.2 S (by unfold Rep;rfl)⟩
def LQ:dy:=λ x y st K=>match x,y with
 | .int i,.int j=>K (.bl (!decide (i=j))) st
 | .bl i,.bl j=>K (.bl (!decide (i=j))) st
 | .str i,.str j=>K (.bl (!decide (i=j))) st
 |_,_=>False
def QZ:cx X (compareOp .NotEq) (LR LQ):=cx.imp OU λ x y H Q ⟨α,d,e,st,K,G,F',P,r1,r2,S,q,k⟩=>by
 cases d<;>cases e<;>try exact q.elim
 all_goals(unfold Rep at r1 r2;subst r1 r2)
 . exact⟨rfl,k.here P q S (by unfold Rep;congr 2;exact Xa.mpr ⟨λ h=>by cases h;rfl,λ h=>by rw[h]⟩)⟩
 . exact⟨rfl,k.here P q S (by unfold Rep;congr 2;exact Xa.mpr ⟨λ h=>by cases h;rfl,λ h=>by rw[h]⟩)⟩
 . exact⟨rfl,k.here P q S (by unfold Rep;congr 2;exact Xa.mpr ⟨λ h=>by cases h;rfl,λ h=>by rw[h]⟩)⟩
end
end L3
namespace L3
open PySem PySem.Spec L2
open PyProof.Rows hiding St
def LC(α:List (Option Addr))(G F:Hp)(K:cm->ag->Prop)(Q:L2.St->Hp->Prop):Prop:=∀σd' st',K σd' st'->∀α' G' H' σ',Step α G α' G'->cO G' F H'->fu α' G' σd' σ'->aX α' st' G'->Q σ' H'
structure zo(α:List (Option Addr))(G F:Hp)(DD:oi)(D:Ends):Prop where
 nx:LC α G F DD.nx D.nx
 rt:LK α G F DD.rt D.rt
 bk:LC α G F DD.bk D.bk
 ct:LC α G F DD.ct D.ct
inductive QF(t:DS)(D:Ends)(σ:L2.St)(H:Hp):Prop
 |mk (α:List (Option Addr)) (σd:cm) (st:ag) (DD:oi) (G F:Hp) (P:cO G F H) (R:fu α G σd σ) (S:aX α st G) (h:t DD σd st) (k:zo α G F DD D):QF t D σ H
def LS(t:DS):TS:=QF t
def LC.at{α α1:List (Option Addr)}{G F G1:Hp}{K:cm->ag->Prop}{Q:L2.St->Hp->Prop}(h:LC α G F K Q)(s:Step α G α1 G1):LC α1 G1 F K Q:=λ d st' k α' G' H' v s' P R S=>h d st' k α' G' H' v (s.trans s') P R S
def LC.here{α:List (Option Addr)}{G F H:Hp}{K:cm->ag->Prop}{Q:L2.St->Hp->Prop}(h:LC α G F K Q)(P:cO G F H){σd:cm}{st:ag}{σ:L2.St}(k:K σd st)(R:fu α G σd σ)(S:aX α st G):Q σ H:=h σd st k α G H σ Step.refl P R S
def zo.at{α α1:List (Option Addr)}{G F G1:Hp}{DD:oi}{D:Ends}(h:zo α G F DD D)(s:Step α G α1 G1):zo α1 G1 F DD D:=⟨h.nx.at s,h.rt.at s,h.bk.at s,h.ct.at s⟩
section
variable {X:Cx}{a b c e o i:Expr}{es:List Expr}{ta tb tc te:DE}{pos:Pos}{st:Stmt}{sts:List Stmt}{t u:DS}
def PS.imp{t t':TS}(h:PS X st t)(f:∀D σ H,t' D σ H->t D σ H):PS X st t':=λ pins s σ H D I q=>h pins s σ H D I (f D σ H q)
def iu.imp{t t':TS}(h:iu X sts t)(f:∀D σ H,t' D σ H->t D σ H):iu X sts t':=λ pins s σ H D I q=>h pins s σ H D I (f D σ H q)
def fk:DS:=λ D σ st=>D.nx σ st
def aJ(t u:DS):DS:=λ D σ st=>t {D with nx:=u D} σ st
def Kn:iu X [] (LS fk):=iu.imp JX λ D σ H ⟨α,σd,st,DD,G,F,P,R,S,t,k⟩=>k.nx.here P t R S
def Lr(h:PS X st (LS t)):iu X [st] (LS t):=Kx h
def GI(h:PS X st (LS t))(h2:iu X sts (LS u)):iu X (st::sts) (LS (aJ t u)):=iu.imp (GQ h h2) λ D σ H ⟨α,σd,st,DD,G,F,P,R,S,t,k⟩=>
 ⟨α,σd,st,_,G,F,P,R,S,t,λ σd' st' q α' G' H' σ' s' P' R' S'=>⟨α',σd',st',DD,G',F,P',R',S',q,k.at s'⟩,k.rt,k.bk,k.ct⟩
def cy(te:DE):DS:=λ D σ st=>te σ st D.rt
def NW(h:PE X e (LE te)):PS X (.Return (some e) pos) (LS (cy te)):=PS.imp (NF h) λ D σ H ⟨α,σd,st,DD,G,F,P,R,S,t,k⟩=>⟨α,σd,st,_,G,F,P,R,S,t,k.rt⟩
def mW(te:DE):DS:=λ D σ st=>te σ st λ _ st1=>D.nx σ st1
def KR(h:PE X e (LE te))(hs:swapsWith e none pos.line X.env=pure false:=by rfl):PS X (.Expr e pos) (LS (mW te)):=PS.imp (J9 h hs) λ D σ H ⟨α,σd,st,DD,G,F,P,R,S,t,k⟩=>
 ⟨α,σd,st,_,G,F,P,R,S,t,λ d st1 q α1 G1 H1 v s1 P1 S1 r1=>(k.nx.at s1).here P1 q (R.step s1) S1⟩
def ft(c:DT)(t u:DS):DS:=λ D σ st=>c σ st λ b st1=>if b=true then t D σ st1 else u D σ st1
def OO{x y:List Stmt}{tc:DT}(hc:PT X c (LT tc))(ha:iu X x (LS t))(hb:iu X y (LS u)):PS X (.If c x y pos) (LS (ft tc t u)):=PS.imp (Qh hc ha hb) λ D σ H ⟨α,σd,st,DD,G,F,P,R,S,t,k⟩=>by
 refine⟨α,σd,st,_,G,F,P,R,S,t,λ b st1 q α1 G1 H1 s1 P1 S1=>?_⟩;cases b with
 |true=>exact⟨α1,σd,st1,DD,G1,F,P1,R.step s1,S1,q,k.at s1⟩
 |false=>exact⟨α1,σd,st1,DD,G1,F,P1,R.step s1,S1,q,k.at s1⟩
abbrev f9:=D->cm->Option cm
def a8(i:Nat):f9:=λ d σ=>some (σ.set i (some d))
def gz(i j:Nat):f9:=λ d σ=>match d with| .tup [x,y]=>some ((σ.set i (some x)).set j (some y))|_=>none
inductive QG(t:f9)(v:V)(σ:L2.St)(H:Hp)(Q:L2.St->Hp->Prop):Prop
 |mk (α:List (Option Addr)) (σd:cm) (st:ag) (d:D) (K:cm->ag->Prop) (G F:Hp) (P:cO G F H) (R:fu α G σd σ) (S:aX α st G) (r:Rep α G d v) (h:∃σ',t d σd=some σ'/\K σ' st) (k:LC α G F K Q):QG t v σ H Q
def LG(t:f9):TG:=QG t
def PG.imp{tg:Expr}{t t':TG}(h:PG X tg t)(f:∀v σ H Q,t' v σ H Q->t v σ H Q):PG X tg t':=λ pins s σ H v u Q I r q=>h pins s σ H v u Q I r (f v σ H Q q)
def Lj{tg:Expr}{i:Nat}(h:PG X tg (mS i)):PG X tg (LG (a8 i)):=PG.imp h λ v σ H Q ⟨α,σd,st,d,K,G,F,P,R,S,r,⟨σ',e,q⟩,k⟩=>by
 cases e;exact k.here P q (R.set i r) S
def Of{tg:Expr}{i j:Nat}(h:PG X tg (Nk X.K 2 (Ef (mS i) (Ef (mS j) M4)))):PG X tg (LG (gz i j)):=PG.imp h λ v σ H Q ⟨α,σd,st,d,K,G,F,P,R,S,r,⟨σ',e,q⟩,k⟩=>by
 unfold gz at e;split at e
 . rename_i x y;cases e;unfold Rep at r;obtain⟨a,vs,rfl,na,h1,h2⟩:=r;obtain⟨v1,v2,rfl,r1,r2⟩:=rV h2 rfl;exact⟨a,_,rfl,.of (P.get h1),rfl,v1,_,rfl,v2,_,rfl,rfl,k.here P q ((R.set i r1).set j r2) S⟩
 . cases e
def a9(i:Nat)(te:DE):DS:=λ D σ st=>te σ st λ d st1=>D.nx (σ.set i (some d)) st1
def FF{i:Nat}(h:PS X st (o9 (LE te) (mS i))):PS X st (LS (a9 i te)):=PS.imp h λ D σ H ⟨α,σd,st,DD,G,F,P,R,S,t,k⟩=>
 ⟨α,σd,st,_,G,F,P,R,S,t,λ d st1 q α1 G1 H1 v s1 P1 S1 r1=>(k.nx.at s1).here P1 q ((R.step s1).set i r1) S1⟩
def tP(tg:f9)(te:DE):DS:=λ D σ st=>te σ st λ d st1=>∃σ',tg d σ=some σ'/\D.nx σ' st1
def MX{tg:f9}(h:PS X st (o9 (LE te) (LG tg))):PS X st (LS (tP tg te)):=PS.imp h λ D σ H ⟨α,σd,st,DD,G,F,P,R,S,t,k⟩=>
 ⟨α,σd,st,_,G,F,P,R,S,t,λ d st1 q α1 G1 H1 v s1 P1 S1 r1=>⟨α1,σd,st1,d,DD.nx,G1,F,P1,R.step s1,S1,r1,q,k.nx.at s1⟩⟩
def Dk(i j:Nat)(ta:DA):DS:=λ D σ st=>ta σ st λ ds st1=>match ds with| [x,y]=>D.nx ((σ.set i (some x)).set j (some y)) st1|_=>False
def Ni{i j:Nat}{ta:DA}(h:PS X st (LN i j (LA ta))):PS X st (LS (Dk i j ta)):=PS.imp h λ D σ H ⟨α,σd,st,DD,G,F,P,R,S,t,k⟩=>by
 refine⟨α,σd,st,_,G,F,P,R,S,t,λ ds st1 q α1 G1 H1 vs s1 P1 S1 r1=>?_⟩;match ds,q,r1 with
 | [x,y],q,r1=>
   obtain⟨v1,v2,rfl,q1,q2⟩:=rV r1 rfl;exact⟨v1,v2,rfl,(k.nx.at s1).here P1 q (((R.step s1).set i q1).set j q2) S1⟩
def DJ(i:Nat)(r:dy)(te:DE):DS:=λ D σ st=>match σ[i]? with|some (some x)=>te σ st λ y st1=>r x y st1 λ z st2=>D.nx (σ.set i (some z)) st2|_=>False
def Aj(f:Int->Int->Int):dy:=λ x y st K=>match x,y with| .int i,.int j=>K (.int (f i j)) st|_,_=>False
def Mh{i:Nat}{f:Int->Int->Int}(h:PS X st (L6 i (LE te) (Mf f))):PS X st (LS (DJ i (Aj f) te)):=PS.imp h λ D σ H ⟨α,σd,st,DD,G,F,P,R,S,t,k⟩=>by
 unfold DJ at t;split at t
 . rename_i x e;obtain⟨v,ev,rv⟩:=R.at' i x e;refine⟨v,ev,α,σd,st,_,G,F,P,R,S,t,λ y st1 q α1 G1 H1 w s1 P1 S1 r1=>?_⟩;cases x<;>cases y<;>try exact q.elim
   have rv':=rv;unfold Rep at rv r1;exact⟨_,_,rv,r1,(k.nx.at s1).here P1 q ((R.step s1).set i (by unfold Rep;rfl)) S1⟩
 . exact t.elim
def DP(x y d:D)(st:ag)(K:ag->Prop):Prop:=match x,y with
 | .ref n,.int k=>(match st[n]? with
   |some (.lst xs)=>(match j7 xs.length k with|some j=>K (st.set n (.lst (xs.set j d)))|none=>False)
   |_=>False)
 |_,_=>False
def L7(to ti te:DE):DS:=λ D σ st=>te σ st λ d st1=>to σ st1 λ x st2=>ti σ st2 λ y st3=>DP x y d st3 λ st4=>D.nx σ st4
def Hn{to ti:DE}(h:PS X st (o9 (LE te) (C0 (LE to) (LE ti) zA))):PS X st (LS (L7 to ti te)):=PS.imp h λ D σ H ⟨α,σd,st,DD,G,F,P,R,S,t,k⟩=>by
 refine⟨α,σd,st,_,G,F,P,R,S,t,λ d st1 q α1 G1 H1 v s1 P1 S1 r1=>?_⟩;refine⟨α1,σd,st1,_,G1,F,P1,R.step s1,S1,q,λ x st2 q2 α2 G2 H2 v2 s2 P2 S2 r2=>?_⟩;refine⟨α2,σd,st2,_,G2,F,P2,(R.step s1).step s2,S2,q2,λ y st3 q3 α3 G3 H3 v3 s3 P3 S3 r3=>?_⟩;cases x<;>cases y<;>try exact q3.elim
 rename_i n kk;unfold DP at q3;simp only at q3;split at q3
 . rename_i xs e;split at q3
   . rename_i j ej;obtain⟨p,ep,vs,hv,rv⟩:=S3.g5 e;have r2':=eQ ep (r2.step s3);subst r2';unfold Rep at r3;have hm:some p∈α3:=S8 ep;have rd:=(r1.step s2).step s3;refine⟨p,vs,kk,j,rfl,r3,P3.get hv,by rw[<-rv.length];exact ej,?_⟩;refine(((k.nx.at s1).at s2).at s3) σd _ q3 α3 (upd G3 p (.lst (vs.set j v))) _ σ (Step.write hm) (P3.write hv) ((((R.step s1).step s2).step s3).step (Step.write hm)) ?_;exact S3.write ep ⟨vs.set j v,a6,(aT.mpr (wG rd j (aT.mp rv))).step (Step.write hm)⟩
   . exact q3.elim
 . exact q3.elim
def tO(c:DT)(tb:DS):DS:=λ D σ st=>∃W:Nat->cm->ag->Prop,(∃m,W m σ st)/\∀m σ st,W m σ st->
 c σ st λ b st1=>if b=true then tb {D with nx:=λ σ' st'=>∃m',m'<m/\W m' σ' st',ct:=λ σ' st'=>∃m',m'<m/\W m' σ' st',bk:=D.nx} σ st1 else D.nx σ st1
def Ic{tc:DT}(h:PS X st (Fe (LT tc) (LS t))):PS X st (LS (tO tc t)):=PS.imp h λ D σ H ⟨α,σd,st,DD,G,F,P,R,S,⟨W,⟨m0,w0⟩,turn⟩,k⟩=>by
 refine⟨λ m σ' H'=>∃α' σd' st' G',Step α G α' G'/\cO G' F H'/\fu α' G' σd' σ'/\aX α' st' G'/\W m σd' st',⟨m0,α,σd,st,G,Step.refl,P,R,S,w0⟩,?_⟩;rintro m σ1 H1 ⟨α1,σd1,st1,G1,s1,P1,R1,S1,w1⟩;refine⟨α1,σd1,st1,_,G1,F,P1,R1,S1,turn m σd1 st1 w1,λ b st2 q α2 G2 H2 s2 P2 S2=>?_⟩;cases b with
 |false=>exact((k.nx.at s1).at s2).here P2 q (R1.step s2) S2
 |true=>
  refine⟨λ σ' H'=>∃m',m'<m/\∃α' σd' st' G',Step α G α' G'/\cO G' F H'/\fu α' G' σd' σ'/\aX α' st' G'/\W m' σd' st',λ σ' H' z=>z,?_⟩;refine⟨α2,σd1,st2,_,G2,F,P2,R1.step s2,S2,q,?_⟩;refine⟨?_,(k.rt.at s1).at s2,(k.nx.at s1).at s2,?_⟩
  . rintro σd3 st3 ⟨m',hm,w3⟩ α3 G3 H3 σ3 s3 P3 R3 S3;exact⟨m',hm,α3,σd3,st3,G3,(s1.trans s2).trans s3,P3,R3,S3,w3⟩
  . rintro σd3 st3 ⟨m',hm,w3⟩ α3 G3 H3 σ3 s3 P3 R3 S3;exact⟨m',hm,α3,σd3,st3,G3,(s1.trans s2).trans s3,P3,R3,S3,w3⟩
abbrev DI:=cm->ag->(List D->(ag->Prop)->ag->Prop)->Prop
structure vA(J:It)(α:List (Option Addr))(G:Hp)(ok:ag->Prop)(xs:List D):Prop where
 stop:∀(n:Nat) α' G' F' H' st',Step α G α' G'->cO G' F' H'->aX α' st' G'->ok st'->xs.length<=n->J.stop n H'
 go:∀(n:Nat) d α' G' F' H' st',Step α G α' G'->cO G' F' H'->aX α' st' G'->ok st'->xs[n]?=some d->J.go n H'
 pF:∀(n:Nat) d α' G' F' H' st' x H'',Step α G α' G'->cO G' F' H'->aX α' st' G'->ok st'->xs[n]?=some d->J.pF n H' x H''->∃G'',Step α' G' α' G''/\cO G'' F' H''/\aX α' st' G''/\Rep α' G'' d x
def LI(t:DI):TI:=λ σ H R=>∃α σd st K G F,cO G F H/\fu α G σd σ/\aX α st G/\t σd st K/\∀xs ok st1,K xs ok st1->∀J α1 G1 H1,Step α G α1 G1->cO G1 F H1->aX α1 st1 G1->vA J α1 G1 ok xs->R J H1
def xr(d:D)(st1:ag)(K:List D->(ag->Prop)->ag->Prop):Prop:=match d with
 | .lst xs=>K xs (λ _=>True) st1
 | .tup xs=>K xs (λ _=>True) st1
 | .ref n=>(match st1[n]? with|some (.lst xs)=>K xs (λ st'=>st'[n]?=some (.lst xs)) st1|_=>False)
 |_=>False
def OR(t:DE):DI:=λ σ st K=>t σ st λ d st1=>xr d st1 K
def CK{K:PySem.W.Frag}{a:Addr}{α:List (Option Addr)}{G:Hp}{ok:ag->Prop}{xs:List D}
 (h:∀α' G' st',Step α G α' G'->aX α' st' G'->ok st'->∃vs,Rd G' a (.lst vs)/\aN α' G' xs vs):vA (Oc K a) α G ok xs where
 stop:=λ n α' G' F' H' st' s P S o hn=>by
  obtain⟨vs,h1,h2⟩:=h α' G' st' s S o;exact⟨vs,.inl (fI P h1),by rw[<-h2.length];exact hn⟩
 go:=λ n d α' G' F' H' st' s P S o hn=>by
  obtain⟨vs,h1,h2⟩:=h α' G' st' s S o;obtain⟨v,e,_⟩:=h2.get hn;exact⟨vs,v,.inl (fI P h1),e⟩
 pF:=λ n d α' G' F' H' st' x H'' s P S o hn y=>by
  obtain⟨vs,h1,h2⟩:=h α' G' st' s S o;obtain⟨v,e,r⟩:=h2.get hn;obtain⟨rfl,y⟩:=y;have:=y vs (.inl (fI P h1));rw[e]at this;cases this;exact⟨G',Step.refl,P,S,r⟩
def MZ{K:PySem.W.Frag}{a:Addr}{α:List (Option Addr)}{G:Hp}{ok:ag->Prop}{xs:List D}
 (h:∀α' G' st',Step α G α' G'->aX α' st' G'->ok st'->∃vs,G' a=some (.tup vs)/\aN α' G' xs vs):vA (NZ K a) α G ok xs where
 stop:=λ n α' G' F' H' st' s P S o hn=>by
  obtain⟨vs,h1,h2⟩:=h α' G' st' s S o;exact⟨vs,.of (P.get h1),by rw[<-h2.length];exact hn⟩
 go:=λ n d α' G' F' H' st' s P S o hn=>by
  obtain⟨vs,h1,h2⟩:=h α' G' st' s S o;obtain⟨v,e,_⟩:=h2.get hn;exact⟨vs,v,.of (P.get h1),e⟩
 pF:=λ n d α' G' F' H' st' x H'' s P S o hn y=>by
  obtain⟨vs,h1,h2⟩:=h α' G' st' s S o;obtain⟨v,e,r⟩:=h2.get hn;obtain⟨rfl,y⟩:=y;have:=y vs (.of (P.get h1));rw[e]at this;cases this;exact⟨G',Step.refl,P,S,r⟩
def Hx{α α':List (Option Addr)}{G G':Hp}{a:Addr}{vs:List V}{xs:List D}(s:Step α G α' G')(na:some a∉α)(h1:Rd G a (.lst vs))(h2:aN α G xs vs):Rd G' a (.lst vs)/\aN α' G' xs vs:=by
 refine⟨?_,h2.step s⟩;rcases h1 with h|⟨o,h⟩
 . exact .inl (s.ext _ _ na h)
 . exact .inr ⟨o,s.ext _ _ na h⟩
def Nl{l tg:Expr}{tl:DE}(hl:PE X l (LE tl)):PI X tg l (LI (OR tl)):=by
 intro pins s σ H R I h;obtain⟨α,σd,st,K,G,F,P,RS,S,t,k⟩:=h;refine cJ (hl pins s σ H (λ x H1=>∃d α1 G1 st1,Step α G α1 G1/\cO G1 F H1/\aX α1 st1 G1/\Rep α1 G1 d x/\xr d st1 K) I ⟨α,σd,st,_,G,F,P,RS,S,t,λ d st1 q α1 G1 H1 v s1 P1 S1 r1=>⟨d,α1,G1,st1,s1,P1,S1,r1,q⟩⟩) λ v s1 ⟨x,H1,I1,rx,d,α1,G1,st1,s1',P1,S1,r1,q⟩=>?_;unfold xr at q
 have viaL:∀ {a:Addr} {vs:List V},x= .ref a->Rd H1 a (.lst vs)->R (Oc X.K a) H1->wpAny (model X.prog X.w) X.A (pyIter v) (IU X pins σ tg R) X.xe s1:=by
  intro a vs ex hr hR;subst ex;cases rx;obtain⟨ao,rv,p,hz⟩:=I1.list (.inl hr);refine Vy p.isList ?_;refine⟨s1.heap.objs.size,[s1.heap.objs.size],_,_,H1,rfl,I1.kept (t':=s1.toks) λ b o e=>Sh _ e,Gq a _,⟨_,SI _ rfl,rfl,rfl⟩,λ b hb=>?_,hR⟩;have e:b=s1.heap.objs.size:=by simpa using hb
  subst e;exact I1.vI (R_ _) (I1.aL.fresh (R_ _))
 have viaT:∀ {a:Addr} {vs:List V},x= .ref a->H1 a=some (.tup vs)->R (NZ X.K a) H1->wpAny (model X.prog X.w) X.A (pyIter v) (IU X pins σ tg R) X.xe s1:=by
  intro a vs ex hr hR;subst ex;cases rx;obtain⟨ao,rv,p,hz⟩:=I1.tuple (jH.of hr);refine UP (show s1.heap.IsTuple a ao.toArray from p) ?_;refine⟨s1.heap.objs.size,[s1.heap.objs.size],_,_,H1,rfl,I1.kept (t':=s1.toks) λ b o e=>Sh _ e,Du a _,⟨_,SI _ rfl,rfl,rfl⟩,λ b hb=>?_,hR⟩;have e:b=s1.heap.objs.size:=by simpa using hb
  subst e;exact I1.vI (R_ _) (I1.aL.fresh (R_ _))
 cases d<;>try exact q.elim
 . rename_i n;simp only at q;split at q
   . rename_i xs e;obtain⟨a,ea,vs,h1,h2⟩:=S1.g5 e;have r1':=eQ ea r1;subst r1';refine viaL rfl (fI P1 (.of h1)) (k _ _ st1 q _ α1 G1 H1 s1' P1 S1 (CK λ α' G' st' s S o=>?_));obtain⟨b,eb,ws,g1,g2⟩:=S.g5 o
     have hb:b=a:=by
      rcases s.pre _ _ ea with z|z<;>(rw[z]at eb;cases eb)
      rfl
     subst hb;exact⟨ws,.of g1,g2⟩
   . exact q.elim
 . unfold Rep at r1;obtain⟨a,vs,rfl,na,ha,ra⟩:=r1;exact viaL rfl (fI P1 ha) (k _ _ st1 q _ α1 G1 H1 s1' P1 S1 (CK λ α' G' st' s S o=>⟨vs,Hx s na ha ra⟩))
 . unfold Rep at r1;obtain⟨a,vs,rfl,na,ha,ra⟩:=r1;exact viaT rfl (P1.get ha) (k _ _ st1 q _ α1 G1 H1 s1' P1 S1 (MZ λ α' G' st' s S o=>⟨vs,s.ext _ _ na ha,ra.step s⟩))
def fe(lo:Int)(n:Nat):List D:=(List.range n).map λ(k:Nat)=>D.int (lo+(k:Int))
def wu{lo:Int}{n k:Nat}:(fe lo n)[k]?=if k<n then some (.int (lo+(k:Int)))else none:=by
 unfold fe;rw[SF];by_cases h:k<n
 . rw[List.getElem?_range h,Si h];rfl
 . rw[Wj (by simpa using h),Sf h];rfl
def cf{lo:Int}{n:Nat}:(fe lo n).length=n:=by unfold fe;simp
def Aw{α:List (Option Addr)}{G:Hp}{lo:Int}{n:Nat}:vA (yl lo n) α G (λ _=>True) (fe lo n) where
 stop:=λ m α' G' F' H' st' s P S o hn=>by rw[cf]at hn;exact hn
 go:=λ m d α' G' F' H' st' s P S o hn=>by
  rw[wu]at hn;split at hn
  . assumption
  . cases hn
 pF:=λ m d α' G' F' H' st' x H'' s P S o hn y=>by
  obtain⟨rfl,rfl⟩:=y;rw[wu]at hn;split at hn
  . cases hn;exact⟨G',Step.refl,P,S,by unfold Rep;rfl⟩
  . cases hn
def PI.imp{tg iter:Expr}{t t':TI}(h:PI X tg iter t)(f:∀σ H R,t' σ H R->t σ H R):PI X tg iter t':=λ pins s σ H R I q=>h pins s σ H R I (f σ H R q)
def Jk(ds:List D)(st1:ag)(K:List D->(ag->Prop)->ag->Prop):Prop:=match ds with
 | [.int j]=>(-(2^62)<=j/\j<2^62)/\K (fe 0 j.toNat) (λ _=>True) st1
 |_=>False
def Io(ds:List D)(st1:ag)(K:List D->(ag->Prop)->ag->Prop):Prop:=match ds with
 | [.int i,.int j]=>(-(2^62)<=i/\i<2^62/\ -(2^62)<=j/\j<2^62)/\K (fe i (j-i).toNat) (λ _=>True) st1
 |_=>False
def K5(t:DA):DI:=λ σ st K=>t σ st λ ds st1=>Jk ds st1 K
def JL(t:DA):DI:=λ σ st K=>t σ st λ ds st1=>Io ds st1 K
def Gn{tg iter:Expr}{t:DA}(h:PI X tg iter (C9 (LA t))):PI X tg iter (LI (K5 t)):=PI.imp h λ σ H R ⟨α,σd,st,K,G,F,P,RS,S,t,k⟩=>by
 refine⟨α,σd,st,_,G,F,P,RS,S,t,λ ds st1 q α1 G1 H1 vs s1 P1 S1 r1=>?_⟩;match ds,q,r1 with
 | [.int j],q,r1=>
   obtain⟨v,rfl,r2⟩:=gw r1 rfl;unfold Rep at r2;subst r2;exact⟨j,rfl,q.1.1,q.1.2,k _ _ st1 q.2 _ α1 G1 H1 s1 P1 S1 Aw⟩
def Fy{tg iter:Expr}{t:DA}(h:PI X tg iter (El (LA t))):PI X tg iter (LI (JL t)):=PI.imp h λ σ H R ⟨α,σd,st,K,G,F,P,RS,S,t,k⟩=>by
 refine⟨α,σd,st,_,G,F,P,RS,S,t,λ ds st1 q α1 G1 H1 vs s1 P1 S1 r1=>?_⟩;match ds,q,r1 with
 | [.int i,.int j],q,r1=>
   obtain⟨v,u,rfl,r2,r3⟩:=rV r1 rfl;unfold Rep at r2 r3;subst r2 r3;exact⟨i,j,rfl,q.1,k _ _ st1 q.2 _ α1 G1 H1 s1 P1 S1 Aw⟩
def ij(tg:f9)(body:DS)(ok:ag->Prop)(E:oi):List D->cm->ag->Prop
 | [],σ,st=>ok st/\E.nx σ st
 |x::xs,σ,st=>ok st/\∃σ1,tg x σ=some σ1/\body {E with nx:=ij tg body ok E xs,ct:=ij tg body ok E xs,bk:=E.nx} σ1 st
def jz(src:DI)(tg:f9)(body:DS):DS:=λ D σ st=>src σ st λ xs ok st1=>ij tg body ok D xs σ st1
def NG{src:DI}{tg:f9}(h:PS X st (M3 (LI src) (LG tg) (LS t))):PS X st (LS (jz src tg t)):=PS.imp h λ D σ H ⟨α,σd,st,DD,G,F,P,R,S,tt,k⟩=>by
 refine⟨α,σd,st,_,G,F,P,R,S,tt,λ xs ok st1 q J α1 G1 H1 s1 P1 S1 it=>?_⟩;refine⟨λ i m σ' H'=>∃α' σd' st' G',Step α1 G1 α' G'/\cO G' F H'/\fu α' G' σd' σ'/\aX α' st' G'/\ij tg t ok DD (xs.drop i) σd' st'/\m=xs.length-i,⟨xs.length,α1,σd,st1,G1,Step.refl,P1,R.step s1,S1,q,rfl⟩,?_⟩;rintro i m σ2 H2 ⟨α2,σd2,st2,G2,s2,P2,R2,S2,q2,rfl⟩;cases e:xs[i]? with
 |none=>
  have hl:xs.length<=i:=W2.mp e;rw[Ud hl]at q2;unfold ij at q2;exact .inl ⟨it.stop i α2 G2 F H2 st2 s2 P2 S2 q2.1 hl,((k.nx.at s1).at s2).here P2 q2.2 R2 S2⟩
 |some d=>
  have hl:i<xs.length:=(Sg.mp e).1
  have ed:xs.drop i=d::xs.drop (i+1):=by
   rw[TL hl];congr 1;rw[Sm hl]at e;exact Tq e
  rw[ed]at q2;unfold ij at q2;obtain⟨aL,σ3,e3,q3⟩:=q2;refine .inr ⟨it.go i d α2 G2 F H2 st2 s2 P2 S2 aL e,λ σ' H'=>∃α' σd' st' G',Step α1 G1 α' G'/\cO G' F H'/\fu α' G' σd' σ'/\aX α' st' G'/\ij tg t ok DD (xs.drop (i+1)) σd' st',?_,?_⟩
  . rintro σ' H' ⟨α',σd',st',G',z1,z2,z3,z4,z5⟩;exact⟨xs.length-(i+1),by omega,α',σd',st',G',z1,z2,z3,z4,z5,rfl⟩
  . intro x H' y;obtain⟨G3,s3,P3,S3,r3⟩:=it.pF i d α2 G2 F H2 st2 x H' s2 P2 S2 aL e y;refine⟨α2,σd2,st2,d,λ σ' st'=>σ'=σ3/\st'=st2,G3,F,P3,R2.step s3,S3,r3,⟨σ3,e3,rfl,rfl⟩,?_⟩;rintro σ' st' ⟨rfl,rfl⟩ α4 G4 H4 σ4 s4 P4 R4 S4;have s24:=(s2.trans s3).trans s4;refine⟨α4,σ',st',_,G4,F,P4,R4,S4,q3,?_,((k.rt.at s1).at s24),(k.nx.at s1).at s24,?_⟩
    . intro σd5 st5 q5 α5 G5 H5 σ5 s5 P5 R5 S5;exact⟨α5,σd5,st5,G5,s24.trans s5,P5,R5,S5,q5⟩
    . intro σd5 st5 q5 α5 G5 H5 σ5 s5 P5 R5 S5;exact⟨α5,σd5,st5,G5,s24.trans s5,P5,R5,S5,q5⟩
end
def h8(fr:List (Option Nat))(σ:cm):cm:=fr.map λ o=>o.bind λ j=>(σ[j]?).join
def fu.comp{α:List (Option Addr)}{G:Hp}{σd:cm}{σ:L2.St}{fr:List (Option Nat)}(h:fu α G σd σ):fu α G (h8 fr σd) (σC fr σ):=by
 refine⟨by unfold h8 σC;simp,λ i d e=>?_⟩;unfold h8 at e;rw[SF]at e;cases q:fr[i]? with
 |none=>rw[q]at e;cases e
 |some o=>
  rw[q]at e;cases o with
  |none=>simp at e
  |some j=>
   simp only[Vn,Option.some.injEq,Option.bind_some]at e
   have ej:σd[j]?=some (some d):=by
    cases r:σd[j]? with
    |none=>rw[r]at e;cases e
    |some u=>rw[r]at e;simp at e;rw[e]
   obtain⟨v,ev,rv⟩:=h.at' j d ej;refine⟨v,?_,rv⟩;unfold σC;rw[SF,q];simp[ev]
def dA(tg:f9)(c:DT)(te:DE)(ok:ag->Prop)(σc:cm):List D->List D->ag->(List D->ag->Prop)->Prop
 | [],acc,st,K=>ok st/\K acc st
 |x::xs,acc,st,K=>ok st/\∃σ2,tg x σc=some σ2/\c σ2 st λ b st1=>if b=true then te σ2 st1 λ y st2=>dA tg c te ok σc xs (acc++[y]) st2 K else dA tg c te ok σc xs acc st1 K
def cT(src:DI)(fr:List (Option Nat))(tg:f9)(c:DT)(te:DE):DE:=λ σ st K=>src σ st λ xs ok st1=>xs.length<=sizeLine/\dA tg c te ok (h8 fr σ) xs [] st1 λ ys st2=>K (.lst ys) st2
def lS(src:DI)(fr:List (Option Nat))(tg:f9)(c:DT)(te:DE):DE:=λ σ st K=>src σ st λ xs ok st1=>xs.length<=sizeLine/\dA tg c te ok (h8 fr σ) xs [] st1 λ ys st2=>K (.ref st2.length) (st2++[.lst ys])
def cF:DT:=λ _ st K=>K true st
def sy(fr:List (Option Nat))(tg:f9):Prop:=∀(σ:cm) (d:D) (σ2:cm),tg d (h8 fr σ)=some σ2->σ2.length=(h8 fr σ).length/\∀(i:Nat) (e:D),(h8 fr σ)[i]?=some (some e)->σ2[i]?=some (some e)
def tx{fr:List (Option Nat)}{σ:cm}{k:Nat}(h:fr[k]?=some none){e:D}(q:(h8 fr σ)[k]?=some (some e)):False:=by
 unfold h8 at q;rw[SF,h]at q;simp at q
def bG{fr:List (Option Nat)}{k:Nat}(h:fr[k]?=some none:=by rfl):sy fr (a8 k):=λ σ d σ2 e=>by
 cases e;refine⟨SO,λ i x q=>?_⟩;by_cases hi:i=k
 . subst hi;exact(tx h q).elim
 . rw[Sj (Sq hi)];exact q
def qO{fr:List (Option Nat)}{k j:Nat}(h:fr[k]?=some none:=by rfl)(h':fr[j]?=some none:=by rfl):sy fr (gz k j):=λ σ d σ2 e=>by
 unfold gz at e;split at e
 . cases e;refine⟨by rw[SO,SO],λ i x q=>?_⟩;by_cases hi:i=k
   . subst hi;exact(tx h q).elim
   . by_cases hj:i=j
     . subst hj;exact(tx h' q).elim
     . rw[Sj (Sq hj),Sj (Sq hi)];exact q
 . cases e
section
variable {X:Cx}
def M5{c:Expr}{t:DT}(h:PT X c (LT t)):tY X [c] (LT t):=K7 h
def Hr:tY X [] (LT cF):=λ pins s σ H Q I ⟨α,σd,st,K,G,F,P,R,S,t,k⟩=>K4 pins s σ H Q I (k true st t α G H Step.refl P S)
def LE.comp{src:DI}{fr:List (Option Nat)}{tg:f9}{c:DT}{te:DE}(fit:sy fr tg){σ:L2.St}{H:Hp}{Q:VK}{α:List (Option Addr)}{σd:cm}{st:ag}{KE:List D->ag->Prop}{G F:Hp}(P:cO G F H)(R:fu α G σd σ)(S:aX α st G)
 (t:src σd st λ xs ok st1=>xs.length<=sizeLine/\dA tg c te ok (h8 fr σd) xs [] st1 KE)
 (fin:∀ys st2 α2 G2 H2 l vs,KE ys st2->Step α G α2 G2->cO G2 (upd F l (.lst vs)) H2->F l=none->aX α2 st2 G2->aN α2 G2 ys vs->Q (.ref l) H2):
 uN (LI src) fr (LG tg) (LT c) (LE te) σ H Q:=by
 refine⟨α,σd,st,_,G,F,P,R,S,t,λ xs ok st1 q J α1 G1 H1 s1 P1 S1 it l hl=>?_⟩;obtain⟨hsz,q⟩:=q;obtain⟨hG,hF⟩:=P1.none hl
 refine⟨λ i m σ' H'=>∃α' st' G' acc vs,Step α1 G1 α' G'/\cO G' (upd F l (.lst vs)) H'/\fu α' G' (h8 fr σd) σ'/\aX α' st' G'/\aN α' G' acc vs/\acc.length<=i/\i<=xs.length/\dA tg c te ok (h8 fr σd) (xs.drop i) acc st' KE/\m=xs.length-i,
  ⟨xs.length,α1,st1,G1,[],[],Step.refl,P1.hide hl,(R.step s1).comp,S1,by unfold aN;rfl,R_ _,SM _,q,rfl⟩,?_⟩
 rintro i m σ2 H2 ⟨α2,st2,G2,acc,vs,s2,P2,R2,S2,ra,hacc,hi,q2,rfl⟩;cases e:xs[i]? with
 |none=>
  have hl2:xs.length<=i:=W2.mp e;rw[Ud hl2]at q2;unfold dA at q2;exact .inl ⟨it.stop i α2 G2 _ H2 st2 s2 P2 S2 q2.1 hl2,fin acc st2 α2 G2 H2 l vs q2.2 (s1.trans s2) P2 hF S2 ra⟩
 |some d=>
  have hl2:i<xs.length:=(Sg.mp e).1
  have ed:xs.drop i=d::xs.drop (i+1):=by
   rw[TL hl2];congr 1;rw[Sm hl2]at e;exact Tq e
  rw[ed]at q2;unfold dA at q2;obtain⟨aL,σ3,e3,q3⟩:=q2;refine .inr ⟨it.go i d α2 G2 _ H2 st2 s2 P2 S2 aL e,λ σ' H'=>∃α' st' G' acc vs,Step α1 G1 α' G'/\cO G' (upd F l (.lst vs)) H'/\fu α' G' (h8 fr σd) σ'/\aX α' st' G'/\aN α' G' acc vs/\acc.length<=i+1/\dA tg c te ok (h8 fr σd) (xs.drop (i+1)) acc st' KE,?_,?_⟩
  . rintro σ' H' ⟨α',st',G',acc',vs',z1,z2,z3,z4,z5,z6,z7⟩;exact⟨xs.length-(i+1),by omega,α',st',G',acc',vs',z1,z2,z3,z4,z5,z6,hl2,z7,rfl⟩
  . intro x H' y;obtain⟨G3,s3,P3,S3,r3⟩:=it.pF i d α2 G2 _ H2 st2 x H' s2 P2 S2 aL e y;refine⟨α2,h8 fr σd,st2,d,λ σ' st'=>σ'=σ3/\st'=st2,G3,_,P3,R2.step s3,S3,r3,⟨σ3,e3,rfl,rfl⟩,?_⟩;rintro σ' st' ⟨rfl,rfl⟩ α4 G4 H4 σ4 s4 P4 R4 S4;have s24:=(s2.trans s3).trans s4;have Rc:fu α4 G4 (h8 fr σd) σ4:=⟨by rw[<-(fit σd d σ' e3).1];exact R4.len,λ j z hz=>R4.at' j z ((fit σd d σ' e3).2 j z hz)⟩
    refine⟨α4,σ',st',_,G4,_,P4,R4,S4,q3,λ b st5 q5 α5 G5 H5 s5 P5 S5=>?_⟩;cases b with
    |false=>exact⟨α5,st5,G5,acc,vs,s24.trans s5,P5,Rc.step s5,S5,((ra.step s3).step s4).step s5,by omega,q5⟩
    |true=>
     refine⟨α5,σ',st5,_,G5,_,P5,R4.step s5,S5,q5,λ z st6 q6 α6 G6 H6 v6 s6 P6 S6 r6=>?_⟩;have hr:=(((ra.step s3).step s4).step s5).step s6;refine⟨vs,(P6.frame a6).1,by rw[<-hr.length];omega,α6,st6,G6,acc++[z],vs++[v6],(s24.trans s5).trans s6,?_,(Rc.step s5).step s6,S6,aT.mpr (fD (aT.mp hr) (.cons r6 .nil)),by rw[TB,Xz];omega,q6⟩;have:=P6.Jr (p:=l) (o':= .lst (vs++[v6])) a6;rw[Lk]at this;exact this
def Oo{scope:Scope}{Nc:List Str}{elt tg iter:Expr}{ifs:List Expr}{pos:Pos}{src:DI}{fr:List (Option Nat)}{dtg:f9}{c:DT}{te:DE}(S:aW X scope Nc fr)(hi:PI X tg iter (LI src))
 (hg:∀C s H ex,PG (fS X scope Nc C s H ex) tg (LG dtg)) (ht:∀C s H ex,tY (fS X scope Nc C s H ex) ifs (LT c)) (he:∀C s H ex,PE (fS X scope Nc C s H ex) elt (LE te)) (fit:sy fr dtg)
 (hx:X.xe=λ _ _=>False:=by rfl) (hc:X.calm=true:=by rfl) (hs:∀x,foldedSetIterable iter X.env x=pure x:=by intro _;rfl):PE X (.ListComp elt [⟨tg,iter,ifs,0⟩] scope pos) (LE (cT src fr dtg c te)):=
 PE.imp (CY hx hc S hi hg ht he hs) λ σ H Q ⟨α,σd,st,K,G,F,P,R,S,t,k⟩=>LE.comp fit P R S t λ ys st2 α2 G2 H2 l vs q s2 P2 hl S2 r=>by
  have hg:G2 l=none:=(P2.frame a6).2;refine k _ st2 q α2 (upd G2 l (.lst vs)) H2 (.ref l) (s2.trans (Step.laid hg)) (P2.show hl) (S2.laid hg) ?_;unfold Rep;exact⟨l,vs,rfl,S2.ll hg,.of a6,r.step (Step.laid hg)⟩
def Kj{scope:Scope}{Nc:List Str}{elt tg iter:Expr}{ifs:List Expr}{pos:Pos}{src:DI}{fr:List (Option Nat)}{dtg:f9}{c:DT}{te:DE}(S:aW X scope Nc fr)(hi:PI X tg iter (LI src))
 (hg:∀C s H ex,PG (fS X scope Nc C s H ex) tg (LG dtg)) (ht:∀C s H ex,tY (fS X scope Nc C s H ex) ifs (LT c)) (he:∀C s H ex,PE (fS X scope Nc C s H ex) elt (LE te)) (fit:sy fr dtg)
 (hx:X.xe=λ _ _=>False:=by rfl) (hc:X.calm=true:=by rfl) (hs:∀x,foldedSetIterable iter X.env x=pure x:=by intro _;rfl):PE X (.ListComp elt [⟨tg,iter,ifs,0⟩] scope pos) (LE (lS src fr dtg c te)):=
 PE.imp (CY hx hc S hi hg ht he hs) λ σ H Q ⟨α,σd,st,K,G,F,P,R,S,t,k⟩=>LE.comp fit P R S t λ ys st2 α2 G2 H2 l vs q s2 P2 hl S2 r=>by
  have hg:G2 l=none:=(P2.frame a6).2;refine k _ _ q (α2++[some l]) (upd G2 l (.lst vs)) H2 (.ref l) (s2.trans (Step.cell hg)) (P2.show hl) (S2.cell hg ⟨vs,a6,r.step (Step.cell hg)⟩) ?_;unfold Rep;refine .inr ⟨l,?_,rfl⟩;rw[S7 (by rw[S2.len];exact R_ _),S2.len,Ve];rfl
def K9{st:Stmt}{k:Nat}{src:DI}{fr:List (Option Nat)}{dtg:f9}{c:DT}{te:DE}(fit:sy fr dtg)(h:PS X st (o9 (uN (LI src) fr (LG dtg) (LT c) (LE te)) (mS k))):PS X st (LS (a9 k (cT src fr dtg c te))):=
 PS.imp h λ D σ H ⟨α,σd,st,DD,G,F,P,R,S,t,q⟩=>LE.comp fit P R S t λ ys st2 α2 G2 H2 l vs qq s2 P2 hl S2 r=>by
  have hg:G2 l=none:=(P2.frame a6).2;have s3:=s2.trans (Step.laid (o:= .lst vs) hg);refine q.nx _ st2 qq α2 (upd G2 l (.lst vs)) H2 _ s3 (P2.show hl) ((R.step s3).set k ?_) (S2.laid hg);unfold Rep;exact⟨l,vs,rfl,S2.ll hg,.of a6,r.step (Step.laid hg)⟩
def HN{st:Stmt}{k:Nat}{src:DI}{fr:List (Option Nat)}{dtg:f9}{c:DT}{te:DE}(fit:sy fr dtg)(h:PS X st (o9 (uN (LI src) fr (LG dtg) (LT c) (LE te)) (mS k))):PS X st (LS (a9 k (lS src fr dtg c te))):=
 PS.imp h λ D σ H ⟨α,σd,st,DD,G,F,P,R,S,t,q⟩=>LE.comp fit P R S t λ ys st2 α2 G2 H2 l vs qq s2 P2 hl S2 r=>by
  have hg:G2 l=none:=(P2.frame a6).2;have s3:=s2.trans (Step.cell (o:= .lst vs) hg);refine q.nx _ _ qq (α2++[some l]) (upd G2 l (.lst vs)) H2 _ s3 (P2.show hl) ((R.step s3).set k ?_) (S2.cell hg ⟨vs,a6,r.step (Step.cell hg)⟩);unfold Rep;refine .inr ⟨l,?_,rfl⟩;rw[S7 (by rw[S2.len];exact R_ _),S2.len,Ve];rfl
def a7(N:List Str)(ds:List D):cm:=ds.map some++List.replicate (N.length-ds.length) none
def fu.start{α:List (Option Addr)}{G:Hp}{N:List Str}{ds:List D}{vs:List V}(r:aN α G ds vs):fu α G (a7 N ds) (L2.start N vs):=by
 have hl:=r.length;refine⟨by unfold a7 L2.start;simp[hl],λ i d e=>?_⟩;unfold a7 at e;by_cases hi:i<ds.length
 . rw[Sk (by simpa using hi),SF]at e;cases q:ds[i]? with
   |none=>rw[q]at e;cases e
   |some x=>
    rw[q]at e;cases e;obtain⟨v,ev,rv⟩:=r.get q;refine⟨v,?_,rv⟩;unfold L2.start;rw[Sk (by rw[Sb];omega),SF,ev];rfl
 . rw[S7 (by simpa using hi),VY]at e;split at e<;>cases e
def Ox{P:Program}{w:World}{K:PySem.W.Frag}{mg:Str->Option Value}{base:Heap}{x qual:Str}{st:Stmt}{f:Addr}{fd:FuncData}{N ps:List Str}{k:Nat}{sp:cY}{t:DS}(F:oV K x qual st f fd)(S:aR N ps (ai st))
 (hbody:∀(cdv:Value) (A:Around) (outer:List Env) (s:Shared) (H:Hp) (E:XK),dg k (A.deeper (envOfC qual (ai st) s.heap.objs.size f cdv))->iu (rL c5 P w K mg base N qual (ai st) f cdv A outer s H E).wZ (ie st) (LS t))
 (hsp:∀ds st K,sp ds st K->ds.length=ps.length/\t {nx:=λ _ st'=>K .aG st',rt:=K} (a7 N ds) st):bN P w K mg base c5 (k+1) f fd ps (c_ sp):=by
 refine F.ok S (λ vs H Q E h=>?_) λ cdv A outer s H vs Q E hr h=>⟨_,hbody cdv A outer s H E hr,?_⟩
 . obtain⟨α,ds,st,K,G,F,P,r,S,q,k⟩:=h;rw[<-r.length];exact(hsp ds st K q).1
 . obtain⟨α,ds,st,K,G,F,P,r,S,q,k⟩:=h;refine⟨α,a7 N ds,st,_,G,F,P,fu.start r,S,(hsp ds st K q).2,?_,k,?_,?_⟩
   . intro σd' st' kk α' G' H' σ' s' P' R' S';exact k .aG st' kk α' G' H' .aG s' P' S' (by unfold Rep;rfl)
   . intro σd' st' kk;exact kk.elim
   . intro σd' st' kk;exact kk.elim
def qY(to te:DE):DE:=λ σ st K=>to σ st λ x st1=>match x with
 | .ref n=>(match st1[n]? with
   |some (.lst _)=>te σ st1 λ y st2=>∃y',[y]=[y']/\(match st2[n]? with|some (.lst xs)=>xs.length<sizeLine/\K .aG (st2.set n (.lst (xs++[y'])))|_=>False)
   |_=>False)
 |_=>False
end
structure cq(K:PySem.W.Frag)(mg:Str->Option Value)(x qual:Str)(st:Stmt)(ps:List Str)(f:Addr)(fd:FuncData):Prop where
 fn:oV K x qual st f fd
 mg:mg x=some (.ref f)
 bd:Binds K fd ps []
def wA(sc:Scope)(N:List Str)(scope:Scope)(Nc:List Str)(fr:List (Option Nat)):Bool:=
 (scope.kind== .function)&&scope.names.all (λ x=>x.2 != .cell||scope.names.lookup x.1==some .cell)&&scope.names.all (λ x=>x.2 != .local||scope.names.lookup x.1==some .local)&&
 scope.names.all (λ x=>x.2 != .free||sc.names.lookup x.1==some .cell||sc.names.lookup x.1==some .free)&&(fr.length==Nc.length)&&
 (List.range fr.length).all λ i=>match fr[i]?,Nc[i]? with
   |some (some j),some x=>(N[j]?==some x)&&(scope.names.lookup x==some .free)&&(sc.names.lookup x==some .cell||sc.names.lookup x==some .free)
   |_,_=>true
def aW.look{X:Cx}{scope:Scope}{Nc:List Str}{fr:List (Option Nat)}(sc:Scope)(N:List Str)(h:wA sc N scope Nc fr=true)(hsc:X.env.scope=sc:=by rfl)(hN:X.N=N:=by rfl):aW X scope Nc fr:=by
 unfold wA at h;simp only[Tv]at h;obtain⟨⟨⟨⟨⟨h1,h2⟩,h3⟩,h4⟩,h5⟩,h6⟩:=h;subst hsc hN;refine⟨by simpa using h1,λ x hx hk=>?_,λ x hx hk=>?_,λ x hx hk=>?_,by simpa using h5,λ i j x e1 e2=>?_⟩
 . have:=Tp.mp h2 x hx;rw[hk]at this;simpa using this
 . have:=Tp.mp h3 x hx;rw[hk]at this;simpa using this
 . have:=Tp.mp h4 x hx;rw[hk]at this;have z:X.env.scope.names.lookup x.1=some .cell\/X.env.scope.names.lookup x.1=some .free:=by simpa using this
   exact z
 . have hi:i<fr.length:=(Sg.mp e2).1;have:=Tp.mp h6 i (UA.mpr hi);rw[e1,e2]at this;simp only[Tv,Wv,UN]at this;exact⟨this.1.1,this.1.2,this.2⟩
section
variable {X:Cx}
def QJ{e:Expr}{es:List Expr}{pos p:Pos}{x:Str}{id:String}{r:fX}{t:DA}(hc:cD X (.builtin id) (gJ r))(ha:PA X (e::es) (LA t))(hm:X.mg x=none)(hv:bootBuiltins x=some (.builtin id))(hg:Gl X x:=by rfl)(hn:x≠"__name__":=by decide)(hdb:(x==("__debug__":Str))=false:=by decide)
 (he:starEach (e::es) X.env=(false,eval e X.env)::starEach es X.env:=by rfl) (hpl:(backTo pos (starEach es X.env)).any (·.1)=false:=by rfl):PE X (.Call (.Name x p) (e::es) [] pos) (LE (b_ r t)):=PE.imp (HD hc hg hm hv ha hn hdb he hpl) λ _ _ _ h=>LE.cb h
def Rj{e:Expr}{es:List Expr}{pos p:Pos}{x:Str}{T:String}{r:fX}{t:DA}(hc:cD X (.type T) (gJ r))(ha:PA X (e::es) (LA t))(hm:X.mg x=none)(hv:bootBuiltins x=some (.type T))(hg:Gl X x:=by rfl)(hn:x≠"__name__":=by decide)(hdb:(x==("__debug__":Str))=false:=by decide)
 (he:starEach (e::es) X.env=(false,eval e X.env)::starEach es X.env:=by rfl) (hpl:(backTo pos (starEach es X.env)).any (·.1)=false:=by rfl):PE X (.Call (.Name x p) (e::es) [] pos) (LE (b_ r t)):=PE.imp (FH hc hg hm hv ha hn hdb he hpl) λ _ _ _ h=>LE.cb h
def QK{pos:Pos}{x:Str}{T:String}(hm:X.mg x=none)(hv:bootBuiltins x=some (.type T))(hg:Gl X x:=by rfl)(hn:x≠"__name__":=by decide)(hdb:(x==("__debug__":Str))=false:=by decide):PE X (.Name x pos) (LE (dC (.ty T))):=
 qE (v:= .ty T) (KG hg hm hv rfl hn hdb) λ _ _=>by unfold Rep;rfl
def Q0{e:Expr}{es:List Expr}{pos p:Pos}{x qual:Str}{st:Stmt}{ps:List Str}{f:Addr}{fd:FuncData}{k:Nat}{S:cY}{t:DA}(A:cq X.K X.mg x qual st ps f fd)(F:bN X.prog X.w X.K X.mg X.base c5 k f fd ps (c_ S))(hr:dg k X.A)
 (ha:PA X (e::es) (LA t)) (hg:Gl X x:=by rfl) (hdb:(x==("__debug__":Str))=false:=by decide) (he:starEach (e::es) X.env=(false,eval e X.env)::starEach es X.env:=by rfl) (hpl:(backTo pos (starEach es X.env)).any (·.1)=false:=by rfl):
 PE X (.Call (.Name x p) (e::es) [] pos) (LE (aH S t)):=MY F hr hg A.mg A.fn.kp A.bd ha hdb he hpl
def BJ{M:Model}{A:Around}{E:Value->Shared->Prop}{s:Shared}{Q:Value->Shared->Prop}{x:V}{v:Value}{b:Bool}(r:RelV x v)(h:Q (.bool (v== .bool b)) s):wpAny M A (compareOp .Is v (.bool b)) Q E s:=by
 cases x
 case bl c=>
  cases r;have e:(Value.bool c==Value.bool b)=(c==b):=by cases c<;>cases b<;>rfl
  rw[e]at h;exact is_bool h
 all_goals first
  |(cases r;exact Sn h)
  |(obtain⟨t,rfl⟩:=r;exact Sn h)
def Fj(d:D)(b:Bool):Bool:=match d with| .bl c=>c==b|_=>false
def Jy(d:D):Bool:=match d with| .aG=>true|_=>false
def Iz:dy:=λ x y st K=>match y with| .aG=>live st x=true/\K (.bl (Jy x)) st| .bl b=>live st x=true/\K (.bl (Fj x b)) st|_=>False
def CA{α:List (Option Addr)}{H:Hp}{st:ag}{d:D}{v:V}{u:Value}{b:Bool}(S:aX α st H)(hl:live st d=true)(r:Rep α H d v)(ru:RelV v u):(u==Value.bool b)=Fj d b:=by
 cases d
 case ref n=>
  obtain⟨a,rfl⟩:=vH S hl r;cases ru;rfl
 all_goals unfold Rep at r
 case bl c=>
  subst r;cases ru;cases c<;>cases b<;>rfl
 all_goals first
  |(subst r;first|(cases ru;rfl)|(obtain⟨t,rfl⟩:=ru;rfl))
  |(obtain⟨a,vs,rfl,_⟩:=r;cases ru;rfl)
def PV:cx X (compareOp .Is) (LR Iz):=λ pins s σ H x y v u Q I rx ry ⟨α,d,e,st,K,G,F',P,r1,r2,S,q,k⟩=>by
 cases e<;>try exact q.elim
 . unfold Rep at r2;refine ND pins s σ H x y v u Q I rx ry ⟨r2,k.here P q.2 S ?_⟩;unfold Rep;cases d
   case ref n=>
    obtain⟨a,rfl⟩:=vH S q.1 r1;rfl
   all_goals(unfold Rep at r1;first|(rw[r1];rfl)|(obtain⟨a,vs,rfl,_⟩:=r1;rfl))
 . rename_i b;unfold Rep at r2;subst r2;cases ry;refine BJ rx ?_;rw[CA S q.1 r1 rx];exact⟨.bl (Fj d b),H,I,rfl,k.here P q.2 S (by unfold Rep;rfl)⟩
def LE.append{to te:DE}{σ:L2.St}{H:Hp}{Q:VK}(h:LE (qY to te) σ H Q):Ip X.K "list" Cf (LE to) (LA (af te ak)) σ H Q:=by
 obtain⟨α,σd,st,K,G,F,P,R,S,t,k⟩:=h;refine⟨α,σd,st,_,G,F,P,R,S,t,λ x st1 q α1 G1 H1 v s1 P1 S1 r1=>?_⟩;cases x<;>try exact q.elim
 rename_i n;simp only at q;split at q
 . rename_i ys e;obtain⟨p,ep,vs,h1,h2⟩:=S1.g5 e;have r1':=eQ ep r1;subst r1';refine⟨.inl ⟨rfl,vs,.inl (.of (P1.get h1))⟩,α1,σd,st1,λ ds st2=>∃y,ds=[y]/\(match st2[n]? with|some (.lst xs)=>xs.length<sizeLine/\K .aG (st2.set n (.lst (xs++[y])))|_=>False),G1,F,P1,R.step s1,S1,?_,?_⟩
   . refine Eq.mp ?_ q;rfl
   . rintro ds st2 ⟨y,rfl,q2⟩ α2 G2 H2 ws s2 P2 S2 r2;obtain⟨w,rfl,rw'⟩:=gw r2 rfl;split at q2
     . rename_i xs e2;obtain⟨p2,ep2,us,g1,g2⟩:=S2.g5 e2
       have:p2=p:=by
        rcases s2.pre _ _ ep with z|z<;>(rw[z]at ep2;cases ep2)
        rfl
       subst this;have hm:some p2∈α2:=S8 ep2;refine⟨p2,us,w,rfl,rfl,P2.get g1,by rw[<-g2.length];exact q2.1,?_⟩;refine((k.at s1).at s2) _ _ q2.2 α2 (upd G2 p2 (.lst (us++[w]))) _ .aG (Step.write hm) (P2.write g1) ?_ (by unfold Rep;rfl);exact S2.write ep2 ⟨us++[w],a6,(aT.mpr (fD (aT.mp g2) (.cons rw' .nil))).step (Step.write hm)⟩
     . exact q2.elim
 . exact q.elim
def HR{o e:Expr}{to te:DE}{apos cpos:Pos}(ho:PE X o (LE to))(he:PE X e (LE te))(hbase:attributeBase o "append" X.env (eval o X.env)=eval o X.env:=by rfl)
 (hfew:((backTo cpos (starEach [e] X.env)).all (λ x=> !x.1)&&(backToKw cpos (keywordEach [] X.env)).all (λ x=>x.1.isSome)
   &&decide (([e]:List Expr).length+([]:List Keyword).length+(if([]:List Keyword).isEmpty then 0 else 1)<30))=true:=by rfl)
 (hline:(apos.endLine==cpos.line)=true:=by rfl) (hs:starEach [e] X.env=(false,eval e X.env)::starEach [] X.env:=by rfl) (hplain:(backTo cpos (starEach [] X.env)).any (·.1)=false:=by rfl):PE X (.Call (.Attribute o "append" apos) [e] [] cpos) (LE (qY to te)):=
 PE.imp (D7 V0 PySem.F.slot_list_append PySem.F.type_list_append yO ho (qU he t7 hs) hbase hfew hline hs hplain) λ _ _ _ h=>LE.append h
end
end L3
namespace L3
open PySem L2
open PySem.Spec hiding items?
open PyProof.Rows hiding St
section
variable {X:Cx}
@[irreducible] def eC:dy:=IL
def fH:cx X (binaryOp .Add) (LR eC):=by unfold eC;exact PQ
@[irreducible] def kJ:dy:=IX
def mL:cx X (binaryOp .Sub) (LR kJ):=by unfold kJ;exact Qb
@[irreducible] def dh:dy:=Iv
def dU:cx X (binaryOp .Mult) (LR dh):=by unfold dh;exact OZ
@[irreducible] def si:dy:=F8
def Aa:cx X (binaryOp .FloorDiv) (LR si):=by unfold si;exact NH
@[irreducible] def kF:dy:=IF
def pk:cx X (binaryOp .Mod) (LR kF):=by unfold kF;exact P_
@[irreducible] def tm:dy:=Ir
def zi:cx X (binaryOp .Pow) (LR tm):=by unfold tm;exact O3
@[irreducible] def sA:dy:=LX
def AS:cx X (compareOp .Lt) (LR sA):=by unfold sA;exact QM
@[irreducible] def sU:dy:=NQ
def DW:cx X (compareOp .Gt) (LR sU):=by unfold sU;exact Q7
@[irreducible] def Bm:dy:=Mq
def Rm:cx X (compareOp .GtE) (LR Bm):=by unfold Bm;exact QU
@[irreducible] def nG:dy:=LQ
def ug:cx X (compareOp .NotEq) (LR nG):=by unfold nG;exact QZ
@[irreducible] def Gm:dy:=Iz
def Rr:cx X (compareOp .Is) (LR Gm):=by unfold Gm;exact PV
@[irreducible] def kP:dy:=N0
def o6{k:Nat}(hr:dg k X.A):cx X (compareOp .Eq) (LR kP):=by unfold kP;exact Ro hr
@[irreducible] def ka:zZ:=IW
def P8:CW X (unaryOp .USub) (Iy ka):=by unfold ka;exact Pj
@[irreducible] def aU:dy:=rK
def Q2{a b:Expr}{ta tb:DE}{pos:Pos}(ha:PE X a (LE ta))(hb:PE X b (LE tb))(hs:uC b:=by intro _ _;rfl):PE X (.Subscript a b pos) (LE (aw aU ta tb)):=by unfold aU;exact Rg ha hb hs
@[irreducible] def fG:fX:=zH
def fo:cD X (.builtin "len") (gJ fG):=by unfold fG;exact Oz
@[irreducible] def qh:fX:=Dd
def uP:cD X (.builtin "abs") (gJ qh):=by unfold qh;exact Pe
@[irreducible] def xy:fX:=C6
def I_:cD X (.type "int") (gJ xy):=by unfold xy;exact OY
@[irreducible] def c6:fX:=uy
def cX:cD X (.type "tuple") (gJ c6):=by unfold c6;exact Kf
@[irreducible] def mP:fX:=wd
def qx:cD X (.type "list") (gJ mP):=by unfold mP;exact NR
@[irreducible] def td:fX:=uO
def JM:cD X (.type "list") (gJ td):=by unfold td;exact Lp
@[irreducible] def Bg:fX:=zm
def OQ(hc:X.calm=true):cD X (.builtin "all") (gJ Bg):=by unfold Bg;exact Ow hc
@[irreducible] def rN:fX:=zg
def xa:cD X (.builtin "isinstance") (gJ rN):=by unfold rN;exact Pc
@[irreducible] def qg:D->ag->(List D->(ag->Prop)->ag->Prop)->Prop:=xr
def dz(t:DE):DI:=λ σ st K=>t σ st λ d st1=>qg d st1 K
def NC{l tg:Expr}{tl:DE}(hl:PE X l (LE tl)):PI X tg l (LI (dz tl)):=by unfold dz qg;exact Nl hl
@[irreducible] def zw:List D->ag->(List D->(ag->Prop)->ag->Prop)->Prop:=Jk
@[irreducible] def zu:List D->ag->(List D->(ag->Prop)->ag->Prop)->Prop:=Io
def dR(t:DA):DI:=λ σ st K=>t σ st λ ds st1=>zw ds st1 K
def uu(t:DA):DI:=λ σ st K=>t σ st λ ds st1=>zu ds st1 K
def Fd{tg iter:Expr}{t:DA}(h:PI X tg iter (C9 (LA t))):PI X tg iter (LI (dR t)):=by unfold dR zw;exact Gn h
def FJ{tg iter:Expr}{t:DA}(h:PI X tg iter (El (LA t))):PI X tg iter (LI (uu t)):=by unfold uu zu;exact Fy h
@[irreducible] def zR:D->D->D->ag->(ag->Prop)->Prop:=DP
def gm(to ti te:DE):DS:=λ D σ st=>te σ st λ d st1=>to σ st1 λ x st2=>ti σ st2 λ y st3=>zR x y d st3 λ st4=>D.nx σ st4
def Hv{st:Stmt}{to ti te:DE}(h:PS X st (o9 (LE te) (C0 (LE to) (LE ti) zA))):PS X st (LS (gm to ti te)):=by unfold gm zR;exact Hn h
end
section
variable {st:ag}{K:DK}{i j:Int}{b c:Bool}{xs ys:List D}{d e:D}{n:Nat}
def fY(k:K (.int (i+j)) st):eC (.int i) (.int j) st K:=by unfold eC;exact k
def CN(h:xs.length+ys.length<=sizeLine)(k:K (.tup (xs++ys)) st):eC (.tup xs) (.tup ys) st K:=by unfold eC;exact⟨h,k⟩
def x3(h:xs.length+ys.length<=sizeLine)(k:K (.lst (xs++ys)) st):eC (.lst xs) (.lst ys) st K:=by unfold eC;exact⟨h,k⟩
def lg(k:K (.int (i-j)) st):kJ (.int i) (.int j) st K:=by unfold kJ;exact⟨trivial,k⟩
def dm(h:IntMulOk i j)(k:K (.int (i*j)) st):dh (.int i) (.int j) st K:=by unfold dh;exact⟨h,k⟩
def LD(h: -(2^63)<=i/\i<2^63/\xs.length*i.toNat<=sizeLine)(k:K (.lst (List.replicate i.toNat xs).flatten) st):dh (.lst xs) (.int i) st K:=by unfold dh;exact⟨h,k⟩
def LH(h: -(2^63)<=i/\i<2^63/\xs.length*i.toNat<=sizeLine)(k:K (.tup (List.replicate i.toNat xs).flatten) st):dh (.tup xs) (.int i) st K:=by unfold dh;exact⟨h,k⟩
def xH(h0:j≠0)(h:j.natAbs.log2<9000)(k:K (.int (i.fdiv j)) st):si (.int i) (.int j) st K:=by unfold si;exact⟨⟨h0,h⟩,k⟩
def nh(h0:j≠0)(k:K (.int (i.fmod j)) st):kF (.int i) (.int j) st K:=by unfold kF;exact⟨h0,k⟩
def vY(h:Ik i j)(k:K (.int (i^j.toNat)) st):tm (.int i) (.int j) st K:=by unfold tm;exact⟨h,k⟩
def Iw(k:K (.bl (decide (i<j))) st):sA (.int i) (.int j) st K:=by unfold sA;exact⟨trivial,k⟩
def IP(k:K (.bl (decide (j<i))) st):sU (.int i) (.int j) st K:=by unfold sU;exact⟨trivial,k⟩
def JH(k:K (.bl (decide (j<=i))) st):Bm (.int i) (.int j) st K:=by unfold Bm;exact⟨trivial,k⟩
def IS(k:K (.bl (!decide (i=j))) st):nG (.int i) (.int j) st K:=by unfold nG;exact k
def Gg(h:live st d=true)(k:K (.bl (Jy d)) st):Gm d .aG st K:=by unfold Gm;exact⟨h,k⟩
def Pa(h1:pl 40 d=true)(h2:pl 40 e=true)(k:K (.bl (di d e)) st):kP d e st K:=by unfold kP;exact⟨h1,h2,k⟩
def Lw(a b:Int):(a==b)=decide (a=b):=by
 by_cases h:a=b
 . subst h;simp
 . simp[h]
def E4(k:K (.bl (decide (i=j))) st):kP (.int i) (.int j) st K:=by
 refine Pa rfl rfl ?_;have:di (.int i) (.int j)=decide (i=j):=by unfold di;exact Lw i j
 rw[this];exact k
def jx(k:K (.int (-i)) st):ka (.int i) st K:=by unfold ka;exact k
def GX(h:items? st d=some xs)(a:eV xs i=some e)(k:K e st):rK d (.int i) st K:=by
 cases d<;>unfold items? at h<;>first
  |(cases h;done)
  |(cases h;simp only[rK,a];exact k)
  |(simp only at h
    split at h
    . rename_i q;cases h;simp only[rK,q,a];exact k
    . cases h)
def aB(h:items? st d=some xs)(a:eV xs i=some e)(k:K e st):aU d (.int i) st K:=by unfold aU;exact GX h a k
def dO(h:items? st d=some xs)(k:K (.int xs.length) st):fG [d] st K:=by
 unfold fG zH;split
 . rename_i z;cases z;cases h
 . rename_i z;cases z;rw[h];exact k
 . rename_i z1 z2;exact absurd rfl (z2 d)
def K_(i:Int):(if i<0 then-i else i)=((i.natAbs:Nat):Int):=by split<;>omega
def qy(k:K (.int ((i.natAbs:Nat):Int)) st):qh [.int i] st K:=by unfold qh;show K (.int (if i<0 then-i else i)) st;rw[K_];exact k
def uj(k:K (.int (if b then 1 else 0)) st):xy [.bl b] st K:=by unfold xy;exact k
def cH(h:items? st d=some xs)(k:K (.tup xs) st):c6 [d] st K:=by unfold c6 uy;simp only[h];exact k
def om(h:items? st d=some xs)(k:K (.lst xs) st):mP [d] st K:=by unfold mP wd;simp only[h];exact k
def HG(h:items? st d=some xs)(k:K (.ref st.length) (st++[.lst xs])):td [d] st K:=by unfold td uO;simp only[h];exact k
def NA{bs:List Bool}(h:m4 xs=some bs)(k:K (.bl (bs.all id)) st):Bg [.lst xs] st K:=by unfold Bg zm;simp only[h];exact k
def uc{t c:String}(h:jR st d=some t)(hc:c∈oG)(k:K (.bl (vw t c)) st):rN [d,.ty c] st K:=by unfold rN zg;simp only[h];exact⟨hc,k⟩
def o8{K:List D->(ag->Prop)->ag->Prop}(h:items? st d=some xs)(k:∀ok:ag->Prop,ok st->K xs ok st):qg d st K:=by
 unfold qg xr
 cases d<;>unfold items? at h<;>first
  |(cases h;done)
  |(cases h;exact k _ trivial)
  |(simp only at h
    split at h
    . rename_i q;cases h;simp only[q];exact k _ q
    . cases h)
def oM{K:List D->(ag->Prop)->ag->Prop}(k:K xs (λ _=>True) st):qg (.lst xs) st K:=by unfold qg;exact k
def iq{K:List D->(ag->Prop)->ag->Prop}(k:K xs (λ _=>True) st):qg (.tup xs) st K:=by unfold qg;exact k
def fh{K:List D->(ag->Prop)->ag->Prop}(h: -(2^62)<=j/\j<2^62)(k:K (fe 0 j.toNat) (λ _=>True) st):zw [.int j] st K:=by unfold zw;exact⟨h,k⟩
def Lq{K:List D->(ag->Prop)->ag->Prop}(h: -(2^62)<=i/\i<2^62/\ -(2^62)<=j/\j<2^62)(k:K (fe i (j-i).toNat) (λ _=>True) st):zu [.int i,.int j] st K:=by unfold zu;exact⟨h,k⟩
def jD{K:ag->Prop}{m:Nat}(h:st[n]?=some (.lst xs))(e:j7 xs.length i=some m)(k:K (st.set n (.lst (xs.set m d)))):zR (.ref n) (.int i) d st K:=by unfold zR DP;simp only[h,e];exact k
end
def Gw(K:PySem.W.Frag):Bool:=K.all λ p=>p.2.cls != .type "list"
def u0{a:Addr}{o:Obj}:∀ {l:List (Addr×Obj)},l.lookup a=some o->(a,o)∈l
 | [],h=>by cases h
 |(b,u)::r,h=>by
  rw[Ti]at h;split at h
  . rename_i z;cases h;have:a=b:=by simpa using z
    subst this;exact SD
  . exact SG _ (u0 h)
def zd{K:PySem.W.Frag}(h:Gw K=true){a:Addr}{o:Obj}(e:K.lookup a=some o):o.cls≠ .type "list":=by
 have:=Tp.mp h (a,o) (u0 e);simpa using this
def yB{α:List (Option Addr)}{G:Hp}:∀ns:List Int,aN α G (ns.map D.int) (ns.map V.int)
 | []=>by unfold aN;rfl
 |n::ns=>by
  rw[TH,TH];unfold aN;exact⟨_,_,rfl,by unfold Rep;rfl,yB ns⟩
def notStar:Expr->Bool
 | .Starred .. =>false
 |_=>true
def cE{e:Expr}{es:List Expr}{env:Env}(h:notStar e=true):starEach (e::es) env=(false,eval e env)::starEach es env:=by
 cases e<;>first|rfl|cases h
def gE:List Expr->Bool
 | []=>true
 |e::es=>notStar e&&gE es
def kH{pos:Pos}{env:Env}:∀ {es:List Expr},gE es=true->(backTo pos (starEach es env)).any (·.1)=false
 | [],_=>rfl
 |e::es,h=>by
  unfold gE at h;rw[Tv]at h;rw[cE h.1];have ih:=kH (pos:=pos) (env:=env) h.2;unfold backTo at ih⊢;rw[TH,WQ,ih];rfl
def oS:Expr->Bool
 | .Slice .. =>false
 |_=>true
def t_:Expr->Bool
 | .Name .. =>true
 | .Call .. =>true
 | .Subscript .. =>true
 | .Attribute .. =>true
 |_=>false
def l7:Expr->Bool
 | .ListComp .. =>false
 | .SetComp .. =>false
 | .DictComp .. =>false
 |_=>true
section
variable {X:Cx}
def He{b:Expr}(h:oS b=true):uC b:=by
 intro o i;cases b<;>first|rfl|cases h
def Dw{e:Expr}(h:t_ e=true):∀whole,isTrue e X.env whole=(do let v <-whole;standAt e.pos;holding [v] (truthy v)):=by
 intro whole;cases e<;>first|(cases h;done)|rfl
def yg{e:Expr}{tg:Option Expr}{n:Nat}{env:Env}(h:l7 e=true):swapsWith e tg n env=pure false:=by
 cases e<;>first|(cases h;done)|rfl
def G0{e:Expr}{es:List Expr}{te:DE}{tr:DA}(ha:PE X e (LE te))(hr:PA X es (LA tr))(hs:notStar e=true:=by rfl):PA X (e::es) (LA (af te tr)):=qU ha hr (cE hs)
def Pw{e:Expr}{es:List Expr}{pos p:Pos}{x:Str}{id:String}{r:fX}{t:DA}(hc:cD X (.builtin id) (gJ r))(ha:PA X (e::es) (LA t))(hm:X.mg x=none)(hv:bootBuiltins x=some (.builtin id))(hn:x≠"__name__")(hdb:(x==("__debug__":Str))=false)(hg:Gl X x:=by rfl)(hs:notStar e=true:=by rfl)(hs2:gE es=true:=by rfl):
 PE X (.Call (.Name x p) (e::es) [] pos) (LE (b_ r t)):=QJ hc ha hm hv hg hn hdb (cE hs) (kH hs2)
def Px{e:Expr}{es:List Expr}{pos p:Pos}{x:Str}{T:String}{r:fX}{t:DA}(hc:cD X (.type T) (gJ r))(ha:PA X (e::es) (LA t))(hm:X.mg x=none)(hv:bootBuiltins x=some (.type T))(hn:x≠"__name__")(hdb:(x==("__debug__":Str))=false)(hg:Gl X x:=by rfl)(hs:notStar e=true:=by rfl)(hs2:gE es=true:=by rfl):
 PE X (.Call (.Name x p) (e::es) [] pos) (LE (b_ r t)):=Rj hc ha hm hv hg hn hdb (cE hs) (kH hs2)
def PL{e:Expr}{es:List Expr}{pos p:Pos}{x qual:Str}{st:Stmt}{ps:List Str}{f:Addr}{fd:FuncData}{k:Nat}{S:cY}{t:DA}(A:cq X.K X.mg x qual st ps f fd)(F:bN X.prog X.w X.K X.mg X.base c5 k f fd ps (c_ S))(hr:dg k X.A)
 (ha:PA X (e::es) (LA t)) (hdb:(x==("__debug__":Str))=false) (hg:Gl X x:=by rfl) (hs:notStar e=true:=by rfl) (hs2:gE es=true:=by rfl):
 PE X (.Call (.Name x p) (e::es) [] pos) (LE (aH S t)):=Q0 A F hr ha hg hdb (cE hs) (kH hs2)
def O4{a b:Expr}{ta tb:DE}{pos:Pos}(ha:PE X a (LE ta))(hb:PE X b (LE tb))(hs:oS b=true:=by rfl):PE X (.Subscript a b pos) (LE (aw aU ta tb)):=Q2 ha hb (He hs)
def Li{e:Expr}{te:DE}(he:PE X e (LE te))(h:t_ e=true:=by rfl):PT X e (LT (bS te)):=L0 he (Dw h)
def GK{e:Expr}{te:DE}{pos:Pos}(he:PE X e (LE te))(h:l7 e=true:=by rfl):PS X (.Expr e pos) (LS (mW te)):=KR he (yg h)
def Lu{i:Nat}{x:Str}{e:Expr}{te:TE}{pos pos':Pos}(hN:X.N.Nodup)(hi:X.N[i]?=some x)(hx:Loc X.env.scope x)(he:PE X e te)(hf:X.fn x=true\/X.env.scope.names.lookup x=some .local:=by first|exact .inl rfl|exact .inr rfl)(h:l7 e=true:=by rfl):
 PS X (.Assign [.Name x pos'] e pos) (o9 te (mS i)):=Gs hN hi hx he (yg h) hf
def Ka{i:Nat}{x:Str}{pos:Pos}(hd:(x==("__debug__":Str))=false)(hcd:(x==("__classdict__":Str))=false)(hv:AU X.env.scope x)(hN:X.N[i]?=some x:=by rfl):PE X (.Name x pos) (LE (ae i)):=PC (Nh hN hv hd hcd)
def M8{o i e:Expr}{to ti te:TE}{pos pos':Pos}(he:PE X e te)(ho:PE X o to)(hi:PE X i ti)(h1:l7 e=true:=by rfl)(h2:oS i=true:=by rfl):PS X (.Assign [.Subscript o i pos'] e pos) (o9 te (C0 to ti zA)):=
 FU he (Mc ho hi set_list (by intro v;cases i<;>first|rfl|cases h2)) (by unfold swapsWithSole;exact yg h1) (by cases e<;>rfl) rfl
end
@[irreducible] def JE(X:Cx)(e:Expr)(t:DE):Prop:=PE X e (LE t)
@[irreducible] def JT(X:Cx)(e:Expr)(t:DT):Prop:=PT X e (LT t)
@[irreducible] def JW(X:Cx)(e:Expr)(t:DT):Prop:=PW X e (LT t)
@[irreducible] def JA(X:Cx)(es:List Expr)(t:DA):Prop:=PA X es (LA t)
@[irreducible] def JS(X:Cx)(s:Stmt)(t:DS):Prop:=PS X s (LS t)
@[irreducible] def JB(X:Cx)(s:List Stmt)(t:DS):Prop:=iu X s (LS t)
@[irreducible] def JG(X:Cx)(e:Expr)(t:f9):Prop:=PG X e (LG t)
@[irreducible] def JI(X:Cx)(tg e:Expr)(t:DI):Prop:=PI X tg e (LI t)
@[irreducible] def JC(X:Cx)(es:List Expr)(t:DT):Prop:=tY X es (LT t)
section
variable {X:Cx}{a b c e o i:Expr}{es:List Expr}{ta tb tc te to ti:DE}{t u:DT}{ar:DA}{pos p pos':Pos}{s:Stmt}{ss:List Stmt}{T U:DS}
def Fg{n:Nat}{x:Str}(hd:(x==("__debug__":Str))=false)(hcd:(x==("__classdict__":Str))=false)(hv:AU X.env.scope x)(hN:X.N[n]?=some x:=by rfl):JE X (.Name x pos) (ae n):=by unfold JE;exact Ka hd hcd hv hN
def A9{x:Str}{T:String}(hm:X.mg x=none)(hv:bootBuiltins x=some (.type T))(hn:x≠"__name__")(hdb:(x==("__debug__":Str))=false)(hg:Gl X x):JE X (.Name x pos) (dC (.ty T)):=by unfold JE;exact QK hm hv hg hn hdb
def av{k:Int}{j:Nat}:JE X (.Constant (.int k) j pos) (dC (.int k)):=by unfold JE;exact Pp
def ql{k:Bool}{j:Nat}:JE X (.Constant (.bool k) j pos) (dC (.bl k)):=by unfold JE;exact Q5
def zt{k:Str}{j:Nat}:JE X (.Constant (.str k) j pos) (dC (.str k)):=by unfold JE;exact OE
def uo{j:Nat}:JE X (.Constant .none j pos) (dC .aG):=by unfold JE;exact OG
def aZ{op:Operator}{r:dy}(ho:cx X (binaryOp op) (LR r))(ha:JE X a ta)(hb:JE X b tb):JE X (.BinOp a op b pos) (aw r ta tb):=by unfold JE at*;exact Q_ ho ha hb
def lG(ha:JE X a ta):JE X (.UnaryOp .USub a pos) (pD ka ta):=by unfold JE at*;exact QQ P8 ha
def Qg(ha:JE X a ta):JE X (.UnaryOp .Not a pos) (D_ (bS ta)):=by unfold JE at*;exact Oy ha
def PZ{op:BoolOp}(ha:JE X a ta):JE X (.BoolOp op [a] pos) ta:=by unfold JE at*;exact OL ha
def PF(ha:JE X a ta)(hb:JE X (.BoolOp .And (b::es) pos) tb):JE X (.BoolOp .And (a::b::es) pos) (CZ ta tb):=by unfold JE at*;exact OM ha hb
def IA{op:CmpOp}{r:dy}(ho:cx X (compareOp op) (LR r))(hm:behindInMarks op b=false)(ha:JE X a ta)(hb:JE X b tb):JE X (.Compare a [op] [b] pos) (aw r ta tb):=by unfold JE at*;exact OH ho ha hb hm
def D1(hc:JT X c t)(ha:JE X a ta)(hb:JE X b tb):JE X (.IfExp c a b pos) (ES t ta tb):=by unfold JE at*;unfold JT at hc;exact OS hc ha hb
def g8{n:Nat}(h:JA X es ar):JE X (.Tuple es n pos) (jb ar):=by unfold JE;unfold JA at h;exact O_ h
def mQ(h:JA X es ar):JE X (.List es pos) (nD ar):=by unfold JE;unfold JA at h;exact PK h
def Ds(h:JA X es ar):JE X (.List es pos) (Ax ar):=by unfold JE;unfold JA at h;exact O9 h
def aj:JA X [] ak:=by unfold JA;exact t7
def aa(ha:JE X e te)(hr:JA X es ar)(hs:notStar e=true:=by rfl):JA X (e::es) (af te ar):=by unfold JA at*;unfold JE at ha;exact G0 ha hr hs
def aM(ha:JE X a ta)(hb:JE X b tb)(hs:oS b=true:=by rfl):JE X (.Subscript a b pos) (aw aU ta tb):=by unfold JE at*;exact O4 ha hb hs
def de{x:Str}{id:String}{r:fX}(hc:cD X (.builtin id) (gJ r))(ha:JA X (e::es) ar)(hm:X.mg x=none)(hv:bootBuiltins x=some (.builtin id))(hn:x≠"__name__")(hdb:(x==("__debug__":Str))=false)(hg:Gl X x)(hs:notStar e=true:=by rfl)(hs2:gE es=true:=by rfl):JE X (.Call (.Name x p) (e::es) [] pos) (b_ r ar):=by
 unfold JE;unfold JA at ha;exact Pw hc ha hm hv hn hdb hg hs hs2
def dQ{x:Str}{T:String}{r:fX}(hc:cD X (.type T) (gJ r))(ha:JA X (e::es) ar)(hm:X.mg x=none)(hv:bootBuiltins x=some (.type T))(hn:x≠"__name__")(hdb:(x==("__debug__":Str))=false)(hg:Gl X x)(hs:notStar e=true:=by rfl)(hs2:gE es=true:=by rfl):JE X (.Call (.Name x p) (e::es) [] pos) (b_ r ar):=by
 unfold JE;unfold JA at ha;exact Px hc ha hm hv hn hdb hg hs hs2
def aS{x qual:Str}{st:Stmt}{ps:List Str}{f:Addr}{fd:FuncData}{k:Nat}{S:cY}(A:cq X.K X.mg x qual st ps f fd)(F:bN X.prog X.w X.K X.mg X.base c5 k f fd ps (c_ S))(hr:dg k X.A)(ha:JA X (e::es) ar)(hdb:(x==("__debug__":Str))=false)(hg:Gl X x)(hs:notStar e=true:=by rfl)(hs2:gE es=true:=by rfl):
 JE X (.Call (.Name x p) (e::es) [] pos) (aH S ar):=by unfold JE;unfold JA at ha;exact PL A F hr ha hdb hg hs hs2
def Hy{apos cpos:Pos}(ho:JE X o to)(he:JE X e te)(hbase:attributeBase o "append" X.env (eval o X.env)=eval o X.env:=by rfl)(hline:(apos.endLine==cpos.line)=true:=by rfl)(hs:notStar e=true:=by rfl):JE X (.Call (.Attribute o "append" apos) [e] [] cpos) (qY to te):=by
 unfold JE at*;refine HR ho he hbase ?_ hline (cE hs) rfl;rw[cE hs];rfl
def cR{op:CmpOp}{r:dy}(ho:cx X (compareOp op) (LR r))(hm:behindInMarks op b=false)(ha:JE X a ta)(hb:JE X b tb):JT X (.Compare a [op] [b] pos) (bS (aw r ta tb)):=by unfold JE at*;unfold JT;exact Og ho ha hb hm
def pf(ha:JT X a t):JT X (.UnaryOp .Not a pos) (nP t):=by unfold JT at*;exact Oq ha
def kh(he:JE X e te)(h:t_ e=true:=by rfl):JT X e (bS te):=by unfold JT;unfold JE at he;exact Li he h
def Kk(ha:JT X a t):JW X (.BoolOp .And [a] pos) t:=by unfold JW;unfold JT at ha;exact K6 ha
def uh(ha:JT X a t):JW X (.BoolOp .Or [a] pos) t:=by unfold JW;unfold JT at ha;exact N4 ha
def MF(ha:JT X a t)(hb:JW X (.BoolOp .And (b::es) pos) u):JW X (.BoolOp .And (a::b::es) pos) (zE t u):=by unfold JW at*;unfold JT at ha;exact L4 ha hb
def rR(ha:JT X a t)(hb:JW X (.BoolOp .Or (b::es) pos) u):JW X (.BoolOp .Or (a::b::es) pos) (qk t u):=by unfold JW at*;unfold JT at ha;exact Pg ha hb
def uH(h:JW X e t):JT X e t:=by unfold JT;unfold JW at h;exact PW.pt h
def eg{l tg:Expr}(hl:JE X l ta):JI X tg l (dz ta):=by unfold JI;unfold JE at hl;exact NC hl
def dY{tg:Expr}(hg:Gl X "range")(hm:X.mg "range"=none)(ha:JA X [a] ar)(hs:notStar a=true:=by rfl):JI X tg (.Call (.Name "range" p) [a] [] pos) (dR ar):=by unfold JI;unfold JA at ha;exact Fd (Gy hg hm ha (cE hs))
def GO{tg:Expr}(hg:Gl X "range")(hm:X.mg "range"=none)(ha:JA X [a,b] ar)(hs:notStar a=true:=by rfl)(hs2:notStar b=true:=by rfl):JI X tg (.Call (.Name "range" p) [a,b] [] pos) (uu ar):=by unfold JI;unfold JA at ha;exact FJ (Fz hg hm ha (by rw[cE hs,cE hs2];rfl) (cE hs2))
def c8{k:Nat}{x:Str}(hN:X.N.Nodup)(hx:Loc X.env.scope x:=by first|exact Or.inl rfl|exact Or.inr rfl)(hf:X.fn x=true\/X.env.scope.names.lookup x=some .local:=by first|exact .inl rfl|exact .inr rfl)(hi:X.N[k]?=some x:=by rfl):JG X (.Name x pos) (a8 k):=by unfold JG;exact Lj (yi hN hi hx hf)
def jV{k j n:Nat}{x y:Str}{px py:Pos}(hc:X.calm=true)(hN:X.N.Nodup)(hx:Loc X.env.scope x:=by first|exact Or.inl rfl|exact Or.inr rfl)(hf:X.fn x=true\/X.env.scope.names.lookup x=some .local:=by first|exact .inl rfl|exact .inr rfl)(hy:Loc X.env.scope y:=by first|exact Or.inl rfl|exact Or.inr rfl)(hg:X.fn y=true\/X.env.scope.names.lookup y=some .local:=by first|exact .inl rfl|exact .inr rfl)(hi:X.N[k]?=some x:=by rfl)(hj:X.N[j]?=some y:=by rfl):
 JG X (.Tuple [.Name x px,.Name y py] n pos) (gz k j):=by unfold JG;exact Of (NB hc (zQ (yi hN hi hx hf) (zQ (yi hN hj hy hg) KW)))
def cv:JC X [] cF:=by unfold JC;exact Hr
def m5(h:JT X c t):JC X [c] t:=by unfold JC;unfold JT at h;exact M5 h
def c9{scope:Scope}{Nc:List Str}{elt tg iter:Expr}{ifs:List Expr}{src:DI}{fr:List (Option Nat)}{dtg:f9}(S:aW X scope Nc fr)(hi:JI X tg iter src)(hg:∀C s H ex,JG (fS X scope Nc C s H ex) tg dtg)(ht:∀C s H ex,JC (fS X scope Nc C s H ex) ifs t)(he:∀C s H ex,JE (fS X scope Nc C s H ex) elt te)(fit:sy fr dtg)
 (hx:X.xe=λ _ _=>False:=by rfl) (hc:X.calm=true:=by rfl) (hs:∀x,foldedSetIterable iter X.env x=pure x:=by intro _;rfl):JE X (.ListComp elt [⟨tg,iter,ifs,0⟩] scope pos) (cT src fr dtg t te):=by
 unfold JE JI JG JC at*;exact Oo S hi hg ht he fit hx hc hs
def xI{scope:Scope}{Nc:List Str}{elt tg iter:Expr}{ifs:List Expr}{src:DI}{fr:List (Option Nat)}{dtg:f9}(S:aW X scope Nc fr)(hi:JI X tg iter src)(hg:∀C s H ex,JG (fS X scope Nc C s H ex) tg dtg)(ht:∀C s H ex,JC (fS X scope Nc C s H ex) ifs t)(he:∀C s H ex,JE (fS X scope Nc C s H ex) elt te)(fit:sy fr dtg)
 (hx:X.xe=λ _ _=>False:=by rfl) (hc:X.calm=true:=by rfl) (hs:∀x,foldedSetIterable iter X.env x=pure x:=by intro _;rfl):JE X (.ListComp elt [⟨tg,iter,ifs,0⟩] scope pos) (lS src fr dtg t te):=by
 unfold JE JI JG JC at*;exact Kj S hi hg ht he fit hx hc hs
def eZ:JB X [] fk:=by unfold JB;exact Kn
def aC(h:JS X s T):JB X [s] T:=by unfold JB;unfold JS at h;exact Lr h
def au(h:JS X s T)(h2:JB X ss U):JB X (s::ss) (aJ T U):=by unfold JB at*;unfold JS at h;exact GI h h2
def ba(h:JE X e te):JS X (.Return (some e) pos) (cy te):=by unfold JS;unfold JE at h;exact NW h
def mx(h:JE X e te)(hc:l7 e=true:=by rfl):JS X (.Expr e pos) (mW te):=by unfold JS;unfold JE at h;exact GK h hc
def fz{x y:List Stmt}(hc:JT X c t)(ha:JB X x T)(hb:JB X y U):JS X (.If c x y pos) (ft t T U):=by unfold JS;unfold JB at*;unfold JT at hc;exact OO hc ha hb
def vB{x:List Stmt}(hc:JT X c t)(hb:JB X x T)(hx:X.xe=λ _ _=>False:=by rfl):JS X (.While c x [] pos) (tO t T):=by unfold JS;unfold JB at hb;unfold JT at hc;exact Ic (HQ (by rw[hx];exact PassesOwn.never) hc hb)
def ib{tg iter:Expr}{x:List Stmt}{src:DI}{dtg:f9}(hi:JI X tg iter src)(hg:JG X tg dtg)(hb:JB X x T)(hx:X.xe=λ _ _=>False:=by rfl)(hc:X.calm=true:=by rfl)(hs:∀x,foldedSetIterable iter X.env x=pure x:=by intro _;rfl):JS X (.For tg iter x [] pos) (jz src dtg T):=by
 unfold JS;unfold JI at hi;unfold JG at hg;unfold JB at hb;exact NG (Ma (by rw[hx];exact PassesOwn.never) hc hi hg hb hs)
def aQ{k:Nat}{x:Str}(hN:X.N.Nodup)(hx:Loc X.env.scope x)(he:JE X e te)(hf:X.fn x=true\/X.env.scope.names.lookup x=some .local:=by first|exact .inl rfl|exact .inr rfl)(h:l7 e=true:=by rfl)(hi:X.N[k]?=some x:=by rfl):JS X (.Assign [.Name x pos'] e pos) (a9 k te):=by
 unfold JS;unfold JE at he;exact FF (Lu hN hi hx he hf h)
def ou{scope:Scope}{Nc:List Str}{elt tg iter:Expr}{ifs:List Expr}{src:DI}{fr:List (Option Nat)}{dtg:f9}{k:Nat}{x:Str}(hN:X.N.Nodup)(hl:Loc X.env.scope x)(S:aW X scope Nc fr)(hi:JI X tg iter src)(hg:∀C s H ex,JG (fS X scope Nc C s H ex) tg dtg)(ht:∀C s H ex,JC (fS X scope Nc C s H ex) ifs t)(he:∀C s H ex,JE (fS X scope Nc C s H ex) elt te)(fit:sy fr dtg)
 (hf:X.fn x=true\/X.env.scope.names.lookup x=some .local:=by first|exact .inl rfl|exact .inr rfl) (hsw:swapsWith (.ListComp elt [⟨tg,iter,ifs,0⟩] scope p) (some (.Name x pos')) pos.line X.env=pure true:=by rfl) (hni:X.N[k]?=some x:=by rfl) (hx:X.xe=λ _ _=>False:=by rfl) (hc:X.calm=true:=by rfl) (hs:∀x,foldedSetIterable iter X.env x=pure x:=by intro _;rfl):
 JS X (.Assign [.Name x pos'] (.ListComp elt [⟨tg,iter,ifs,0⟩] scope p) pos) (a9 k (cT src fr dtg t te)):=by
 unfold JS;unfold JE JI JG JC at*;exact K9 fit (Cv hx hc S hi hg ht he hN hni hl hf hsw hs)
def Bh{scope:Scope}{Nc:List Str}{elt tg iter:Expr}{ifs:List Expr}{src:DI}{fr:List (Option Nat)}{dtg:f9}{k:Nat}{x:Str}(hN:X.N.Nodup)(hl:Loc X.env.scope x)(S:aW X scope Nc fr)(hi:JI X tg iter src)(hg:∀C s H ex,JG (fS X scope Nc C s H ex) tg dtg)(ht:∀C s H ex,JC (fS X scope Nc C s H ex) ifs t)(he:∀C s H ex,JE (fS X scope Nc C s H ex) elt te)(fit:sy fr dtg)
 (hf:X.fn x=true\/X.env.scope.names.lookup x=some .local:=by first|exact .inl rfl|exact .inr rfl) (hsw:swapsWith (.ListComp elt [⟨tg,iter,ifs,0⟩] scope p) (some (.Name x pos')) pos.line X.env=pure true:=by rfl) (hni:X.N[k]?=some x:=by rfl) (hx:X.xe=λ _ _=>False:=by rfl) (hc:X.calm=true:=by rfl) (hs:∀x,foldedSetIterable iter X.env x=pure x:=by intro _;rfl):
 JS X (.Assign [.Name x pos'] (.ListComp elt [⟨tg,iter,ifs,0⟩] scope p) pos) (a9 k (lS src fr dtg t te)):=by
 unfold JS;unfold JE JI JG JC at*;exact HN fit (Cv hx hc S hi hg ht he hN hni hl hf hsw hs)
def fV(he:JE X e te)(ho:JE X o to)(hi:JE X i ti)(h1:l7 e=true:=by rfl)(h2:oS i=true:=by rfl):JS X (.Assign [.Subscript o i pos'] e pos) (gm to ti te):=by unfold JS;unfold JE at*;exact Hv (M8 he ho hi h1 h2)
def MQ{k:Nat}{x:Str}{op:Operator}{f:Int->Int->Int}(hN:X.N.Nodup)(hx:Loc X.env.scope x)(he:JE X e te)(ho:NY X op (Mf f))(hf:X.fn x=true\/X.env.scope.names.lookup x=some .local:=by first|exact .inl rfl|exact .inr rfl)(hi:X.N[k]?=some x:=by rfl):JS X (.AugAssign (.Name x pos') op e pos) (DJ k (Aj f) te):=by
 unfold JS;unfold JE at he;exact Mh (Ny hN hi hx he ho hf)
def FV{k j kt k2:Nat}{x y:Str}{px py pt pt2:Pos}(hN:X.N.Nodup)(hij:k≠j)(hx:X.env.scope.names.lookup x=some .local)(hy:X.env.scope.names.lookup y=some .local)(ha:JA X [a,b] ar)
 (hw:swappedStores [.Tuple [.Name x px,.Name y py] kt pt] (.Tuple [a,b] k2 pt2) X.env=pure (some [x,y]):=by rfl) (hc:X.calm=true:=by rfl) (hi:X.N[k]?=some x:=by rfl) (hj:X.N[j]?=some y:=by rfl) (hs:swapsWithSole [.Tuple [.Name x px,.Name y py] kt pt] (.Tuple [a,b] k2 pt2) pos.line X.env=pure false:=by rfl):
 JS X (.Assign [.Tuple [.Name x px,.Name y py] kt pt] (.Tuple [a,b] k2 pt2) pos) (Dk k j ar):=by unfold JS;unfold JA at ha;exact Ni (Mo hc hN hi hj hij hx hy ha hw hs)
def sN{tg:Expr}{dtg:f9}(he:JE X e te)(hg:JG X tg dtg)(hs:swapsWithSole [tg] e pos.line X.env=pure false:=by rfl)(hw:swappedStores [tg] e X.env=pure none:=by rfl)(h1:(assignEach [tg] X.env).map (·.2)=[assign tg X.env]:=by rfl):JS X (.Assign [tg] e pos) (tP dtg te):=by
 unfold JS;unfold JE at he;unfold JG at hg;exact MX (FU he hg hs hw h1)
end
def cn{P:Program}{w:World}{K:PySem.W.Frag}{mg:Str->Option Value}{base:Heap}{x qual:Str}{st:Stmt}{f:Addr}{fd:FuncData}{N ps:List Str}{k:Nat}{sp:cY}{t:DS}(F:oV K x qual st f fd)(S:aR N ps (ai st))
 (hbody:∀(cdv:Value) (A:Around) (outer:List Env) (s:Shared) (H:Hp) (E:XK),dg k (A.deeper (envOfC qual (ai st) s.heap.objs.size f cdv))->JB (rL c5 P w K mg base N qual (ai st) f cdv A outer s H E).wZ (ie st) t)
 (hsp:∀ds st K,sp ds st K->ds.length=ps.length/\t {nx:=λ _ st'=>K .aG st',rt:=K} (a7 N ds) st):bN P w K mg base c5 (k+1) f fd ps (c_ sp):=by
 unfold JB at hbody;exact Ox F S hbody hsp
end L3
namespace HT
open PySem PyProof.Rows
section
variable {prog:Program}{w:World}{A:Around}{E:Value->Shared->Prop}{s:Shared}
def sI{t sl:Addr}{items:Array Value}{vl vu:Value}{lo hi:Option Int}{Q:Value->Shared->Prop}(ht:IsTup s.heap t items)(hs:s.heap.IsSliceOf sl vl vu .none)(pl:IsPart vl lo)(pu:IsPart vu hi)
 (hw:cM items.size 0 lo=0/\cM items.size items.size hi=items.size) (h:Q (.ref t) s):wpAny (model prog w) A (getItem (.ref t) (.ref sl)) Q E s:=by
 obtain⟨os,hos,hcs,hds⟩:=id hs;have hTs:s.TypeIs (.ref sl) "slice":=⟨os,hos,hcs⟩
 unfold getItem;try with_reducible refine Vi ?_
 first|refine Sa (Sn ?_)|skip
 refine Sa (wpAny_sequenceKey ht.typeIs (by decide) ?_)
 refine Sa (T9 (name:=Str.ofString "__getitem__") ht.typeIs TX
  (UL TX ht.typeIs entry_tuple_getitem ?_ (args_tuple_getitem _ _)))
 show wpAny _ _ (Builtin.Tuple.tupleItemsOf (.ref t) >>= _) _ _ s;refine Sa (tupleItemsOf_ ht ?_);refine Sa (XN hTs ?_);rw[Si (by decide)];refine Sa (oW hs pl pu ?_)
 have hyes:(((cM items.size 0 lo:Nat):Int)==0&&(1:Int)==1&&(cM items.size items.size hi-cM items.size 0 lo)==items.size)=true:=by
  rw[hw.1,hw.2];simp
 show wpAny _ _ (if(((cM items.size 0 lo:Nat):Int)==0&&(1:Int)==1&&(cM items.size items.size hi-cM items.size 0 lo)==items.size)=true then _ else _) _ _ s;rw[Si hyes];refine Sa ?_;unfold Builtin.Tuple.tupleIsExact;exact Sa (XN ht.typeIs (Sn (Sa (VC (Sn ⟨_,rfl,Sn h⟩)))))
end
end HT
namespace L3
open PySem L2
open PySem.Spec hiding items?
open PyProof.Rows hiding St
abbrev DO:=cm->ag->(Option Int->ag->Prop)->Prop
def ia:DO:=λ _ st K=>K none st
def lV(t:DE):DO:=λ σ st K=>t σ st λ d st1=>match d with| .int i=>K (some i) st1|_=>False
def cutD(xs:List D)(lo hi:Option Int):List D:=(xs.drop (HT.cM xs.length 0 lo)).take (HT.cM xs.length xs.length hi-HT.cM xs.length 0 lo)
def By(d:D)(lo hi:Option Int)(st:ag)(K:DK):Prop:=match d with
 | .lst xs=>K (.lst (cutD xs lo hi)) st
 | .tup xs=>K (.tup (cutD xs lo hi)) st
 | .ref n=>(match st[n]? with|some (.lst xs)=>K (.lst (cutD xs lo hi)) st|_=>False)
 |_=>False
@[irreducible] def lJ:D->Option Int->Option Int->ag->DK->Prop:=By
def jF(t:DE)(lo hi:DO):DE:=λ σ st K=>t σ st λ d st1=>lo σ st1 λ l st2=>hi σ st2 λ u st3=>lJ d l u st3 K
def vC{α:List (Option Addr)}{G:Hp}{xs:List D}{vs:List V}{lo hi:Option Int}(r:aN α G xs vs):aN α G (cutD xs lo hi) (rZ vs lo hi):=by
 unfold cutD rZ;rw[<-r.length];exact aT.mpr (u7 _ (uY _ (aT.mp r)))
def RJ(α:List (Option Addr))(G F:Hp)(K:Option Int->ag->Prop)(Q:Option Int->Hp->Prop):Prop:=∀o st',K o st'->∀α' G' H',Step α G α' G'->cO G' F H'->aX α' st' G'->Q o H'
inductive Qv(t:DO)(σ:L2.St)(H:Hp)(Q:Option Int->Hp->Prop):Prop
 |mk (α:List (Option Addr)) (σd:cm) (st:ag) (K:Option Int->ag->Prop) (G F:Hp) (P:cO G F H) (R:fu α G σd σ) (S:aX α st G) (h:t σd st K) (k:RJ α G F K Q):Qv t σ H Q
def LO(t:DO):TO:=Qv t
section
variable {X:Cx}
def PO.imp{e:Option Expr}{t t':TO}(h:PO X e t)(f:∀σ H Q,t' σ H Q->t σ H Q):PO X e t':=λ pins s σ H Q I q=>h pins s σ H Q I (f σ H Q q)
def Kd:PO X none (LO ia):=PO.imp Lx λ σ H Q ⟨α,σd,st,K,G,F,P,R,S,t,k⟩=>k none st t α G H Step.refl P S
def Kc{e:Expr}{te:DE}(h:PE X e (LE te)):PO X (some e) (LO (lV te)):=PO.imp (Kz h) λ σ H Q ⟨α,σd,st,K,G,F,P,R,S,t,k⟩=>by
 refine⟨α,σd,st,_,G,F,P,R,S,t,λ d st1 q α1 G1 H1 v s1 P1 S1 r1=>?_⟩;cases d<;>try exact q.elim
 unfold Rep at r1;exact⟨_,r1,k _ st1 q α1 G1 H1 s1 P1 S1⟩
def RW(x:V)(lo hi:Option Int)(H:Hp)(Q:VK):Prop:=∃α d st K G F,cO G F H/\Rep α G d x/\aX α st G/\lJ d lo hi st K/\LK α G F K Q
def K8:Fi X (λ x lo hi H Q=>∃a xs,x= .ref a/\H a=some (.tup xs)/\((HT.cM xs.length 0 lo=0/\HT.cM xs.length xs.length hi=xs.length)->Q (.ref a) H)/\(¬(HT.cM xs.length 0 lo=0/\HT.cM xs.length xs.length hi=xs.length)->∀p,H p=none->Q (.ref p) (upd H p (.tup (rZ xs lo hi))))):=by
 intro pins s σ H x v vl vu lo hi sl Q I rx hs pl pu h;obtain⟨a,xs,rfl,hx,q1,q2⟩:=h;by_cases hw:HT.cM xs.length 0 lo=0/\HT.cM xs.length xs.length hi=xs.length
 . cases rx;obtain⟨ao,r,ht,hz⟩:=I.tuple (jH.of hx);have hlen:ao.toArray.size=xs.length:=by rw[Sl];exact r.length.symm
   exact⟨"tuple",_,TX.lookup,ht.typeIs,HT.sI ht hs pl pu (by rw[hlen];exact hw) ⟨.ref a,H,I,rfl,q1 hw⟩⟩
 . exact NT pins s σ H _ v vl vu lo hi sl Q I rx hs pl pu ⟨a,xs,rfl,.of hx,hw,q2 hw⟩
def FN{xs:List D}{lo hi:Option Int}(hw:HT.cM xs.length 0 lo=0/\HT.cM xs.length xs.length hi=xs.length):cutD xs lo hi=xs:=by
 unfold cutD;rw[hw.1,hw.2];simp
def N9:Fi X RW:=by
 intro pins s σ H x v vl vu lo hi sl Q I rx hs pl pu ⟨α,d,st,K,G,F',P,r1,S,q,k⟩;unfold lJ By at q;cases d<;>try exact q.elim
 . rename_i n;simp only at q;split at q
   . rename_i xs e;obtain⟨a,ea,vs,h1,h2⟩:=S.g5 e;have r1':=eQ ea r1;subst r1';exact B_ pins s σ H _ v vl vu lo hi sl Q I rx hs pl pu ⟨a,vs,rfl,.inl (.of (P.get h1)),λ p hp=>k.lst P q S (vC h2) hp⟩
   . exact q.elim
 . unfold Rep at r1;obtain⟨a,vs,rfl,na,ha,ra⟩:=r1;exact B_ pins s σ H _ v vl vu lo hi sl Q I rx hs pl pu ⟨a,vs,rfl,.inl (fI P ha),λ p hp=>k.lst P q S (vC ra) hp⟩
 . rename_i xs;have r0:=r1;unfold Rep at r1;obtain⟨a,vs,rfl,na,ha,ra⟩:=r1;refine K8 pins s σ H _ v vl vu lo hi sl Q I rx hs pl pu ⟨a,vs,rfl,P.get ha,λ hw=>?_,λ _ p hp=>k.tup P q S (vC ra) hp⟩;rw[<-ra.length]at hw;simp only at q;rw[FN hw]at q;exact k.here P q S r0
def LB{e:Expr}{lo hi:Option Expr}{te:DE}{tl th:DO}{p2 pos:Pos}(he:PE X e (LE te))(hl:PO X lo (LO tl))(hh:PO X hi (LO th)):PE X (.Subscript e (.Slice lo hi none p2) pos) (LE (jF te tl th)):=PE.imp (GN N9 he hl hh) λ σ H Q ⟨α,σd,st,K,G,F,P,R,S,t,k⟩=>by
 refine⟨α,σd,st,_,G,F,P,R,S,t,λ d st1 q α1 G1 H1 v s1 P1 S1 r1=>?_⟩;refine⟨α1,σd,st1,_,G1,F,P1,R.step s1,S1,q,λ l st2 q2 α2 G2 H2 s2 P2 S2=>?_⟩;refine⟨α2,σd,st2,_,G2,F,P2,(R.step s1).step s2,S2,q2,λ u st3 q3 α3 G3 H3 s3 P3 S3=>?_⟩;exact⟨α3,d,st3,K,G3,F,P3,(r1.step s2).step s3,S3,q3,((k.at s1).at s2).at s3⟩
@[irreducible] def JO(X:Cx)(e:Option Expr)(t:DO):Prop:=PO X e (LO t)
def jY:JO X none ia:=by unfold JO;exact Kd
def jO{e:Expr}{te:DE}(h:JE X e te):JO X (some e) (lV te):=by unfold JO;unfold JE at h;exact Kc h
def j0{e:Expr}{lo hi:Option Expr}{te:DE}{tl th:DO}{p2 pos:Pos}(he:JE X e te)(hl:JO X lo tl)(hh:JO X hi th):JE X (.Subscript e (.Slice lo hi none p2) pos) (jF te tl th):=by unfold JE at*;unfold JO at*;exact LB he hl hh
end
def Ew{st:ag}{K:DK}{xs:List D}{lo hi:Option Int}(k:K (.lst (cutD xs lo hi)) st):lJ (.lst xs) lo hi st K:=by unfold lJ;exact k
def jB{st:ag}{K:DK}{xs:List D}{lo hi:Option Int}(k:K (.tup (cutD xs lo hi)) st):lJ (.tup xs) lo hi st K:=by unfold lJ;exact k
def EN{st:ag}{K:DK}{xs:List D}{lo hi:Option Int}{n:Nat}(h:st[n]?=some (.lst xs))(k:K (.lst (cutD xs lo hi)) st):lJ (.ref n) lo hi st K:=by unfold lJ By;simp only[h];exact k
section
variable {prog:Program}{w:World}{A:Around}{E:Value->Shared->Prop}{s:Shared}
def Eb{iT tp:Addr}{n:Nat}{ao:Array Value}{v:Value}{Q:Value->Shared->Prop}(hI:s.heap.IsTupleIter iT tp n)(hT:s.heap.IsTuple tp ao)(hv:ao[n]?=some v)
 (q:∀g,g.IsTupleIter iT tp (n+1)->Heap.SameBut iT s.heap g->Q v {s with heap:=g}):wpAny (model prog w) A (Builtin.SmallTypes.nextOf (.ref iT)) Q E s:=by
 obtain⟨oI,eI,cI,dI⟩:=id hI;obtain⟨oT,eT,_,nT,dT⟩:=hT;unfold Builtin.SmallTypes.nextOf;refine Sa (T9 (name:=Str.ofString "__next__") hI.typeIs UX (UL UX hI.typeIs WK ?_ (WG _)));show wpAny _ _ (field (.ref iT) 0 >>= _) _ _ s;refine Sa (T4 eI dI (x:= .ref tp) rfl ?_);show wpAny _ _ (if(Value.ref tp==Value.none)=true then _ else _) _ _ s;rw[Sf (show¬((Value.ref tp==Value.none)=true)from Ts)];show wpAny _ _ (field (.ref iT) 1 >>= _) _ _ s;refine Sa (T4 eI dI (x:= .int n 0) rfl ?_);show wpAny _ _ (seqItems? (.ref tp) >>= _) _ _ s;refine Sa (UM eT dT ?_);simp only[SH,hv];refine Sa (wpAny_setField eI dI (by simp) (Sn ⟨v,rfl,Sn (q _ ?_ (Uu ..))⟩));refine⟨_,Heap.get?_update_self _ eI (Obj.isFreed_of_fields (Obj.data_mapFields dI _)),(Obj.cls_mapFields ..).trans cI,?_⟩;rw[Obj.data_mapFields dI];simp[rawInt]
def E5{iT tp:Addr}{n:Nat}{ao:Array Value}{Q:Value->Shared->Prop}(hh:A.handled=none)(hI:s.heap.IsTupleIter iT tp n)(hT:s.heap.IsTuple tp ao)(hv:ao[n]?=none)
 (q:∀g e,Heap.ExtBut iT s.heap g->(∃o,g.get? e=some o/\o.cls= .type "StopIteration")->E (.ref e) {s with heap:=g}):wpAny (model prog w) A (Builtin.SmallTypes.nextOf (.ref iT)) Q E s:=by
 obtain⟨oI,eI,cI,dI⟩:=id hI;obtain⟨oT,eT,_,nT,dT⟩:=hT;unfold Builtin.SmallTypes.nextOf;refine Sa (T9 (name:=Str.ofString "__next__") hI.typeIs UX (UL UX hI.typeIs WK ?_ (WG _)));show wpAny _ _ (field (.ref iT) 0 >>= _) _ _ s;refine Sa (T4 eI dI (x:= .ref tp) rfl ?_);show wpAny _ _ (if(Value.ref tp==Value.none)=true then _ else _) _ _ s;rw[Sf (show¬((Value.ref tp==Value.none)=true)from Ts)];show wpAny _ _ (field (.ref iT) 1 >>= _) _ _ s;refine Sa (T4 eI dI (x:= .int n 0) rfl ?_);show wpAny _ _ (seqItems? (.ref tp) >>= _) _ _ s;refine Sa (UM eT dT ?_);simp only[SH,hv];refine Sa (VC (Sa (wpAny_setField eI dI (by simp) ?_)));show wpAny _ _ (newExc (.type "StopIteration") [] >>= _) _ _ _;refine Sa ?_;simp only[newExc,newTuple];refine Sa (UH ?_ (by size_fits));refine Sa (m:=firstArgMember _ _) (wpAny_of_eq (a:=Value.none) (by first|rfl|(simp only[firstArgMember];rfl)) ?_);refine UH ?_ (by size_fits);simp only[raiseNew];refine Sa (wpAny_handled ?_);first|rw[show A.in1.handled=none from hh]|rw[hh]
 refine Sa (Sn (wpAny_throw ?_));exact q _ _ (((Uu ..).extBut.push _).push _) ⟨_,SI _ rfl,rfl⟩
end
section
variable {st:ag}{K:DK}{i j:Int}{b c:Bool}{xs ys:List D}{d e:D}{n:Nat}
def eqT(h:i=j)(k:K (.bl true) st):kP (.int i) (.int j) st K:=E4 (by rw[TF h];exact k)
def RP(h:i≠j)(k:K (.bl false) st):kP (.int i) (.int j) st K:=E4 (by rw[Tf h];exact k)
def eq2(h1:i=j->K (.bl true) st)(h2:i≠j->K (.bl false) st):kP (.int i) (.int j) st K:=by
 by_cases h:i=j
 . exact eqT h (h1 h)
 . exact RP h (h2 h)
def neT(h:i≠j)(k:K (.bl true) st):nG (.int i) (.int j) st K:=IS (by rw[Tf h];exact k)
def Mv(h:i=j)(k:K (.bl false) st):nG (.int i) (.int j) st K:=IS (by rw[TF h];exact k)
def ne2(h1:i≠j->K (.bl true) st)(h2:i=j->K (.bl false) st):nG (.int i) (.int j) st K:=by
 by_cases h:i=j
 . exact Mv h (h2 h)
 . exact neT h (h1 h)
def RT(h:i<j)(k:K (.bl true) st):sA (.int i) (.int j) st K:=Iw (by rw[TF h];exact k)
def RY(h:j<=i)(k:K (.bl false) st):sA (.int i) (.int j) st K:=Iw (by rw[Tf (by omega)];exact k)
def F0(h1:i<j->K (.bl true) st)(h2:j<=i->K (.bl false) st):sA (.int i) (.int j) st K:=by
 by_cases h:i<j
 . exact RT h (h1 h)
 . exact RY (by omega) (h2 (by omega))
def RV(h:j<i)(k:K (.bl true) st):sU (.int i) (.int j) st K:=IP (by rw[TF h];exact k)
def R7(h:i<=j)(k:K (.bl false) st):sU (.int i) (.int j) st K:=IP (by rw[Tf (by omega)];exact k)
def Jg(h1:j<i->K (.bl true) st)(h2:i<=j->K (.bl false) st):sU (.int i) (.int j) st K:=by
 by_cases h:j<i
 . exact RV h (h1 h)
 . exact R7 (by omega) (h2 (by omega))
def RX(h:j<=i)(k:K (.bl true) st):Bm (.int i) (.int j) st K:=JH (by rw[TF h];exact k)
def Rz(h:i<j)(k:K (.bl false) st):Bm (.int i) (.int j) st K:=JH (by rw[Tf (by omega)];exact k)
def RQ{P:Prop}(h:xs.length<=1000)(k:P):xs.length<=sizeLine/\P:=⟨by rw[Uc];omega,k⟩
def bZ{m:Nat}(h:m<=1000):m<=sizeLine:=by rw[Uc];omega
def ya(h0:0<=i)(e:xs[i.toNat]?=some d):eV xs i=some d:=by
 have:=kX e;rw[Int.toNat_of_nonneg h0]at this;exact this
def Et{m:Nat}(h0:0<=i)(h:i.toNat<m):j7 m i=some i.toNat:=by
 unfold j7;have:i<(m:Int):=by omega
 simp[h0,this]
end
def iS{tg:f9}{body:DS}{ok:ag->Prop}{E:oi}(I:List D->cm->ag->Prop)(hend:∀σ st,I [] σ st->ok st/\E.nx σ st)
 (hstep:∀x xs σ st,I (x::xs) σ st->(∀σ' st',I xs σ' st'->ij tg body ok E xs σ' st')->ok st/\∃σ1,tg x σ=some σ1/\body {E with nx:=ij tg body ok E xs,ct:=ij tg body ok E xs,bk:=E.nx} σ1 st):
 ∀xs σ st,I xs σ st->ij tg body ok E xs σ st
 | [],σ,st,h=>by unfold ij;exact hend σ st h
 |x::xs,σ,st,h=>by unfold ij;exact hstep x xs σ st h λ σ' st' h'=>iS I hend hstep xs σ' st' h'
def gu{tg:f9}{c:DT}{te:DE}{ok:ag->Prop}{σc:cm}{K:List D->ag->Prop}(I:List D->List D->ag->Prop)(hend:∀acc st,I [] acc st->ok st/\K acc st)
 (hstep:∀x xs acc st,I (x::xs) acc st->(∀acc' st',I xs acc' st'->dA tg c te ok σc xs acc' st' K)->ok st/\∃σ2,tg x σc=some σ2/\c σ2 st λ b st1=>if b=true then te σ2 st1 λ y st2=>dA tg c te ok σc xs (acc++[y]) st2 K else dA tg c te ok σc xs acc st1 K):
 ∀xs acc st,I xs acc st->dA tg c te ok σc xs acc st K
 | [],acc,st,h=>by unfold dA;exact hend acc st h
 |x::xs,acc,st,h=>by unfold dA;exact hstep x xs acc st h λ acc' st' h'=>gu I hend hstep xs acc' st' h'
def comp_map{tg:f9}{te:DE}{ok:ag->Prop}{σc:cm}{st:ag}{K:List D->ag->Prop}{g:D->D}(aL:ok st)(xs:List D)(hx:∀x∈xs,∀K',K' (g x) st->∃σ2,tg x σc=some σ2/\te σ2 st K')(k:K (xs.map g) st):dA tg cF te ok σc xs [] st K:=by
 refine gu (λ r acc st'=>st'=st/\(∀x∈r,x∈xs)/\acc++r.map g=xs.map g) (λ acc st' h=>?_) (λ x r acc st' h next=>?_) xs [] st ⟨rfl,λ _ h=>h,rfl⟩
 . obtain⟨rfl,_,e⟩:=h;rw[List.map_nil,TZ]at e;rw[e];exact⟨aL,k⟩
 . obtain⟨rfl,hm,e⟩:=h;obtain⟨σ2,e2,q⟩:=hx x (hm x SD) (λ y st2=>dA tg cF te ok σc r (acc++[y]) st2 K) (next _ _ ⟨rfl,λ z hz=>hm z (SG _ hz),by rw[<-e];simp⟩);exact⟨aL,σ2,e2,q⟩
def iX{A B:DS}{E:oi}{σ:cm}{st:ag}(J:cm->ag->Prop)(h:∀nx,(∀σ' st',J σ' st'->nx σ' st')->A {E with nx:=nx} σ st)(k:∀σ' st',J σ' st'->B E σ' st'):aJ A B E σ st:=h (B E) k
def Mz(n:Nat)(K:DK)(y:D)(st2:ag):Prop:=∃y',[y]=[y']/\(match st2[n]? with|some (.lst xs)=>xs.length<sizeLine/\K .aG (st2.set n (.lst (xs++[y'])))|_=>False)
def CV{n:Nat}{K:DK}{y:D}{st:ag}{xs:List D}(e:st[n]?=some (.lst xs))(h:xs.length<sizeLine)(k:K .aG (st.set n (.lst (xs++[y])))):Mz n K y st:=by
 refine⟨y,rfl,?_⟩;simp only[e];exact⟨h,k⟩
@[irreducible] def oB(to te:DE):DE:=qY to te
def FG{σ:cm}{st:ag}{K:DK}{i n:Nat}{xs:List D}{te:DE}(ei:σ[i]?=some (some (.ref n)))(e:st[n]?=some (.lst xs))(h:te σ st (Mz n K)):oB (ae i) te σ st K:=by
 unfold oB qY ae;simp only[ei,e];exact h
def yA{X:Cx}{o e:Expr}{to te:DE}{apos cpos:Pos}(ho:JE X o to)(he:JE X e te)(hbase:attributeBase o "append" X.env (eval o X.env)=eval o X.env:=by rfl)(hline:(apos.endLine==cpos.line)=true:=by rfl)(hs:notStar e=true:=by rfl):JE X (.Call (.Attribute o "append" apos) [e] [] cpos) (oB to te):=by
 unfold oB;exact Hy ho he hbase hline hs
section
variable {X:Cx}
end
structure Src(P:Program)(w:World)(t a:Addr)(J:Nat->Heap->Prop)(us:Array Value):Prop where
 fr:∀n g k,J n g->(∀b,b=t\/b=a->∀o,g.get? b=some o->k.get? b=some o)->J n k
 lv:∀n g,J n g->(∃o,g.get? t=some o)/\∃o,g.get? a=some o
 nx:∀n (A:Around) (s:Shared) (Q:Value->Shared->Prop) (E:Value->Shared->Prop) v,J n s.heap->us[n]?=some v->(∀k,J (n+1) k->Heap.SameBut t s.heap k->Q v {s with heap:=k})->wpAny (model P w) A (Builtin.SmallTypes.nextOf (.ref t)) Q E s
 en:∀n (A:Around) (s:Shared) (Q:Value->Shared->Prop) (E:Value->Shared->Prop),A.handled=none->J n s.heap->us[n]?=none->(∀k e,Heap.ExtBut t s.heap k->(∃o,k.get? e=some o/\o.cls= .type "StopIteration")->E (.ref e) {s with heap:=k})->wpAny (model P w) A (Builtin.SmallTypes.nextOf (.ref t)) Q E s
section
variable {P:Program}{w:World}
def src_list(t a:Addr)(hne:a≠t)(us:Array Value):Src P w t a (λ n g=>g.IsListIter t a n/\g.IsList a us) us where
 fr:=λ n g k j kp=>⟨j.1.at λ o e=>kp t (.inl rfl) o e,j.2.at λ o e=>kp a (.inr rfl) o e⟩
 lv:=λ n g j=>⟨let⟨o,e,_⟩:=j.1;⟨o,e⟩,let⟨o,e,_⟩:=j.2;⟨o,e⟩⟩
 nx:=λ n A s Q E v j hv q=>wpAny_nextOf_list_item j.1 j.2 hv λ k jk sb=>q k ⟨jk,j.2.extBut sb.extBut hne⟩ sb
 en:=λ n A s Q E hh j hv q=>wpAny_nextOf_list_end hh j.1 j.2 hv q
def Kb(t a:Addr)(hne:a≠t)(us:Array Value):Src P w t a (λ n g=>g.IsTupleIter t a n/\g.IsTuple a us) us where
 fr:=λ n g k j kp=>by
  obtain⟨⟨o,e,r⟩,⟨o2,e2,r2⟩⟩:=j;exact⟨⟨o,kp t (.inl rfl) o e,r⟩,⟨o2,kp a (.inr rfl) o2 e2,r2⟩⟩
 lv:=λ n g j=>⟨let⟨o,e,_⟩:=j.1;⟨o,e⟩,let⟨o,e,_⟩:=j.2;⟨o,e⟩⟩
 nx:=λ n A s Q E v j hv q=>Eb j.1 j.2 hv λ k jk sb=>q k ⟨jk,j.2.extBut sb.extBut hne⟩ sb
 en:=λ n A s Q E hh j hv q=>E5 hh j.1 j.2 hv q
def Src.ext{t a c:Addr}{J:Nat->Heap->Prop}{us:Array Value}(S:Src P w t a J us){n:Nat}{g k:Heap}(j:J n g)(x:Heap.ExtBut c g k)(h1:c≠t)(h2:c≠a):J n k:=
 S.fr n g k j λ b hb o e=>x b o (by rcases hb with rfl|rfl;exact Sq h1;exact Sq h2) e
structure Cc(z ti to t1 t2 a1 a2:Addr):Prop where
 nd: [z,ti,to,t1,t2].Nodup
 a1:a1∉[z,ti,to,t1,t2]
 a2:a2∉[z,ti,to,t1,t2]
section
variable {z ti to t1 t2 a1 a2:Addr}
def Cc.n(D:Cc z ti to t1 t2 a1 a2):(ti≠z/\to≠z/\t1≠z/\t2≠z)/\(ti≠to/\ti≠t1/\ti≠t2)/\(to≠t1/\to≠t2)/\t1≠t2:=by
 have:=D.nd;simp only[Vl,SA,VT,S_,TV,Vt,List.nodup_nil]at this;obtain⟨⟨b1,b2,b3,b4⟩,⟨b5,b6,b7⟩,⟨b8,b9⟩,b10⟩:=this;exact⟨⟨Sq b1,Sq b2,Sq b3,Sq b4⟩,⟨b5,b6,b7⟩,⟨b8,b9⟩,b10⟩
def EK{A:Around}{s:Shared}{E:Value->Shared->Prop}{J1 J2:Nat->Heap->Prop}{us vs:Array Value}{n:Nat}{x y a b:Value}{Q:Value->Shared->Prop}(D:Cc z ti to t1 t2 a1 a2)(S1:Src P w t1 a1 J1 us)(S2:Src P w t2 a2 J2 vs)
 (Z:IsZip s.heap z ti to .none) (pI:IsPair s.heap ti (.ref t1) (.ref t2)) (pO:IsPair s.heap to a b) (j1:J1 n s.heap) (j2:J2 n s.heap) (ex:us[n]?=some x) (ey:vs[n]?=some y)
 (q:∀k,IsZip k z ti to (rawInt s.heap.objs.size)->IsPair k to x y->J1 (n+1) k->J2 (n+1) k->IsPair k s.heap.objs.size x y->k.objs.size=s.heap.objs.size+1->
   (∀c o,c≠z->c≠to->c≠t1->c≠t2->s.heap.get? c=some o->k.get? c=some o)->Q (.ref s.heap.objs.size) {s with heap:=k}):
 wpAny (model P w) A (Builtin.«zip.__next__» ⟨[.ref z],[]⟩) (λ fin s'=>∃v,fin= .done (.ret v)/\Q v s') E s:=by
 obtain⟨⟨n1,n2,n3,n4⟩,⟨n5,n6,n7⟩,⟨n8,n9⟩,n10⟩:=D.n;have m1:=D.a1;have m2:=D.a2;simp only[SA,VT,S_,TV,Vt]at m1 m2;show wpAny _ _ (field (.ref z) 2 >>= _) _ _ _;refine Sa (T4 Z rfl (x:= .bool false) rfl ?_);show wpAny _ _ (field (.ref z) 3 >>= _) _ _ _;refine Sa (T4 Z rfl (x:= .ref ti) rfl ?_);refine Sa (UM pI rfl ?_);show wpAny _ _ (Builtin.SmallTypes.ownedTupleIsFree (.ref z) >>= _) _ _ _;refine Sa ?_;unfold Builtin.SmallTypes.ownedTupleIsFree;refine Sa (T4 Z rfl (x:= .none) rfl (Sn ?_));simp only[UU];refine Sa (VC ?_);refine Sa (T4 Z rfl (x:= .ref to) rfl ?_);refine Sa (UQ Z (by simp) λ k1 Z1 b1=>?_);replace Z1:IsZip k1 z ti to .ellipsis:=Z1;refine Sa ?_;simp only[List.zipIdx_cons,List.zipIdx_nil,Xh,XA];refine Sa (Sa (WS ?_));show wpAny _ _ (Builtin.SmallTypes.nextOf (.ref t1) >>= _) _ _ _;refine Sa (S1.nx n _ _ _ _ x (S1.ext j1 b1.extBut (Sq n3) (Sq m1.1)) ex λ k2 j1b b2=>Sn ?_);have pO2:IsPair k2 to a b:=b2.extBut _ _ n8 (b1.extBut _ _ n2 pO);refine Sa (UM pO2 rfl ?_);refine Sa (Ww pO2 λ k3 pO3 b3=>?_);replace pO3:IsPair k3 to x b:=pO3;refine Sa (Xs (Sn ?_));refine Sa (Sa (WS ?_));show wpAny _ _ (Builtin.SmallTypes.nextOf (.ref t2) >>= _) _ _ _;have j2c:J2 n k3:=S2.ext (S2.ext (S2.ext j2 b1.extBut (Sq n4) (Sq m2.1)) b2.extBut n10 (Sq m2.2.2.2.1)) b3.extBut n9 (Sq m2.2.2.1);refine Sa (S2.nx n _ _ _ _ y j2c ey λ k4 j2d b4=>Sn ?_);have pO4:IsPair k4 to x b:=b4.extBut _ _ n9 pO3;refine Sa (UM pO4 rfl ?_);refine Sa (Ww pO4 λ k5 pO5 b5=>?_);replace pO5:IsPair k5 to x y:=pO5;refine Sa (Xs (Sn (Sn ?_)));refine Sa (UM pO5 rfl ?_);refine Sa (wpAny_newTuple ?_);have sz:k5.objs.size=s.heap.objs.size:=by rw[b5.1,b4.1,b3.1,b2.1,b1.1]
 have Z5:IsZip k5 z ti to .ellipsis:=b5.extBut _ _ (Sq n2) (b4.extBut _ _ (Sq n4) (b3.extBut _ _ (Sq n2) (b2.extBut _ _ (Sq n3) Z1)));have kp5:∀c o,c≠z->c≠to->c≠t1->c≠t2->s.heap.get? c=some o->k5.get? c=some o:=λ c o c1 c2 c3 c4 e=>b5.extBut _ _ c2 (b4.extBut _ _ c4 (b3.extBut _ _ c2 (b2.extBut _ _ c3 (b1.extBut _ _ c1 e))));have j1e:J1 (n+1) k5:=S1.ext (S1.ext (S1.ext j1b b3.extBut n8 (Sq m1.2.2.1)) b4.extBut (Sq n10) (Sq m1.2.2.2.2)) b5.extBut n8 (Sq m1.2.2.1);have j2e:J2 (n+1) k5:=S2.ext j2d b5.extBut n9 (Sq m2.2.2.1);have ltz:z<k5.objs.size:=Su Z5;show wpAny _ _ (Builtin.SmallTypes.ownedTupleHandOut (.ref z) (.ref k5.objs.size) >>= _) _ _ _;refine Sa ?_;unfold Builtin.SmallTypes.ownedTupleHandOut;have Z6:IsZip (k5.push {cls:= .type "tuple",data:= .seq #[x,y]}) z ti to .ellipsis:=Sh _ Z5;refine Sa (UQ Z6 (by simp) λ k7 Z7 b7=>?_);replace Z7:IsZip k7 z ti to (rawInt k5.objs.size):=Z7;refine UQ Z7 (by simp) λ k8 Z8 b8=>?_;replace Z8:IsZip k8 z ti to (rawInt k5.objs.size):=Z8;have up:∀c o,c≠z->k5.get? c=some o->k8.get? c=some o:=λ c o c1 e=>b8.extBut _ _ c1 (b7.extBut _ _ c1 (Sh _ e));have pT:IsPair k8 k5.objs.size x y:=b8.extBut _ _ (Vc ltz) (b7.extBut _ _ (Vc ltz) (SI _ rfl));have sz8:k8.objs.size=k5.objs.size+1:=by rw[b8.1,b7.1,TY]
 rw[sz]at Z8 pT sz8;refine Sn ⟨_,rfl,?_⟩;show Q (.ref k5.objs.size) _;rw[sz];refine q k8 Z8 (up _ _ n2 pO5) (S1.fr _ _ _ j1e λ b hb o e=>up b o ?_ e) (S2.fr _ _ _ j2e λ b hb o e=>up b o ?_ e) pT sz8 λ c o c1 c2 c3 c4 e=>up c o c1 (kp5 c o c1 c2 c3 c4 e)
 . rcases hb with rfl|rfl
   . exact n3
   . exact m1.1
 . rcases hb with rfl|rfl
   . exact n4
   . exact m2.1
def Ih{A:Around}{s:Shared}{E:Value->Shared->Prop}{J1 J2:Nat->Heap->Prop}{us vs:Array Value}{n:Nat}{a b:Value}{Q:Fin->Shared->Prop}(hh:A.handled=none)(D:Cc z ti to t1 t2 a1 a2)(S1:Src P w t1 a1 J1 us)(S2:Src P w t2 a2 J2 vs)
 (Z:IsZip s.heap z ti to .none) (pI:IsPair s.heap ti (.ref t1) (.ref t2)) (pO:IsPair s.heap to a b) (j1:J1 n s.heap) (j2:J2 n s.heap) (he:us[n]?=none\/vs[n]?=none)
 (q:∀k e,(∀c o,c≠z->c≠to->c≠t1->c≠t2->s.heap.get? c=some o->k.get? c=some o)->(∃o,k.get? e=some o/\o.cls= .type "StopIteration")->E (.ref e) {s with heap:=k}):
 wpAny (model P w) A (Builtin.«zip.__next__» ⟨[.ref z],[]⟩) Q E s:=by
 obtain⟨⟨n1,n2,n3,n4⟩,⟨n5,n6,n7⟩,⟨n8,n9⟩,n10⟩:=D.n;have m1:=D.a1;have m2:=D.a2;simp only[SA,VT,S_,TV,Vt]at m1 m2;show wpAny _ _ (field (.ref z) 2 >>= _) _ _ _;refine Sa (T4 Z rfl (x:= .bool false) rfl ?_);show wpAny _ _ (field (.ref z) 3 >>= _) _ _ _;refine Sa (T4 Z rfl (x:= .ref ti) rfl ?_);refine Sa (UM pI rfl ?_);show wpAny _ _ (Builtin.SmallTypes.ownedTupleIsFree (.ref z) >>= _) _ _ _;refine Sa ?_;unfold Builtin.SmallTypes.ownedTupleIsFree;refine Sa (T4 Z rfl (x:= .none) rfl (Sn ?_));simp only[UU];refine Sa (VC ?_);refine Sa (T4 Z rfl (x:= .ref to) rfl ?_);refine Sa (UQ Z (by simp) λ k1 Z1 b1=>?_);replace Z1:IsZip k1 z ti to .ellipsis:=Z1;refine Sa ?_;simp only[List.zipIdx_cons,List.zipIdx_nil,Xh,XA];refine Sa (Sa (WS ?_));show wpAny _ _ (Builtin.SmallTypes.nextOf (.ref t1) >>= _) _ _ _;have j1a:J1 n k1:=S1.ext j1 b1.extBut (Sq n3) (Sq m1.1);cases ex:us[n]? with
 |none=>
  refine Sa (S1.en n _ _ _ _ hh j1a ex λ k2 e b2 hx=>?_);obtain⟨oe,he1,he2⟩:=hx;have Z2:IsZip k2 z ti to .ellipsis:=b2 _ _ (Sq n3) Z1;have hez:e≠z:=λ c=>by subst c;rw[Z2]at he1;cases he1;simp at he2
  refine UQ Z2 (by simp) λ k3 _ b3=>q k3 e (λ c o c1 _ c3 _ f=>b3.extBut _ _ c1 (b2 _ _ c3 (b1.extBut _ _ c1 f))) ⟨oe,b3.extBut _ _ hez he1,he2⟩
 |some x=>
  have ey:vs[n]?=none:=by
   rcases he with h|h
   . rw[ex]at h;cases h
   . exact h
  refine Sa (S1.nx n _ _ _ _ x j1a ex λ k2 j1b b2=>Sn ?_);have pO2:IsPair k2 to a b:=b2.extBut _ _ n8 (b1.extBut _ _ n2 pO);refine Sa (UM pO2 rfl ?_);refine Sa (Ww pO2 λ k3 pO3 b3=>?_);refine Sa (Xs (Sn ?_));refine Sa (Sa (WS ?_));show wpAny _ _ (Builtin.SmallTypes.nextOf (.ref t2) >>= _) _ _ _;have j2c:J2 n k3:=S2.ext (S2.ext (S2.ext j2 b1.extBut (Sq n4) (Sq m2.1)) b2.extBut n10 (Sq m2.2.2.2.1)) b3.extBut n9 (Sq m2.2.2.1);refine Sa (S2.en n _ _ _ _ hh j2c ey λ k4 e b4 hx=>?_);obtain⟨oe,he1,he2⟩:=hx;have Z4:IsZip k4 z ti to .ellipsis:=b4 _ _ (Sq n4) (b3.extBut _ _ (Sq n2) (b2.extBut _ _ (Sq n3) Z1));have hez:e≠z:=λ c=>by subst c;rw[Z4]at he1;cases he1;simp at he2
  refine UQ Z4 (by simp) λ k5 _ b5=>q k5 e (λ c o c1 c2 c3 c4 f=>b5.extBut _ _ c1 (b4 _ _ c4 (b3.extBut _ _ c2 (b2.extBut _ _ c3 (b1.extBut _ _ c1 f))))) ⟨oe,b5.extBut _ _ hez he1,he2⟩
end
end
def IJ{X:Cx}{pins:List (Addr×Obj)}{σ:L2.St}{H:Hp}{s:Shared}{g:Heap}{tk:Nat}{fp:List Addr}{T:Addr}{xs:List V}(I:Inv X pins σ H s)(hf:∀b∈fp,mi X pins H b)
 (k:∀b o,b∉fp->s.heap.get? b=some o->g.get? b=some o) (hT:s.heap.objs.size<=T) (new:d7 X.prog X.w (upd H T (.tup xs)) g T (.tup xs)):Inv X pins σ (upd H T (.tup xs)) {s with heap:=g,toks:=tk}:=by
 have hn:H T=none:=I.aL.fresh hT;have nfp:∀b u,H b=some u->b∉fp:=λ b u e z=>by rw[(hf b z).1]at e;cases e
 have nT:∀b u,H b=some u->b≠T:=λ b u e=>d_ e hn
 refine I.step (g':=s.gens) (d':=s.drawn) (ch:=fp) (λ b hb=>?_) (λ b o _ _ hc e _=>k b o hc e) (λ b o _ _ hc e _=>⟨o.slots,k b o hc e⟩) (λ b o _ e n=>?_) (λ b o hc e=>⟨o,k b o hc e⟩)
  (λ b ys e=>by rw[aA (nT b _ e)];exact e) (λ b o u e=>by rw[aA (nT b _ e)];exact e) (λ b ps e=>⟨#[],by rw[aA (nT b _ e),e];simp⟩) (λ m hm=>?_) (λ b u e=>?_) I.bare
 . obtain⟨f0,f1,f2,f3,f4,f5⟩:=hf b hb;exact⟨f3,f1,f4,f5⟩
 . rw[aA (SW (Sw (Su e) hT))];exact n
 . obtain⟨o,es,ep,ho,r⟩:=hm;exact⟨o,es,ep,k _ o (λ z=>(hf _ z).2.1 rfl) ho,r⟩
 . by_cases hb:b=T
   . subst hb;rw[a6]at e;cases e;exact new
   . rw[aA hb]at e;refine(I.aL b u e).l9 (λ c v hc q=>k c v ?_ q) (λ c q=>by rw[aA (nT c _ q)];exact q) λ c ys q=>by rw[aA (nT c _ q)];exact q
     rcases hc with z|z
     . rw[z];exact nfp b u e
     . exact nfp c _ z
def IQ{X:Cx}{pins:List (Addr×Obj)}{σ:L2.St}{H:Hp}{s:Shared}{g:Heap}{tk:Nat}{fp:List Addr}(I:Inv X pins σ H s)(hf:∀b∈fp,mi X pins H b)
 (k:∀b o,b∉fp->s.heap.get? b=some o->g.get? b=some o):Inv X pins σ H {s with heap:=g,toks:=tk}:=by
 have nfp:∀b u,H b=some u->b∉fp:=λ b u e z=>by rw[(hf b z).1]at e;cases e
 refine I.step (g':=s.gens) (d':=s.drawn) (ch:=fp) (λ b hb=>?_) (λ b o _ _ hc e _=>k b o hc e) (λ b o _ _ hc e _=>⟨o.slots,k b o hc e⟩) (λ b o _ e n=>n) (λ b o hc e=>⟨o,k b o hc e⟩)
  (λ b ys e=>e) (λ b o u e=>e) (λ b ps e=>⟨#[],by rw[e];simp⟩) (λ m hm=>?_) (λ b u e=>?_) I.bare
 . obtain⟨f0,f1,f2,f3,f4,f5⟩:=hf b hb;exact⟨f3,f1,f4,f5⟩
 . obtain⟨o,es,ep,ho,r⟩:=hm;exact⟨o,es,ep,k _ o (λ z=>(hf _ z).2.1 rfl) ho,r⟩
 . refine(I.aL b u e).l9 (λ c v hc q=>k c v ?_ q) (λ c q=>q) λ c ys q=>q;rcases hc with z|z
   . rw[z];exact nfp b u e
   . exact nfp c _ z
inductive SK where
 |l|t
def qA(k:SK)(K:PySem.W.Frag)(H:Hp)(a:Addr)(xs:List V):Prop:=match k with
 | .l=>nr K H a xs
 | .t=>jH K H a xs
def su(k:SK)(t a:Addr)(n:Nat)(g:Heap):Prop:=match k with
 | .l=>g.IsListIter t a n
 | .t=>g.IsTupleIter t a n
def lZ(k:SK)(g:Heap)(a:Addr)(us:Array Value):Prop:=match k with
 | .l=>g.IsList a us
 | .t=>g.IsTuple a us
def AN(k:SK)(a:Addr):Obj:=match k with
 | .l=>{cls:= .type "list_iterator",data:= .fields #[.ref a,.int 0 0]}
 | .t=>{cls:= .type "tuple_iterator",data:= .fields #[.ref a,.int 0 0]}
def nV{P:Program}{w:World}(k:SK)(t a:Addr)(hne:a≠t)(us:Array Value):Src P w t a (λ n g=>su k t a n g/\lZ k g a us) us:=by
 cases k
 . exact src_list t a hne us
 . exact Kb t a hne us
def lz{X:Cx}{pins:List (Addr×Obj)}{σ:L2.St}{H:Hp}{s:Shared}{k:SK}{a:Addr}{xs:List V}(I:Inv X pins σ H s)(h:qA k X.K H a xs):∃ao:List Value,Vals xs ao/\lZ k s.heap a ao.toArray:=by
 cases k
 . obtain⟨ao,rv,p,_⟩:=I.list h;exact⟨ao,rv,p.isList⟩
 . obtain⟨ao,rv,p,_⟩:=I.tuple h;exact⟨ao,rv,p⟩
def x8{X:Cx}{pins:List (Addr×Obj)}{σ:L2.St}{H:Hp}{s:Shared}{k:SK}{a:Addr}{xs ys:List V}(I:Inv X pins σ H s)(h:qA k X.K H a xs)(h':qA k X.K H a ys):xs=ys:=by
 cases k
 . exact I.Ag h h'
 . exact I.yQ h h'
def ET{P:Program}{w:World}{A:Around}{s:Shared}{E:Value->Shared->Prop}{k:SK}{a:Addr}{us:Array Value}{Q:Value->Shared->Prop}(h:lZ k s.heap a us)(q:Q (.ref s.heap.objs.size) {s with heap:=s.heap.push (AN k a)}):wpAny (model P w) A (pyIter (.ref a)) Q E s:=by
 cases k
 . exact Vy h q
 . exact UP h q
def lZ.push{k:SK}{g:Heap}{a:Addr}{us:Array Value}(h:lZ k g a us)(o:Obj):lZ k (g.push o) a us:=by
 cases k
 . obtain⟨o',e,r⟩:=h;exact⟨o',Sh _ e,r⟩
 . obtain⟨o',e,r⟩:=h;exact⟨o',Sh _ e,r⟩
def lZ.some{k:SK}{g:Heap}{a:Addr}{us:Array Value}(h:lZ k g a us):∃o,g.get? a=Option.some o:=by
 cases k
 . obtain⟨o',e,r⟩:=h;exact⟨o',e⟩
 . obtain⟨o',e,r⟩:=h;exact⟨o',e⟩
def Ck{k:SK}{g h:Heap}{t a:Addr}(e:g.get? t=Option.some (AN k a)):su k t a 0 g:=by
 cases k
 . exact⟨_,e,rfl,rfl⟩
 . exact⟨_,e,rfl,rfl⟩
def qJ{k:SK}{t a:Addr}{n:Nat}{g g':Heap}(h:su k t a n g)(kp:∀o,g.get? t=Option.some o->g'.get? t=Option.some o):su k t a n g':=by
 cases k
 . obtain⟨o,e,r⟩:=h;exact⟨o,kp o e,r⟩
 . obtain⟨o,e,r⟩:=h;exact⟨o,kp o e,r⟩
def ox{k:SK}{t a:Addr}{n:Nat}{g:Heap}(h:su k t a n g):∃o,g.get? t=Option.some o/\∀v,o.data≠ .cell v:=by
 cases k
 . obtain⟨o,e,c,d⟩:=h;exact⟨o,e,λ v z=>by rw[d]at z;cases z⟩
 . obtain⟨o,e,c,d⟩:=h;exact⟨o,e,λ v z=>by rw[d]at z;cases z⟩
def QB(K:PySem.W.Frag)(k1 k2:SK)(a1 a2:Addr):It:=
 ⟨λ i H=>∃xs ys x y,qA k1 K H a1 xs/\qA k2 K H a2 ys/\xs[i]?=some x/\ys[i]?=some y,
  λ i H v H'=>∃T x y,H T=none/\v= .ref T/\H'=upd H T (.tup [x,y])/\(∀xs,qA k1 K H a1 xs->xs[i]?=some x)/\∀ys,qA k2 K H a2 ys->ys[i]?=some y,
  λ i H=>∃xs ys,qA k1 K H a1 xs/\qA k2 K H a2 ys/\(xs.length<=i\/ys.length<=i)⟩
def Pd(z ti to t1 t2 a1 a2:Addr)(k1 k2:SK)(i:Nat)(h:Heap):Prop:=IsZip h z ti to .none/\IsPair h ti (.ref t1) (.ref t2)/\(∃a b,IsPair h to a b)/\su k1 t1 a1 i h/\su k2 t2 a2 i h
def HP{P:Program}{w:World}{K:PySem.W.Frag}{elts:List Expr}{kx:Nat}{pos:Pos}{z ti to t1 t2 a1 a2:Addr}(k1 k2:SK)(D:Cc z ti to t1 t2 a1 a2):
 Turn P w K (.Tuple elts kx pos) (QB K k1 k2 a1 a2) [z,ti,to,t1,t2] z (Pd z ti to t1 t2 a1 a2 k1 k2) where
 mem:=by simp
 obj:=λ i h st b hb=>by
  obtain⟨Z,pI,⟨a,b',pO⟩,i1,i2⟩:=st;simp only[SA,S_,VE]at hb;rcases hb with rfl|rfl|rfl|rfl|rfl
  . exact⟨_,Z,λ v e=>by cases e⟩
  . exact⟨_,pI,λ v e=>by cases e⟩
  . exact⟨_,pO,λ v e=>by cases e⟩
  . exact ox i1
  . exact ox i2
 keep:=λ i h h' st k=>by
  obtain⟨Z,pI,⟨a,b',pO⟩,i1,i2⟩:=st;exact⟨k z (by simp) _ Z,k ti (by simp) _ pI,⟨a,b',k to (by simp) _ pO⟩,qJ i1 (k t1 (by simp)),qJ i2 (k t2 (by simp))⟩
 item:=by
  intro X hP hw hK hc i pins s σ H E I hf st hg;subst hP hw hK;obtain⟨Z,pI,⟨a,b',pO⟩,i1,i2⟩:=st;obtain⟨xs,ys,x,y,q1,q2,ex,ey⟩:=hg;obtain⟨us,r1,l1⟩:=lz I q1;obtain⟨vs,r2,l2⟩:=lz I q2;obtain⟨u,eu,ru⟩:=r1.get ex;obtain⟨v,ev,rv⟩:=r2.get ey;have m1:=D.a1;have m2:=D.a2;simp only[SA,VT,S_,TV,Vt]at m1 m2;obtain⟨⟨n1,n2,n3,n4⟩,⟨n5,n6,n7⟩,⟨n8,n9⟩,n10⟩:=D.n;have tz:s.TypeIs (.ref z) "zip":=⟨_,Z,rfl⟩
  unfold pyNext;refine Sa (WT (T9 (name:=Str.ofString "__next__") tz Wx (UL Wx tz F.entry_zip_next (EK D (nV k1 t1 a1 m1.2.2.2.1 us.toArray) (nV k2 t2 a2 m2.2.2.2.2 vs.toArray) Z pI pO ⟨i1,l1⟩ ⟨i2,l2⟩ (x:=u) (y:=v) (by simpa using eu) (by simpa using ev) λ k Z2 pO2 j1 j2 pT szk kp=>Sn ⟨_,rfl,?_⟩) (F.args_zip_next_1 _))));refine wpAny_letOwnedTupleGo_zip (s:={s with heap:=k}) Z2 λ k' Z3 b3=>?_;have hT:s.heap.objs.size≠z:=Vc (Su Z)
  have kp3:∀b o,b∉[z,ti,to,t1,t2]->s.heap.get? b=some o->k'.get? b=some o:=λ b o hb e=>by
   simp only[SA,VT,S_,TV,Vt]at hb;exact b3.extBut _ _ hb.1 (kp b o hb.1 hb.2.2.1 hb.2.2.2.1 hb.2.2.2.2 e)
  refine⟨.ref s.heap.objs.size,upd H s.heap.objs.size (.tup [x,y]),IJ (s:=s) (tk:=s.toks) I hf kp3 (R_ _) ?_,rfl,⟨s.heap.objs.size,x,y,I.aL.fresh (R_ _),rfl,rfl,?_,?_⟩,?_,?_⟩
  . refine⟨Ss rfl,[u,v],.cons ru (.cons rv .nil),?_⟩;exact⟨_,b3.extBut _ _ hT pT,rfl,_,rfl⟩
  . intro xs' q';rw[x8 I q' q1];exact ex
  . intro ys' q';rw[x8 I q' q2];exact ey
  . refine⟨Z3,b3.extBut _ _ n1 (kp _ _ n1 n5 n6 n7 pI),⟨_,_,b3.extBut _ _ n2 pO2⟩,qJ j1.1 λ o e=>b3.extBut _ _ n3 e,qJ j2.1 λ o e=>b3.extBut _ _ n4 e⟩
  . intro b hb
    have:b≠s.heap.objs.size:=by
     obtain⟨o,e,_⟩:∃o,s.heap.get? b=some o/\True:=by
      simp only[SA,S_,VE]at hb;rcases hb with rfl|rfl|rfl|rfl|rfl
      . exact⟨_,Z,trivial⟩
      . exact⟨_,pI,trivial⟩
      . exact⟨_,pO,trivial⟩
      . obtain⟨o,e,_⟩:=ox i1;exact⟨o,e,trivial⟩
      . obtain⟨o,e,_⟩:=ox i2;exact⟨o,e,trivial⟩
     exact SW (Su e)
    rw[aA this];exact(hf b hb).1
 done:=by
  intro X hP hw hK hc i pins s σ H E I hf st hg;subst hP hw hK;obtain⟨Z,pI,⟨a,b',pO⟩,i1,i2⟩:=st;obtain⟨xs,ys,q1,q2,he⟩:=hg;obtain⟨us,r1,l1⟩:=lz I q1;obtain⟨vs,r2,l2⟩:=lz I q2;have e1:=r1.length;have e2:=r2.length;have m1:=D.a1;have m2:=D.a2;simp only[SA,VT,S_,TV,Vt]at m1 m2;have tz:s.TypeIs (.ref z) "zip":=⟨_,Z,rfl⟩
  unfold pyNext;refine Sa (WT (T9 (name:=Str.ofString "__next__") tz Wx (UL Wx tz F.entry_zip_next (Ih (I.ok.hd hc) D (nV k1 t1 a1 m1.2.2.2.1 us.toArray) (nV k2 t2 a2 m2.2.2.2.2 vs.toArray) Z pI pO ⟨i1,l1⟩ ⟨i2,l2⟩ ?_ λ k e kp hx=>?_) (F.args_zip_next_1 _))))
  . rcases he with h|h
    . left;simp;omega
    . right;simp;omega
  . obtain⟨o,ho,hc2⟩:=hx;refine Sa (wpAny_isInstance (T:="StopIteration") (b:=true) ⟨o,ho,hc2⟩ isSubtype_stop ?_);refine Sn ⟨rfl,IQ (s:=s) (tk:=s.toks) I hf λ b o hb e=>?_⟩;simp only[SA,VT,S_,TV,Vt]at hb;exact kp b o hb.1 hb.2.2.1 hb.2.2.2.1 hb.2.2.2.2 e
 self:=λ _ _ _ _ _ st h=>wpAny_pyIter_zip st.1 h
abbrev IY(h:Heap)(k1:SK)(a1:Addr):Heap:=h.push (AN k1 a1)
abbrev Jx(h:Heap)(k1 k2:SK)(a1 a2:Addr):Heap:=(IY h k1 a1).push (AN k2 a2)
abbrev IG(h:Heap)(k1 k2:SK)(a1 a2:Addr):Heap:=(Jx h k1 k2 a1 a2).push {cls:= .type "tuple",data:= .seq #[.ref h.objs.size,.ref (IY h k1 a1).objs.size]}
abbrev Jd(h:Heap)(k1 k2:SK)(a1 a2:Addr):Heap:=(IG h k1 k2 a1 a2).push {cls:= .type "tuple",data:= .seq #[.none,.none]}
abbrev CM(h:Heap)(k1 k2:SK)(a1 a2:Addr):Heap:=(Jd h k1 k2 a1 a2).push {cls:= .type "zip",data:= .fields #[.none,.bool false,.bool false,.ref (Jx h k1 k2 a1 a2).objs.size,.ref (IG h k1 k2 a1 a2).objs.size]}
def F4(k1 k2:SK)(a1 a2:Addr)(us vs:Array Value):Meets (Builtin.«zip.__new__» ⟨[.type "zip",.ref a1,.ref a2],[]⟩) (λ _ R s=>lZ k1 s.heap a1 us/\lZ k2 s.heap a2 vs/\
 R (.ok (.ret (.ref (Jd s.heap k1 k2 a1 a2).objs.size))) {s with heap:=CM s.heap k1 k2 a1 a2}):=
 .of_wp λ P w A R s h=>by
  obtain⟨hp,g,d,tk,os⟩:=s;obtain⟨c1,c2,h⟩:=h;have hsub:=sub_zip;have L1:lZ k1 (Shared.heap ⟨hp,g,d,tk,os⟩) a1 us:=c1;have L2:lZ k2 (Shared.heap ⟨hp.push (AN k1 a1),g,d,tk,os⟩) a2 vs:=lZ.push c2 _
  wp_walk using ET L1,ET L2
  exact⟨_,rfl,h⟩
def HZ{P:Program}{w:World}{A:Around}{s:Shared}{E:Value->Shared->Prop}{k1 k2:SK}{a1 a2:Addr}{us vs:Array Value}{Q:Value->Shared->Prop}(c1:lZ k1 s.heap a1 us)(c2:lZ k2 s.heap a2 vs)
 (q:∀g n,n=s.heap.objs.size->IsZip g (n+4) (n+2) (n+3) .none->IsPair g (n+2) (.ref n) (.ref (n+1))->IsPair g (n+3) .none .none->su k1 n a1 0 g->su k2 (n+1) a2 0 g->(∀c o,s.heap.get? c=some o->g.get? c=some o)->Q (.ref (n+4)) {s with heap:=g}):
 wpAny (model P w) A (call (.type "zip") [.ref a1,.ref a2]) Q E s:=by
 refine callType_new F.called_zip (by decide) (F.typeCall_zip_2 _ _) (F.newCall_zip_2 _ _) (λ ob=>F.args_object_init_3 ob _ _) F.entry_zip_new (F4 k1 k2 a1 a2 us vs) ⟨c1,c2,?_⟩;have y1:(IY s.heap k1 a1).objs.size=s.heap.objs.size+1:=TY ..;have y2:(Jx s.heap k1 k2 a1 a2).objs.size=s.heap.objs.size+2:=by rw[TY,y1]
 have y3:(IG s.heap k1 k2 a1 a2).objs.size=s.heap.objs.size+3:=by rw[TY,y2]
 have y4:(Jd s.heap k1 k2 a1 a2).objs.size=s.heap.objs.size+4:=by rw[TY,y3]
 have e5:(CM s.heap k1 k2 a1 a2).get? (Jd s.heap k1 k2 a1 a2).objs.size=some _:=SI _ rfl;have e4:(CM s.heap k1 k2 a1 a2).get? (IG s.heap k1 k2 a1 a2).objs.size=some _:=Sh _ (SI _ rfl);have e3:(CM s.heap k1 k2 a1 a2).get? (Jx s.heap k1 k2 a1 a2).objs.size=some _:=Sh _ (Sh _ (SI _ rfl));have e2:(CM s.heap k1 k2 a1 a2).get? (IY s.heap k1 a1).objs.size=some (AN k2 a2):=Sh _ (Sh _ (Sh _ (SI _ (by cases k2<;>rfl))));have e1:(CM s.heap k1 k2 a1 a2).get? s.heap.objs.size=some (AN k1 a1):=Sh _ (Sh _ (Sh _ (Sh _ (SI _ (by cases k1<;>rfl)))));show _/\_;rw[y2,y3,y4]at e5;rw[y1,y2]at e3;rw[y3]at e4;rw[y1]at e2;rw[y4];exact⟨⟨_,e5,rfl⟩,q _ _ rfl e5 e3 e4 (Ck (h:=s.heap) e1) (Ck (h:=s.heap) e2) λ c o x=>Sh _ (Sh _ (Sh _ (Sh _ (Sh _ x))))⟩
def IB:D->SK
 | .tup _=> .t
 |_=> .l
def Fp(k:SK)(G:Hp)(a:Addr)(vs:List V):Prop:=match k with
 | .l=>Rd G a (.lst vs)
 | .t=>G a=some (.tup vs)
def ko{K:PySem.W.Frag}{k:SK}{G F H:Hp}(P:cO G F H){a:Addr}{vs:List V}(h:Fp k G a vs):qA k K H a vs:=by
 cases k
 . exact .inl (fI P h)
 . exact jH.of (P.get h)
def ow{α:List (Option Addr)}{H:Hp}{st:ag}{d:D}{v:V}{xs:List D}(S:aX α st H)(r:Rep α H d v)(e:items? st d=some xs):∃p vs,v= .ref p/\aN α H xs vs/\Fp (IB d) H p vs:=by
 cases d<;>try(cases e;done)
 . unfold items? at e;simp only at e;split at e
   . rename_i ys q;cases e;obtain⟨a,ea,vs,h1,h2⟩:=S.g5 q;exact⟨a,vs,eQ ea r,h2,Rd.of h1⟩
   . cases e
 . cases e;unfold Rep at r;obtain⟨a,vs,rfl,_,h1,h2⟩:=r;exact⟨a,vs,rfl,h2,h1⟩
 . cases e;unfold Rep at r;obtain⟨a,vs,rfl,_,h1,h2⟩:=r;exact⟨a,vs,rfl,h2,h1⟩
def gg(xs ys:List D):List D:=(xs.zip ys).map λ p=> .tup [p.1,p.2]
def pe{xs ys:List D}:(gg xs ys).length=min xs.length ys.length:=by unfold gg;simp
def vS{xs ys:List D}{n:Nat}{d:D}(e:(gg xs ys)[n]?=some d):∃x y,xs[n]?=some x/\ys[n]?=some y/\d= .tup [x,y]:=by
 unfold gg at e;rw[SF]at e;cases q:(xs.zip ys)[n]? with
 |none=>rw[q]at e;cases e
 |some p=>
  rw[q]at e;cases e;rw[List.getElem?_zip_eq_some]at q;exact⟨p.1,p.2,q.1,q.2,rfl⟩
def Nr{K:PySem.W.Frag}{k1 k2:SK}{a1 a2:Addr}{α:List (Option Addr)}{G:Hp}{ok:ag->Prop}{xs ys:List D}
 (h:∀α' G' st',Step α G α' G'->aX α' st' G'->ok st'->∃vs ws,Fp k1 G' a1 vs/\Fp k2 G' a2 ws/\aN α' G' xs vs/\aN α' G' ys ws):vA (QB K k1 k2 a1 a2) α G ok (gg xs ys) where
 stop:=λ n α' G' F' H' st' s P S o hn=>by
  obtain⟨vs,ws,h1,h2,r1,r2⟩:=h α' G' st' s S o;rw[pe]at hn;refine⟨vs,ws,ko P h1,ko P h2,?_⟩;have:=r1.length;have:=r2.length;omega
 go:=λ n d α' G' F' H' st' s P S o hn=>by
  obtain⟨vs,ws,h1,h2,r1,r2⟩:=h α' G' st' s S o;obtain⟨x,y,ex,ey,rfl⟩:=vS hn;obtain⟨v,ev,_⟩:=r1.get ex;obtain⟨u,eu,_⟩:=r2.get ey;exact⟨vs,ws,v,u,ko P h1,ko P h2,ev,eu⟩
 pF:=λ n d α' G' F' H' st' x H'' s P S o hn y=>by
  obtain⟨vs,ws,h1,h2,r1,r2⟩:=h α' G' st' s S o;obtain⟨c,e,ec,ee,rfl⟩:=vS hn;obtain⟨T,v,u,hT,rfl,rfl,y1,y2⟩:=y;obtain⟨v',ev,rv⟩:=r1.get ec;obtain⟨u',eu,ru⟩:=r2.get ee;rw[y1 vs (ko P h1)]at ev;rw[y2 ws (ko P h2)]at eu;cases ev;cases eu;have hg:=(P.none hT).1;refine⟨upd G' T (.tup [v,u]),Step.laid hg,P.laid hT,S.laid hg,?_⟩;unfold Rep;refine⟨T,[v,u],rfl,S.ll hg,a6,?_⟩;unfold aN;refine⟨v,[u],rfl,rv.step (Step.laid hg),?_⟩;unfold aN;exact⟨u,[],rfl,ru.step (Step.laid hg),by unfold aN;rfl⟩
def GJ(ds:List D)(st1:ag)(K:List D->(ag->Prop)->ag->Prop):Prop:=match ds with
 | [x,y]=>(match items? st1 x,items? st1 y with
   |some xs,some ys=>K (gg xs ys) (λ st'=>items? st' x=some xs/\items? st' y=some ys) st1
   |_,_=>False)
 |_=>False
@[irreducible] def we:List D->ag->(List D->(ag->Prop)->ag->Prop)->Prop:=GJ
def tu(t:DA):DI:=λ σ st K=>t σ st λ ds st1=>we ds st1 K
def Ly{n a1 a2:Nat}(h1:a1<n)(h2:a2<n):Cc (n+4) (n+2) (n+3) n (n+1) a1 a2:=by
 have e0:([n+4,n+2,n+3,n,n+1]:List Nat).Nodup:=by
  simp only[Vl,SA,VT,S_,TV,Vt,List.nodup_nil];omega
 have e1:∀a:Nat,a<n->a∉([n+4,n+2,n+3,n,n+1]:List Nat):=λ a ha=>by
  simp only[SA,VT,S_,TV,Vt];omega
 exact⟨e0,e1 a1 h1,e1 a2 h2⟩
def LZ{X:Cx}{a b:Expr}{elts:List Expr}{kx:Nat}{tpos p pos:Pos}{t:DA}(hg:Gl X "zip")(hm:X.mg "zip"=none)(ha:PA X [a,b] (LA t))(hs:starEach [a,b] X.env=[(false,eval a X.env),(false,eval b X.env)])(hs2:starEach [b] X.env=[(false,eval b X.env)]):
 PI X (.Tuple elts kx tpos) (.Call (.Name "zip" p) [a,b] [] pos) (LI (tu t)):=by
 intro pins s σ H R I h;obtain⟨α,σd,st,K,G,F,P,RS,S,t,k⟩:=h;refine Call_ (lq I hg hm boot_zip (T8 (cJ (ha pos pins s σ H (λ vs H1=>∃ds α1 G1 st1,Step α G α1 G1/\cO G1 F H1/\aX α1 st1 G1/\aN α1 G1 ds vs/\we ds st1 K) I ⟨α,σd,st,_,G,F,P,RS,S,t,λ ds st1 q α1 G1 H1 vs s1 P1 S1 r1=>⟨ds,α1,G1,st1,s1,P1,S1,r1,q⟩⟩) λ us s1 ⟨vs,H1,I1,rv,ds,α1,G1,st1,w1,P1,S1,r1,q⟩=>?_) (by rw[hs,hs2]) (by rw[hs2];rfl)));unfold we GJ at q;split at q
 . rename_i x y;split at q
   . rename_i xs ys ex ey;obtain⟨v1,v2,rfl,q1,q2⟩:=rV r1 rfl;obtain⟨p1,vs1,rfl,g1,c1⟩:=ow S1 q1 ex;obtain⟨p2,vs2,rfl,g2,c2⟩:=ow S1 q2 ey;obtain⟨u1,u2,rfl,ru1,ru2⟩:=vals2 rv;cases ru1;cases ru2;obtain⟨its1,_,l1⟩:=lz I1 (ko P1 c1);obtain⟨its2,_,l2⟩:=lz I1 (ko P1 c2);refine HZ l1 l2 λ g n hn Z pI pO i1 i2 kp=>?_;obtain⟨o1,eo1⟩:=l1.some;obtain⟨o2,eo2⟩:=l2.some;refine wpAny_pyIter_zip (s:={s1 with heap:=g}) Z ?_;refine⟨n+4,[n+4,n+2,n+3,n,n+1],_,_,H1,rfl,I1.kept (t':=s1.toks) kp,HP (IB x) (IB y) (Ly (by rw[hn];exact Su eo1) (by rw[hn];exact Su eo2)),⟨Z,pI,⟨_,_,pO⟩,i1,i2⟩,λ b hb=>?_,?_⟩
     . have hb':s1.heap.objs.size<=b:=by
        simp only[SA,S_,VE]at hb;rcases hb with rfl|rfl|rfl|rfl|rfl<;>(rw[<-hn];first|exact R_ _|exact Nat.le_add_right _ _)
       exact I1.vI hb' (I1.aL.fresh hb')
     . refine k _ _ st1 q _ α1 G1 H1 w1 P1 S1 (Nr λ α' G' st' s' S' o=>?_);obtain⟨p1',ws1,e1,f1,d1⟩:=ow S' (q1.step s') o.1;obtain⟨p2',ws2,e2,f2,d2⟩:=ow S' (q2.step s') o.2;cases e1;cases e2;exact⟨ws1,ws2,d1,d2,f1,f2⟩
   . exact q.elim
 . exact q.elim
def qG{st:ag}{x y:D}{xs ys:List D}{K:List D->(ag->Prop)->ag->Prop}(ex:items? st x=some xs)(ey:items? st y=some ys)(k:∀ok:ag->Prop,(∀st',items? st' x=some xs->items? st' y=some ys->ok st')->K (gg xs ys) ok st):we [x,y] st K:=by
 unfold we GJ;simp only[ex,ey];exact k _ λ st' h1 h2=>⟨h1,h2⟩
def uI{X:Cx}{a b:Expr}{elts:List Expr}{kx:Nat}{tpos p pos:Pos}{ar:DA}(hg:Gl X "zip")(hm:X.mg "zip"=none)(ha:JA X [a,b] ar)(hs:notStar a=true:=by rfl)(hs2:notStar b=true:=by rfl):JI X (.Tuple elts kx tpos) (.Call (.Name "zip" p) [a,b] [] pos) (tu ar):=by
 unfold JI;unfold JA at ha;exact LZ hg hm ha (by rw[cE hs,cE hs2];rfl) (cE hs2)
def AR(f:Nat->Int):∀n,preSum f (n+1)=f 0+preSum (λ i=>f (i+1)) n
 |0=>by show preSum f 0+f 0=f 0+0;show(0:Int)+f 0=f 0+0;omega
 |n+1=>by
  have h:=AR f n;show preSum f (n+1)+f (n+1)=f 0+(preSum (λ i=>f (i+1)) n+f (n+1));rw[h];omega
def Cw:∀ns:List Int,preSum (λ i=>ns.getD i 0) ns.length=ns.sum
 | []=>rfl
 |n::ns=>by
  rw[SY,AR];have:(λ i=>(n::ns).getD (i+1) 0)=λ i=>ns.getD i 0:=by funext i;simp
  rw[this,Cw ns,List.sum_cons];rfl
section
variable {X:Cx}
def zD:fX:=λ ds st K=>match ds with| [.lst xs]=>(match iH xs with|some ns=>K (.int ns.sum) st|none=>False)|_=>False
def jE:∀ {ns:List Int} {us:List Value},Vals (ns.map V.int) us->∀(i:Nat) (u:Value),us[i]?=some u->∃t,u=Value.int (ns.getD i 0) t
 | [],_,.nil,i,u,e=>by simp at e
 |n::ns,_,.cons h t,0,u,e=>by
  obtain⟨tk,rfl⟩:=h;simp at e;exact⟨tk,by rw[<-e];rfl⟩
 |n::ns,_,.cons h t,i+1,u,e=>by
  obtain⟨tk,q⟩:=jE t i u (by simpa using e);exact⟨tk,by rw[q];simp⟩
def OJ(hc:X.calm=true):cD X (.builtin "sum") (gJ zD):=λ pins s σ H xs us Q I rs ⟨α,ds,st,K,G,F',P,r,S,q,k⟩=>by
 unfold zD at q;split at q
 . rename_i ys;split at q
   . rename_i ns e;obtain⟨v,rfl,r1⟩:=gw r rfl;unfold Rep at r1;obtain⟨a,vs,rfl,na,h1,h2⟩:=r1;obtain⟨u,rfl,ru⟩:=vals1 rs;cases ru;have hv:=nc h2 e;subst hv;obtain⟨z,ao,n,rv,hl,eo⟩:=Inv.sZ I (fI P h1);have isL:s.heap.IsList a ao.toArray:=⟨_,eo,rfl,n,rfl⟩
     refine call_sum_walkAnyB (Vy isL ?_);have hne:a≠s.heap.objs.size:=SW (Su eo);refine⟨s.heap.objs.size,_,_,_,_,_,_,λ i=>ns.getD i 0,rfl,(Walks.list (A:=X.A.in1) (I.ok.hd hc) _ a hne ao.toArray).toS,⟨⟨_,SI _ rfl,rfl,rfl⟩,⟨_,Sh _ eo,rfl,n,rfl⟩⟩,?_,?_,?_⟩
     . intro b hb;rw[TY];simp only[SA,S_,VE]at hb;rcases hb with rfl|rfl
       . exact S0 _
       . exact S9 (Su eo)
     . intro i w hw;obtain⟨t,e⟩:=jE rv i w (by simpa using hw);exact .inl ⟨t,e⟩
     . intro s' t' hm
       have kp:∀b o,s.heap.get? b=some o->s'.heap.get? b=some o:=λ b o q=>hm.heap b o (by
        intro hb;have:b=s.heap.objs.size:=by simpa using hb
        exact absurd (Su q) (by rw[this];exact TN _)) (Sh _ q)
       have es:s'= {s with heap:=s'.heap,toks:=s'.toks}:=by
        have g:=hm.gens;have d:=hm.drawn;have o:=hm.os;cases s';cases s
        simp_all
       have en:preSum (λ i=>ns.getD i 0) ao.toArray.size=ns.sum:=by
        have:ao.toArray.size=ns.length:=by rw[Sl,<-hl,Sb]
        rw[this];exact Cw ns
       rw[en,es];exact⟨.int ns.sum,H,I.kept (t':=s'.toks) kp,⟨t',rfl⟩,k.here P q S (by unfold Rep;rfl)⟩
   . exact q.elim
 . exact q.elim
@[irreducible] def Bu:fX:=zD
def OW(hc:X.calm=true):cD X (.builtin "sum") (gJ Bu):=by unfold Bu;exact OJ hc
end
def ints_map:∀ns:List Int,iH (ns.map D.int)=some ns
 | []=>rfl
 |n::ns=>by simp[iH,ints_map ns]
def Mi{st:ag}{K:DK}{xs:List D}{ns:List Int}(h:iH xs=some ns)(k:K (.int ns.sum) st):Bu [.lst xs] st K:=by unfold Bu zD;simp only[h];exact k
section
variable {X:Cx}{pos:Pos}
def OA{α:List (Option Addr)}{H:Hp}{ds:List D}{xs:List V}{d e f:D}(r:aN α H ds xs)(q:ds=[d,e,f]):∃v u t,xs=[v,u,t]/\Rep α H d v/\Rep α H e u/\Rep α H f t:=by
 subst q;unfold aN at r;obtain⟨v,q,rfl,h1,h2⟩:=r;obtain⟨u,t,rfl,h3,h4⟩:=rV h2 rfl;exact⟨v,u,t,rfl,h1,h3,h4⟩
end
end L3
namespace L3
open PySem L2 PySem.SeqAt
open PySem.Spec hiding items?
open PyProof.Rows hiding St
section
variable {X:Cx}{pins:List (Addr×Obj)}{σ:L2.St}{H:Hp}{s:Shared}{α:List (Option Addr)}
def CS{A:Around}{d e:D}{x y:V}{u v:Value}(hd:yr d=true)(he:yr e=true)(rd:Rep α H d x)(re:Rep α H e y)(rx:RelV x u)(ry:RelV y v):RcNeAt A s u v (!di d e):=by
 cases d<;>cases e<;>try(first|(cases hd;done)|(cases he;done))
 all_goals(unfold Rep at rd re;subst rd re)
 all_goals(first|(obtain⟨t,rfl⟩:=rx;obtain⟨t',rfl⟩:=ry)|(obtain⟨t,rfl⟩:=rx;cases ry)|(cases rx;obtain⟨t,rfl⟩:=ry)|(cases rx;cases ry))
 all_goals unfold di
 . exact RcNeAt.none_none
 . exact RcNeAt.none_bool _
 . exact RcNeAt.none_int _ _
 . exact RcNeAt.none_str _ _
 . exact RcNeAt.bool_none _
 . exact RcNeAt.bool_bool _ _
 . exact RcNeAt.bool_int _ _ _
 . exact RcNeAt.bool_str _ _ _
 . exact RcNeAt.int_none _ _
 . exact RcNeAt.int_bool _ _ _
 . exact RcNeAt.int_int _ _ _ _
 . exact RcNeAt.int_str _ _ _ _
 . exact RcNeAt.str_none _ _
 . exact RcNeAt.str_bool _ _ _
 . exact RcNeAt.str_int _ _ _ _
 . exact RcNeAt.str_str _ _ _ _
def yX(I:Inv X pins σ H s){A:Around}{xs:List D}{e:D}{x y:V}{u v:Value}(he:yr e=true)(rd:Rep α H (.lst xs) x)(re:Rep α H e y)(rx:RelV x u)(ry:RelV y v)(hu:A.units<cLine):
 RcNeAt A s u v (!di (.lst xs) e)/\RcNeAt A s v u (!di e (.lst xs)):=by
 obtain⟨a,vs,ao,rfl,_,_,hl⟩:=lst_is I rd rx;cases e<;>try(cases he;done)
 all_goals(unfold Rep at re;subst re)
 all_goals(first|(obtain⟨t,rfl⟩:=ry)|(cases ry))
 all_goals unfold di
 . exact⟨RcNeAt.list_none hl hu,RcNeAt.none_list hl hu⟩
 . exact⟨RcNeAt.list_bool _ hl hu,RcNeAt.bool_list _ hl hu⟩
 . exact⟨RcNeAt.list_int _ _ hl hu,RcNeAt.int_list _ _ hl hu⟩
 . exact⟨RcNeAt.list_str _ _ hl hu,RcNeAt.str_list _ _ hl hu⟩
def yw(I:Inv X pins σ H s){A:Around}{xs:List D}{e:D}{x y:V}{u v:Value}(he:yr e=true)(rd:Rep α H (.tup xs) x)(re:Rep α H e y)(rx:RelV x u)(ry:RelV y v)(hu:A.units<cLine):
 RcNeAt A s u v (!di (.tup xs) e)/\RcNeAt A s v u (!di e (.tup xs)):=by
 obtain⟨a,vs,ao,rfl,_,_,hl⟩:=tup_is I rd rx;cases e<;>try(cases he;done)
 all_goals(unfold Rep at re;subst re)
 all_goals(first|(obtain⟨t,rfl⟩:=ry)|(cases ry))
 all_goals unfold di
 . exact⟨RcNeAt.tuple_none hl hu,RcNeAt.none_tuple hl hu⟩
 . exact⟨RcNeAt.tuple_bool _ hl hu,RcNeAt.bool_tuple _ hl hu⟩
 . exact⟨RcNeAt.tuple_int _ _ hl hu,RcNeAt.int_tuple _ _ hl hu⟩
 . exact⟨RcNeAt.tuple_str _ _ hl hu,RcNeAt.str_tuple _ _ hl hu⟩
def PJ(I:Inv X pins σ H s)(n:Nat)(A:Around)(d e:D)(x y:V)(u v:Value)(hd:pl n d=true)(he:pl n e=true)(rd:Rep α H d x)(re:Rep α H e y)(rx:RelV x u)(ry:RelV y v)(hu:A.units+n<cLine):RcNeAt A s u v (!di d e):=by
 cases n with
 |zero=>
  refine CS ?_ ?_ rd re rx ry
  . cases d<;>first|rfl|(cases hd)
  . cases e<;>first|rfl|(cases he)
 |succ n=>
  have hu0:A.units<cLine:=by omega
  have hin:A.in1.units+n<cLine:=by rw[Around.in1_units];omega
  cases d<;>try(cases hd;done)
  case lst xs=>
   cases e<;>try(cases he;done)
   case lst ys=>
    obtain⟨a,vs,ao,rfl,r1,v1,l1⟩:=lst_is I rd rx;obtain⟨b,ws,jts,rfl,r2,v2,l2⟩:=lst_is I re ry;have e1:=r1.length;have e2:=v1.length;have e3:=r2.length;have e4:=v2.length;unfold di;by_cases hlen:xs.length=ys.length
    . rw[oZ hlen];have hsz:ao.toArray.size=jts.toArray.size:=by simp only[Sl];omega
      have hx:xs.length=ao.toArray.size:=by simp only[Sl];omega
      rw[hx];refine RcNeAt.lists l1 l2 hsz hu0 λ j h1 h2=>?_;obtain⟨p,_,q1,q2⟩:=kR r1 v1 j (by simpa using h1);obtain⟨p',_,q1',q2'⟩:=kR r2 v2 j (by simpa using h2);exact(Df I n A.in1 _ _ p p' _ _ (jw (by unfold pl at hd;exact hd) j) (jw (by unfold pl at he;exact he) j) q1 q1' (by simpa using q2) (by simpa using q2') hin).2
    . rw[oU hlen];exact RcNeAt.lists_lengths l1 l2 (by simp only[Sl,W0,ne_eq];omega) hu0
   case tup ys=>
    obtain⟨a,vs,ao,rfl,r1,v1,l1⟩:=lst_is I rd rx;obtain⟨b,ws,jts,rfl,r2,v2,l2⟩:=tup_is I re ry;unfold di;exact RcNeAt.list_tuple l1 l2 hu0
   all_goals exact(yX I rfl rd re rx ry hu0).1
  case tup xs=>
   cases e<;>try(cases he;done)
   case tup ys=>
    obtain⟨a,vs,ao,rfl,r1,v1,l1⟩:=tup_is I rd rx;obtain⟨b,ws,jts,rfl,r2,v2,l2⟩:=tup_is I re ry;have e1:=r1.length;have e2:=v1.length;have e3:=r2.length;have e4:=v2.length;unfold di
    have key:=RcNeAt.tuples (e:=λ j=>di (xs.getD j .aG) (ys.getD j .aG)) l1 l2 hu0 λ j h1 h2=>by
     obtain⟨p,_,q1,q2⟩:=kR r1 v1 j (by simpa using h1);obtain⟨p',_,q1',q2'⟩:=kR r2 v2 j (by simpa using h2);exact(Df I n A.in1 _ _ p p' _ _ (jw (by unfold pl at hd;exact hd) j) (jw (by unfold pl at he;exact he) j) q1 q1' (by simpa using q2) (by simpa using q2') hin).2
    by_cases hlen:xs.length=ys.length
    . rw[oZ hlen];have hsz:ao.toArray.size=jts.toArray.size:=by simp only[Sl];omega
      have hx:xs.length=ao.toArray.size:=by simp only[Sl];omega
      rw[hsz,W_,We,WR,<-hsz,<-hx]at key;exact key
    . rw[oU hlen];have hne:(ao.toArray.size==jts.toArray.size)=false:=by simp only[Sl,Ut,ne_eq];omega
      rw[hne,XB]at key;exact key
   case lst ys=>
    obtain⟨a,vs,ao,rfl,r1,v1,l1⟩:=tup_is I rd rx;obtain⟨b,ws,jts,rfl,r2,v2,l2⟩:=lst_is I re ry;unfold di;exact RcNeAt.tuple_list l1 l2 hu0
   all_goals exact(yw I rfl rd re rx ry hu0).1
  all_goals
   cases e<;>try(cases he;done)
   case lst ys=>exact(yX I rfl re rd ry rx hu0).2
   case tup ys=>exact(yw I rfl re rd ry rx hu0).2
   all_goals exact CS rfl rfl rd re rx ry
def MH:dy:=λ x y st K=>pl 40 x=true/\pl 40 y=true/\K (.bl (!di x y)) st
def OC{k:Nat}(hr:dg k X.A):cx X (compareOp .NotEq) (LR MH):=λ pins s σ H x y v u Q I rx ry ⟨α,d,e,st,K,G,F',P,r1,r2,S,q,k⟩=>by
 have hu:=hr.units;exact PJ I 40 X.A d e x y v u q.1 q.2.1 (r1.mono P.same) (r2.mono P.same) rx ry (by omega) _ _ _ _ ⟨.bl (!di d e),H,I,rfl,k.here P q.2.2 S (by unfold Rep;rfl)⟩
@[irreducible] def p_:dy:=MH
def w4{k:Nat}(hr:dg k X.A):cx X (compareOp .NotEq) (LR p_):=by unfold p_;exact OC hr
end
def AE{st:ag}{K:DK}{d e:D}(h1:pl 40 d=true)(h2:pl 40 e=true)(k:K (.bl (!di d e)) st):p_ d e st K:=by unfold p_;exact⟨h1,h2,k⟩
def vQ{st:ag}{K:DK}{d:D}(h:pl 40 d=true)(k:K (.bl false) st):p_ d d st K:=AE h h (by rw[vo 40 d h];exact k)
def tS{st:ag}{n:Nat}{xs:List D}(h:items? st (.ref n)=some xs):st[n]?=some (.lst xs):=by
 unfold items? at h;simp only at h;split at h
 . rename_i q;cases h;exact q
 . cases h
def qv{st:ag}{d:D}{xs:List D}{K:List D->(ag->Prop)->ag->Prop}(h:items? st d=some xs)(k:∀ok:ag->Prop,(∀st',items? st' d=some xs->ok st')->K xs ok st):qg d st K:=by
 cases d with
 |lst ys=>cases h;exact oM (k _ λ _ _=>trivial)
 |tup ys=>cases h;exact iq (k _ λ _ _=>trivial)
 |ref n=>
  have e:=tS h;unfold qg xr;simp only[e];exact k _ λ st' h'=>tS h'
 |_=>cases h
def rJ{env:Env}:∀(l:List (Str×NameKind)) (x:Str),(l.lookup x=some .cell\/l.lookup x=some .free)->
 ((l.map λ(n,k)=>if(k== .free&&env.scope.kind== .function&&env.kindOf n==some .cell)then(n,.cell)else(n,k)).lookup x=some .cell\/(l.map λ(n,k)=>if(k== .free&&env.scope.kind== .function&&env.kindOf n==some .cell)then(n,.cell)else(n,k)).lookup x=some .free)
 | [],x,h=>by simp at h
 |(n,k)::l,x,h=>by
  rw[TH];dsimp only;by_cases hx:x=n
  . subst hx;rw[Wk]at h;split
    . rw[Wk];exact .inl rfl
    . rw[Wk];exact h
  . have hb:(x==n)=false:=by simpa using hx
    have e1:List.lookup x ((n,k)::l)=List.lookup x l:=by rw[Ti,hb]
    rw[e1]at h;have ih:=rJ (env:=env) l x h;split
    . rw[Ti,hb];exact ih
    . rw[Ti,hb];exact ih
def aW.Eg{X0:Cx}{scope0 scope:Scope}{Nc0 Nc:List Str}{C:Addr}{s:Shared}{H:Hp}{ex:List Addr}{fr:List (Option Nat)}(h:wA scope0 Nc0 scope Nc fr=true):aW (fS X0 scope0 Nc0 C s H ex) scope Nc fr:=by
 unfold wA at h;simp only[Tv]at h;obtain⟨⟨⟨⟨⟨h1,h2⟩,h3⟩,h4⟩,h5⟩,h6⟩:=h;refine⟨by simpa using h1,λ x hx hk=>?_,λ x hx hk=>?_,λ x hx hk=>?_,by simpa using h5,λ i j x e1 e2=>?_⟩
 . have:=Tp.mp h2 x hx;rw[hk]at this;simpa using this
 . have:=Tp.mp h3 x hx;rw[hk]at this;simpa using this
 . have:=Tp.mp h4 x hx;rw[hk]at this;have z:scope0.names.lookup x.1=some .cell\/scope0.names.lookup x.1=some .free:=by simpa using this
   exact rJ _ _ z
 . have hi:i<fr.length:=(Sg.mp e2).1;have:=Tp.mp h6 i (UA.mpr hi);rw[e1,e2]at this;simp only[Tv,Wv,UN]at this;exact⟨this.1.1,this.1.2,rJ _ _ this.2⟩
end L3
namespace L3
open PySem L2
open PySem.Spec hiding items?
open PyProof.Rows hiding St
section
variable {X:Cx}
def Jl:dy:=λ x y st K=>match x,y with
 | .lst xs,.int k=>(-(2^63)<=k/\k<2^63/\xs.length*k.toNat<=sizeLine)/\K (.ref st.length) (st++[.lst (List.replicate k.toNat xs).flatten])
 |_,_=>False
def Nm:cx X (binaryOp .Mult) (LR Jl):=λ pins s σ H x y v u Q I rx ry ⟨α,d,e,st,K,G,F',P,r1,r2,S,q,k⟩=>by
 cases d<;>cases e<;>try exact q.elim
 unfold Rep at r1 r2;obtain⟨a,vs,rfl,na,ha,ra⟩:=r1;refine CC pins s σ H _ _ v u Q I rx ry ⟨a,_,vs,rfl,r2,fI P ha,q.1.1,q.1.2.1,by rw[<-ra.length];exact q.1.2.2,λ p hp=>?_⟩;exact k.new P q.2 S (aT.mpr (mM (aT.mp ra) _)) hp
@[irreducible] def xl:dy:=Jl
def MV:cx X (binaryOp .Mult) (LR xl):=by unfold xl;exact Nm
end
def KN{st:ag}{K:DK}{xs:List D}{i:Int}(h: -(2^63)<=i/\i<2^63/\xs.length*i.toNat<=sizeLine)(k:K (.ref st.length) (st++[.lst (List.replicate i.toNat xs).flatten])):xl (.lst xs) (.int i) st K:=by unfold xl;exact⟨h,k⟩
def FC{n:Nat}{d:D}(h:d∈fe 0 n):∃i:Nat,i<n/\d= .int (i:Int):=by
 unfold fe at h;obtain⟨i,hi,rfl⟩:=SJ.mp h;rw[UA]at hi;exact⟨i,hi,by rw[UD]⟩
def E1{f:Nat->D}(n:Nat):(fe 0 n).map (λ d=>match d with| .int i=>f i.toNat|_=> .aG)=(List.range n).map f:=by
 unfold fe;rw[Ta];refine Ue λ i _=>?_;show f ((0:Int)+(i:Int)).toNat=f i;have:((0:Int)+(i:Int)).toNat=i:=by omega
 rw[this]
def lj{tg:f9}{te:DE}{σc:cm}{st:ag}{K:List D->ag->Prop}(f:Nat->D)(n:Nat)(hx:∀i:Nat,i<n->∀K',K' (f i) st->∃σ2,tg (.int (i:Int)) σc=some σ2/\te σ2 st K')(k:K ((List.range n).map f) st):dA tg cF te (λ _=>True) σc (fe 0 n) [] st K:=by
 refine comp_map (g:=λ d=>match d with| .int i=>f i.toNat|_=> .aG) trivial _ (λ d hd K' q=>?_) (by rw[E1];exact k);obtain⟨i,hi,rfl⟩:=FC hd;exact hx i hi K' q
def kM{tg:f9}{body:DS}{E:oi}(n:Nat)(I:Nat->cm->ag->Prop)(hend:∀σ st,I n σ st->E.nx σ st)
 (hstep:∀(j:Nat) σ st (rest:List D),j<n->I j σ st->(∀σ' st',I (j+1) σ' st'->ij tg body (λ _=>True) E rest σ' st')->∃σ1,tg (.int (j:Int)) σ=some σ1/\body {E with nx:=ij tg body (λ _=>True) E rest,ct:=ij tg body (λ _=>True) E rest,bk:=E.nx} σ1 st)
 {σ:cm} {st:ag} (h0:I 0 σ st):ij tg body (λ _=>True) E (fe 0 n) σ st:=by
 refine iS (λ rest σ st=>∃j:Nat,j<=n/\rest=(List.range (n-j)).map (λ i=>D.int (((j+i:Nat):Int)))/\I j σ st) ?_ ?_ _ _ _ ⟨0,SM _,by unfold fe;simp,h0⟩
 . rintro σ st ⟨j,hj,hr,hI⟩
   have:n-j=0:=by
    cases q:n-j with
    |zero=>rfl
    |succ m=>rw[q,Tw]at hr;cases hr
   have hjn:j=n:=by omega
   subst hjn;exact⟨trivial,hend σ st hI⟩
 . rintro d rest σ st ⟨j,hj,hr,hI⟩ next
   cases q:n-j with
   |zero=>rw[q]at hr;cases hr
   |succ m=>
    rw[q,Tw,TH,Ta]at hr;simp only[Vo]at hr;obtain⟨rfl,hrest⟩:=hr;refine⟨trivial,hstep j σ st rest (by omega) hI λ σ' st' h'=>next σ' st' ⟨j+1,by omega,?_,h'⟩⟩;have:n-(j+1)=m:=by omega
    rw[this,hrest];refine Ue λ i _=>?_;show D.int (((j+(i+1):Nat):Int))=D.int (((j+1+i:Nat):Int));congr 2;omega
abbrev DM:=Nat->List D->ag->DK->Prop
def LiftM(r:DM)(rM:V->List V->Hp->VK->Prop):Prop:=∀(α:List (Option Addr)) (G F H:Hp) (st:ag) (K:DK) (Q:VK) (n:Nat) (a:Addr) (ds:List D) (ws:List V),cO G F H->aX α st G->α[n]?=some (some a)->aN α G ds ws->r n ds st K->LK α G F K Q->rM (.ref a) ws H Q
@[irreducible] def se(r:DM)(to:DE)(ta:DA):DE:=λ σ st K=>to σ st λ x st1=>match x with
 | .ref n=>(match st1[n]? with|some (.lst _)=>ta σ st1 λ ds st2=>(∃xs,st2[n]?=some (.lst xs))/\r n ds st2 K|_=>False)
 |_=>False
section
variable {X:Cx}
def LE.Rl{r:DM}{rM:V->List V->Hp->VK->Prop}(L:LiftM r rM){to:DE}{ta:DA}{σ:L2.St}{H:Hp}{Q:VK}(h:LE (se r to ta) σ H Q):Ip X.K "list" rM (LE to) (LA ta) σ H Q:=by
 obtain⟨α,σd,st,K,G,F,P,R,S,t,k⟩:=h;unfold se at t;refine⟨α,σd,st,_,G,F,P,R,S,t,λ x st1 q α1 G1 H1 v s1 P1 S1 r1=>?_⟩;cases x<;>try exact q.elim
 rename_i n;simp only at q;split at q
 . rename_i ys e;obtain⟨p,ep,vs,h1,h2⟩:=S1.g5 e;have r1':=eQ ep r1;subst r1';refine⟨.inl ⟨rfl,vs,.inl (.of (P1.get h1))⟩,α1,σd,st1,_,G1,F,P1,R.step s1,S1,q,?_⟩;rintro ds st2 ⟨⟨xs,e2⟩,q2⟩ α2 G2 H2 ws s2 P2 S2 r2;obtain⟨p2,ep2,_⟩:=S2.g5 e2
   have:p2=p:=by
    rcases s2.pre _ _ ep with z|z<;>(rw[z]at ep2;cases ep2)
    rfl
   subst this;exact L α2 G2 F H2 st2 K Q n p2 ds ws P2 S2 ep2 r2 q2 ((k.at s1).at s2)
 . exact q.elim
def Nf{r:DM}{rM:V->List V->Hp->VK->Prop}{name:Str}{id:String}(L:LiftM r rM)(slot:Slot "list" name id)(hty:typeOf (.builtin id)=pure (.type "method_descriptor"))(hm:Mr X id rM){o e:Expr}{es:List Expr}{to:DE}{ta:DA}{apos cpos:Pos}(ho:PE X o (LE to))(ha:PA X (e::es) (LA ta))
 (hbase:attributeBase o name X.env (eval o X.env)=eval o X.env) (hfew:((backTo cpos (starEach (e::es) X.env)).all (λ x=> !x.1)&&(backToKw cpos (keywordEach [] X.env)).all (λ x=>x.1.isSome)
   &&decide ((e::es).length+([]:List Keyword).length+(if([]:List Keyword).isEmpty then 0 else 1)<30))=true)
 (hline:(apos.endLine==cpos.line)=true) (hs:starEach (e::es) X.env=(false,eval e X.env)::starEach es X.env) (hplain:(backTo cpos (starEach es X.env)).any (·.1)=false):PE X (.Call (.Attribute o name apos) (e::es) [] cpos) (LE (se r to ta)):=
 PE.imp (D7 V0 slot hty hm ho ha hbase hfew hline hs hplain) λ _ _ _ h=>LE.Rl L h
def pQ:DM:=λ n ds st K=>match ds with
 | [.int i]=>(match st[n]? with|some (.lst xs)=>(-(2^63)<=i/\i<2^63)/\(match j7 xs.length i with|some j=>(match xs[j]? with|some d=>K d (st.set n (.lst (xs.eraseIdx j)))|none=>False)|none=>False)|_=>False)
 |_=>False
def tV{A B:Type}{F:A->B->Prop}:∀ {xs:List A} {ys:List B} (i:Nat),Paired F xs ys->Paired F (xs.eraseIdx i) (ys.eraseIdx i)
 |_,_,_,.nil=> .nil
 |_,_,0,.cons _ t=>t
 |_,_,i+1,.cons r t=> .cons r (tV i t)
def EU:LiftM pQ EI:=by
 intro α G F H st K Q n a ds ws P S ea rs q k;unfold pQ at q;split at q
 . rename_i i;split at q
   . rename_i xs e;obtain⟨h63,q⟩:=q;split at q
     . rename_i j ej;split at q
       . rename_i d ed;obtain⟨v,rfl,r1⟩:=gw rs rfl;unfold Rep at r1;subst r1;obtain⟨a',ea',vs,h1,h2⟩:=S.g5 e;rw[ea]at ea';cases ea';obtain⟨y,ey,ry⟩:=h2.get ed;have hm:some a∈α:=S8 ea;refine⟨a,vs,i,j,y,rfl,rfl,P.get h1,h63.1,h63.2,by rw[<-h2.length];exact(ye ej).1,ey,?_⟩;refine k d _ q α (upd G a (.lst (vs.eraseIdx j))) _ y (Step.write hm) (P.write h1) ?_ (ry.step (Step.write hm));exact S.write ea ⟨vs.eraseIdx j,a6,(aT.mpr (tV j (aT.mp h2))).step (Step.write hm)⟩
       . exact q.elim
     . exact q.elim
   . exact q.elim
 . exact q.elim
def Nt{o e:Expr}{to te:DE}{apos cpos:Pos}(ho:JE X o to)(he:JE X e te)(hbase:attributeBase o "pop" X.env (eval o X.env)=eval o X.env:=by rfl)(hline:(apos.endLine==cpos.line)=true:=by rfl)(hs:notStar e=true:=by rfl):JE X (.Call (.Attribute o "pop" apos) [e] [] cpos) (se pQ to (af te ak)):=by
 unfold JE at*;refine Nf EU PySem.F.slot_list_pop PySem.F.type_list_pop G7 ho (qU he t7 (cE hs)) hbase ?_ hline (cE hs) rfl;rw[cE hs];rfl
end
section
variable {X:Cx}{pos:Pos}
end
section
variable {X:Cx}
def xv{M:Model}{A:Around}{E:Value->Shared->Prop}{s:Shared}{Q:Value->Shared->Prop}{x:V}{v:Value}{b:Bool}(r:RelV x v)(h:Q (.bool (!(v== .bool b))) s):wpAny M A (compareOp .IsNot v (.bool b)) Q E s:=by
 cases x
 case bl c=>
  cases r;cases c<;>cases b<;>exact Sn h
 all_goals first
  |(cases r;exact Sn h)
  |(obtain⟨t,rfl⟩:=r;exact Sn h)
def AF:dy:=λ x y st K=>match y with| .aG=>live st x=true/\K (.bl (!Jy x)) st| .bl b=>live st x=true/\K (.bl (!Fj x b)) st|_=>False
def HL:cx X (compareOp .IsNot) (LR AF):=λ pins s σ H x y v u Q I rx ry ⟨α,d,e,st,K,G,F',P,r1,r2,S,q,k⟩=>by
 cases e<;>try exact q.elim
 . refine JN pins s σ H x y v u Q I rx ry ⟨α,d,.aG,st,K,G,F',P,r1,r2,S,⟨q.1,?_⟩,k⟩;have q2:=q.2;cases d<;>exact q2
 . rename_i b;unfold Rep at r2;subst r2;cases ry;refine xv rx ?_;rw[CA S q.1 r1 rx];exact⟨.bl (!Fj d b),H,I,rfl,k.here P q.2 S (by unfold Rep;rfl)⟩
@[irreducible] def ur:dy:=AF
def EF:cx X (compareOp .IsNot) (LR ur):=by unfold ur;exact HL
end
section
variable {st:ag}{K:DK}{d:D}{b:Bool}
def sR(h:live st d=true)(k:K (.bl (!Jy d)) st):ur d .aG st K:=by unfold ur;exact⟨h,k⟩
end
section
variable {X:Cx}
end
end L3
namespace L3
open PySem L2
open PySem.Spec hiding items?
open PyProof.Rows hiding St
open AutoSeq1 (wpAny_loadPart')
def Lg{P:Program}{w:World}{A:Around}(hh:A.handled=none)(k:SK)(t a:Addr)(hne:a≠t)(us:Array Value):Draws P w A t [t,a] us.size (λ i v=>us[i]?=some v) (λ n g=>su k t a n g/\lZ k g a us) where
 live:=λ i h z=>((nV (P:=P) (w:=w) k t a hne us).lv i h z).1
 frame:=λ i h h' z kp=>(nV (P:=P) (w:=w) k t a hne us).fr i h h' z λ b hb o e=>kp b (by rcases hb with rfl|rfl<;>simp) o e
 item:=λ i s Q E hi z q=>(nV (P:=P) (w:=w) k t a hne us).nx i A s Q E us[i] z (by simp[hi]) λ g j sb=>q _ g s.toks (by simp[hi]) j sb
 done:=λ s Q E z q=>(nV (P:=P) (w:=w) k t a hne us).en us.size A s Q E hh z (by simp) q
def sh(l:Addr)(items:Array Value)(n:Nat)(dct:Option Addr)(sl:Array (Option Value)):
 Meets (Builtin.«enumerate.__new__» ⟨[.type "enumerate",.ref l],[]⟩) (λ _ R s=>s.heap.get? l=some {cls:= .type "tuple",dict:=dct,data:= .seq items n,slots:=sl}/\
  R (.ok (.ret (.ref (s.heap.push {cls:= .type "tuple_iterator",data:= .fields #[.ref l,.int 0 0]}).objs.size)))
   {s with heap:=(s.heap.push {cls:= .type "tuple_iterator",data:= .fields #[.ref l,.int 0 0]}).push {cls:= .type "enumerate",data:= .fields #[.none,.bool false,.ref s.heap.objs.size,rawInt 0,.none,.none]}}):=
 .of_wp λ prog w A R s h=>by
  obtain⟨hp,g,d,tk,os⟩:=s;obtain⟨hl,h⟩:=h;have hsub:=sub_enumerate;have hL:Heap.IsTuple (Shared.heap ⟨hp,g,d,tk,os⟩) l items:=⟨_,hl,rfl,n,rfl⟩
  wp_walk using wpAny_loadPart' hl
  refine wpAny_stack_any λ st=>Sn ?_;split
  . rename_i c _ _ _ _ _;cases (c==Value.type "enumerate")
    . wp_walk using wpAny_loadPart' hl,UP hL
      exact⟨_,rfl,h⟩
    . wp_walk using wpAny_loadPart' hl,UP hL
      exact⟨_,rfl,h⟩
  . wp_walk using wpAny_loadPart' hl,UP hL
    exact⟨_,rfl,h⟩
def FQ{P:Program}{w:World}{A:Around}{s:Shared}{E:Value->Shared->Prop}{k:SK}{a:Addr}{us:Array Value}{Q:Value->Shared->Prop}(c:lZ k s.heap a us)
 (q:∀g,IsEnum g (s.heap.objs.size+1) s.heap.objs.size 0 .none->su k s.heap.objs.size a 0 g->(∀b o,s.heap.get? b=some o->g.get? b=some o)->Q (.ref (s.heap.objs.size+1)) {s with heap:=g}):
 wpAny (model P w) A (call (.type "enumerate") [.ref a]) Q E s:=by
 cases k
 . exact call_enumerate_list c λ g h1 h2 _ h4=>q g h1 h2 h4
 . obtain⟨⟨c,dct,dt,sl⟩,hl,hc,n,hd⟩:=c;replace hc:c= .type "tuple":=hc;replace hd:dt= .seq us n:=hd;subst hc hd
   refine callType_new F.called_enumerate (by decide) (F.typeCall_enumerate_1 _) (F.newCall_enumerate_1 _) (λ obj=>F.args_object_init_2 obj _) F.entry_enumerate_new
    (sh a us n dct sl) ⟨hl,?_⟩
   have hz:(s.heap.push {cls:= .type "tuple_iterator",data:= .fields #[.ref a,.int 0 0]}).objs.size=s.heap.objs.size+1:=TY ..;show _/\_;rw[hz]
   have he:IsEnum ((s.heap.push {cls:= .type "tuple_iterator",data:= .fields #[.ref a,.int 0 0]}).push
    {cls:= .type "enumerate",data:= .fields #[.none,.bool false,.ref s.heap.objs.size,rawInt 0,.none,.none]}) (s.heap.objs.size+1) s.heap.objs.size 0 .none:=by
    have:=SI (s.heap.push {cls:= .type "tuple_iterator",data:= .fields #[.ref a,.int 0 0]})
     (o:={cls:= .type "enumerate",data:= .fields #[.none,.bool false,.ref s.heap.objs.size,rawInt 0,.none,.none]}) rfl
    rw[hz]at this;exact this
   exact⟨⟨_,he,rfl⟩,q _ he ⟨_,Sh _ (SI _ rfl),rfl,rfl⟩ λ b o x=>Sh _ (Sh _ x)⟩
def Qs(K:PySem.W.Frag)(k:SK)(a:Addr):It:=
 ⟨λ i H=>∃xs x,qA k K H a xs/\xs[i]?=some x,
  λ i H v H'=>∃T x,H T=none/\v= .ref T/\H'=upd H T (.tup [.int (i:Int),x])/\∀xs,qA k K H a xs->xs[i]?=some x,
  λ i H=>∃xs,qA k K H a xs/\xs.length<=i⟩
def Rf(e t a:Addr)(k:SK)(i:Nat)(h:Heap):Prop:=(∃old,IsEnum h e t i old)/\su k t a i h
def EW{P:Program}{w:World}{K:PySem.W.Frag}{elts:List Expr}{kx:Nat}{pos:Pos}{e t a:Addr}(k:SK)(n1:e≠t)(n2:a≠e)(n3:a≠t):
 Turn P w K (.Tuple elts kx pos) (Qs K k a) [e,t] e (Rf e t a k) where
 mem:=by simp
 obj:=λ i h st b hb=>by
  obtain⟨⟨old,he⟩,i1⟩:=st;simp only[SA,S_,VE]at hb;rcases hb with rfl|rfl
  . exact⟨_,he,λ v z=>by cases z⟩
  . exact ox i1
 keep:=λ i h h' st kp=>by
  obtain⟨⟨old,he⟩,i1⟩:=st;exact⟨⟨old,kp e (by simp) _ he⟩,qJ i1 (kp t (by simp))⟩
 item:=by
  intro X hP hw hK hc i pins s σ H E I hf st hg;subst hP hw hK;obtain⟨⟨old,he⟩,i1⟩:=st;obtain⟨xs,x,q1,ex⟩:=hg;obtain⟨us,r1,l1⟩:=lz I q1;obtain⟨u,eu,ru⟩:=r1.get ex
  have hlt:i<us.toArray.size:=by
   have:=(Sg.mp eu).1;simpa using this
  refine wpAny_pyNext_enum_itemD (Lg (A:=X.A.in1) (show X.A.in1.handled=none from I.ok.hd hc) k t a n3 us.toArray) he ⟨i1,l1⟩ hlt n1 (by simp only[SA,S_,VE,VT];exact⟨n1,Sq n2⟩) λ y h' tk py ho hs hT hsz kp=>⟨_,rfl,?_⟩
  have hy:y=u:=by
   have:us[i]?=some y:=by simpa using py
   rw[eu]at this;cases this;rfl
  subst hy;refine wpAny_letOwnedTupleGo_enum (s:={s with heap:=h',toks:=tk+1}) ho λ k' he' sb=>?_;have hTe:s.heap.objs.size≠e:=Vc (Su he)
  have kp3:∀b o,b∉[e,t]->s.heap.get? b=some o->k'.get? b=some o:=λ b o hb eb=>by
   simp only[SA,VT,S_,TV,Vt]at hb;exact sb.extBut _ _ hb.1 (kp b o hb.1 hb.2 eb)
  refine⟨.ref s.heap.objs.size,upd H s.heap.objs.size (.tup [.int (i:Int),x]),IJ (s:=s) (tk:=tk+1) I hf kp3 (R_ _) ?_,rfl,⟨s.heap.objs.size,x,I.aL.fresh (R_ _),rfl,rfl,?_⟩,?_,?_⟩
  . refine⟨Ss rfl,[.int (i:Int) tk,y],.cons ⟨tk,rfl⟩ (.cons ru .nil),?_⟩;exact⟨_,sb.extBut _ _ hTe hT,rfl,_,rfl⟩
  . intro xs' q';rw[x8 I q' q1];exact ex
  . refine⟨⟨_,by simpa using he'⟩,qJ hs.1 λ o eo=>sb.extBut _ _ (Sq n1) eo⟩
  . intro b hb
    have:b≠s.heap.objs.size:=by
     obtain⟨o,eb⟩:∃o,s.heap.get? b=some o:=by
      simp only[SA,S_,VE]at hb;rcases hb with rfl|rfl
      . exact⟨_,he⟩
      . obtain⟨o,eo,_⟩:=ox i1;exact⟨o,eo⟩
     exact SW (Su eb)
    rw[aA this];exact(hf b hb).1
 done:=by
  intro X hP hw hK hc i pins s σ H E I hf st hg;subst hP hw hK;obtain⟨⟨old,he⟩,i1⟩:=st;obtain⟨xs,q1,hle⟩:=hg;obtain⟨us,r1,l1⟩:=lz I q1;have e1:=r1.length;have tz:s.TypeIs (.ref e) "enumerate":=⟨_,he,rfl⟩
  unfold pyNext;refine Sa (WT (T9 (name:=Str.ofString "__next__") tz F.slot_enumerate_next (UL F.slot_enumerate_next tz F.entry_enumerate_next ?_ (F.args_enumerate_next_1 _))));show wpAny _ _ (field (.ref e) 2 >>= _) _ _ _;refine Sa (T4 he rfl (x:= .ref t) rfl ?_);refine Sa ((nV k t a n3 us.toArray).en i _ s _ _ (I.ok.hd hc) ⟨i1,l1⟩ (by simp;omega) λ g x sb hx=>?_);obtain⟨o,ho,hc2⟩:=hx;refine Sa (wpAny_isInstance (T:="StopIteration") (b:=true) ⟨o,ho,hc2⟩ isSubtype_stop ?_);refine Sn ⟨rfl,IQ (s:=s) (tk:=s.toks) I hf λ b o hb eb=>?_⟩;simp only[SA,VT,S_,TV,Vt]at hb;exact sb b o hb.2 eb
 self:=λ _ _ _ _ _ st h=>wpAny_pyIter_enum st.1.choose_spec h
def hJ:Nat->List D->List D
 |_,[]=>[]
 |i,x::xs=> .tup [.int (i:Int),x]::hJ (i+1) xs
def pv:∀ {xs:List D} {i:Nat},(hJ i xs).length=xs.length
 | [],_=>rfl
 |_::xs,i=>by unfold hJ;rw[SY,SY,pv]
def tw:∀ {xs:List D} {i n:Nat} {d:D},(hJ i xs)[n]?=some d->∃x,xs[n]?=some x/\d= .tup [.int ((i+n:Nat):Int),x]
 | [],_,_,_,e=>by unfold hJ at e;cases e
 |x::xs,i,0,d,e=>by
  unfold hJ at e;rw[List.getElem?_cons_zero]at e;cases e;exact⟨x,rfl,rfl⟩
 |x::xs,i,n+1,d,e=>by
  unfold hJ at e;rw[V1]at e;obtain⟨y,h1,h2⟩:=tw e;refine⟨y,by rw[V1];exact h1,?_⟩;rw[h2,show i+1+n=i+(n+1) by omega]
def JR{K:PySem.W.Frag}{k:SK}{a:Addr}{α:List (Option Addr)}{G:Hp}{ok:ag->Prop}{xs:List D}
 (h:∀α' G' st',Step α G α' G'->aX α' st' G'->ok st'->∃vs,Fp k G' a vs/\aN α' G' xs vs):vA (Qs K k a) α G ok (hJ 0 xs) where
 stop:=λ n α' G' F' H' st' s P S o hn=>by
  obtain⟨vs,h1,r1⟩:=h α' G' st' s S o;rw[pv]at hn;refine⟨vs,ko P h1,?_⟩;have:=r1.length;omega
 go:=λ n d α' G' F' H' st' s P S o hn=>by
  obtain⟨vs,h1,r1⟩:=h α' G' st' s S o;obtain⟨x,ex,rfl⟩:=tw hn;obtain⟨v,ev,_⟩:=r1.get ex;exact⟨vs,v,ko P h1,ev⟩
 pF:=λ n d α' G' F' H' st' x H'' s P S o hn y=>by
  obtain⟨vs,h1,r1⟩:=h α' G' st' s S o;obtain⟨c,ec,rfl⟩:=tw hn;obtain⟨T,v,hT,rfl,rfl,y1⟩:=y;obtain⟨v',ev,rv⟩:=r1.get ec;rw[y1 vs (ko P h1)]at ev;cases ev;have hg:=(P.none hT).1;refine⟨upd G' T (.tup [.int (n:Int),v]),Step.laid hg,P.laid hT,S.laid hg,?_⟩;unfold Rep;refine⟨T,[.int (n:Int),v],rfl,S.ll hg,a6,?_⟩;unfold aN;refine⟨.int (n:Int),[v],rfl,?_,?_⟩
  . unfold Rep;rw[VA]
  unfold aN;exact⟨v,[],rfl,rv.step (Step.laid hg),by unfold aN;rfl⟩
def De(ds:List D)(st1:ag)(K:List D->(ag->Prop)->ag->Prop):Prop:=match ds with
 | [x]=>(match items? st1 x with
   |some xs=>K (hJ 0 xs) (λ st'=>items? st' x=some xs) st1
   |_=>False)
 |_=>False
@[irreducible] def tW:List D->ag->(List D->(ag->Prop)->ag->Prop)->Prop:=De
def zz(t:DA):DI:=λ σ st K=>t σ st λ ds st1=>tW ds st1 K
def GC:bootBuiltins "enumerate"=some (.type "enumerate"):=by decide+kernel
def LF{X:Cx}{a:Expr}{elts:List Expr}{kx:Nat}{tpos p pos:Pos}{t:DA}(hg:Gl X "enumerate")(hm:X.mg "enumerate"=none)(ha:PA X [a] (LA t))(hs:starEach [a] X.env=[(false,eval a X.env)]):
 PI X (.Tuple elts kx tpos) (.Call (.Name "enumerate" p) [a] [] pos) (LI (zz t)):=by
 intro pins s σ H R I h;obtain⟨α,σd,st,K,G,F,P,RS,S,t,k⟩:=h;refine Call_ (lq I hg hm GC (T8 (cJ (ha pos pins s σ H (λ vs H1=>∃ds α1 G1 st1,Step α G α1 G1/\cO G1 F H1/\aX α1 st1 G1/\aN α1 G1 ds vs/\tW ds st1 K) I ⟨α,σd,st,_,G,F,P,RS,S,t,λ ds st1 q α1 G1 H1 vs s1 P1 S1 r1=>⟨ds,α1,G1,st1,s1,P1,S1,r1,q⟩⟩) λ us s1 ⟨vs,H1,I1,rv,ds,α1,G1,st1,w1,P1,S1,r1,q⟩=>?_) (by rw[hs];rfl) (by rfl)));unfold tW De at q;split at q
 . rename_i x;split at q
   . rename_i xs ex;obtain⟨v1,rfl,q1⟩:=gw r1 rfl;obtain⟨p1,vs1,rfl,g1,c1⟩:=ow S1 q1 ex;obtain⟨u1,rfl,ru1⟩:=vals1 rv;cases ru1;obtain⟨its1,_,l1⟩:=lz I1 (ko P1 c1);refine FQ l1 λ g he i1 kp=>?_;obtain⟨o1,eo1⟩:=l1.some;have hp1:p1<s1.heap.objs.size:=Su eo1;refine wpAny_pyIter_enum (s:={s1 with heap:=g}) he ?_;refine⟨s1.heap.objs.size+1,[s1.heap.objs.size+1,s1.heap.objs.size],_,_,H1,rfl,I1.kept (t':=s1.toks) kp,EW (IB x) (Vc (S0 _)) (SW (S9 hp1)) (SW hp1),⟨⟨_,he⟩,i1⟩,λ b hb=>?_,?_⟩
     . have hb':s1.heap.objs.size<=b:=by
        simp only[SA,S_,VE]at hb;rcases hb with rfl|rfl
        . exact Vs _
        . exact R_ _
       exact I1.vI hb' (I1.aL.fresh hb')
     . refine k _ _ st1 q _ α1 G1 H1 w1 P1 S1 (JR λ α' G' st' s' S' o=>?_);obtain⟨p1',ws1,e1,f1,d1⟩:=ow S' (q1.step s') o;cases e1;exact⟨ws1,d1,f1⟩
   . exact q.elim
 . exact q.elim
def B9{st:ag}{x:D}{xs:List D}{K:List D->(ag->Prop)->ag->Prop}(ex:items? st x=some xs)(k:∀ok:ag->Prop,(∀st',items? st' x=some xs->ok st')->K (hJ 0 xs) ok st):tW [x] st K:=by
 unfold tW De;simp only[ex];exact k _ λ st' h1=>h1
def F1{X:Cx}{a:Expr}{elts:List Expr}{kx:Nat}{tpos p pos:Pos}{ar:DA}(hg:Gl X "enumerate")(hm:X.mg "enumerate"=none)(ha:JA X [a] ar)(hs:notStar a=true:=by rfl):JI X (.Tuple elts kx tpos) (.Call (.Name "enumerate" p) [a] [] pos) (zz ar):=by
 unfold JI;unfold JA at ha;exact LF hg hm ha (cE hs)
end L3
namespace L3
open PySem L2
open PySem.Spec hiding items?
open PyProof.Rows hiding St
section
variable {prog:Program}{w:World}{A:Around}{E:Value->Shared->Prop}{s:Shared}
end
section
variable {X:Cx}{tg:Expr}
end
section
variable {X:Cx}
def Ji:dy:=λ x y st K=>match x,y with
 | .lst xs,.lst ys=>xs.length+ys.length<=sizeLine/\K (.ref st.length) (st++[.lst (xs++ys)])
 |_,_=>False
def L9:cx X (binaryOp .Add) (LR Ji):=λ pins s σ H x y v u Q I rx ry ⟨α,d,e,st,K,G,F',P,r1,r2,S,q,k⟩=>by
 cases d<;>cases e<;>try exact q.elim
 unfold Rep at r1 r2;obtain⟨a,vs,rfl,na,ha,ra⟩:=r1;obtain⟨b,ws,rfl,nb,hb,rb⟩:=r2;refine xN pins s σ H _ _ v u Q I rx ry ⟨a,b,vs,ws,rfl,rfl,fI P ha,fI P hb,by rw[<-ra.length,<-rb.length];exact q.1,λ p hp=>?_⟩;exact k.new P q.2 S (aT.mpr (fD (aT.mp ra) (aT.mp rb))) hp
@[irreducible] def wb:dy:=Ji
def Nu:cx X (binaryOp .Add) (LR wb):=by unfold wb;exact L9
end
def Kh{st:ag}{K:DK}{xs ys:List D}(h:xs.length+ys.length<=sizeLine)(k:K (.ref st.length) (st++[.lst (xs++ys)])):wb (.lst xs) (.lst ys) st K:=by unfold wb;exact⟨h,k⟩
end L3
namespace L3
open PySem L2
open PySem.Spec hiding items?
open PyProof.Rows hiding St
open PySem PySem.Spec L2 PySem.SeqAt
section
variable {X:Cx}
end
end L3
namespace L3
open PySem L2
open PySem.Spec hiding items?
open PyProof.Rows hiding St
section
variable {X:Cx}
def CP{k:Nat}{x:Str}{e:Expr}{te:DE}{pos pos':Pos}(hN:X.N.Nodup)(hx:Loc X.env.scope x)(he:JE X e te)(hsw:swapsWith e (some (.Name x pos')) pos.line X.env=pure false:=by rfl)(hf:X.fn x=true\/X.env.scope.names.lookup x=some .local:=by first|exact .inl rfl|exact .inr rfl)(hi:X.N[k]?=some x:=by rfl):JS X (.Assign [.Name x pos'] e pos) (a9 k te):=by
 unfold JS;unfold JE at he;exact FF (Gs hN hi hx he hsw hf)
def zx:fX:=λ ds st K=>match ds with| [.lst xs]=>(match iH xs with|some ns=>ns≠ []/\∀m∈ns,(∀x∈ns,m<=x)->K (.int m) st|none=>False)|_=>False
def Kp{ns:List Int}{i:Nat}(hi:i<ns.length):ns.getD i 0∈ns:=by rw[Sd,Sm hi];exact Tg _
def mem_getD{ns:List Int}{x:Int}(h:x∈ns):∃i,i<ns.length/\ns.getD i 0=x:=by
 obtain⟨i,hi,rfl⟩:=SV.mp h;exact⟨i,hi,by rw[Sd,Sm hi];rfl⟩
def N3(hc:X.calm=true):cD X (.builtin "min") (gJ zx):=λ pins s σ H xs us Q I rs ⟨α,ds,st,K,G,F',P,r,S,q,k⟩=>by
 unfold zx at q;split at q
 . rename_i ys;split at q
   . rename_i ns e;obtain⟨hne0,q⟩:=q;obtain⟨v,rfl,r1⟩:=gw r rfl;unfold Rep at r1;obtain⟨a,vs,rfl,na,h1,h2⟩:=r1;obtain⟨u,rfl,ru⟩:=vals1 rs;cases ru;have hv:=nc h2 e;subst hv;obtain⟨z,ao,n,rv,hl,eo⟩:=Inv.sZ I (fI P h1);have isL:s.heap.IsList a ao.toArray:=⟨_,eo,rfl,n,rfl⟩
     have hlen:ao.length=ns.length:=by rw[<-hl,Sb]
     have hpos:0<ns.length:=List.length_pos_iff.mpr hne0;refine call_min_walkS (Vy isL ?_);have hne:a≠s.heap.objs.size:=SW (Su eo);have hval:∀(i:Nat) (w:Value),ao.toArray[i]?=some w->∃t,w=Value.int (ns.getD i 0) t:=λ i w hw=>jE rv i w (by simpa using hw);refine⟨s.heap.objs.size,_,_,_,_,_,_,_,rfl,(Walks.list (A:=X.A.in1) (I.ok.hd hc) _ a hne ao.toArray).toS,⟨⟨_,SI _ rfl,rfl,rfl⟩,⟨_,Sh _ eo,rfl,n,rfl⟩⟩,?_,by rw[Sl];omega,CmpOf.ints_lt (λ i=>ns.getD i 0) hval,?_⟩
     . intro b hb;rw[TY];simp only[SA,S_,VE]at hb;rcases hb with rfl|rfl
       . exact S0 _
       . exact S9 (Su eo)
     . intro v' s' hv hm
       have kp:∀b o,s.heap.get? b=some o->s'.heap.get? b=some o:=λ b o q=>hm.heap b o (by
        intro hb;have:b=s.heap.objs.size:=by simpa using hb
        exact absurd (Su q) (by rw[this];exact TN _)) (Sh _ q)
       have es:s'= {s with heap:=s'.heap,toks:=s'.toks}:=by
        have g:=hm.gens;have d:=hm.drawn;have o:=hm.os;cases s';cases s
        simp_all
       have hsz:ao.toArray.size-1=ns.length-1:=by rw[Sl,hlen]
       obtain⟨t,rfl⟩:=hval _ _ hv;obtain⟨b1,b2⟩:=argBest_lt (λ i=>ns.getD i 0) (ao.toArray.size-1);generalize argBest (λ i j=>decide (ns.getD i 0<ns.getD j 0)) (ao.toArray.size-1)=j at b1 b2⊢;have hj:j<ns.length:=by omega
       rw[es];refine⟨.int (ns.getD j 0),H,I.kept (t':=s'.toks) kp,⟨t,rfl⟩,k.here P (q _ (Kp hj) λ x hx=>?_) S (by unfold Rep;rfl)⟩;obtain⟨i,hi,rfl⟩:=mem_getD hx;exact b2 i (by omega)
   . exact q.elim
 . exact q.elim
@[irreducible] def wa:fX:=zx
def NP(hc:X.calm=true):cD X (.builtin "min") (gJ wa):=by unfold wa;exact N3 hc
end
def KJ{st:ag}{K:DK}{xs:List D}{ns:List Int}(h:iH xs=some ns)(h0:ns≠ [])(k:∀m∈ns,(∀x∈ns,m<=x)->K (.int m) st):wa [.lst xs] st K:=by unfold wa zx;simp only[h];exact⟨h0,k⟩
section
variable {X:Cx}
end
def AD:∀ {ns:List Int} {us:List Value},Vals (ns.map V.int) us->IntsAre us ns
 | [],_,.nil=> .nil
 |n::ns,_,.cons h t=>by
  obtain⟨tk,rfl⟩:=h;exact .cons n tk (AD t)
section
variable {X:Cx}
end
section
variable {P:Program}{w:World}
section
variable {z ti to t1 t2 t3 a1 a2 a3:Addr}
end
end
section
variable {X:Cx}
def zh:dy:=λ x y st K=>match x,y with
 | .ref n,.lst ys=>(match st[n]? with|some (.lst xs)=>xs.length+ys.length<=sizeLine/\K (.lst (xs++ys)) st|_=>False)
 |_,_=>False
def ME:cx X (binaryOp .Add) (LR zh):=λ pins s σ H x y v u Q I rx ry ⟨α,d,e,st,K,G,F',P,r1,r2,S,q,k⟩=>by
 cases d<;>cases e<;>try exact q.elim
 rename_i n ys;unfold zh at q;simp only at q;split at q
 . rename_i xs e;obtain⟨a,ea,vs,h1,h2⟩:=S.g5 e;have r1':=eQ ea r1;subst r1';unfold Rep at r2;obtain⟨b,ws,rfl,nb,hb,rb⟩:=r2;refine xN pins s σ H _ _ v u Q I rx ry ⟨a,b,vs,ws,rfl,rfl,.of (P.get h1),fI P hb,by rw[<-h2.length,<-rb.length];exact q.1,λ p hp=>?_⟩;exact k.lst P q.2 S (aT.mpr (fD (aT.mp h2) (aT.mp rb))) hp
 . exact q.elim
@[irreducible] def vX:dy:=zh
def LY:cx X (binaryOp .Add) (LR vX):=by unfold vX;exact ME
end
def KU{st:ag}{K:DK}{n:Nat}{xs ys:List D}(e:st[n]?=some (.lst xs))(h:xs.length+ys.length<=sizeLine)(k:K (.lst (xs++ys)) st):vX (.ref n) (.lst ys) st K:=by unfold vX zh;simp only[e];exact⟨h,k⟩
end L3
namespace L3
open PySem L2
open PySem.Spec hiding items?
open PyProof.Rows hiding St
open Sem (wp)
section
variable {prog:Program}{w:World}{A:Around}{s:Shared}{E:Value->Shared->Prop}
end
section
variable {prog:Program}{w:World}{A:Around}{R:Result->Shared->Prop}{I:Addr}{fp wr:List Addr}{G:Array GenState->Array GenState->Prop}{n:Nat}{P:Nat->Value->Prop}{Sx:Nat->Shared->Prop}
end
section
variable {prog:Program}{w:World}{A:Around}{E:Value->Shared->Prop}{s:Shared}
end
section
variable {X:Cx}{pins:List (Addr×Obj)}{σ:L2.St}{H:Hp}{s:Shared}{α:List (Option Addr)}
end
end L3
namespace L3
open PySem L2
open PySem.Spec hiding items?
open PyProof.Rows hiding St
section
variable {X:Cx}
def range_any{α:Type}(l:List α)(f:α->Bool)(tr:Nat->Bool)(h:∀i x,l[i]?=some x->tr i=f x):(List.range l.length).any tr=l.any f:=by
 induction l generalizing tr with
 |nil=>rfl
 |cons a l ih=>
  rw[SY,Tw,WQ,WQ,List.any_map,h 0 a rfl];congr 1;exact ih (tr∘Nat.succ) λ i x e=>h (i+1) x (by simpa using e)
end
def putD(f:Str)(v:D):List (Str×D)->List (Str×D)
 | []=>[(f,v)]
 |(g,x)::r=>if g=f then(g,v)::r else(g,x)::putD f v r
def kD.look{α:List (Option Addr)}{H:Hp}{f:Str}{v:D}:∀ {fs:List (Str×D)} {vs:List (Str×V)},kD α H fs vs->fs.lookup f=some v->∃u,vs.lookup f=some u/\Rep α H v u
 | [],_,_,e=>by cases e
 |(g,x)::fs,_,.cons (b:=q) h t,e=>by
  obtain⟨g',y⟩:=q;obtain⟨h1,h2⟩:=h;simp only at h1 h2;subst h1;rw[Ti]at e⊢;cases hb:f==g with
  |true=>rw[hb]at e;cases e;exact⟨y,rfl,h2⟩
  |false=>rw[hb]at e;exact kD.look t e
def kD.none{α:List (Option Addr)}{H:Hp}{f:Str}:∀ {fs:List (Str×D)} {vs:List (Str×V)},kD α H fs vs->fs.lookup f=Option.none->vs.lookup f=Option.none
 | [],_,.nil,_=>rfl
 |(g,x)::fs,_,.cons (b:=q) h t,e=>by
  obtain⟨g',y⟩:=q;obtain⟨h1,h2⟩:=h;simp only at h1 h2;subst h1;rw[Ti]at e⊢;cases hb:f==g with
  |true=>rw[hb]at e;cases e
  |false=>rw[hb]at e;exact kD.none t e
def kD.put{α:List (Option Addr)}{H:Hp}{f:Str}{d:D}{v:V}(r:Rep α H d v):∀ {fs:List (Str×D)} {vs:List (Str×V)},kD α H fs vs->kD α H (putD f d fs) (h_ f v vs)
 | [],_,.nil=> .cons ⟨rfl,r⟩ .nil
 |(g,x)::fs,_,.cons (b:=q) h t=>by
  obtain⟨g',y⟩:=q;obtain⟨h1,h2⟩:=h;simp only at h1 h2;subst h1;unfold putD h_;by_cases hb:g=f
  . rw[Si hb,Si hb];exact .cons ⟨rfl,r⟩ t
  . rw[Sf hb,Sf hb];exact .cons ⟨rfl,h2⟩ (kD.put r t)
def Hq(C:Addr)(f:Str)(d:D)(st:ag)(K:DK):Prop:=match d with
 | .ref n=>(match st[n]? with|some (.ins C' fs)=>C'=C/\∃v,fs.lookup f=some v/\K v st|_=>False)
 |_=>False
@[irreducible] def DN(C:Addr)(f:Str):D->ag->DK->Prop:=Hq C f
def e_(C:Addr)(f:Str)(te:DE):DE:=λ σ st K=>te σ st λ d st1=>DN C f d st1 K
def dc{C:Addr}{f:Str}{n:Nat}{st:ag}{K:DK}{fs:List (Str×D)}{v:D}(e:st[n]?=some (.ins C fs))(h:fs.lookup f=some v)(k:K v st):DN C f (.ref n) st K:=by
 unfold DN Hq;simp only[e];exact⟨trivial,v,h,k⟩
def Dt(C:Addr)(f:Str)(x d:D)(st:ag)(K:ag->Prop):Prop:=match x with
 | .ref n=>(match st[n]? with|some (.ins C' fs)=>C'=C/\fs.length<1000/\K (st.set n (.ins C (putD f d fs)))|_=>False)
 |_=>False
@[irreducible] def zC(C:Addr)(f:Str):D->D->ag->(ag->Prop)->Prop:=Dt C f
def pN(C:Addr)(f:Str)(to te:DE):DS:=λ D σ st=>te σ st λ d st1=>to σ st1 λ x st2=>zC C f x d st2 λ st3=>D.nx σ st3
def oJ{C:Addr}{f:Str}{n:Nat}{d:D}{st:ag}{K:ag->Prop}{fs:List (Str×D)}(e:st[n]?=some (.ins C fs))(h:fs.length<1000)(k:K (st.set n (.ins C (putD f d fs)))):zC C f (.ref n) d st K:=by
 unfold zC Dt;simp only[e];exact⟨trivial,h,k⟩
def Dn(C:Addr)(m:Str)(x:D)(st:ag)(k:Prop):Prop:=match x with
 | .ref n=>(match st[n]? with|some (.ins C' fs)=>C'=C/\fs.lookup m=none/\k|_=>False)
 |_=>False
@[irreducible] def zB(C:Addr)(m:Str):D->ag->Prop->Prop:=Dn C m
def k6{C:Addr}{m:Str}{n:Nat}{st:ag}{k:Prop}{fs:List (Str×D)}(e:st[n]?=some (.ins C fs))(h:fs.lookup m=none)(q:k):zB C m (.ref n) st k:=by
 unfold zB Dn;simp only[e];exact⟨trivial,h,q⟩
def kl(C:Addr)(m:Str)(S:cY)(to:DE)(t:DA):DE:=λ σ st K=>to σ st λ x st1=>zB C m x st1 (t σ st1 λ ds st2=>S (x::ds) st2 K)
def DU(C:Addr)(S:cY)(t:DA):DE:=λ σ st K=>t σ st λ ds st1=>S (.ref st1.length::ds) (st1++[.ins C []]) λ r st2=>r= .aG/\K (.ref st1.length) st2
section
variable {X:Cx}{C f g:Addr}{fd:FuncData}{k:Nat}{x m fl:Str}{e o value:Expr}{es:List Expr}{p pos pos' apos:Pos}{te to:DE}{t:DA}{S:cY}{ps:List Str}
def Pl(c:o_ X.K C)(na:gL X.K C fl)(he:PE X e (LE te))(hb:attributeBase e fl X.env (eval e X.env)=eval e X.env):PE X (.Attribute e fl pos) (LE (e_ C fl te)):=PE.imp (L_ he hb) λ σ H Q ⟨α,σd,st,K,G,F,P,R,S,t,k⟩=>by
 refine⟨α,σd,st,_,G,F,P,R,S,t,λ d st1 q α1 G1 H1 v s1 P1 S1 r1=>?_⟩;unfold DN Hq at q;cases d<;>try exact q.elim
 simp only at q;split at q
 . rename_i C' fs e';obtain⟨rfl,w,hw,q⟩:=q;obtain⟨a,ea,dx,vs,h1,h2⟩:=S1.ze e';have r1':=eQ ea r1;subst r1';obtain⟨u,hu,ru⟩:=h2.look hw;exact⟨a,_,dx,vs,u,rfl,P1.get h1,c,na,hu,(k.at s1).here P1 q S1 ru⟩
 . exact q.elim
def Na(c:o_ X.K C)(na:gL X.K C fl)(ho:PE X o (LE to))(hv:PE X value (LE te))(hs:swapsWith value (some (.Attribute o fl pos')) pos.line X.env=pure false):PS X (.Assign [.Attribute o fl pos'] value pos) (LS (pN C fl to te)):=PS.imp (ML ho hv hs) λ D σ H ⟨α,σd,st,DD,G,F,P,R,S,t,k⟩=>by
 refine⟨α,σd,st,_,G,F,P,R,S,t,λ d st1 q α1 G1 H1 v s1 P1 S1 r1=>?_⟩;refine⟨α1,σd,st1,_,G1,F,P1,R.step s1,S1,q,λ x st2 q2 α2 G2 H2 v2 s2 P2 S2 r2=>?_⟩;unfold zC Dt at q2;cases x<;>try exact q2.elim
 simp only at q2;split at q2
 . rename_i C' fs e';obtain⟨rfl,hl,q2⟩:=q2;obtain⟨a,ea,dx,vs,h1,h2⟩:=S2.ze e';have r2':=eQ ea r2;subst r2';have hm:some a∈α2:=S8 ea;have lv:vs.length<1000:=by rw[<-h2.length];exact hl
   refine⟨a,_,dx,vs,rfl,P2.get h1,c,na,lv,?_⟩;refine((k.nx.at s1).at s2) σd _ q2 α2 (upd G2 a (.ins _ dx (h_ fl v vs))) _ σ (Step.write hm) (P2.write h1) (((R.step s1).step s2).step (Step.write hm)) ?_;exact S2.write ea ⟨dx,h_ fl v vs,a6,(h2.put (r1.step s2)).step (Step.write hm)⟩
 . exact q2.elim
def LE.OP{σ:L2.St}{H:Hp}{Q:VK}(h:LE (kl C m S to t) σ H Q):Iq C m (c_ S) [] E0 (LE to) (LA t) σ H Q:=by
 obtain⟨α,σd,st,K,G,F,P,R,Sr,tt,k⟩:=h;refine⟨α,σd,st,_,G,F,P,R,Sr,tt,λ d st1 q α1 G1 H1 v s1 P1 S1 r1=>?_⟩;unfold zB Dn at q;cases d<;>try exact q.elim
 simp only at q;split at q
 . rename_i n C' fs e';obtain⟨rfl,hl,q⟩:=q;obtain⟨a,ea,dx,vs,h1,h2⟩:=S1.ze e';have r1':=eQ ea r1;subst r1';refine⟨a,dx,vs,rfl,P1.get h1,h2.none hl,?_⟩;refine⟨α1,σd,st1,_,G1,F,P1,R.step s1,S1,q,λ ds st2 q2 α2 G2 H2 us s2 P2 S2 r2=>?_⟩;try dsimp only
   rw[TZ];exact⟨α2,_,st2,K,G2,F,P2,by unfold aN;exact⟨_,_,rfl,r1.step s2,r2⟩,S2,q2,(k.at s1).at s2⟩
 . exact q.elim
def LE.make{σ:L2.St}{H:Hp}{Q:VK}(h:LE (DU C S t) σ H Q):Jw C (c_ S) [] E0 (LA t) σ H Q:=by
 obtain⟨α,σd,st,K,G,F,P,R,Sr,tt,k⟩:=h;refine⟨α,σd,st,_,G,F,P,R,Sr,tt,λ ds st1 q α1 G1 H1 us s1 P1 S1 r1=>?_⟩;intro x dx hx hdx hne;have hgd:=(P1.none hdx).1;have P2:=P1.laid (o:= .own x) hdx;have S2:=S1.laid (o:= .own x) hgd;have hx2:upd H1 dx (.own x) x=none:=by rw[aA (Sq hne)];exact hx
 have hg2:=(P2.none hx2).1;have P3:=P2.laid (o:= .ins C dx []) hx2;have S3:=S2.cell (o:= .ins C dx []) (c:= .ins C []) hg2 ⟨dx,[],a6,.nil⟩;have s2:Step α1 G1 α1 (upd G1 dx (.own x)):=Step.laid hgd;have s3:Step α1 (upd G1 dx (.own x)) (α1++[some x]) (upd (upd G1 dx (.own x)) x (.ins C dx [])):=Step.cell hg2
 have rx:Rep (α1++[some x]) (upd (upd G1 dx (.own x)) x (.ins C dx [])) (.ref st1.length) (.ref x):=by
  unfold Rep;refine .inr ⟨x,?_,rfl⟩;rw[S7 (by rw[S1.len];exact R_ _),S1.len,Ve];rfl
 rw[TZ];refine⟨α1++[some x],.ref st1.length::ds,st1++[.ins C []],_,_,F,P3,by unfold aN;exact⟨_,_,rfl,rx,(r1.step s2).step s3⟩,S3,q,λ d st2 q2 α' G' H' v s' P' S' r'=>?_⟩;obtain⟨rfl,q2⟩:=q2;unfold Rep at r';exact⟨r',(((k.at s1).at s2).at s3) _ st2 q2 α' G' H' _ s' P' S' (rx.step s')⟩
end
def Nd(a:Int)(n:Nat):It:=⟨λ i _=>i<n,λ i H x H'=>H'=H/\x= .int (a+(i:Nat)*(-1)),λ i _=>n<=i⟩
def E9{P:Program}{w:World}{K:PySem.W.Frag}{tg:Expr}(it:Addr)(a:Int)(n:Nat):Turn P w K tg (Nd a n) [it] it (λ i h=>IsRangeIter h it (a+(i:Nat)*(-1)) ((n:Int)-(i:Nat)) (-1)) where
 mem:=by simp
 obj:=λ i h st b hb=>by
  have e:b=it:=by simpa using hb
  subst e
  exact⟨_,st,λ v z=>by
   have z':Data.fields _=Data.cell v:=z;cases z'⟩
 keep:=λ i h h' st k=>k it (by simp) _ st
 item:=by
  intro X hP hw hK hc i pins s σ H E I hf st hg;subst hP hw hK;obtain⟨f0,f1,f2,f3,f4,f5⟩:=hf it (by simp);have W:=Walks.range (prog:=X.prog) (w:=X.w) (I.ok.hd hc) it a (-1) n;refine W.item i s _ _ hg st λ v h' tk hv st' kk=>?_;obtain⟨t,rfl⟩:=hv;have I1:Inv X pins σ H {s with heap:=h',toks:=tk}:=I.turned (λ b o hb e=>kk b o (by simpa using hb) e) f0 f1 f3 f4 f5;exact⟨_,rfl,zG (s:={s with heap:=h',toks:=tk}) (n:="range_iterator") st' rfl rfl (by decide) ⟨.int (a+(i:Nat)*(-1)),H,I1,⟨t,rfl⟩,⟨rfl,rfl⟩,st',λ b hb=>(hf b hb).1⟩⟩
 done:=by
  intro X hP hw hK hc i pins s σ H E I hf st hg;subst hP hw hK;obtain⟨f0,f1,f2,f3,f4,f5⟩:=hf it (by simp);exact Xo (I.ok.hd hc) st (by have:n<=i:=hg;omega) λ h' eb=>⟨rfl,I.turned (t':=s.toks) (λ b o hb e=>eb b o hb e) f0 f1 f3 f4 f5⟩
 self:=λ _ _ _ _ _ st h=>Xp st h
def yk(a b:Int):Builtin.Range.rangeSize a b (-1)=((a-b).toNat:Int):=by
 unfold Builtin.Range.rangeSize;rw[Sf (by decide)];have e:(a-b-1)/(- -1:Int)=a-b-1:=by simp
 rw[e];split<;>omega
def small_down{a b:Int}(ha: -(2^62)<=a)(ha':a<2^62)(hb: -(2^62)<=b)(hb':b<2^62):Builtin.Range.small a b (-1)=true:=by
 unfold Builtin.Range.small;rw[yk];simp only[Builtin.Range.rangeFitsLong,Tv,Wv,decide_eq_true_eq,UN,show¬((-1:Int)>0) by decide,Uw];omega
def IZ(ta:TA):TI:=λ σ H R=>ta σ H λ vs H1=>∃i j:Int,vs=[.int i,.int j,.int (-1)]/\(-(2^62)<=i/\i<2^62/\ -(2^62)<=j/\j<2^62)/\R (Nd i (i-j).toNat) H1
section
variable {X:Cx}{tg:Expr}
def Gb{a b c:Expr}{ta:TA}{p pos:Pos}(hg:Gl X "range")(hm:X.mg "range"=none)(ha:PA X [a,b,c] ta)(hs:notStar a=true:=by rfl)(hs2:notStar b=true:=by rfl)(hs3:notStar c=true:=by rfl):
 PI X tg (.Call (.Name "range" p) [a,b,c] [] pos) (IZ ta):=by
 intro pins s σ H R I h;refine Call_ (lq I hg hm boot_range (T8 (cJ (ha pos pins s σ H _ I h) λ us s1 ⟨vs,H1,I1,r1,q1⟩=>?_) (cE hs) (kH (by simp[gE,hs2,hs3]))));obtain⟨i,j,e,⟨q1,q2,q3,q4⟩,q⟩:=q1;subst e;cases r1 with
 |cons r rr=>
  cases rr with
  |cons r' rr=>
   cases rr with
   |cons r'' rr=>
    cases rr;obtain⟨t,rfl⟩:=r;obtain⟨t',rfl⟩:=r';obtain⟨t'',rfl⟩:=r'';refine call_range_3 (by decide) ?_ (Or.inl (W9 (by decide+kernel)));refine wpAny_pyIter_range (IsRange.new ..) (small_down q1 q2 q3 q4) ?_;have I2:Inv X pins σ H1 {s1 with heap:=s1.heap.push {cls:= .type "range",data:= .fields #[.int i t,.int j t',.int (-1) t'']},toks:=s1.toks}:=I1.kept λ b o e=>Sh _ e;generalize({s1 with heap:=s1.heap.push {cls:= .type "range",data:= .fields #[.int i t,.int j t',.int (-1) t'']},toks:=s1.toks}:Shared)=s2 at I2⊢;refine⟨s2.heap.objs.size,[s2.heap.objs.size],_,_,H1,rfl,I2.kept (t':=s2.toks) λ b o e=>Sh _ e,E9 _ i (i-j).toNat,?_,λ b hb=>?_,q⟩
    . show IsRangeIter _ _ (i+((0:Nat):Int)*(-1)) ((((i-j).toNat:Nat):Int)-((0:Nat):Int)) (-1);have e1:i+((0:Nat):Int)*(-1)=i:=by omega
      have e2:(((i-j).toNat:Nat):Int)-((0:Nat):Int)=Builtin.Range.rangeSize i j (-1):=by rw[yk];omega
      rw[e1,e2];exact SI _ rfl
    . have e:b=s2.heap.objs.size:=by simpa using hb
      subst e;exact I2.vI (R_ _) (I2.aL.fresh (R_ _))
end
def iG(a:Int)(n:Nat):List D:=(List.range n).map λ(k:Nat)=>D.int (a+(k:Nat)*(-1))
def yE{a:Int}{n k:Nat}:(iG a n)[k]?=if k<n then some (.int (a+(k:Nat)*(-1)))else none:=by
 unfold iG;rw[SF];by_cases h:k<n
 . rw[List.getElem?_range h,Si h];rfl
 . rw[Wj (by simpa using h),Sf h];rfl
def nq{a:Int}{n:Nat}:(iG a n).length=n:=by unfold iG;simp
def JJ{α:List (Option Addr)}{G:Hp}{a:Int}{n:Nat}:vA (Nd a n) α G (λ _=>True) (iG a n) where
 stop:=λ m α' G' F' H' st' s P S o hn=>by rw[nq]at hn;exact hn
 go:=λ m d α' G' F' H' st' s P S o hn=>by
  rw[yE]at hn;split at hn
  . assumption
  . cases hn
 pF:=λ m d α' G' F' H' st' x H'' s P S o hn y=>by
  obtain⟨rfl,rfl⟩:=y;rw[yE]at hn;split at hn
  . cases hn;exact⟨G',Step.refl,P,S,by unfold Rep;rfl⟩
  . cases hn
def PX(ds:List D)(st1:ag)(K:List D->(ag->Prop)->ag->Prop):Prop:=match ds with
 | [.int i,.int j,.int c]=>(c= -1/\ -(2^62)<=i/\i<2^62/\ -(2^62)<=j/\j<2^62)/\K (iG i (i-j).toNat) (λ _=>True) st1
 |_=>False
@[irreducible] def zy:List D->ag->(List D->(ag->Prop)->ag->Prop)->Prop:=PX
def xC(t:DA):DI:=λ σ st K=>t σ st λ ds st1=>zy ds st1 K
def Eo{X:Cx}{tg iter:Expr}{t:DA}(h:PI X tg iter (IZ (LA t))):PI X tg iter (LI (xC t)):=PI.imp h λ σ H R ⟨α,σd,st,K,G,F,P,RS,S,t,k⟩=>by
 refine⟨α,σd,st,_,G,F,P,RS,S,t,λ ds st1 q α1 G1 H1 vs s1 P1 S1 r1=>?_⟩;unfold zy at q;match ds,q,r1 with
 | [.int i,.int j,.int c],q,r1=>
   obtain⟨v,u,w,rfl,r2,r3,r4⟩:=OA r1 rfl;unfold Rep at r2 r3 r4;subst r2 r3 r4;obtain⟨⟨rfl,q1⟩,q2⟩:=q;exact⟨i,j,rfl,q1,k _ _ st1 q2 _ α1 G1 H1 s1 P1 S1 JJ⟩
def KQ{st:ag}{i j:Int}{K:List D->(ag->Prop)->ag->Prop}(h: -(2^62)<=i/\i<2^62/\ -(2^62)<=j/\j<2^62)(k:K (iG i (i-j).toNat) (λ _=>True) st):zy [.int i,.int j,.int (-1)] st K:=by unfold zy;exact⟨⟨rfl,h⟩,k⟩
def Im{X:Cx}{tg a b c:Expr}{p pos:Pos}{ar:DA}(hg:Gl X "range")(hm:X.mg "range"=none)(ha:JA X [a,b,c] ar)(hs:notStar a=true:=by rfl)(hs2:notStar b=true:=by rfl)(hs3:notStar c=true:=by rfl):JI X tg (.Call (.Name "range" p) [a,b,c] [] pos) (xC ar):=by
 unfold JI;unfold JA at ha;exact Eo (Gb hg hm ha hs hs2 hs3)
section
variable {X:Cx}
end
section
variable {X:Cx}{e o i value:Expr}{es:List Expr}{te to ti:DE}{t:DA}{pos pos' tpos apos p:Pos}{C f:Addr}{fl m x:Str}{S:cY}{k:Nat}{fd:FuncData}{ps:List Str}
def E2{value o:Expr}{fl:Str}{pos':Pos}{n:Nat}{env:Env}:swapsWith value (some (.Attribute o fl pos')) n env=pure false:=by cases value<;>rfl
def dM(c:o_ X.K C)(na:gL X.K C fl)(he:JE X e te)(hb:attributeBase e fl X.env (eval e X.env)=eval e X.env:=by rfl):JE X (.Attribute e fl pos) (e_ C fl te):=by unfold JE at*;exact Pl c na he hb
def oA(c:o_ X.K C)(na:gL X.K C fl)(ho:JE X o to)(hv:JE X value te):JS X (.Assign [.Attribute o fl pos'] value pos) (pN C fl to te):=by unfold JS;unfold JE at*;exact Na c na ho hv E2
def ng{pl:Sem Bool}(he:JE X o to)(c:o_ X.K C)(hm:Meth X.K C m f)(F:bN X.prog X.w X.K X.mg X.base c5 k f fd ps (c_ S))(hr:dg k X.A)(hb:Binds X.K fd ps [])(ha:JA X (e::es) t)
 (hs:notStar e=true:=by rfl) (hs2:gE es=true:=by rfl)
 (ht:eval (.Call (.Attribute o m apos) (e::es) [] pos) X.env=(do
   let ov <-eval o X.env
   standAt apos.atName
   let(f,first) <-holding [ov] (getMethod ov m pl)
   callWith pos f first (backTo pos (starEach (e::es) X.env)) (backToKw pos (keywordEach [] X.env))):=by rfl):
 JE X (.Call (.Attribute o m apos) (e::es) [] pos) (kl C m S to t):=by
 unfold JE at*;unfold JA at ha;exact PE.imp (Lv he c hm F hr hb .nil DQ ha (cE hs) (kH hs2) ht) λ _ _ _ h=>LE.OP h
def NV(M:Mk X.K C f)(F:bN X.prog X.w X.K X.mg X.base c5 k f fd ps (c_ S))(hr:dg (k+1) X.A)(hg:Gl X x)(hmg:X.mg x=some (.ref C))(hb:Binds X.K fd ps [])(ha:JA X (e::es) t)(hdb:(x==("__debug__":Str))=false)
 (hs:notStar e=true:=by rfl) (hs2:gE es=true:=by rfl):JE X (.Call (.Name x p) (e::es) [] pos) (DU C S t):=by
 unfold JE;unfold JA at ha;exact PE.imp (Kt M F hr hg hmg hb .nil DQ ha hdb (cE hs) (kH hs2)) λ _ _ _ h=>LE.make h
end
end L3
namespace L3
open PySem PySem.Spec L2
open PyProof.Rows hiding St
def Jn(xs:Array Keyed)(i:Nat):Int:=match xs[i]? with
 |some p=>numOf p.2
 |none=>0
def oR{xs ys:Array Keyed}{i j:Nat}(h:xs[i]?=ys[j]?):Jn xs i=Jn ys j:=by unfold Jn;rw[h]
def mY{xs:Array Keyed}{i j:Nat}(hj:j<=xs.size)(k:Nat):
 K (mirror xs i j ((j-i)/2)) k=K xs (if i<=k/\k<j then i+j-1-k else k)/\Jn (mirror xs i j ((j-i)/2)) k=Jn xs (if i<=k/\k<j then i+j-1-k else k):=by
 have e:=getElem?_mirror_all (i:=i) hj k;split at e<;>rename_i h
 . rw[Si h];exact⟨K_congr e,oR e⟩
 . rw[Sf h];exact⟨K_congr e,oR e⟩
def Es{xs:Array Keyed}{src d:Nat}(hs:src<xs.size)(hd:d<=src)(k:Nat):
 K (bubble xs src d) k=K xs (if k=src-d then src else if src-d<k/\k<=src then k-1 else k)/\Jn (bubble xs src d) k=Jn xs (if k=src-d then src else if src-d<k/\k<=src then k-1 else k):=by
 have e:=getElem?_bubble hs d hd k;split at e<;>rename_i h
 . rw[Si h];exact⟨K_congr e,oR e⟩
 . rw[Sf h];split at e<;>rename_i h2
   . rw[Si h2];exact⟨K_congr e,oR e⟩
   . rw[Sf h2];exact⟨K_congr e,oR e⟩
def mZ(xs:Array Keyed)(i j:Nat):Prop:=K xs i<K xs j\/(K xs i=K xs j/\Jn xs i<Jn xs j)
def ke(xs:Array Keyed)(k:Nat):Prop:=∀i j,i<j->j<k->mZ xs i j
def jy(n:Nat)(xs:Array Keyed)(k:Nat):Prop:=∀i j,i<j->k<=j->j<n->Jn xs i<Jn xs j
def ke.to{xs:Array Keyed}{k:Nat}(h:ke xs k):SortedTo xs k:=λ i j hij hj=>by
 rcases Nat.lt_or_eq_of_le hij with e|e
 . rcases h i j e hj with q|q<;>omega
 . subst e;exact Vu _
def ke.more{xs:Array Keyed}{n k m:Nat}(h:ke xs k)(t:jy n xs k)(s:SortedTo xs m)(hm:m<=n):ke xs m:=λ i j hij hj=>by
 by_cases hk:j<k
 . exact h i j hij hk
 . have a:=s i j (Tz hij) hj;have b:=t i j hij (Ux hk) (Sw hj hm);unfold mZ;omega
def jy.up{xs:Array Keyed}{n k m:Nat}(t:jy n xs k)(h:k<=m):jy n xs m:=λ i j a b c=>t i j a (Se h b) c
def jy.mix{xs ys:Array Keyed}{n k:Nat}(t:jy n xs k)(f:Nat->Nat)(hf:∀i,Jn ys i=Jn xs (f i))(h1:∀i,i<k->f i<k)(h2:∀i,k<=i->f i=i):jy n ys k:=λ i j a b c=>by
 rw[hf,hf,h2 j b];refine t _ _ ?_ b c;by_cases hi:i<k
 . exact Sw (h1 i hi) b
 . rw[h2 i (Ux hi)];exact a
section
variable {prog:Program}{w:World}{A:Around}{E:Value->Shared->Prop}{s:Shared}{a₀:Array Keyed}
def Fs{st:SortSt}{ok:Nat}{Q:Bool->SortSt->Prop}(h0:IntKeys a₀)(h1:1<=ok)(aL:ok<=a₀.size)(hB:SBase a₀ st)(hs:ke (arrOf st) ok)(ht:jy a₀.size (arrOf st) ok)
 (h:∀st',SBase a₀ st'->ke (arrOf st') a₀.size->Q true st'):wpS (model prog w) A E s (binarySort' 0 a₀.size ok) Q st:=by
 rw[binarySort'_eq];simp only[VA]
 refine TK (wpS_mono (Wy (I:=λ k c q=>c=(none,())/\SBase a₀ q/\k<=a₀.size/\ke (arrOf q) k/\jy a₀.size (arrOf q) k)
  (Q:=λ c q=>c=(none,())/\SBase a₀ q/\ke (arrOf q) a₀.size) ?st ?en ?be) ?po)
 case po=>rintro c q ⟨rfl,b1,b2⟩;exact Ur (h q b1 b2)
 case be=>rw[show max ok 1=ok by omega];exact⟨rfl,hB,aL,hs,ht⟩
 case en=>
  rintro c q ⟨rfl,b1,b2,b3,_⟩;rw[show max (max ok 1) a₀.size=a₀.size by omega]at b3;exact⟨rfl,b1,b3⟩
 case st=>
  rintro k c q hk1 hk2 ⟨rfl,qB,_,qS,qT⟩
  refine TK (wpS_mono (Wy (I:=λ x c q'=>q'=q/\∃l r,c=(none,l,r)/\l<=r/\r<=k/\r-l<=k-x/\(∀i,i<l->K (arrOf q) i<=K (arrOf q) k)/\(∀i,r<=i->i<k->K (arrOf q) k<K (arrOf q) i))
   (Q:=λ c q'=>q'=q/\∃l,c=(none,l,l)/\l<=k/\(∀i,i<l->K (arrOf q) i<=K (arrOf q) k)/\(∀i,l<=i->i<k->K (arrOf q) k<K (arrOf q) i)) ?a ?b ?c) ?d)
  case c=>exact⟨rfl,0,k,rfl,by omega,by omega,by omega,λ i hi=>by omega,λ i x y=>by omega⟩
  case b=>
   rintro c q' ⟨rfl,l,r,rfl,e1,e2,e3,e4,e5⟩;have:r=l:=by omega
   subst this;exact⟨rfl,r,rfl,e2,e4,e5⟩
  case a=>
   rintro x c q' _ hx ⟨rfl,l,r,rfl,e1,e2,e3,e4,e5⟩;dsimp only;by_cases hlr:l>=r
   . rw[Si hlr];have:r=l:=by omega
     subst this;exact Ur ⟨rfl,r,rfl,e2,e4,e5⟩
   . rw[Sf hlr];refine TK (wpS_ltK qB h0 hk2 (by omega) ?_);have so:=qS.to;by_cases hl:K (arrOf q') k<K (arrOf q') ((l+r)/2)
     . simp only[hl,Xu,UU];exact Ur ⟨rfl,l,(l+r)/2,rfl,by omega,by omega,by omega,e4,λ i x y=>Int.lt_of_lt_of_le hl (so _ _ x y)⟩
     . simp only[hl,Xb,TM,Uw];refine Ur ⟨rfl,(l+r)/2+1,r,rfl,by omega,by omega,by omega,λ i x=>?_,e5⟩;have:=so i ((l+r)/2) (by omega) (by omega);omega
  case d=>
   rintro c q' ⟨rfl,l,rfl,hlk,e4,e5⟩;show wpS _ _ _ _ (do moveDown' k l;pure (ForInStep.yield (none,()))) _ _;rw[moveDown'_eq];have hks:k<(arrOf q').size:=by rw[qB.size];exact hk2
   have bb:=Es (xs:=arrOf q') hks (show k-l<=k by omega);rw[show k-(k-l)=l by omega]at bb;refine TK (wpS_modify (Ur ⟨rfl,qB.setArr (bubble_perm _ _ _),by omega,λ i j hij hj=>?_,jy.mix (qT.up (Vs k)) _ (λ i=>(bb i).2) (λ i hi=>?_) (λ i hi=>?_)⟩))
   . show mZ (bubble (arrOf q') k (k-l)) i j;unfold mZ;rw[(bb i).1,(bb i).2,(bb j).1,(bb j).2];by_cases hil:i<l
     . rw[Sf (show¬i=l by omega),Sf (show¬(l<i/\i<=k) by omega)];by_cases hjl:j=l
       . rw[Si hjl];have x:=e4 i hil;have y:=qT i k (by omega) (R_ _) hk2;omega
       . rw[Sf hjl];by_cases hj2:l<j/\j<=k
         . rw[Si hj2];exact qS i (j-1) (by omega) (by omega)
         . rw[Sf hj2];exact qS i j hij (by omega)
     . by_cases hie:i=l
       . rw[Si hie,Sf (show¬j=l by omega),Si (show l<j/\j<=k by omega)];exact .inl (e5 _ (by omega) (by omega))
       . rw[Sf hie,Si (show l<i/\i<=k by omega),Sf (show¬j=l by omega),Si (show l<j/\j<=k by omega)];exact qS _ _ (by omega) (by omega)
   . show(if i=l then k else if l<i/\i<=k then i-1 else i)<k+1;split
     . omega
     . split<;>omega
   . show(if i=l then k else if l<i/\i<=k then i-1 else i)=i;rw[Sf (by omega),Sf (by omega)]
def yU(xs:Array Keyed)(m q:Nat):Prop:=q+1<=m/\∀i j,i<j->j<m->(m<=i+(q+1)->K xs i=K xs j/\Jn xs i<Jn xs j)/\(i+(q+1)<m->(m<=j+(q+1)->K xs j<K xs i)/\mZ xs j i)
def yU.all{xs:Array Keyed}{m q:Nat}(h:yU xs m q)(hm:m<=xs.size):(q=0\/0<q)/\∀i j,i<j->j<m->mZ (mirror xs (m-(q+1)) m ((m-(m-(q+1)))/2)) j i:=by
 refine⟨by omega,λ i j hij hj=>?_⟩;have b:=mY (i:=m-(q+1)) (j:=m) hm;unfold mZ;rw[(b i).1,(b i).2,(b j).1,(b j).2];by_cases hi:m-(q+1)<=i/\i<m
 . rw[Si hi,Si (show m-(q+1)<=j/\j<m by omega)];have:=(h.2 (m-(q+1)+m-1-j) (m-(q+1)+m-1-i) (by omega) (by omega)).1 (by omega);omega
 . rw[Sf hi];by_cases hj2:m-(q+1)<=j/\j<m
   . rw[Si hj2];have:=((h.2 i (m-(q+1)+m-1-j) (by omega) (by omega)).2 (by omega)).1 (by omega);omega
   . rw[Sf hj2];exact((h.2 i j hij hj).2 (by omega)).2
def yU.zero{xs:Array Keyed}{m:Nat}(h:yU xs m 0):∀i j,i<j->j<m->mZ xs j i:=λ i j hij hj=>((h.2 i j hij hj).2 (by omega)).2
def nW{n:Nat}{xs:Array Keyed}{i j k:Nat}(t:jy n xs k)(hj:j<=xs.size)(hk:j<=k):jy n (mirror xs i j ((j-i)/2)) k:=
 t.mix _ (λ a=>(mY hj a).2) (λ a ha=>by split<;>omega) λ a ha=>by rw[Sf (by omega)]
def E3{st:SortSt}{n:Nat}{Q:DescSt->SortSt->Prop}(h0:IntKeys a₀)(hn:n<=a₀.size)(hB:SBase a₀ st)(hs:yU (arrOf st) n 0)(ht:jy a₀.size (arrOf st) n)
 (h:∀m q st',SBase a₀ st'->n<=m->m<=a₀.size->yU (arrOf st') m q->jy a₀.size (arrOf st') m->Q (none,m,q) st'):
 wpS (model prog w) A E s (descLoop n a₀.size) Q st:=by
 unfold descLoop;refine Wy (I:=λ x c st'=>∃q,c=(none,x,q)/\SBase a₀ st'/\yU (arrOf st') x q/\jy a₀.size (arrOf st') x) ?st ?en ⟨0,rfl,hB,hs,ht⟩
 case en=>
  rintro c st' ⟨q,rfl,b1,b2,b3⟩;rw[show max n a₀.size=a₀.size by omega]at b2 b3⊢;exact h _ q st' b1 hn (R_ _) b2 b3
 case st=>
  rintro x c st' hx1 hx2 ⟨q,rfl,b1,b2,b3⟩;dsimp only;have hq:=b2.1;have hsz:x<=(arrOf st').size:=by rw[b1.size];omega
  refine TK (wpS_ltK b1 h0 hx2 (by omega) ?_);by_cases hl:K (arrOf st') x<K (arrOf st') (x-1)
  . simp only[hl,Xu,UU];by_cases hq0:q>0
    . rw[Si hq0];have al:=(b2.all hsz).2;have km:=mY (i:=x-(q+1)) (j:=x) hsz;refine TK (Xv (Ur ⟨0,rfl,b1.setArr (Xw _ _ _ _),⟨by omega,λ i j hij hj=>⟨λ hh=>by omega,λ hh=>⟨λ hj2=>?_,?_⟩⟩⟩,(nW b3 hsz (R_ _)).up (Vs x)⟩))
      . have hjx:j=x:=by omega
        subst hjx;show K (mirror (arrOf st') _ _ _) j<K (mirror (arrOf st') _ _ _) i;rw[(km i).1,(km j).1,Sf (show¬(j-(q+1)<=j/\j<j) by omega)]
        have key:∀t,t<j->K (arrOf st') (j-1)<=K (arrOf st') t:=λ t ht=>by
         by_cases e:t=j-1
         . rw[e];exact Vu _
         . have z:=b2.2 t (j-1) (by omega) (by omega);by_cases g:j<=t+(q+1)
           . have:=(z.1 g).1;omega
           . have:=(z.2 (by omega)).2;unfold mZ at this;omega
        split
        . have:=key (j-(q+1)+j-1-i) (by omega);omega
        . have:=key i hij;omega
      . show mZ (mirror (arrOf st') _ _ _) j i;by_cases hjx:j<x
        . exact al i j hij hjx
        . have hjx:j=x:=by omega
          subst hjx;refine .inl ?_;rw[(km i).1,(km j).1,Sf (show¬(j-(q+1)<=j/\j<j) by omega)]
          have key:∀t,t<j->K (arrOf st') (j-1)<=K (arrOf st') t:=λ t ht=>by
           by_cases e:t=j-1
           . rw[e];exact Vu _
           . have z:=b2.2 t (j-1) (by omega) (by omega);by_cases g:j<=t+(q+1)
             . have:=(z.1 g).1;omega
             . have:=(z.2 (by omega)).2;unfold mZ at this;omega
          split
          . have:=key (j-(q+1)+j-1-i) (by omega);omega
          . have:=key i hij;omega
    . rw[Sf hq0];have hq0:q=0:=by omega
      subst hq0;have z0:=b2.zero
      have lx:∀i,i<x->K (arrOf st') x<K (arrOf st') i:=λ i hi=>by
       by_cases e:i=x-1
       . rw[e];exact hl
       . have:=z0 i (x-1) (by omega) (by omega);unfold mZ at this;omega
      refine Ur ⟨0,rfl,b1,⟨by omega,λ i j hij hj=>⟨λ hh=>by omega,λ hh=>⟨λ hj2=>?_,?_⟩⟩⟩,b3.up (Vs x)⟩
      . have hjx:j=x:=by omega
        subst hjx;exact lx i hij
      . by_cases hjx:j<x
        . exact z0 i j hij hjx
        . have hjx:j=x:=by omega
          subst hjx;exact .inl (lx i hij)
  . simp only[hl,Xb,TM,Uw];refine TK (wpS_ltK b1 h0 (by omega) hx2 ?_);by_cases hg:K (arrOf st') (x-1)<K (arrOf st') x
    . simp only[hg,Xu,UU];exact Ur (h x q st' b1 hx1 (by omega) b2 b3)
    . simp only[hg,Xb,TM,Uw];have he:K (arrOf st') x=K (arrOf st') (x-1):=by omega
      refine Ur ⟨q+1,rfl,b1,⟨by omega,λ i j hij hj=>⟨λ hh=>?_,λ hh=>⟨λ hj2=>?_,?_⟩⟩⟩,b3.up (Vs x)⟩
      . by_cases hjx:j<x
        . exact(b2.2 i j hij hjx).1 (by omega)
        . have hjx:j=x:=by omega
          subst hjx;refine⟨?_,b3 i j hij (R_ _) hx2⟩;rw[he];by_cases e:i=j-1
          . rw[e]
          . exact((b2.2 i (j-1) (by omega) (by omega)).1 (by omega)).1
      . by_cases hjx:j<x
        . exact((b2.2 i j hij hjx).2 (by omega)).1 (by omega)
        . have hjx:j=x:=by omega
          subst hjx;rw[he];exact((b2.2 i (j-1) (by omega) (by omega)).2 (by omega)).1 (by omega)
      . by_cases hjx:j<x
        . exact((b2.2 i j hij hjx).2 (by omega)).2
        . have hjx:j=x:=by omega
          subst hjx;refine .inl ?_;rw[he];exact((b2.2 i (j-1) (by omega) (by omega)).2 (by omega)).1 (by omega)
def yp{st:SortSt}{n:Nat}{Q:Option Nat->SortSt->Prop}(h0:IntKeys a₀)(h1:1<=n)(hn:n<=a₀.size)(hB:SBase a₀ st)(hs:∀i j,i<j->j<n->mZ (arrOf st) j i)(ht:jy a₀.size (arrOf st) n)
 (h:∀m st',SBase a₀ st'->1<=m->m<=a₀.size->ke (arrOf st') m->jy a₀.size (arrOf st') m->Q (some m) st'):wpS (model prog w) A E s (tail3 n a₀.size) Q st:=by
 unfold tail3;have hsz:n<=(arrOf st).size:=by rw[hB.size];exact hn
 refine TK (Xv ?_);have km:=mY (xs:=arrOf st) (i:=0) (j:=n) hsz
 have s1:ke (mirror (arrOf st) 0 n ((n-0)/2)) n:=λ i j hij hj=>by
  unfold mZ;rw[(km i).1,(km i).2,(km j).1,(km j).2,Si (by omega),Si (by omega)];exact hs _ _ (by omega) (by omega)
 have t1:=nW (i:=0) ht hsz (R_ _);have hB':SBase a₀ (setArr st (mirror (arrOf st) 0 n ((n-0)/2))):=hB.setArr (Xw _ _ _ _);refine TK (wpS_ascLoop h0 (R_ _) h1 hn hB' s1.to λ m m1 m2 sm _=>Ur (h m _ hB' (by omega) m2 (s1.more t1 sm m2) (t1.up m1)))
def yM{st:SortSt}{n:Nat}{Q:Option Nat->SortSt->Prop}(h0:IntKeys a₀)(hn:n+1<=a₀.size)(hB:SBase a₀ st)(hs:yU (arrOf st) (n+1) 0)(ht:jy a₀.size (arrOf st) (n+1))
 (h:∀m st',SBase a₀ st'->1<=m->m<=a₀.size->ke (arrOf st') m->jy a₀.size (arrOf st') m->Q (some m) st'):wpS (model prog w) A E s (descPart n a₀.size) Q st:=by
 unfold descPart;refine TK (wpS_lift (VC ⟨rfl,?_⟩));refine TK (E3 h0 hn hB hs ht λ m q st' b1 b2 b3 b4 b5=>?_);dsimp only;have hsz:m<=(arrOf st').size:=by rw[b1.size];exact b3
 by_cases hq:q>0
 . rw[Si hq];exact TK (Xv (yp h0 (by omega) b3 (b1.setArr (Xw _ _ _ _)) (b4.all hsz).2 (nW b5 hsz (R_ _)) h))
 . rw[Sf hq];have:q=0:=by omega
   subst this;exact yp h0 (by omega) b3 b1 b4.zero b5 h
def GB{st:SortSt}{Q:Option Nat->SortSt->Prop}(h0:IntKeys a₀)(h1:1<=a₀.size)(hB:SBase a₀ st)(ht:jy a₀.size (arrOf st) 1)
 (h:∀m st',SBase a₀ st'->1<=m->m<=a₀.size->ke (arrOf st') m->jy a₀.size (arrOf st') m->Q (some m) st'):wpS (model prog w) A E s (countRun' 0 a₀.size) Q st:=by
 rw[countRun0_eq];have s1:ke (arrOf st) 1:=λ i j hij hj=>by omega
 refine TK (wpS_ascLoop h0 (R_ _) (R_ 1) h1 hB s1.to λ n n1 n2 sn hor=>?_);dsimp only;have s2:=s1.more ht sn n2;by_cases hn:n=a₀.size
 . rw[Si (by simpa using hn)];exact Ur (h n st hB n1 n2 s2 (ht.up n1))
 . rw[Sf (by simpa using hn)];have hl:=hor.resolve_left hn;by_cases hg:n>1
   . rw[Si hg];refine TK (wpS_ltK hB h0 (by omega) (by omega) ?_);by_cases hr:K (arrOf st) 0<K (arrOf st) (n-1)
     . simp only[hr,Xu,UU];exact Ur (h n st hB n1 n2 s2 (ht.up n1))
     . simp only[hr,Xb,TM,Uw];have hsz:n<=(arrOf st).size:=by rw[hB.size];exact n2
       have eqs:∀k,k<n->K (arrOf st) k=K (arrOf st) (n-1):=λ k hk=>by
        have x:=sn 0 k (by omega) hk;have y:=sn k (n-1) (by omega) (by omega);omega
       have km:=mY (xs:=arrOf st) (i:=0) (j:=n) hsz;refine TK (Xv (yM h0 (by omega) (hB.setArr (Xw _ _ _ _)) ⟨by omega,λ i j hij hj=>⟨λ hh=>by omega,λ hh=>⟨λ hj2=>?_,?_⟩⟩⟩ (nW (ht.up (by omega)) hsz (by omega)) h))
       . have hjn:j=n:=by omega
         subst hjn;show K (mirror (arrOf st) _ _ _) j<K (mirror (arrOf st) _ _ _) i;rw[(km i).1,(km j).1,Sf (show¬(0<=j/\j<j) by omega),Si (by omega),eqs (0+j-1-i) (by omega)];exact hl
       . show mZ (mirror (arrOf st) _ _ _) j i;unfold mZ;rw[(km i).1,(km i).2,(km j).1,(km j).2,Si (show 0<=i/\i<n by omega)];by_cases hjn:j<n
         . rw[Si (by omega)];refine .inr ⟨(eqs _ (by omega)).trans (eqs _ (by omega)).symm,ht _ _ (by omega) (by omega) (by omega)⟩
         . have hjn:j=n:=by omega
           subst hjn;rw[Sf (by omega),eqs (0+j-1-i) (by omega)];exact .inl hl
   . rw[Sf hg];have hn1:n=1:=by omega
     subst hn1;refine yM h0 (by omega) hB ⟨by omega,λ i j hij hj=>⟨λ hh=>by omega,λ hh=>?_⟩⟩ (ht.up (by omega)) h;have hi0:i=0:=by omega
     have hj1:j=1:=by omega
     subst hi0;subst hj1;exact⟨λ _=>hl,.inl hl⟩
def FR{st:SortSt}{Q:Unit->SortSt->Prop}(h0:IntKeys a₀)(hB:SBase a₀ st)(ht:jy a₀.size (arrOf st) 1)(h2:2<=a₀.size)(h64:a₀.size<64)
 (h:∀st',(arrOf st').Perm a₀->failedOf st'=none->ke (arrOf st') a₀.size->Q () st'):wpS (model prog w) A E s sortRuns' Q st:=by
 rw[sortRuns'_eq];refine TK (wpS_get ?_);dsimp only
 have hmr:minRun' a₀.size a₀.size 0=a₀.size:=by
  cases e:a₀.size with
  |zero=>rw[e]at h2;omega
  |succ f=>rw[minRun'_succ,Si (by omega)]
 simp only[hB.size,hmr]
 have dn:∀ {q:SortSt},SBase a₀ q->ke (arrOf q) a₀.size->∃p,p=setPending q ((pendingOf q).push (0,a₀.size,0))/\(arrOf p).Perm a₀/\failedOf p=none/\pendingOf p= #[(0,a₀.size,0)]/\ke (arrOf p) a₀.size:=λ{q} b s=>
  ⟨_,rfl,b.perm,b.failed,by show(pendingOf q).push _=_;rw[b.pend];rfl,s⟩
 refine TK (wpS_mono (Wy
  (I:=λ x c q=>(x=0/\c=(none,0)/\q=st)\/(1<=x/\c=(none,a₀.size)/\(arrOf q).Perm a₀/\failedOf q=none/\pendingOf q= #[(0,a₀.size,0)]/\ke (arrOf q) a₀.size))
  (Q:=λ c q=>c=(none,a₀.size)/\(arrOf q).Perm a₀/\failedOf q=none/\pendingOf q= #[(0,a₀.size,0)]/\ke (arrOf q) a₀.size) ?st ?en (.inl ⟨rfl,rfl,rfl⟩)) ?po)
 case en=>
  rintro c q (⟨hx,_,_⟩|⟨_,hc,hD⟩)
  . omega
  . exact⟨hc,hD⟩
 case st=>
  rintro x c q _ hx (⟨rfl,rfl,rfl⟩|⟨_,rfl,hD⟩)
  . dsimp only;rw[Sf (by omega)];simp only[Nat.sub_zero,W_,VA];refine TK (GB h0 (by omega) hB ht λ m q2 b1 b2 b3 b4 b5=>?_);dsimp only;by_cases hm:m<a₀.size
    . rw[Si hm];refine TK (wpS_lift (VC ⟨rfl,?_⟩));refine TK (Fs h0 b2 b3 b1 b4 b5 λ q3 d1 d2=>?_);simp only[Bool.not_true,TM,Uw];refine TK (wpS_get ?_);have hb:(pendingOf q3).back?=none:=by rw[d1.pend];rfl
      rw[hb];dsimp only;obtain⟨p,rfl,z⟩:=dn d1 d2;exact TK (wpS_modify (Ur (.inr ⟨by omega,rfl,z⟩)))
    . rw[Sf hm];have hm:m=a₀.size:=by omega
      subst hm;refine TK (wpS_get ?_);have hb:(pendingOf q2).back?=none:=by rw[b1.pend];rfl
      rw[hb];dsimp only;obtain⟨p,rfl,z⟩:=dn b1 b4;exact TK (wpS_modify (Ur (.inr ⟨by omega,rfl,z⟩)))
  . dsimp only;rw[Si (R_ _)];exact Ur ⟨rfl,hD⟩
 case po=>
  rintro c q ⟨rfl,d1,d2,d3,d4⟩;dsimp only;refine TK (wpS_mono (Wy (I:=λ _ c q'=>q'=q/\c=(none,())) (Q:=λ c q'=>q'=q/\c=(none,())) ?_ (λ _ _ z=>z) ⟨rfl,rfl⟩) ?_)
  . rintro x c q' _ _ ⟨rfl,rfl⟩;refine TK (wpS_get ?_);rw[Si (by rw[d3];exact R_ 1)];exact Ur ⟨rfl,rfl⟩
  . rintro c q' ⟨rfl,rfl⟩;exact Ur (h _ d1 d2 d4)
end
end L3
namespace L2
open PySem PySem.Spec PyProof.Rows
structure Entry(K:PySem.W.Frag)(ts:List (Addr×Addr))(a:Addr)(ns:List Int)(H:Hp):Prop where
 lst:nr K H a (ns.map V.int)
 tab:∀q∈ts,H q.2=some (.kZ #[])/\q.2≠a
def yz:∀ {vs:List Value} {ns:List Int},IntsAre vs ns->Vals (ns.map V.int) vs
 |_,_,.nil=> .nil
 |_,_,.cons n t h=> .cons ⟨t,rfl⟩ (yz h)
structure MN(K:PySem.W.Frag)(ts:List (Addr×Addr))(h:Heap):Prop where
 hd:∀q∈ts,PySem.W.codeHdIn K q.1 q.2=true
 no:∀q∈ts,K.lookup q.2=none
 at':∀q∈ts,h.get? q.2=some (PySem.W.tabObj #[])
def Fh{P:Program}{w:World}{K:PySem.W.Frag}{mg mb:Str->Option Value}{k:Nat}{fa a:Addr}{fd:FuncData}{x:Str}{sp:Sp}{s₁:Shared}{vs:List Value}{ns:List Int}{ts:List (Addr×Addr)}
 (KX:K.In s₁.heap) (hns:s₁.heap.Ns mainGlobals mg) (hb:s₁.heap.Ns builtinsNs mb) (hbb:∀x:Str,x≠"__name__"->mb x=bootBuiltins x) (hlim:s₁.heap.NoLimit) (hse:s₁.heap.NoSeer) (hgt:P.given.tree=none)
 (hbm:∃bm ob,mg "__builtins__"=some (.ref bm)/\bm≠builtinsNs/\s₁.heap.get? bm=some ob/\ob.cls= .type "module"/\ob.dict=some builtinsNs/\ob.data= .plain) (hT:MN K ts s₁.heap) (hg:s₁.gens= #[])
 (ha:s₁.heap.get? a=some {cls:= .type "list",data:= .seq vs.toArray}) (hi:IntsAre vs ns) (hl:ns.length<=sizeLine) (hr:dg k callerA)
 (F:∀base:Heap,K.In base->base.Ns mainGlobals mg->bN P w K mg base (λ _ _ _ _ _ _=>False) k fa fd [x] sp) (hbind:∀(s:Shared) (u:Value),BindsTo s fd ⟨[u],[]⟩ [(x,u)])
 (hsp:∀H:Hp,Entry K ts a ns H->sp [.ref a] H (λ v _=>v= .bl true) λ _ _ _=>False):
 codeAny (model P w) callerA (.call (.ref fa) ⟨[.ref a],[]⟩) (λ r s'=>r= .ok (.ret (.bool true))/\OldK s₁.heap s'.heap/\s'.os=s₁.os/\AllBare s'.gens) s₁:=by
 have rv:=yz hi;have lenV:=hi.length
 have nta:∀q∈ts,q.2≠a:=λ q hq z=>by
  have:=hT.at' q hq;rw[z,ha]at this;cases this
 let sc:Option HO:=match K.lookup a with
  |some _=>none
  |none=>some (.g4 {cls:= .type "list",data:= .seq vs.toArray} (.lst (ns.map V.int)))
 let H:Hp:=λ b=>if b=a then sc else if b∈ts.map (·.2)then some (.kZ #[])else none
 have Ha:H a=sc:=Si rfl
 have Ht:∀q∈ts,H q.2=some (.kZ #[]):=λ q hq=>by
  show(if q.2=a then sc else if q.2∈ts.map (·.2)then some (HO.kZ #[])else none)=_;rw[Sf (nta q hq),Si (WD hq)]
 have Hs:∀b u,H b=some u->(b=a/\K.lookup a=none/\u= .g4 {cls:= .type "list",data:= .seq vs.toArray} (.lst (ns.map V.int)))\/(∃q∈ts,q.2=b/\u= .kZ #[]):=λ b u e=>by
  have e':(if b=a then sc else if b∈ts.map (·.2)then some (HO.kZ #[])else none)=some u:=e;by_cases hba:b=a
  . rw[Si hba]at e'
    have e2:(match K.lookup a with
     |some _=>none
     |none=>some (HO.g4 {cls:= .type "list",data:= .seq vs.toArray} (.lst (ns.map V.int))))=some u:=e'
    cases q:K.lookup a with
    |some o=>rw[q]at e2;cases e2
    |none=>rw[q]at e2;cases e2;exact .inl ⟨hba,rfl,rfl⟩
  . rw[Sf hba]at e';by_cases hbt:b∈ts.map (·.2)
    . rw[Si hbt]at e';cases e';obtain⟨q,hq,e⟩:=SJ.mp hbt;exact .inr ⟨q,hq,e,rfl⟩
    . rw[Sf hbt]at e';cases e'
 have aL:iQ P w H s₁.heap:=λ b u e=>by
  rcases Hs b u e with⟨rfl,_,rfl⟩|⟨q,hq,rfl,rfl⟩
  . exact⟨ha,by rw[Sb];exact hl,vs,_,rv,ha⟩
  . exact hT.at' q hq
 have hE:Entry K ts a ns H:=by
  refine⟨?_,λ q hq=>⟨Ht q hq,nta q hq⟩⟩;cases q:K.lookup a with
  |some o=>
   have e:=KX a o q;rw[ha]at e;cases e;exact .inr ⟨_,vs.toArray,_,q,rfl,rfl,rfl,by rw[Sl,lenV];exact hl,by simpa using rv⟩
  |none=>
   refine .inl (.inr ⟨{cls:= .type "list",data:= .seq vs.toArray},?_⟩);rw[Ha]
   show(match K.lookup a with
    |some _=>none
    |none=>some (HO.g4 {cls:= .type "list",data:= .seq vs.toArray} (.lst (ns.map V.int))))=_
   rw[q]
 have dictNo:∀ {b:Addr} {o:Obj},s₁.heap.get? b=some o->(∀es ep,o.data≠ .seq es ep)->o.cls≠ .none->H b=none:=λ{b o} e d1 d2=>by
  cases q:H b with
  |none=>rfl
  |some u=>
   rcases Hs b u q with⟨rfl,_,_⟩|⟨t,ht,rfl,_⟩
   . rw[ha]at e;cases e;exact absurd rfl (d1 _ _)
   . rw[hT.at' t ht]at e;cases e;exact absurd rfl d2
 have nsK:∀ {b:Addr} {m:Str->Option Value},s₁.heap.Ns b m->(qr s₁.heap H).Ns b m:=λ{b m} ⟨o,es,ep,e,d,r⟩=>by
  refine⟨o,es,ep,sj e ?_,d,r⟩;cases q:H b with
  |none=>rfl
  |some u=>
   rcases Hs b u q with⟨rfl,_,_⟩|⟨t,ht,rfl,_⟩
   . rw[ha]at e;cases e;cases d
   . rw[hT.at' t ht]at e;cases e;cases d
 have hKb:K.In (qr s₁.heap H):=λ b o e=>sj (KX b o e) (by
  cases q:H b with
  |none=>rfl
  |some u=>
   rcases Hs b u q with⟨rfl,z,_⟩|⟨t,ht,rfl,_⟩
   . rw[z]at e;cases e
   . rw[hT.no t ht]at e;cases e)
 obtain⟨bm,ob,b1,b2,b3,b4,b5,b6⟩:=hbm;have hbmK:(qr s₁.heap H).get? bm=some ob:=sj b3 (dictNo b3 (λ es ep z=>by rw[b6]at z;cases z) (λ z=>by rw[b4]at z;cases z))
 have seK:(qr s₁.heap H).NoSeer:=by
  obtain⟨⟨m1,a1,a2⟩,⟨m2,c1,c2⟩,⟨m3,d1,d2⟩,⟨mg',bm',ob',e1,e2,e3,e4,e5⟩⟩:=hse;refine⟨⟨m1,nsK a1,a2⟩,⟨m2,nsK c1,c2⟩,⟨m3,nsK d1,d2⟩,⟨mg',bm',ob',nsK e1,e2,sj e3 ?_,e4,e5⟩⟩;cases q:H bm' with
  |none=>rfl
  |some u=>
   rcases Hs bm' u q with⟨rfl,_,_⟩|⟨t,ht,rfl,_⟩
   . rw[ha]at e3;cases e3;exact absurd (show Value.type "list"=Value.type "module" from e4) (by intro z;injection z with z;exact absurd z (by decide))
   . rw[hT.at' t ht]at e3;cases e3;cases e4
 have hM:Mod K mg (qr s₁.heap H):=⟨hKb,nsK hns,⟨mb,nsK hb,hbb⟩,let⟨mc,h1,h2⟩:=hlim;⟨mc,nsK h1,h2⟩,seK,⟨bm,ob,b1,b2,hbmK,b4,b5,b6⟩⟩
 have e0:vi P w K mg (qr s₁.heap H) callerA [] s₁ H:=⟨rfl,hM,λ b o e=>JV e,Wq (EZ _ _),trivial,λ b hb=>absurd (show b∈([]:List Addr)from hb) (by simp),aL,.of_eq hg,hgt⟩
 refine W5 ((F _ hKb (nsK hns)).run callerA [] s₁ H ⟨[.ref a],[]⟩ [.ref a] [.ref a] _ _ hr e0 (hbind s₁ (.ref a)) (.cons rfl .nil) (hsp H hE)) λ r s' h=>?_;cases r with
 |error e=>exact False.elim h
 |ok fl=>
  cases fl with
  |next=>exact False.elim h
  |brk=>exact False.elim h
  |cont=>exact False.elim h
  |ret u=>
   obtain⟨v,H',os,bare,un,hok',r',q⟩:=h;have q':v= .bl true:=q;subst q';obtain rfl:u=Value.bool true:=r';have noF:∀b:Addr,b∉qK ([]:List Env):=λ b z=>absurd (show b∈([]:List Addr)from z) (by simp);refine⟨rfl,⟨λ b o e=>?_,λ b o e=>un.there b o e (by simp)⟩,os,bare⟩;cases q:H b with
   |none=>exact .inl (un.keep b o e q (noF b) (by simp))
   |some u=>
    rcases Hs b u q with⟨rfl,_,rfl⟩|⟨t,ht,rfl,rfl⟩
    . obtain⟨e2,_⟩:=hok' b _ (un.o7 b _ _ q);rw[ha]at e;cases e;exact .inl e2
    . obtain⟨more,e1⟩:=un.o3 _ _ q;have e2:s'.heap.get? t.2=some {cls:= .none,data:= .fields (#[]++more)}:=hok' _ _ e1;have e3:=hT.at' t ht;rw[e3]at e;cases e;have C:PySem.W.CodeHd s₁.heap t.1 t.2:=PySem.W.codeHd_of_K KX (hT.hd t ht);exact .inr (.inl ⟨(C.tab e3).isCodeTable,rfl,#[],more,rfl,e2⟩)
def Ph{l:PySem.W.OpenLaw}{n k:Nat}{q:Program}{loose:List Str}{XP:(Str->Option Value)->Heap->Prop}{YP:World->Heap->Prop}{d:DefRec}{K:Params->PySem.W.Frag}{sp:World->Sp}{x:Str}{ts:List (Addr×Addr)}
 (hn:l.most=some n) (hn2:n<=sizeLine) (hdf:d.params.defaults=[]) (hr:dg k callerA) (hq:importsNone q=true) (hgt:l.prog.given.tree=none)
 (hY:∀(w:World) (h:Heap),YP w h->(K w.params).In h/\MN (K w.params) ts h)
 (F:∀(w:World) (mg:Str->Option Value) (fa:Addr) (h:Heap),(K w.params).In h->h.Ns mainGlobals mg->mg d.name=some (.ref fa)->
   ∃fd:FuncData,(∀(s:Shared) (u:Value),BindsTo s fd ⟨[u],[]⟩ [(x,u)])/\
    ∀base:Heap,(K w.params).In base->base.Ns mainGlobals mg->bN l.prog w (K w.params) mg base (λ _ _ _ _ _ _=>False) k fa fd [x] (sp w))
 (hsp:∀(w:World) (H:Hp) (a:Addr) (ns:List Int),ns.length<=n->Entry (K w.params) ts a ns H->sp w [.ref a] H (λ v _=>v= .bl true) λ _ _ _=>False):
 PySem.W.WalkO q loose XP YP l.row.toRowW d [] (λ f vs=>PySem.call f vs):=by
 refine Att.BO hn hdf λ w s₀ s₁ mg mb fa o pm cd doc a vs ns G Y ho hd hcd hmg hobj hints hlen hg=>?_;obtain⟨KX,hT⟩:=hY w _ Y;obtain⟨fd,hb,hF⟩:=F w mg fa _ KX G.T.g hmg;exact Fh KX G.T.g G.T.b G.T.builtins G.T.nolimit (G.T.seer hq) hgt G.T.bmain hT hg hobj hints (Se hlen hn2) hr hF hb λ H hE=>hsp w H a ns hlen hE
end L2
namespace L3
open PySem PySem.Spec L2
open PyProof.Rows hiding St
section
variable {X:Cx}{pins:List (Addr×Obj)}{σ:L2.St}{H:Hp}{s:Shared}{p:Addr}{o o':Obj}{h':Heap}
def mv{t':Nat}(I:Inv X pins σ H s)(hd:∀v,o.data≠ .cell v)(hfr:o.isFreed=false:=by rfl):Inv X (pins++[(s.heap.objs.size,o)]) σ H {s with heap:=s.heap.push o,toks:=t'}:=by
 have I':=I.kept (h':=s.heap.push o) (t':=t') (λ b u e=>Sh _ e);refine I'.uM λ q hq=>?_;rcases SE.mp hq with hq|hq
 . exact I'.pin q (So _ hq)
 . have e:q=(s.heap.objs.size,o):=by simpa using hq
   subst e;exact⟨SI _ hfr,I.aL.fresh (R_ _),Vc I.lt,I.NI (R_ _),hd⟩
def gq(I:Inv X (pins++[(p,o)]) σ H s):s.heap.get? p=some o/\H p=none/\p≠X.env.locals/\p∉X.fs/\∀v,o.data≠ .cell v:=
 I.pin (p,o) (So _ (So _ (Te.mpr rfl)))
def zT(I:Inv X (pins++[(p,o)]) σ H s):∀x c,X.env.cells.lookup x=some c->c≠p:=λ x c e z=>by
 obtain⟨v,u,hu,hd⟩:=I.cell x c e;obtain⟨h1,_,_,_,h5⟩:=gq I;rw[z,h1]at hu;cases hu;exact h5 v hd
def ph{t':Nat}(I:Inv X (pins++[(p,o)]) σ H s)(hs:Heap.SameBut p s.heap h')(hn:h'.get? p=some o')(hd:∀v,o'.data≠ .cell v)(h0:X.s₀.heap.objs.size<=p)(hp:∀q∈X.pn++pins,q.1≠p):
 Inv X (pins++[(p,o')]) σ H {s with heap:=h',toks:=t'}:=by
 obtain⟨_,n,neL,nfs,_⟩:=gq I;have I0:Inv X pins σ H s:=I.ix;have I1:=I0.turned (t':=t') (h':=h') (it:=p) (λ b u hb e=>(hs.2 b hb).trans e) n neL (.inr h0) (zT I) hp;refine I1.uM λ q hq=>?_;rcases SE.mp hq with hq|hq
 . exact I1.pin q (So _ hq)
 . have e:q=(p,o'):=by simpa using hq
   subst e;exact⟨hn,n,neL,nfs,hd⟩
def Fu{u:HO}(I:Inv X (pins++[(p,o)]) σ H s)(h0:X.s₀.heap.objs.size<=p)(hp:∀q∈X.pn++pins,q.1≠p)(new:d7 X.prog X.w (upd H p u) s.heap p u):Inv X pins σ (upd H p u) s:=by
 obtain⟨e0,n,neL,nfs,_⟩:=gq I;have ne:∀ {b:Addr} {w:HO},H b=some w->b≠p:=λ e=>d_ e n;have ne0:∀ {b:Addr} {w:Obj},X.s₀.heap.get? b=some w->b≠p:=λ e=>SW (Sw (Su e) h0);refine⟨I.ok,I.os,I.bare,⟨I.base.keep,I.base.slot,λ b w e q hx=>?_,I.base.there,λ b xs e=>?_,λ b w y e=>?_,λ b ps e=>?_⟩,I.loc,I.cell,?_,λ x c e=>?_,λ q hq=>?_,λ b w e=>?_,I.len⟩
 . rw[aA (ne0 e)];exact I.base.free b w e q hx
 . have:=I.base.qm b xs e;rw[aA (ne this)];exact this
 . have:=I.base.o7 b w y e;rw[aA (ne this)];exact this
 . obtain⟨m,q⟩:=I.base.o3 b ps e;exact⟨m,by rw[aA (ne q)];exact q⟩
 . rw[aA (Sq neL)];exact I.free
 . rw[aA (zT I x c e)];exact I.jh x c e
 . have hq':q∈X.pn++(pins++[(p,o)]):=by
    rcases SE.mp hq with z|z
    . exact SS _ z
    . exact So _ (SS _ z)
   obtain⟨a1,a2,a3⟩:=I.pin q hq';exact⟨a1,by rw[aA (hp q hq)];exact a2,a3⟩
 . by_cases hb:b=p
   . subst hb;rw[a6]at e;cases e;exact new
   . rw[aA hb]at e;exact(I.aL b w e).l9 (λ _ _ _ q=>q) (λ c q=>by rw[aA (ne q)];exact q) λ c xs q=>by rw[aA (ne q)];exact q
end
def nK(X:Cx)(pins:List (Addr×Obj))(σ:L2.St)(R:Hp->Prop)(own:List (Addr×Obj))(s:Shared):Prop:=∃H,Inv X (pins++own) σ H s/\R H
section
variable {X:Cx}{pins:List (Addr×Obj)}{σ:L2.St}{R:Hp->Prop}{s:Shared}{A:Around}{E:Value->Shared->Prop}{a kS:Addr}{e1 e:Nat}{keys:Array Value}{P:PySem.Fin->Shared->Prop}
structure Own(X:Cx)(pins:List (Addr×Obj))(p:Addr):Prop where
 ge:X.s₀.heap.objs.size<=p
 ne:∀q∈X.pn++pins,q.1≠p
def uA{H:Hp}(I:Inv X pins σ H s):Own X pins s.heap.objs.size:=⟨I.sz,λ q hq=>SW (Su (I.pin q hq).1)⟩
def AB{p:Addr}{q:Addr×Obj}(h:Own X pins p)(hq:q.1≠p):Own X (pins++[q]) p:=⟨h.ge,λ r hr=>by
 rcases SE.mp hr with z|z
 . exact h.ne r (SS _ z)
 . rcases SE.mp z with z|z
   . exact h.ne r (So _ z)
   . have e:r=q:=by simpa using z
     rw[e];exact hq⟩
def Au{x y:Addr×Obj}(J:nK X pins σ R [x,y] s):∃H,Inv X ((pins++[x])++[y]) σ H s/\R H:=by
 obtain⟨H,I,r⟩:=J;exact⟨H,by rw[UZ];exact I,r⟩
def Gk{x y:Addr×Obj}{H:Hp}(I:Inv X ((pins++[x])++[y]) σ H s)(r:R H):nK X pins σ R [x,y] s:=⟨H,by rw[UZ]at I;exact I,r⟩
def Af{st:SortSt}(J:nK X pins σ R [(a,seqObj "list" #[] e1),(kS,seqObj "list" keys e)] s)(ha:Own X pins a)(hk:Own X pins kS)(hka:kS≠a)(hz1:keys.size<=sizeLine)(hz2:(arrOf st).size<=sizeLine)(hf:failedOf st=none)
 (h:∀s' c,nK X pins σ R [(a,seqObj "list" ((arrOf st).map (·.2)) c)] s'->P (.done (.ret .none)) s'):
 wpAny (model X.prog X.w) A (PyProof.Rows.ksk_tail a false e1 (.ref kS) st) P E s:=by
 obtain⟨H,I,r⟩:=Au J;have k1:=(gq I).1;have s1:=Uu s.heap kS (Obj.mapSeq λ _=>(#[]:Array Value));have I1:=ph (t':=s.toks) I s1 (VN k1 λ _=> #[]) (λ v z=>by cases z) hk.ge (AB hk hka.symm).ne;have I2:Inv X (pins++[(a,seqObj "list" #[] e1)]) σ H {s with heap:=s.heap.update kS (Obj.mapSeq λ _=>(#[]:Array Value)),toks:=s.toks}:=I1.ix;have a1:=(gq I2).1;have s2:=Uu (s.heap.update kS (Obj.mapSeq λ _=>(#[]:Array Value))) a (Obj.mapSeq λ _=>(arrOf st).map (·.2));have I3:=ph (t':=s.toks) I2 s2 (VN a1 λ _=>(arrOf st).map (·.2)) (λ v z=>by cases z) ha.ge ha.ne;unfold ksk_tail;simp only[TM,Uw];refine Sa (WU k1 rfl ?_ hz1 (SM _));refine Sa (Xs ?_);refine Sa (seqEpoch_at a1 rfl ?_);refine Sa (WU a1 rfl ?_ (SM _) (Nat.le_succ_of_le (by rw[Array.size_map];exact hz2)));rw[hf];simp only[bne_self_eq_false,TM,Uw];exact Sn (h _ _ ⟨H,I3,r⟩)
def En(kz:List Int)(vs out:List Value):Prop:=
 ∃ps:List (Int×Value),ps.Perm (kz.zip vs)/\out=ps.map Prod.snd/\ps.Pairwise λ p q=>p.1<q.1\/(p.1=q.1/\numOf p.2<numOf q.2)
def Co{kz:List Int}{vs:List Value}(hk:IntsAre keys.toList kz){xs:Array Keyed}(hp:xs.Perm (keys.zip vs.toArray))(hs:ke xs xs.size):En kz vs (xs.map (·.2)).toList:=by
 have hl:xs.toList.Perm (keys.toList.zip vs):=by rw[<-ksk_zip];exact Array.perm_iff_toList_perm.mp hp
 refine⟨xs.toList.map λ p=>(numOf p.1,p.2),?_,?_,?_⟩
 . have e2:(keys.toList.zip vs).map (λ p:Keyed=>(numOf p.1,p.2))=kz.zip vs:=by
    rw[<-hk.nums,List.zip_map_left];exact Ue λ⟨x,y⟩ _=>rfl
   rw[<-e2];exact hl.map _
 . rw[Array.toList_map,Ta];rfl
 . rw[W3];intro i j hi hj hij;have hi':i<xs.size:=by simpa using hi
   have hj':j<xs.size:=by simpa using hj
   have q:=hs i j hij hj';unfold mZ Jn at q;rw[K_eq hi',K_eq hj',getElem?_pos xs i hi',getElem?_pos xs j hj']at q;simpa using q
def Ls{kz:List Int}{vs:List Value}(J:nK X pins σ R [(a,seqObj "list" #[] e1),(kS,seqObj "list" keys e)] s)(ha:Own X pins a)(hk:Own X pins kS)(hka:kS≠a)(hi:IntsAre keys.toList kz)(hl:kz.length=vs.length)(h64:vs.length<64)
 (hup:vs.Pairwise λ x y=>numOf x<numOf y)
 (h:∀s' out c,nK X pins σ R [(a,seqObj "list" out c)] s'->En kz vs out.toList->P (.done (.ret .none)) s'):
 wpAny (model X.prog X.w) A (ksk_end a false vs.toArray e1 (.ref kS) keys) P E s:=by
 have hsz:keys.size=vs.length:=by have:=hi.length;rw[T5]at this;omega
 have hzs:(keys.zip vs.toArray).size=vs.length:=by rw[Array.size_zip,hsz,Sl,W_]
 have hbig:vs.length<=sizeLine:=Se (Tz h64) (by decide)
 have hta:jy (keys.zip vs.toArray).size (keys.zip vs.toArray) 1:=λ i j hij _ hj=>by
  rw[hzs]at hj
  have e1:(keys.zip vs.toArray)[i]?=some (keys.toList[i]'(by rw[T5];omega),vs[i]'(by omega)):=by
   rw[<-Wi,ksk_zip,Sm (by rw[Xi,T5];omega),List.getElem_zip]
  have e2:(keys.zip vs.toArray)[j]?=some (keys.toList[j]'(by rw[T5];omega),vs[j]'(by omega)):=by
   rw[<-Wi,ksk_zip,Sm (by rw[Xi,T5];omega),List.getElem_zip]
  unfold Jn;rw[e1,e2];exact W3.mp hup i j (by omega) (by omega) hij
 unfold ksk_end;simp only[TM,Uw];by_cases h2:vs.toArray.size<2
 . rw[Si h2,Si h2];refine Sa (Sn ?_);rw[StateT.run_pure];refine Sa (Sn ?_);refine Af (st:=SortSt.mk' general' (keys.zip vs.toArray) #[] 7 none) J ha hk hka (by omega) (by show(keys.zip vs.toArray).size<=_;omega) rfl λ s' c J'=>h s' _ c J' ?_;refine Co hi (Array.Perm.refl _) λ i j hij hj=>?_;have hj':j<(keys.zip vs.toArray).size:=hj;rw[Sl]at h2;omega
 . rw[Sf h2,Sf h2];rw[Sl]at h2;rw[ksk_kind hi (by omega)];refine Sa (Sn ?_)
   refine Sa (Uv (FR (a₀:=keys.zip vs.toArray) (st:=SortSt.mk' oneType' (keys.zip vs.toArray) #[] 7 none)
    (Q:=λ _ st'=>(arrOf st').Perm (keys.zip vs.toArray)/\failedOf st'=none/\ke (arrOf st') (keys.zip vs.toArray).size)
    (ksk_intKeys hi) ⟨Array.Perm.refl _,rfl,rfl,rfl⟩ hta (by omega) (by omega) λ st' b1 b2 b3=>⟨b1,b2,b3⟩) ?_ λ _ _ z=>z)
   rintro⟨⟨⟩,st'⟩ s' ⟨rfl,hp,hf,hs⟩;have hz2:=hp.size_eq;refine Af (st:=st') J ha hk hka (by omega) (by rw[hz2];omega) hf λ s' c J'=>h s' _ c J' (Co hi hp (by rw[hz2];exact hs))
def G9{f:Value}{kz:List Int}{vs:List Value}(J:nK X pins σ R [(a,seqObj "list" #[] e1),(kS,seqObj "list" #[] 0)] s)(ha:Own X pins a)(hk:Own X pins kS)(hka:kS≠a)(hl:kz.length=vs.length)(h64:vs.length<64)
 (hup:vs.Pairwise λ x y=>numOf x<numOf y)
 (turn:∀(i:Nat) (v:Value) (k:Int),vs[i]?=some v->kz[i]?=some k->∀(own:List (Addr×Obj)) (s:Shared),nK X pins σ R own s->wpAny (model X.prog X.w) A (call f [v]) (λ u s'=>(∃t,u= .int k t)/\nK X pins σ R own s') (λ _ _=>False) s)
 (h:∀s' out c,nK X pins σ R [(a,seqObj "list" out c)] s'->En kz vs out.toList->P (.done (.ret .none)) s'):
 wpAny (model X.prog X.w) A (ksk_rest a f false vs.toArray e1 (.ref kS)) P E s:=by
 have hbig:vs.length<=sizeLine:=Se (Tz h64) (by decide);unfold ksk_rest;refine Sa (VC ?_)
 first
  |rw[List.forIn_toArray]
  |(rw[<-Array.forIn_toList];simp only[List.toList_toArray])
  |rw[<-Array.forIn_toList]
 refine Sa (ksk_fold (λ i s'=>∃kA e,nK X pins σ R [(a,seqObj "list" #[] e1),(kS,seqObj "list" kA e)] s'/\IntsAre kA.toList (kz.take i)) vs 0 s ⟨#[],0,J,by simpa using IntsAre.nil⟩ ?st ?en)
 case st=>
  rintro j x s' hx ⟨kA,e,J',hk'⟩;simp only[VA]at hk'⊢;have hj:j<vs.length:=(Sg.mp hx).1;have hkj:kz[j]?=some (kz[j]'(by omega)):=Sm _
  have hz:kA.size<=vs.length:=by
   have:=hk'.length;rw[T5,Tr]at this;omega
  refine Sa (WT (Uv (turn j x _ hx hkj _ s' J') (λ v s2 he=>?_) λ _ _ z=>z.elim));obtain⟨⟨t,rfl⟩,J2⟩:=he;obtain⟨H,I,r⟩:=Au J2;have k1:=(gq I).1;have s1:=Uu s2.heap kS (Obj.mapSeq (·.push (.int (kz[j]'(by omega)) t)));have I1:=ph (t':=s2.toks) I s1 (VN k1 (·.push (.int (kz[j]'(by omega)) t))) (λ v z=>by cases z) hk.ge (AB hk hka.symm).ne;refine Sa (WU k1 rfl ?_ (by omega) (Se (Wq (Array.size_push ..)) (by omega)));refine Sn ⟨rfl,_,_,Gk I1 r,?_⟩;have ek:kz.take (j+1)=kz.take j++[kz[j]'(by omega)]:=by rw[List.take_add_one,hkj];simp
  rw[ek,Array.toList_push];exact ksk_snoc hk'
 case en=>
  rintro s' ⟨kA,e,J',hk'⟩;rw[show kz.take (0+vs.length)=kz from Vv (by omega)]at hk';obtain⟨H,I,r⟩:=Au J';refine Sa (listItems_at (gq I).1 rfl ?_);exact Ls J' ha hk hka hk' hl h64 hup h
def D3{f:Addr}{l:Addr}{kz:List Int}{vs:List Value}{H:Hp}{Q:Value->Shared->Prop}(I:Inv X pins σ H s)(r:R H)(hli:s.heap.IsList l vs.toArray)(hl:kz.length=vs.length)(h64:vs.length<64)
 (hup:vs.Pairwise λ x y=>numOf x<numOf y)
 (turn:∀(i:Nat) (v:Value) (k:Int),vs[i]?=some v->kz[i]?=some k->∀(own:List (Addr×Obj)) (s:Shared),nK X pins σ R own s->wpAny (model X.prog X.w) A.in1.in1 (call (.ref f) [v]) (λ u s'=>(∃t,u= .int k t)/\nK X pins σ R own s') (λ _ _=>False) s)
 (h:∀D s' out c,Own X pins D->nK X pins σ R [(D,seqObj "list" out c)] s'->En kz vs out.toList->Q (.ref D) s'):
 wpAny (model X.prog X.w) A (call (.builtin "sorted") [.ref l] [(Str.ofString "key",.ref f)]) Q E s:=by
 have hbig:vs.length<=sizeLine:=Se (Tz h64) (by decide);refine call_function_entry_kw kind_sorted plain_sorted entry_sorted (ksk_s1 _ _) ?_;unfold Builtin.«sorted»;refine Sa (m:=checkCount "sorted" 1 1 _) (Sn ?_);refine Sa (collect_list hli ?_ hbig);have I1:=mv (o:=seqObj "list" #[] 0) (t':=s.toks) I (λ v z=>by cases z);have s1:=Uu (s.heap.push (seqObj "list" #[] 0)) s.heap.objs.size (Obj.mapSeq (· ++vs.toArray));have I2:=ph (t':=s.toks) I1 s1 (VN (gq I1).1 (· ++vs.toArray)) (λ v z=>by cases z) (uA I).ge (uA I).ne;have I3:Inv X pins σ H {s with heap:=(s.heap.push (seqObj "list" #[] 0)).update s.heap.objs.size (Obj.mapSeq (· ++vs.toArray)),toks:=s.toks}:=I2.ix;refine Sa (XI ?_ hbig);generalize hs3:({s with heap:=(s.heap.push (seqObj "list" #[] 0)).update s.heap.objs.size (Obj.mapSeq (· ++vs.toArray))}:Shared)=s3;have I3':Inv X pins σ H s3:=by rw[<-hs3];exact I3
 have oD:=uA I3';have I4:=mv (o:=seqObj "list" vs.toArray 0) (t':=s3.toks) I3' (λ v z=>by cases z);have hD:=(gq I4).1;refine Sa (Vi (wpAny_call_entry_kw slot_list_sort ⟨_,hD,rfl⟩ entry_list_sort ?body (ksk_l1 _ _)))
 case body=>
  show wpAny (model X.prog X.w) A.in1.in1 (Builtin.«list.sort» ⟨[.ref s3.heap.objs.size],[(Str.ofString "key",.ref f)]⟩) _ _ _;rw[ksk_t1];unfold ksk_tree;refine Sa (listItems_at hD rfl ?_);have s5:=Uu (s3.heap.push (seqObj "list" vs.toArray 0)) s3.heap.objs.size (Obj.mapSeq λ _=>(#[]:Array Value));have I5:=ph (t':=s3.toks) I4 s5 (VN hD λ _=> #[]) (λ v z=>by cases z) oD.ge oD.ne;have hD5:=(gq I5).1;refine Sa (WU hD rfl ?_ (by rw[Sl];exact hbig) (SM _));refine Sa (seqEpoch_at hD5 rfl ?_);refine Sa (wpAny_newTuple ?_ (by show vs.length<=_;exact hbig));have I6:=(mv (o:=seqObj "tuple" vs.toArray 0) (t':=s3.toks) I5 (λ v z=>by cases z)).ix;refine Sa (XI ?_ (SM _));have ok:=uA I6;have I7:=mv (o:=seqObj "list" #[] 0) (t':=s3.toks) I6 (λ v z=>by cases z);refine Vi ?_
  have okp:Own X pins _:=⟨ok.ge,λ q hq=>ok.ne q (by
   rcases SE.mp hq with z|z
   . exact SS _ z
   . exact So _ (SS _ z))⟩
  refine G9 (Gk I7 r) oD okp (λ z=>ok.ne (s3.heap.objs.size,_) (So _ (So _ (Te.mpr rfl))) z.symm) hl h64 hup turn λ s' out c J' so=>⟨_,rfl,?_⟩
  exact Sn ⟨_,rfl,h _ s' out c oD J' so⟩
end
structure oh(X:Cx)(scope:Scope)(Nc:List Str)(fr:List (Option Nat))(p:Str):Prop where
 sc:aW X scope Nc fr
 F7:∀x∈scope.names,x.2≠ .cell
 co:scope.isCoroutine=false
 gen:scope.isGenerator=false
 p0:Nc[0]?=some p
 f0:fr[0]?=some none
 loc:scope.names.lookup p=some .local
abbrev D0(X:Cx)(scope:Scope)(qual:Str)(f c:Addr)(s:Shared):Env:=PySem.W.envX qual scope s.heap.objs.size f (.ref c) (dW X.env.cells scope.names [])
def FE(X:Cx)(scope:Scope)(Nc:List Str)(qual:Str)(f c:Addr)(s:Shared)(H:Hp):Cx:=
 {X with A:=X.A.in1.in1.deeper (D0 X scope qual f c s),N:=Nc,s₀:=s,H₀:=H,env:=D0 X scope qual f c s,outer:=X.stack,stack:=D0 X scope qual f c s::X.stack,ex:=[],fn:=λ _=>false,calm:=true,pn:=[],xe:=λ _ _=>False}
section
variable {X:Cx}{scope:Scope}{Nc:List Str}{fr:List (Option Nat)}{p qual:Str}{f c:Addr}{pins:List (Addr×Obj)}{σ:L2.St}{H:Hp}{s:Shared}
def NM(S:oh X scope Nc fr p)(I:Inv X pins σ H s)(hc:X.calm=true):(FE X scope Nc qual f c s H).Ok where
 mod:=I.ok.mod
 kind:=S.sc.kind
 glob:=rfl
 blt:=rfl
 above:=R_ _
 inj:=λ x y a h1 h2=>I.ok.inj x y a (dw _ [] (λ _ _ e=>by cases e) x a h1) (dw _ [] (λ _ _ e=>by cases e) y a h2)
 has:=λ x hx=>by
  have hx':scope.names.lookup x=some .cell\/scope.names.lookup x=some .free:=hx;rcases hx' with hx|hx
  . exact absurd rfl (S.F7 _ (To hx))
  . exact jq scope.names [] (I.ok.has x (S.sc.free _ (To hx) rfl)) (.inl (To hx))
 Ao:=λ x a hf _=>by cases hf
 hd:=λ _=>I.ok.hd hc
 frames:=Around.frames_deeper (by show X.A.frames=_;exact I.ok.frames)
 Cd:= .inr ⟨rfl,rfl⟩
 GG:=λ b hb=>by cases hb
 bs:=I.bs
 tQ:=Se I.ok.tQ I.sz
 vL:=λ b o e hb=>by cases hb
 vq:=λ b hb=>by cases hb
 lI:=I.stack
 xj:=I.xQ
 gt:=I.ok.gt
def Ky{h':Heap}{t':Nat}{v:V}{u:Value}(S:oh X scope Nc fr p)(I:Inv X pins σ H s)(hc:X.calm=true)(r:RelV v u)(hn:h'.Ns s.heap.objs.size (λ x=>[(p,u)].reverse.lookup x))
 (k:∀b o,s.heap.get? b=some o->h'.get? b=some o):Inv (FE X scope Nc qual f c s H) [] ((σC fr σ).set 0 (some v)) H {s with heap:=h',toks:=t'} where
 ok:=NM S I hc
 os:=rfl
 bare:=I.bare
 base:=Un.kept k
 loc:=⟨_,hn,λ i x w h1 h2 h3=>by
  by_cases hi:i=0
  . subst hi;have hp:=S.p0;have e:p=x:=Tq (hp.symm.trans h1);subst e
    have hl:0<(σC fr σ).length:=by
     have:=(Sg.mp h2).1;rw[SO]at this;exact this
    rw[Sy hl]at h2;cases h2;exact⟨u,r,.inl ⟨S.loc,by simp⟩⟩
  . rw[Sj (Sq hi)]at h2;obtain⟨j,q1,q2⟩:=CI h2;obtain⟨n1,n2,n3⟩:=S.sc.map i j x h1 q1;obtain⟨m,hm,hl⟩:=I.loc;obtain⟨u',r',lk⟩:=hl j x w n1 q2 (n3.elim (λ z=> .inr (.inl z)) λ z=> .inr (.inr z));refine⟨u',r',?_⟩;rcases lk with⟨z,_⟩|⟨_,a,e,ic⟩
    . rcases n3 with y|y<;>(rw[y]at z;cases z)
    . obtain⟨a',e'⟩:=jq scope.names [] ⟨a,e⟩ (.inl (To n2));have e2:=dw _ [] (λ _ _ e=>by cases e) x a' e';rw[e]at e2;cases e2;exact .inr ⟨.inr n2,a,e',ic.keeps k⟩⟩
 cell:=λ x a h=>by
  obtain⟨v,q⟩:=I.cell x a (dw _ [] (λ _ _ e=>by cases e) x a h);exact⟨v,q.keeps k⟩
 free:=I.aL.fresh (R_ _)
 jh:=λ x a h=>I.jh x a (dw _ [] (λ _ _ e=>by cases e) x a h)
 pin:=λ q hq=>by cases hq
 aL:=I.aL.kept k
 len:=by rw[SO];unfold σC;rw[Sb];exact S.sc.len
def HV{R:Hp->Prop}{params:Arguments}{body:Expr}{tb:TE}{own:List (Addr×Obj)}{k:Int}{v:V}{u pm ctv:Value}(S:oh X scope Nc fr p)(hc:X.calm=true)(hr:X.A.depth<recursionLimit)
 (hb:∀(s:Shared) (H:Hp),PE (FE X scope Nc qual f c s H) body tb)
 (hbind:∀(cl:List (Str×Addr)) (pm cd ct v:Value),bindArgs (PySem.W.kla_fn "<lambda>" qual params body scope cl pm cd ct) ⟨[v],[]⟩=pure [(p,v)])
 (r:RelV v u) (hf:(f,PySem.W.kla_obj "<lambda>" qual params body scope (dW X.env.cells scope.names []) pm c ctv)∈pins)
 (hcr:∀(H:Hp) (s:Shared),Inv X (pins++own) σ H s->R H->s.heap.CodeRec (.ref c) qual)
 (hq:∀H,R H->tb ((σC fr σ).set 0 (some v)) H λ x H'=>x= .int k/\R H') (J:nK X pins σ R own s):
 wpAny (model X.prog X.w) X.A.in1.in1 (call (.ref f) [u]) (λ u' s'=>(∃t,u'= .int k t)/\nK X pins σ R own s') (λ _ _=>False) s:=by
 obtain⟨H,I,rH⟩:=J;have ho:=(I.pin _ (So _ (SS _ hf))).1;refine wpAny_call (PySem.W.kla_callFunE (fd:=PySem.W.kla_fn "<lambda>" qual params body scope (dW X.env.cells scope.names []) pm (.ref c) ctv) (by show X.A.depth<_;exact hr) ho rfl S.co S.gen rfl (hcr H s I rH) ?_);rw[hbind]
 refine Sn (wpAny_newFunctionEnv S.F7 (λ y hy=>by
  have e:y=(p,u):=by simpa using hy
  rw[e];exact S.loc) (λ h₁ hns hsb=>?_) S.sc.kind)
 have hk:∀b o,s.heap.get? b=some o->h₁.get? b=some o:=λ b o e=>hsb.extBut b o (SW (Su e)) (Sh _ e);refine⟨I.nolimit.keeps hk,?_⟩;show codeAny _ X.A.in1.in1 (.expr body (D0 X scope qual f c s)) _ _;refine PySem.W.kla_codeExpr (Uv (hb s H [] _ _ H _ (Ky S I hc r hns hk) (hq H rH)) (λ w s' he=>?_) λ e s' z=>False.elim z);obtain⟨x,H',I',rx,rfl,rH'⟩:=he;exact⟨rx,H',I.Di (s':=s') (ch:=[]) I'.os I'.base I'.aL I'.bare (λ b z=>absurd z (by simp)),rH'⟩
def set_same{α:Type}:∀ {l:List α} {n:Nat} {x:α},l[n]?=some x->l.set n x=l
 | [],n,x,h=>by simp at h
 |a::l,0,x,h=>by simp at h;subst h;rfl
 |a::l,n+1,x,h=>by
  rw[List.set_cons_succ,set_same (n:=n) (by simpa using h)]
def HH{params:Arguments}{body:Expr}{lpos:Pos}{c0 T:Addr}{α:List (Option Addr)}{G F:Hp}{st:ag}{n0:Nat}{b:Bool}{E:Value->Shared->Prop}{Q:Value->Shared->Prop}(S:oh X scope Nc fr p)(hcode:X.env.code= .ref c0)(hC:PySem.W.codeHdIn X.K c0 T=true)
 (hdef:defaultsOf params X.env=([],[])) (hql:X.env.qual++"<lambda>"=qual) (I:Inv X pins σ H s) (Sp:cO G F H) (SR:aX α st G) (hn0:st[n0]?=some (.tab T lpos qual b))
 (h:∀(f c:Addr) (ctv pm:Value) (G2 H2:Hp) (s2:Shared),Inv X (pins++[(f,PySem.W.kla_obj "<lambda>" qual params body scope (dW X.env.cells scope.names []) pm c ctv)]) σ H2 s2->Step α G α G2->cO G2 F H2->aX α (st.set n0 (.tab T lpos qual true)) G2->
   (some c∉α/\∃o vs t,G2 c=some (.g4 o (.own c))/\o.data= .fields vs/\vs[1]?=some (.str qual t))->Q (.ref f) s2):
 wpAny (model X.prog X.w) X.A (eval (.Lambda params body scope lpos) X.env) Q E s:=by
 refine PySem.W.kla_eval hdef ?_;rw[hql];rcases SR.at' n0 _ hn0 with⟨z,_⟩|⟨a,ha,rfl,ps,gP,tr,cs⟩
 . cases z
 have hP:=I.aL a _ (Sp.get gP);have hP:s.heap.get? a=some (PySem.W.tabObj ps):=hP;have hg:s.heap.Ns mainGlobals X.mg:=I.mod.glob.keeps I.bk;obtain⟨bm,ob,b1,b2,b3,b4,b5,b6⟩:=I.mod.bmain;have b3':=I.bk _ _ b3
 have hgP:mainGlobals≠a:=λ q=>by
  obtain⟨o,es,ep,e,hd,_⟩:=hg;rw[q,hP]at e;cases e;cases hd
 have n1:bm≠mainGlobals:=λ q=>by
  obtain⟨o,es,ep,e,hd,_⟩:=hg;rw[q,e]at b3';cases b3';rw[hd]at b6;cases b6
 have n2:bm≠a:=λ q=>by rw[q,hP]at b3';cases b3';cases b4
 have hB:s.heap.BuiltinsAt X.mg a:=⟨bm,ob,b1,b2,n1,n2,b3',b4,b5,b6⟩
 have hcl:closureFor scope X.env=pure (dW X.env.cells scope.names []):=nC λ x hx hk=>I.ok.has x.1 (S.sc.free x hx hk);have C:PySem.W.CodeHd s.heap c0 a:=PySem.W.codeHd_of_K I.iw hC;rcases cs with⟨rfl,hnf⟩|⟨rfl,c,o,vs,t,q1,q2,q3,q4,q5⟩
 . refine PySem.W.kla_makeFunction hcl I.ok.glob hg hcode C hP tr hnf hgP hB λ c' ctv h' tk hx hge hlt hrec htb=>?_;obtain⟨c2,oc,vs,t,e2,hoc,hd,hv⟩:=hrec;cases e2;have hHc:H c'=none:=I.aL.fresh hge;have hGc:G c'=none:=(Sp.none hHc).1;have hHa:H a=some (.kZ ps):=Sp.get gP;have hac:a≠c':=d_ hHa hHc
   let ps':=ps++ #[rawInt lpos.line,rawInt lpos.col,.ref c']
   have nb:∀ {b:Addr},H b=none->b≠a:=λ e z=>by rw[z,hHa]at e;cases e
   have I1:Inv X pins σ (upd (upd H c' (.g4 oc (.own c'))) a (.kZ ps')) {s with heap:=h',gens:=s.gens,drawn:=s.drawn,toks:=tk}:=by
    have old:∀ {b:Addr} {u:HO},H b=some u->b≠a->upd (upd H c' (.g4 oc (.own c'))) a (.kZ ps') b=some u:=λ e n=>by rw[aA n,aA (d_ e hHc)];exact e
    refine I.step (ch:=[]) (λ _ z=>nomatch z) (λ b o _ _ _ e n=>hx b o (nb n) e) (λ b o _ _ _ e n=>⟨o.slots,hx b o (nb n) e⟩) (λ b o _ e n=>?_) (λ b o _ e=>?_) (λ b xs e=>?_) (λ b o u e=>?_) (λ b qs e=>?_) (λ m hm=>?_) (λ b u e=>?_) I.bare
    . rw[aA (nb n),aA (SW (Sw (Su e) hge))];exact n
    . by_cases hb:b=a
      . exact⟨_,by rw[hb];exact htb⟩
      . exact⟨o,hx b o hb e⟩
    . exact old e λ z=>by rw[z,hHa]at e;cases e
    . exact old e λ z=>by rw[z,hHa]at e;cases e
    . by_cases hb:b=a
      . subst hb;rw[hHa]at e;cases e;exact⟨_,a6⟩
      . exact⟨#[],by rw[old e hb];simp⟩
    . obtain⟨o,es,ep,ho,r⟩:=hm;exact⟨o,es,ep,hx _ o (nb I.free) ho,r⟩
    . by_cases hb:b=a
      . subst hb;rw[a6]at e;cases e;exact htb
      . rw[aA hb]at e;by_cases hbc:b=c'
        . subst hbc;rw[a6]at e;cases e;exact⟨hoc,_,hoc⟩
        . rw[aA hbc]at e;refine(I.aL b u e).l9 (λ d w hd q=>hx d w ?_ q) (λ d q=>old q λ z=>by rw[z,hHa]at q;cases q) λ d xs q=>old q λ z=>by rw[z,hHa]at q;cases q
          rcases hd with rfl|hd
          . exact hb
          . intro z;rw[z,hHa]at hd;cases hd
   have I2:=mv (o:=PySem.W.kla_obj "<lambda>" qual params body scope (dW X.env.cells scope.names []) ((X.mg "__name__").getD .none) c' ctv) (t':=tk) I1 (λ v z=>by cases z);have gP':upd G c' (.g4 oc (.own c')) a=some (.kZ ps):=by rw[aA hac];exact gP
   refine h _ c' ctv _ (upd (upd G c' (.g4 oc (.own c'))) a (.kZ ps')) _ _ I2 ((Step.laid hGc).trans (Step.write (S8 ha))) ((Sp.laid hHc).write gP') ((SR.laid hGc).write ha ⟨rfl,ps',a6,?_,.inr ⟨rfl,c',oc,vs,t,?_,SR.ll hGc,?_,hd,hv⟩⟩) ⟨SR.ll hGc,oc,vs,t,?_,hd,hv⟩
   . show TriplesOk (ps++ #[rawInt lpos.line,rawInt lpos.col,.ref c']).toList;rw[Array.toList_append];exact TriplesOk_snoc _ _ _ _ tr
   . show codeAmong lpos (ps++ #[rawInt lpos.line,rawInt lpos.col,.ref c']).toList=_;rw[Array.toList_append];exact codeAmong_snoc _ tr hnf
   . rw[aA hac.symm,a6]
   . rw[aA hac.symm,a6]
 . refine PySem.W.kla_makeFunctionHit hcl I.ok.glob hg hcode C hP tr q1 hB λ ctv h' tk hk hsz=>?_;have I1:=I.kept (t':=tk) hk;have I2:=mv (o:=PySem.W.kla_obj "<lambda>" qual params body scope (dW X.env.cells scope.names []) ((X.mg "__name__").getD .none) c ctv) (t':=tk) I1 (λ v z=>by cases z);refine h _ c ctv _ G H _ I2 Step.refl Sp (by rw[set_same hn0];exact SR) ⟨q2,o,vs,t,q3,q4,q5⟩
end
def slt(p q:Int×Int):Prop:=p.1<q.1\/(p.1=q.1/\p.2<q.2)
def Bi(n0:Nat)(T:Addr)(lpos:Pos)(qual:Str)(fr:List (Option Nat))(tb te:DE):DE:=λ σ st K=>te σ st λ d st1=>∃(ns ks:List Int) (b:Bool),d= .lst (ns.map .int)/\ns.length<64/\ns.Pairwise (· < ·)/\ks.length=ns.length/\
 st1[n0]?=some (.tab T lpos qual b)/\(∀(i:Nat) (n k:Int),ns[i]?=some n->ks[i]?=some k->tb ((h8 fr σ).set 0 (some (.int n))) (st1.set n0 (.tab T lpos qual true)) λ v st2=>v= .int k/\st2=st1.set n0 (.tab T lpos qual true))/\
 ∀os:List (Int×Int),os.Perm (ks.zip ns)->os.Pairwise slt->K (.lst (os.map λ p=> .int p.2)) (st1.set n0 (.tab T lpos qual true))
def Bz{α:List (Option Addr)}{H:Hp}:∀ {ns:List Int} {vs:List V},aN α H (ns.map D.int) vs->vs=ns.map V.int
 | [],vs,h=>by unfold aN at h;exact h
 |n::ns,vs,h=>by
  unfold aN at h;obtain⟨v,r,rfl,h1,h2⟩:=h;unfold Rep at h1;rw[h1,Bz h2];rfl
def zW{α:List (Option Addr)}{H:Hp}:∀(ns:List Int),aN α H (ns.map D.int) (ns.map V.int)
 | []=>by unfold aN;rfl
 |n::ns=>by unfold aN;exact⟨_,_,rfl,by unfold Rep;rfl,zW ns⟩
def Ah:∀ {ns:List Int} {us:List Value},Vals (ns.map V.int) us->IntsAre us ns
 | [],_,.nil=> .nil
 |n::ns,_,.cons ⟨t,rfl⟩ h=> .cons n t (Ah h)
section
variable {X:Cx}{scope:Scope}{Nc:List Str}{fr:List (Option Nat)}{p x qual:Str}{params:Arguments}{e body:Expr}{te tb:DE}{lpos kpos pos ppos:Pos}{c0 T:Addr}{n0:Nat}
def KS(S:oh X scope Nc fr p)(hc:X.calm=true)(hr:dg 2 X.A)(hcode:X.env.code= .ref c0)(hC:PySem.W.codeHdIn X.K c0 T=true)(hdef:defaultsOf params X.env=([],[]))(hql:X.env.qual++"<lambda>"=qual)
 (hbind:∀(cl:List (Str×Addr)) (pm cd ct v:Value),bindArgs (PySem.W.kla_fn "<lambda>" qual params body scope cl pm cd ct) ⟨[v],[]⟩=pure [(p,v)])
 (hb:∀(f c:Addr) (s:Shared) (H:Hp),PE (FE X scope Nc qual f c s H) body (LE tb)) (ha:PA X [e] (LA (af te ak)))
 (hg:Gl X "sorted") (hm:X.mg "sorted"=none) (hv:bootBuiltins "sorted"=some (.builtin "sorted"))
 (he:backTo pos (starEach [e] X.env)=(false,eval e X.env)::backTo pos (starEach [] X.env):=by rfl) (hpl:(backTo pos (starEach [e] X.env)).any (·.1)=false:=by rfl):
 PE X (.Call (.Name "sorted" ppos) [e] [⟨some "key",.Lambda params body scope lpos,kpos⟩] pos) (LE (Bi n0 T lpos qual fr tb te)):=by
 intro pins s σ H Q I h;obtain⟨α,σd,st,K,G,F,Sp,RS,SR,t,k⟩:=h;refine Vk (lq I hg hm hv ?_);refine callWith_kw ?_ he hpl
 let K1:DK:=λ d st1=>∃(ns ks:List Int) (b:Bool),d= .lst (ns.map .int)/\ns.length<64/\ns.Pairwise (· < ·)/\ks.length=ns.length/\
  st1[n0]?=some (.tab T lpos qual b)/\(∀(i:Nat) (n k:Int),ns[i]?=some n->ks[i]?=some k->tb ((h8 fr σd).set 0 (some (.int n))) (st1.set n0 (.tab T lpos qual true)) λ v st2=>v= .int k/\st2=st1.set n0 (.tab T lpos qual true))/\
  ∀os:List (Int×Int),os.Perm (ks.zip ns)->os.Pairwise slt->K (.lst (os.map λ p=> .int p.2)) (st1.set n0 (.tab T lpos qual true))
 refine cJ (ha pos pins s σ H (λ vs H1=>∃d v st1 α1 G1,vs=[v]/\K1 d st1/\Step α G α1 G1/\cO G1 F H1/\aX α1 st1 G1/\Rep α1 G1 d v) I
  ⟨α,σd,st,λ ds st1=>match ds with| [d]=>K1 d st1|_=>False,G,F,Sp,RS,SR,t,λ ds st1 q α1 G1 H1 vs s1 P1 S1 r1=>?_⟩) λ us s1 ⟨vs,H1,I1,rv,d,v,st1,α1,G1,hvs,kd,s1',P1,S1,r1⟩=>?_
 . match ds,q,r1 with
   | [d],q,r1=>
     unfold aN at r1;obtain⟨v,r,rfl,h1,h2⟩:=r1;unfold aN at h2;subst h2;exact⟨d,v,st1,α1,G1,rfl,q,s1,P1,S1,h1⟩
 subst hvs;obtain⟨ns,ks,b,rfl,h64,hup,hlen,hn0,hkey,hK⟩:=kd;show wpAny _ _ (evalAll ((do let v <-eval (.Lambda params body scope lpos) X.env;standAt pos;pure v)::[])) _ _ s1;refine wpAny_evalAll_cons (Sa (HH S hcode hC hdef hql I1 P1 S1 hn0 λ f c ctv pm G2 H2 s2 I2 st2 P2 S2 ⟨hc1,o,vs,tq,hc2,hc3,hc4⟩=>Sa (Wd (Sn (wpAny_evalAll_nil ?_)))));have r2:=r1.step st2;unfold Rep at r2;obtain⟨l,xs,rfl,hl1,hl2,hl3⟩:=r2;have exs:=Bz hl3;subst exs;cases rv with
 |cons ru rn=>
  cases rn;cases ru
  have hrd:Rd H2 l (.lst (ns.map V.int)):=by
   rcases hl2 with z|⟨w,z⟩
   . exact .inl (P2.get z)
   . exact .inr ⟨w,P2.get z⟩
  obtain⟨_,ao,nn,vv,hobj⟩:=hrd.ok I2.aL;have hints:=Ah vv;have hlen2:=hints.length;have key:∀(H':Hp),(∃α' G',Step α1 G2 α' G'/\cO G' F H'/\aX α' (st1.set n0 (.tab T lpos qual true)) G')->H' c=some (.g4 o (.own c)):=λ H' ⟨α',G',q1,q2,q3⟩=>q2.get (q1.ext c _ hc1 hc2);show wpAny _ _ (call (.builtin "sorted") [.ref l] [(Str.ofString "key",.ref f)]) _ _ _
  refine D3 (X:=X) (pins:=pins++[(f,PySem.W.kla_obj "<lambda>" qual params body scope (dW X.env.cells scope.names []) pm c ctv)]) (R:=λ H'=>∃α' G',Step α1 G2 α' G'/\cO G' F H'/\aX α' (st1.set n0 (.tab T lpos qual true)) G') (kz:=ks) (vs:=ao)
   I2 ⟨α1,G2,Step.refl,P2,S2⟩ ⟨_,hobj,rfl,nn,rfl⟩ (by omega) (by omega) ?_ (λ i u kk hu hk own s' J=>?_) λ D s' out cc oD J so=>?_
  . rw[<-V6,hints.nums];exact hup
  . have hi:i<ns.length:=by
     have:=(Sg.mp hu).1;omega
    obtain⟨tt,ht⟩:=hints.get i ns[i] (Sm hi);have ht:some u=some (Value.int ns[i] tt):=by rw[<-hu];exact ht
    cases ht;refine HV (v:= .int ns[i]) (u:= .int ns[i] tt) S hc (by have:=hr.dp;omega) (hb f c) hbind ⟨tt,rfl⟩ (So _ (Te.mpr rfl)) (λ H' s'' J' r'=>?_) (λ H' r'=>?_) J
    . have q:=J'.aL c _ (key H' r');exact⟨c,o,vs,tq,rfl,q.1,hc3,hc4⟩
    . obtain⟨α',G',q1,q2,q3⟩:=r';refine⟨α',(h8 fr σd).set 0 (some (.int ns[i])),_,_,G',F,q2,?_,q3,hkey i ns[i] kk (Sm hi) hk,λ d' st' hd α'' G'' H'' v' s'' P'' S'' r''=>?_⟩
      . exact((RS.step ((s1'.trans st2).trans q1)).comp).set 0 (by unfold Rep;rfl)
      . obtain⟨rfl,rfl⟩:=hd;unfold Rep at r'';exact⟨r'',α'',G'',q1.trans s'',P'',S''⟩
  . obtain⟨H',I',α',G',q1,q2,q3⟩:=J;obtain⟨ps,hp,ho,hs⟩:=so
    have hps:∀q∈ps,∃t,q.2= .int (numOf q.2) t:=λ q hq=>by
     have h1:=hp.mem_iff.mp hq;have h2:q.2∈ao:=(Wr (show(q.1,q.2)∈ks.zip ao from h1)).2;obtain⟨n,t,e⟩:=hints.all _ h2;exact⟨t,by rw[e];rfl⟩
    have hos:(ps.map λ q=>(q.1,numOf q.2)).Perm (ks.zip ns):=by
     have h1:=hp.map λ q:Int×Value=>(q.1,numOf q.2)
     have e:(ks.zip ao).map (λ q:Int×Value=>(q.1,numOf q.2))=ks.zip ns:=by
      rw[<-hints.nums,List.zip_map_right];exact Ue λ⟨a,b⟩ _=>rfl
     rw[e]at h1;exact h1
    have hpw:(ps.map λ q=>(q.1,numOf q.2)).Pairwise slt:=by rw[V6];exact hs
    have kk:=hK _ hos hpw;rw[Ta]at kk;have hD0:=gq I'
    have vout:Vals ((ps.map λ q=>numOf q.2).map V.int) out.toList:=by
     rw[ho];clear hos hpw kk hs hp ho;induction ps with
     |nil=>exact .nil
     |cons q r ih=>
      obtain⟨t,e⟩:=hps q (SD ..);exact .cons ⟨t,e⟩ (ih λ z hz=>hps z (SG _ hz))
    have hlo:(ps.map λ q=>numOf q.2).length<=sizeLine:=by
     rw[Sb,hp.length_eq,Xi];exact Se (Nat.min_le_left _ _) (Se (show ks.length<=64 by omega) (by decide))
    have I3:=Fu (u:= .lst ((ps.map λ q=>numOf q.2).map V.int)) I' oD.ge oD.ne ⟨by rw[Sb];exact hlo,out.toList,cc,vout,hD0.1⟩;have hG:=(q2.none hD0.2.1).1;refine⟨.ref D,_,I3.ix,rfl,k _ _ kk α' _ _ _ ((s1'.trans st2).trans (q1.trans (Step.laid hG))) (q2.laid hD0.2.1) (q3.laid hG) ?_⟩;unfold Rep;refine⟨D,_,rfl,q3.ll hG,.inl a6,?_⟩;have e:List.map ((λ p:Int×Int=>L3.D.int p.snd)∘λ q:Int×Value=>(q.fst,numOf q.snd)) ps=(ps.map λ q=>numOf q.2).map L3.D.int:=by rw[Ta];rfl
    rw[e];exact zW _
end
end L3
namespace L3
open PySem L2
open PySem.Spec hiding items?
open PyProof.Rows hiding St
def HW(sc:Scope)(N gl:List Str):Bool:=
 N.all (λ x=>(sc.names.lookup x==some .local||sc.names.lookup x==some .cell)&&x != "__debug__"&&x != "__classdict__")&&gl.all (λ x=>sc.names.lookup x==some .globalImplicit&&x != "__debug__")
structure VS(sc:Scope)(N gl:List Str):Prop where
 ok:HW sc N gl=true
def VS.at_{sc:Scope}{N gl:List Str}(V:VS sc N gl){i:Nat}{x:Str}(h:N[i]?=some x):Loc sc x/\(x==("__debug__":Str))=false/\(x==("__classdict__":Str))=false:=by
 have o:=V.ok;unfold HW at o;have:=Tp.mp (Bool.and_eq_true_iff.mp o).1 x (S8 h);simp only[Tv,Wv,UN,W0,ne_eq]at this;exact⟨this.1.1,Xj this.1.2,Xj this.2⟩
def VS.Qq{sc:Scope}{N gl:List Str}(V:VS sc N gl){i:Nat}{x:Str}(h:gl[i]?=some x):sc.names.lookup x=some .globalImplicit/\(x==("__debug__":Str))=false:=by
 have o:=V.ok;unfold HW at o;have:=Tp.mp (Bool.and_eq_true_iff.mp o).2 x (S8 h);simp only[Tv,UN,W0,ne_eq]at this;exact⟨this.1,Xj this.2⟩
section
variable {X:Cx}{sc:Scope}{N gl:List Str}{x:Str}{pos:Pos}
def VS.nm(V:VS X.env.scope X.N gl)(i:Nat)(h:X.N[i]?=some x:=by rfl):JE X (.Name x pos) (ae i):=
 let q:=V.at_ h
 Fg q.2.1 q.2.2 (q.1.elim .inl λ z=> .inr (.inl z)) h
def VS.l(V:VS sc N gl)(i:Nat)(h:N[i]?=some x:=by rfl):Loc sc x:=(V.at_ h).1
def VS.g(V:VS sc N gl)(i:Nat)(h:gl[i]?=some x:=by rfl):sc.names.lookup x=some .globalImplicit:=(V.Qq h).1
def VS.d(V:VS sc N gl)(i:Nat)(h:gl[i]?=some x:=by rfl):(x==("__debug__":Str))=false:=(V.Qq h).2
def bK{n:Nat}(hN:X.N[n]?=some x:=by rfl)(hd:((x==("__debug__":Str))||(x==("__classdict__":Str)))=false:=by decide+kernel)
 (hv:AU X.env.scope x:=by first|exact Or.inl rfl|exact Or.inr (Or.inl rfl)|exact Or.inr (Or.inr rfl)):JE X (.Name x pos) (ae n):=
 Fg (Bool.or_eq_false_iff.mp hd).1 (Bool.or_eq_false_iff.mp hd).2 hv hN
@[irreducible] def gN:dy:=wH (λ _ j=>j≠0) λ i j=> .int (i.fdiv j)
def oz{k:Nat}(hr:dg k X.A)(hs:X.stack=X.env::X.outer)(hgen:X.env.scope.isGenerator=false)(hco:X.env.scope.isCoroutine=false):cx X (binaryOp .FloorDiv) (LR gN):=by
 unfold gN;refine lO (g':=λ i j=> .int (i.fdiv j)) (λ _ _ _ _=>by unfold Rep;rfl) ?_;intro pins s σ H x y v u Q I rx ry h;obtain⟨i,j,rfl,rfl,hc,q⟩:=h;obtain⟨t,rfl⟩:=rx;obtain⟨t',rfl⟩:=ry;refine floordiv_int hc ⟨.int (i.fdiv j),H,I.tok _,⟨_,rfl⟩,q⟩ (.inr (PySem.PylongRoom.of I.nolimit ?_ ?_))
 . have:=hr.dp;show X.A.depth+100<_;omega
 . exact PySem.SeerAt.of (env:=X.env) (l:=X.outer) (I.mod.seer.keeps I.bk) I.ok.gt (by rw[I.ok.frames,hs]) hgen hco I.ok.blt I.ok.glob
def gR{st:ag}{K:DK}{i j:Int}(h0:j≠0)(k:K (.int (i.fdiv j)) st):gN (.int i) (.int j) st K:=by unfold gN;exact⟨h0,k⟩
def oh.look{scope:Scope}{Nc:List Str}{fr:List (Option Nat)}{p:Str}(S:aW X scope Nc fr)(h:(scope.names.all (λ x=>x.2 != .cell)&&(!scope.isCoroutine&& !scope.isGenerator)&&(scope.names.lookup p==some .local))=true:=by decide+kernel)
 (p0:Nc[0]?=some p:=by rfl) (f0:fr[0]?=some none:=by rfl):oh X scope Nc fr p:=by
 simp only[Tv,Bool.not_eq_true',UN]at h;exact⟨S,λ x hx=>by simpa using Tp.mp h.1.1 x hx,h.1.2.1,h.1.2.2,p0,f0,h.2⟩
def Lz{scope:Scope}{Nc:List Str}{fr:List (Option Nat)}{p qual:Str}{params:Arguments}{e body:Expr}{te tb:DE}{lpos kpos pos ppos:Pos}{c0 T:Addr}{n0 k:Nat}(S:oh X scope Nc fr p)(hc:X.calm=true)(hr:dg k X.A)(hcode:X.env.code= .ref c0)(hC:PySem.W.codeHdIn X.K c0 T=true)
 (hb:∀(f c:Addr) (s:Shared) (H:Hp),JE (FE X scope Nc qual f c s H) body tb) (he:JE X e te) (hg:X.env.kindOf "sorted"=some .globalImplicit) (hm:X.mg "sorted"=none)
 (hdef:defaultsOf params X.env=([],[]):=by rfl) (hql:X.env.qual++"<lambda>"=qual:=by rfl)
 (hbind:∀(cl:List (Str×Addr)) (pm cd ct v:Value),bindArgs (PySem.W.kla_fn "<lambda>" qual params body scope cl pm cd ct) ⟨[v],[]⟩=pure [(p,v)]:=by(intros;rfl)) (hk:2<=k:=by decide)
 (he1:starEach [e] X.env=(false,eval e X.env)::starEach [] X.env:=by rfl):
 JE X (.Call (.Name "sorted" ppos) [e] [⟨some "key",.Lambda params body scope lpos,kpos⟩] pos) (Bi n0 T lpos qual fr tb te):=by
 unfold JE at he hb⊢;refine KS S hc (hr.mono hk) hcode hC hdef hql hbind hb (qU he t7 he1) hg hm rfl ?_ ?_
 . rw[he1];rfl
 . rw[he1];rfl
end
structure LL(K:PySem.W.Frag)(x qual:Str)(st:Stmt)(f:Addr)(fd:FuncData)(c:Addr):Prop where
 ex:∃(oc:Value) (od:Option Addr) (kV doc pm:Value) (an:Option Addr) (ct:Value) (osl:Array (Option Value)),
  fd=PySem.W.fnOf x qual (kY st) (ie st) (ai st) .none kV doc pm an (.ref c) ct/\K.lookup f=some ⟨oc,od,.func fd,osl⟩/\PySem.W.codeIn K (.ref c) qual=true
def Mp{P:Program}{w:World}{K:PySem.W.Frag}{mg:Str->Option Value}{base:Heap}{x qual:Str}{st:Stmt}{f c:Addr}{fd:FuncData}{N ps:List Str}{k:Nat}{sp:cY}{t:DS}(F:LL K x qual st f fd c)(S:aR N ps (ai st))
 (hbody:∀(A:Around) (outer:List Env) (s:Shared) (H:Hp) (E:XK),dg k (A.deeper (envOfC qual (ai st) s.heap.objs.size f (.ref c)))->JB (rL c5 P w K mg base N qual (ai st) f (.ref c) A outer s H E).wZ (ie st) t)
 (hsp:∀ds st K,sp ds st K->ds.length=ps.length/\t {nx:=λ _ st'=>K .aG st',rt:=K} (a7 N ds) st):bN P w K mg base c5 (k+1) f fd ps (c_ sp):=by
 obtain⟨oc,od,kV,doc,pm,an,ct,osl,rfl,lk,hcd⟩:=F.ex;unfold JB at hbody;refine Jf lk hcd S (λ vs H Q E h=>?_) λ A outer s H vs Q E hr h=>?_
 . obtain⟨α,ds,st,K,G,F,P,R,S,q,k⟩:=h;rw[<-R.length];exact(hsp ds st K q).1
 . obtain⟨α,ds,st,K,G,F',P,R,SR,q,k⟩:=h;refine⟨_,(hbody A outer s H E hr).wZ,α,a7 N ds,st,_,G,F',P,fu.start R,SR,(hsp ds st K q).2,?_,k,?_,?_⟩
   . intro σd' st' kk α' G' H' σ' s' P' R' S';exact k .aG st' kk α' G' H' .aG s' P' S' (by unfold Rep;rfl)
   . intro σd' st' kk;exact kk.elim
   . intro σd' st' kk;exact kk.elim
def EG(tl:List (Addr×Pos×Str)):cY:=λ ds st K=>∃ns:List Int,ds=[.lst (ns.map .int)]/\ns.length<=63/\st=tl.map (λ q=> .tab q.1 q.2.1 q.2.2 false)/\∀st',K (.bl true) st'
def GA(K:PySem.W.Frag)(ts:List (Addr×Addr)):Sp:=λ vs H Q _=>∃(a:Addr) (ns:List Int),vs=[.ref a]/\Entry K ts a ns H/\ns.length<=63/\∀H',Q (.bl true) H'
def Fv{K:PySem.W.Frag}{ts:List (Addr×Addr)}{tl:List (Addr×Pos×Str)}(nl:Gw K=true)(hts:ts.map (·.2)=tl.map (·.1))(nd:(tl.map (·.1)).Nodup){vs:List V}{H:Hp}{Q:VK}{E:XK}(h:GA K ts vs H Q E):c_ (EG tl) vs H Q E:=by
 obtain⟨a,ns,rfl,hE,hl,q⟩:=h
 have tabs:∀q∈tl,H q.1=some (.kZ #[])/\q.1≠a:=λ q hq=>by
  have h1:q.1∈ts.map (·.2):=by rw[hts];exact WD hq
  obtain⟨t,ht,e⟩:=SJ.mp h1;rw[<-e];exact hE.tab t ht
 have at_:∀(i:Nat) (x:Addr),(tl.map λ q=>some q.1)[i]?=some (some x)->∃q,tl[i]?=some q/\q.1=x:=λ i x e=>by
  rw[SF]at e;cases z:tl[i]? with
  |none=>rw[z]at e;cases e
  |some w=>rw[z]at e;simp at e;exact⟨w,rfl,e⟩
 have nota:some a∉tl.map λ q=>some q.1:=λ z=>by
  obtain⟨w,hw,e⟩:=SJ.mp z;exact(tabs w hw).2 (Tq e)
 rcases hE.lst with hS|⟨o,ao,n,e,hc,_⟩
 . refine⟨tl.map λ q=>some q.1,[.lst (ns.map .int)],tl.map (λ q=> .tab q.1 q.2.1 q.2.2 false),λ d _=>d= .bl true,H,λ _=>none,⟨λ b=>by cases H b<;>rfl,λ _ _ _=>rfl⟩,?_,⟨by simp,λ i j x e1 e2=>?_,λ n c e=>?_⟩,⟨ns,rfl,hl,rfl,λ _=>rfl⟩,?_⟩
   . unfold aN;refine⟨.ref a,[],rfl,?_,by unfold aN;rfl⟩;unfold Rep;exact⟨a,ns.map V.int,rfl,nota,hS,yB ns⟩
   . obtain⟨p,hp,e3⟩:=at_ i x e1;obtain⟨r,hr,e4⟩:=at_ j x e2;have k1:(tl.map (·.1))[i]?=some x:=by rw[SF,hp,<-e3];rfl
     have k2:(tl.map (·.1))[j]?=some x:=by rw[SF,hr,<-e4];rfl
     have hi:=(Sg.mp k1).1;exact(List.getElem?_inj hi nd).mp (k1.trans k2.symm)
   . rw[SF]at e;cases z:tl[n]? with
     |none=>rw[z]at e;cases e
     |some w=>
      rw[z]at e;have e':Cell.tab w.1 w.2.1 w.2.2 false=c:=Tq e;subst e';refine .inr ⟨w.1,by rw[SF,z];rfl,rfl,#[],(tabs w (S8 z)).1,trivial,.inl ⟨rfl,rfl⟩⟩
   . rintro d st' rfl α' G' H' v _ _ _ r;unfold Rep at r;subst r;exact q H'
 . exact absurd hc (zd nl e)
section
variable {K:PySem.W.Frag}{x qual p1 p2 p3 p4 p5:Str}{st:Stmt}{f:Addr}{fd:FuncData}
abbrev uZ(x qual:Str)(st:Stmt)(kV doc pm:Value)(an:Option Addr)(cdv ct:Value):FuncData:=PySem.W.fnOf x qual (kY st) (ie st) (ai st) .none kV doc pm an cdv ct
def gY{α:Type}{n:Nat}{us:List α}(h:us.length=n+1):∃a r,us=a::r/\r.length=n:=by
 cases us with
 |nil=>cases h
 |cons a r=>exact⟨a,r,rfl,Nat.succ.inj h⟩
def uv{α:Type}{us:List α}(h:us.length=0):us=[]:=T_.mp h
def RL(F:oV K x qual st f fd)(h:∀kV doc pm an cdv ct a,bindArgs (uZ x qual st kV doc pm an cdv ct) ⟨[a],[]⟩=pure [(p1,a)]):Binds K fd [p1] []:=
 F.binds λ kV doc pm an cdv ct us hl=>by
  obtain⟨a,r1,rfl,h1⟩:=gY hl;cases uv h1;exact h kV doc pm an cdv ct a
def Qo(F:oV K x qual st f fd)(h:∀kV doc pm an cdv ct a b,bindArgs (uZ x qual st kV doc pm an cdv ct) ⟨[a,b],[]⟩=pure [(p1,a),(p2,b)]):Binds K fd [p1,p2] []:=
 F.binds λ kV doc pm an cdv ct us hl=>by
  obtain⟨a,r1,rfl,h1⟩:=gY hl;obtain⟨b,r2,rfl,h2⟩:=gY h1;cases uv h2;exact h kV doc pm an cdv ct a b
def Qw(F:oV K x qual st f fd)(h:∀kV doc pm an cdv ct a b c,bindArgs (uZ x qual st kV doc pm an cdv ct) ⟨[a,b,c],[]⟩=pure [(p1,a),(p2,b),(p3,c)]):Binds K fd [p1,p2,p3] []:=
 F.binds λ kV doc pm an cdv ct us hl=>by
  obtain⟨a,r1,rfl,h1⟩:=gY hl;obtain⟨b,r2,rfl,h2⟩:=gY h1;obtain⟨c,r3,rfl,h3⟩:=gY h2;cases uv h3;exact h kV doc pm an cdv ct a b c
def RG(F:oV K x qual st f fd)(h:∀kV doc pm an cdv ct a b c d,bindArgs (uZ x qual st kV doc pm an cdv ct) ⟨[a,b,c,d],[]⟩=pure [(p1,a),(p2,b),(p3,c),(p4,d)]):Binds K fd [p1,p2,p3,p4] []:=
 F.binds λ kV doc pm an cdv ct us hl=>by
  obtain⟨a,r1,rfl,h1⟩:=gY hl;obtain⟨b,r2,rfl,h2⟩:=gY h1;obtain⟨c,r3,rfl,h3⟩:=gY h2;obtain⟨d,r4,rfl,h4⟩:=gY h3;cases uv h4;exact h kV doc pm an cdv ct a b c d
end
section
variable {X:Cx}
def Lo(n:Int):(n != 0)=decide (n≠0):=by
 by_cases h:n=0
 . subst h;rfl
 . rw[TF h];simpa using h
def zF:fX:=λ ds st K=>match ds with| [.tup xs]=>(match iH xs with|some ns=>K (.bl (ns.any λ n=>decide (n≠0))) st|none=>False)|_=>False
def Oi(hc:X.calm=true):cD X (.builtin "any") (gJ zF):=λ pins s σ H xs us Q I rs ⟨α,ds,st,K,G,F',P,r,S,q,k⟩=>by
 unfold zF at q;split at q
 . rename_i ys;split at q
   . rename_i ns e;obtain⟨v,rfl,r1⟩:=gw r rfl;unfold Rep at r1;obtain⟨a,vs,rfl,na,h1,h2⟩:=r1;obtain⟨u,rfl,ru⟩:=vals1 rs;cases ru;have hv:=nc h2 e;subst hv;obtain⟨ao,rv,p,hl⟩:=I.tuple (.of (P.get h1));have isT:s.heap.IsTuple a ao.toArray:=p;obtain⟨o,eo,_⟩:=id isT;refine call_any_walk (UP isT ?_);have hne:a≠s.heap.objs.size:=SW (Su eo);have hn:ao.length=ns.length:=by rw[<-rv.length,Sb]
     have hval:∀(i:Nat) (w:Value),ao.toArray[i]?=some w->∃t,w=Value.int (ns.getD i 0) t:=λ i w hw=>jE rv i w (by simpa using hw);refine⟨s.heap.objs.size,_,_,_,_,_,λ i=>decide (ns.getD i 0≠0),rfl,Walks.tuple (A:=X.A.in1) (I.ok.hd hc) _ a hne ao.toArray,⟨⟨_,SI _ rfl,rfl,rfl⟩,lZ.push (k:= .t) isT _⟩,?_,?_⟩
     . intro i w s' Q' E' hP hQ;obtain⟨t,rfl⟩:=hval i w hP;refine PyProof.Rows.truthy_int ?_;rw[Lo];exact hQ
     . intro h' tk hk
       have kp:∀b o,s.heap.get? b=some o->h'.get? b=some o:=λ b o q=>hk b o (by
        intro hb;have:b=s.heap.objs.size:=by simpa using hb
        exact absurd (Su q) (by rw[this];exact TN _)) (Sh _ q)
       have ea:(List.range ao.toArray.size).any (λ i=>decide (ns.getD i 0≠0))=ns.any λ n=>decide (n≠0):=by
        rw[Sl,hn];exact range_any ns _ _ λ i x e=>by rw[Sd,e];rfl
       rw[ea];exact⟨.bl (ns.any λ n=>decide (n≠0)),H,I.kept (t':=tk) kp,rfl,k.here P q S (by unfold Rep;rfl)⟩
   . exact q.elim
 . exact q.elim
@[irreducible] def rq:fX:=zF
def AV(hc:X.calm=true):cD X (.builtin "any") (gJ rq):=by unfold rq;exact Oi hc
end
def xR{st:ag}{K:DK}{xs:List D}{ns:List Int}(h:iH xs=some ns)(k:K (.bl (ns.any λ n=>decide (n≠0))) st):rq [.tup xs] st K:=by unfold rq zF;simp only[h];exact k
section
variable {X:Cx}
def wZ(X:Cx):Cx:={X with xe:=λ _ _=>False}
end
variable {st:ag}{K:D->ag->Prop}{i j:Int}
section
variable {X:Cx}{pos:Pos}
end
end L3
namespace L3
open PySem L2
structure ClsAt(K:PySem.W.Frag)(mg:Str->Option Value)(x:Str)(C:Addr):Prop where
 cl:o_ K C
 mg:mg x=some (.ref C)
 RK:PySem.W.makesIn K C=true
 kp:PySem.W.keepIn K (.ref C)=true
structure MethAt(K:PySem.W.Frag)(C:Addr)(m qual:Str)(st:Stmt)(ps:List Str)(f:Addr)(fd:FuncData):Prop where
 fn:oV K m qual st f fd
 me:Meth K C m f
 bd:Binds K fd ps []
end L3
namespace Hd
open PySem PySem.W L2 L3
open PySem.Spec hiding items?
open PyProof.Rows hiding St
section
variable {K:Frag}{mg:Str->Option Value}{h:Heap}{x q:Str}{st:Stmt}{f c C:Addr}{pm:Value}{p1 p2 p3 p4 p5 p6:Str}
abbrev Ed(K:Frag)(x:Str)(st:Stmt)(f:Addr)(pm:Value)(c:Addr):Prop:=(nsIn K mainGlobals x,K.lookup f,codeIn K (.ref c) x,keepIn K (.ref f))=(some (some (.ref f)),some (fq st x x pm c),true,true)
abbrev Em(K:Frag)(C:Addr)(x q:Str)(st:Stmt)(f:Addr)(pm:Value)(c:Addr):Prop:=(findIn K (.ref C) x,isFn K (.ref f),K.lookup f,codeIn K (.ref c) q,keepIn K (.ref f))=(some (some (.ref f)),true,some (fq st x q pm c),true,true)
def Ed.fn(e:Ed K x st f pm c):oV K x x st f (fd st x x pm c)/\nsIn K mainGlobals x=some (some (.ref f)):=by
 obtain⟨e1,e2,e3,e4⟩:_/\_/\_/\_:=by simpa only[XJ]using e
 exact⟨FK (st:=st) e2 e3 e4,e1⟩
def Em.fn(e:Em K C x q st f pm c):oV K x q st f (fd st x q pm c)/\Meth K C x f:=by
 obtain⟨e1,e2,e3,e4,e5⟩:_/\_/\_/\_/\_:=by simpa only[XJ]using e
 exact⟨FK (st:=st) e3 e4 e5,e1,e2,e5⟩
def qw(X:K.In h)(G:h.Ns mainGlobals mg)(e:Ed K x st f pm c)(b:∀kV doc pm an cdv ct a,bindArgs (uZ x x st kV doc pm an cdv ct) ⟨[a],[]⟩=pure [(p1,a)]):cq K mg x x st [p1] f (fd st x x pm c):=⟨e.fn.1,mg_of X G e.fn.2,RL e.fn.1 b⟩
def j5(X:K.In h)(G:h.Ns mainGlobals mg)(e:Ed K x st f pm c)(b:∀kV doc pm an cdv ct a1 a2,bindArgs (uZ x x st kV doc pm an cdv ct) ⟨[a1,a2],[]⟩=pure [(p1,a1),(p2,a2)]):cq K mg x x st [p1,p2] f (fd st x x pm c):=⟨e.fn.1,mg_of X G e.fn.2,Qo e.fn.1 b⟩
def CB(X:K.In h)(G:h.Ns mainGlobals mg)(e:Ed K x st f pm c)(b:∀kV doc pm an cdv ct a1 a2 a3,bindArgs (uZ x x st kV doc pm an cdv ct) ⟨[a1,a2,a3],[]⟩=pure [(p1,a1),(p2,a2),(p3,a3)]):cq K mg x x st [p1,p2,p3] f (fd st x x pm c):=⟨e.fn.1,mg_of X G e.fn.2,Qw e.fn.1 b⟩
def Qj(e:Em K C x q st f pm c)(b:∀kV doc pm an cdv ct a1 a2,bindArgs (uZ x q st kV doc pm an cdv ct) ⟨[a1,a2],[]⟩=pure [(p1,a1),(p2,a2)]):MethAt K C x q st [p1,p2] f (fd st x q pm c):=⟨e.fn.1,e.fn.2,Qo e.fn.1 b⟩
def JF(e:Em K C x q st f pm c)(b:∀kV doc pm an cdv ct a1 a2 a3,bindArgs (uZ x q st kV doc pm an cdv ct) ⟨[a1,a2,a3],[]⟩=pure [(p1,a1),(p2,a2),(p3,a3)]):MethAt K C x q st [p1,p2,p3] f (fd st x q pm c):=⟨e.fn.1,e.fn.2,Qw e.fn.1 b⟩
def RC(e:Em K C x q st f pm c)(b:∀kV doc pm an cdv ct a1 a2 a3 a4,bindArgs (uZ x q st kV doc pm an cdv ct) ⟨[a1,a2,a3,a4],[]⟩=pure [(p1,a1),(p2,a2),(p3,a3),(p4,a4)]):MethAt K C x q st [p1,p2,p3,p4] f (fd st x q pm c):=⟨e.fn.1,e.fn.2,RG e.fn.1 b⟩
def fc(e:(K.lookup f,codeIn K (.ref c) q)=(some (fq st x q pm c),true)):LL K x q st f (fd st x q pm c) c:=by
 obtain⟨e1,e2⟩:_/\_:=by simpa only[XJ]using e
 exact⟨_,_,_,_,_,_,_,_,rfl,e1,e2⟩
def na{a:Str}(e:findIn K (.ref C) a=some none):gL K C a:=e
end
end Hd
namespace L3
open PySem L2
open PySem.Spec hiding items?
open PyProof.Rows hiding St
section
variable {X:Cx}{pos:Pos}
end
end L3
namespace L3
open PySem L2
open PySem.Spec hiding items?
end L3
namespace L3
open PySem PySem.Spec L2
open PyProof.Rows hiding St
section
variable {X:Cx}{pos:Pos}
end
def Cm{X:Cx}{scope:Scope}{Nc:List Str}{C:Addr}{s0:Shared}{H0:Hp}{ex:List Addr}{k:Nat}(hr:dg k X.A)(hs:X.stack=X.env::X.outer)(hgen:X.env.scope.isGenerator=false)(hco:X.env.scope.isCoroutine=false):cx (fS X scope Nc C s0 H0 ex) (binaryOp .FloorDiv) (LR gN):=by
 unfold gN;refine lO (g':=λ i j=> .int (i.fdiv j)) (λ _ _ _ _=>by unfold Rep;rfl) ?_;intro pins s σ H x y v u Q I rx ry h;obtain⟨i,j,rfl,rfl,hc,q⟩:=h;obtain⟨t,rfl⟩:=rx;obtain⟨t',rfl⟩:=ry;refine floordiv_int hc ⟨.int (i.fdiv j),H,I.tok _,⟨_,rfl⟩,q⟩ (.inr (PySem.PylongRoom.of I.nolimit ?_ ?_))
 . have:=hr.dp;show X.A.depth+100<_;omega
 . exact PySem.SeerAt.of (env:=X.env) (l:=X.outer) (I.mod.seer.keeps I.bk) I.ok.gt (I.ok.frames.trans (Ui some hs)) hgen hco I.ok.blt I.ok.glob
end L3
namespace L3
open PySem L2
open PySem.Spec hiding items?
open PyProof.Rows hiding St
section
variable {X:Cx}
def Nb:V->List V->Hp->VK->Prop:=λ x vs H Q=>∃(l:Addr) (ns:List Int) (v:Int) (j:Nat),x= .ref l/\vs=[.int v]/\Rd H l (.lst (ns.map V.int))/\ns[j]?=some v/\(∀m,m<j->ns[m]?≠some v)/\Q (.int (j:Int)) H
def Ob:Nv X "list.index" Nb:=by
 intro pins s σ H x vs v us Q I rx rv h;obtain⟨l,ns,v0,j,rfl,rfl,hl,ej,hf,q⟩:=h;cases rx;obtain⟨u,rfl,ru⟩:=vals1 rv;obtain⟨t,rfl⟩:=ru;obtain⟨z,ao,n,r,hlen,e⟩:=Inv.sZ I hl;have hjn:j<ns.length:=(Sg.mp ej).1;rw[Sb]at hlen z;have hval:∀(i:Nat) (w:Value),ao[i]?=some w->∃t,w=Value.int (ns.getD i 0) t:=λ i w hw=>jE r i w hw
 have at_:∀(i:Nat) (hi:i<ao.toArray.size),isInt v0 ao.toArray[i]=(ns.getD i 0==v0):=λ i hi=>by
  have hi':i<ao.length:=by simpa using hi
  obtain⟨t,e⟩:=hval i ao[i] (Sm hi');have:ao.toArray[i]=ao[i]:=by simp
  rw[this,e];rfl
 have gd:∀i,i<ns.length->ns[i]?=some (ns.getD i 0):=λ i hi=>by rw[Sd,Sm hi];rfl
 have M:=MeetsSeq.list_index l ao.toArray n (.int v0 t) (isInt v0) (λ y hy=>eq_isInt v0 t (AD r) y (by simpa using hy)) j (by simpa using(by omega:j<ao.length)) (by have:=Uc;omega)
  (by rw[at_];have:=gd j hjn;rw[ej]at this;simpa using(Tq this).symm)
  (λ m hm hmj=>by rw[at_];have h1:=gd m (by omega);have h2:=hf m hmj;rw[h1]at h2;exact Ut.mpr λ z=>h2 (Ui some z))
 refine Vm F.slot_list_index ⟨_,e,rfl⟩ F.entry_list_index (F.args_list_index_2 _ _) M ⟨e,?_⟩;exact⟨.int (j:Int),H,I.kept (t':=s.toks+1) λ b o h=>h,⟨_,rfl⟩,q⟩
@[irreducible] def yd(to:DE)(ta:DA):DE:=λ σ st K=>to σ st λ x st1=>match x with
 | .lst xs=>ta σ st1 λ ds st2=>(match ds with| [.int v]=>∃(ns:List Int) (j:Nat),iH xs=some ns/\ns[j]?=some v/\(∀m,m<j->ns[m]?≠some v)/\K (.int (j:Int)) st2|_=>False)
 |_=>False
def LE.idx{to:DE}{ta:DA}{σ:L2.St}{H:Hp}{Q:VK}(h:LE (yd to ta) σ H Q):Ip X.K "list" Nb (LE to) (LA ta) σ H Q:=by
 obtain⟨α,σd,st,K,G,F,P,R,S,t,k⟩:=h;unfold yd at t;refine⟨α,σd,st,_,G,F,P,R,S,t,λ x st1 q α1 G1 H1 v s1 P1 S1 r1=>?_⟩;cases x<;>try exact q.elim
 rename_i xs;simp only at q;unfold Rep at r1;obtain⟨a,vs,rfl,na,h1,h2⟩:=r1;refine⟨.inl ⟨rfl,vs,.inl (fI P1 h1)⟩,α1,σd,st1,_,G1,F,P1,R.step s1,S1,q,?_⟩;rintro ds st2 q2 α2 G2 H2 ws s2 P2 S2 r2;split at q2
 . rename_i v0;obtain⟨ns,j,e1,e2,e3,q2⟩:=q2;have hv:=nc h2 e1;subst hv;obtain⟨w,rfl,r3⟩:=gw r2 rfl;unfold Rep at r3;subst r3
   have h3:Rd G2 a (.lst (ns.map V.int)):=by
    rcases h1 with h|⟨o,h⟩
    . exact .inl (s2.ext _ _ na h)
    . exact .inr ⟨o,s2.ext _ _ na h⟩
   exact⟨a,ns,v0,j,rfl,rfl,fI P2 h3,e2,e3,((k.at s1).at s2).here P2 q2 S2 (by unfold Rep;rfl)⟩
 . exact q2.elim
def Po{o e:Expr}{to te:DE}{apos cpos:Pos}(ho:JE X o to)(he:JE X e te)(hbase:attributeBase o "index" X.env (eval o X.env)=eval o X.env:=by rfl)(hline:(apos.endLine==cpos.line)=true:=by rfl)(hs:notStar e=true:=by rfl):JE X (.Call (.Attribute o "index" apos) [e] [] cpos) (yd to (af te ak)):=by
 unfold JE at*;refine PE.imp (D7 V0 PySem.F.slot_list_index PySem.F.type_list_index Ob ho (qU he t7 (cE hs)) hbase ?_ hline (cE hs) rfl) λ _ _ _ h=>LE.idx h;rw[cE hs];rfl
end
def LU(xs:List D)(K:DK):List D->ag->Prop:=λ ds st2=>match ds with
 | [.int v]=>∃(ns:List Int) (j:Nat),iH xs=some ns/\ns[j]?=some v/\(∀m,m<j->ns[m]?≠some v)/\K (.int (j:Int)) st2
 |_=>False
def J_{σ:cm}{st:ag}{K:DK}{xs:List D}{to:DE}{ta:DA}(ho:∀K',K' (.lst xs) st->to σ st K')(ha:ta σ st (LU xs K)):yd to ta σ st K:=by
 unfold yd;exact ho _ ha
def J3{st:ag}{K:DK}{xs:List D}{ns:List Int}{v:Int}(hn:iH xs=some ns)(hv:v∈ns)(k:∀j:Nat,j<ns.length->ns[j]?=some v->K (.int (j:Int)) st):LU xs K [.int v] st:=by
 have wo:∀j:Nat,ns[j]?=some v->∃j:Nat,ns[j]?=some v/\∀m,m<j->ns[m]?≠some v:=λ j=>by
  induction j using Nat.strongRecOn with
  |_ j ih=>
   intro hj;by_cases h:∃m,m<j/\ns[m]?=some v
   . obtain⟨m,h1,h2⟩:=h;exact ih m h1 h2
   . exact⟨j,hj,λ m hm z=>h ⟨m,hm,z⟩⟩
 obtain⟨i,hi,e⟩:=SV.mp hv;obtain⟨j,h1,h2⟩:=wo i (by rw[Sm hi,e]);exact⟨ns,j,hn,h1,h2,k j (Sg.mp h1).1 h1⟩
end L3
namespace Mx
def S:Nat->(Nat->Int)->Int
 |0,_=>0
 |n+1,f=>S n f+f n
def ax{n:Nat}{f g:Nat->Int}(h:∀i,i<n->f i=g i):S n f=S n g:=by
 induction n with
 |zero=>rfl
 |succ n ih=>unfold S;rw[ih λ i hi=>h i (by omega),h n (by omega)]
def gn{n:Nat}{f:Nat->Int}(h:∀i,i<n->f i=0):S n f=0:=by
 induction n with
 |zero=>rfl
 |succ n ih=>unfold S;rw[ih λ i hi=>h i (by omega),h n (by omega)];rfl
def f_(n:Nat)(f g:Nat->Int):S n (λ i=>f i+g i)=S n f+S n g:=by
 induction n with
 |zero=>rfl
 |succ n ih=>unfold S;rw[ih];dsimp only;omega
def fj(n:Nat)(c:Int)(f:Nat->Int):S n (λ i=>c*f i)=c*S n f:=by
 induction n with
 |zero=>unfold S;rw[SX]
 |succ n ih=>unfold S;rw[ih,Int.mul_add]
def m_(n:Nat)(c:Int)(f:Nat->Int):S n (λ i=>f i*c)=S n f*c:=by
 induction n with
 |zero=>unfold S;rw[Tu]
 |succ n ih=>unfold S;rw[ih,Int.add_mul]
def mV(n:Nat)(f:Nat->Int):S n (λ i=> -f i)= -S n f:=by
 induction n with
 |zero=>rfl
 |succ n ih=>unfold S;rw[ih];dsimp only;omega
def lK(m n:Nat)(f:Nat->Nat->Int):S m (λ i=>S n λ j=>f i j)=S n λ j=>S m λ i=>f i j:=by
 induction m with
 |zero=>exact(gn (n:=n) (λ i _=>rfl)).symm
 |succ m ih=>
  have:S n (λ j=>S (m+1) λ i=>f i j)=S n λ j=>(S m λ i=>f i j)+f m j:=ax λ j _=>rfl;rw[this,f_,<-ih];rfl
def jd{n:Nat}{k:Nat}(hk:k<n){f:Nat->Int}(h:∀i,i<n->i≠k->f i=0):S n f=f k:=by
 induction n with
 |zero=>omega
 |succ n ih=>
  unfold S;by_cases e:k=n
  . subst e;rw[gn λ i hi=>h i (by omega) (by omega),UD]
  . rw[ih (by omega) λ i hi hn=>h i (by omega) hn,h n (by omega) (by omega),Uk]
def Fl(n:Nat)(f:Nat->Int):S (n+1) f=f 0+S n λ i=>f (i+1):=by
 induction n with
 |zero=>unfold S S;omega
 |succ n ih=>
  have:S (n+1+1) f=S (n+1) f+f (n+1):=rfl;rw[this,ih];have:S (n+1) (λ i=>f (i+1))=S n (λ i=>f (i+1))+f (n+1):=rfl;rw[this];omega
def dl(i j:Nat):Int:=if i=j then 1 else 0
def dE(i:Nat):dl i i=1:=Si rfl
def eH{i j:Nat}(h:i≠j):dl i j=0:=Sf h
def m7{n k:Nat}(hk:k<n)(f:Nat->Int):S n (λ i=>dl k i*f i)=f k:=by
 rw[jd hk (λ i _ h=>by rw[eH (Sq h),Tu]),dE,UB]
def qz{n k:Nat}(hk:k<n)(f:Nat->Int):S n (λ i=>f i*dl i k)=f k:=by
 rw[jd hk (λ i _ h=>by rw[eH h,SX]),dE,Vr]
abbrev Row:=List Int
abbrev Rows:=List (List Int)
def g(A:Rows)(i j:Nat):Int:=(A.getD i []).getD j 0
structure cG(m n:Nat)(A:Rows):Prop where
 len:A.length=m
 fE:∀r∈A,r.length=n
def aP{α:Type}{l:List α}{i:Nat}{d:α}(h:i<l.length):l.getD i d=l[i]:=by
 rw[Sd,Sm h];rfl
def jJ{α:Type}{l:List α}{i:Nat}{d:α}(h:l.length<=i):l.getD i d=d:=by
 rw[Sd,Wj h];rfl
def x6{a b:Row}{n:Nat}(ha:a.length=n)(hb:b.length=n)(h:∀j,j<n->a.getD j 0=b.getD j 0):a=b:=by
 refine List.ext_getElem (by omega) λ i h1 h2=>?_;have:=h i (by omega);rwa [aP h1,aP h2]at this
def cG.row{m n:Nat}{A:Rows}(h:cG m n A){i:Nat}(hi:i<m):(A.getD i []).length=n:=by
 have hl:=h.len;rw[aP (by omega)];exact h.fE _ (Tg _)
def cG.ext{m n:Nat}{A B:Rows}(ha:cG m n A)(hb:cG m n B)(h:∀i j,i<m->j<n->g A i j=g B i j):A=B:=by
 have h1:=ha.len;have h2:=hb.len;refine List.ext_getElem (by omega) λ i hi hj=>?_;have e1:=ha.row (i:=i) (by omega);have e2:=hb.row (i:=i) (by omega);have:=x6 e1 e2 λ j hj=>h i j (by omega) hj;rwa [aP hi,aP hj]at this
def fR(r:Row)(t:Int)(s:Row):Row:=List.zipWith (λ a b=>a+t*b) r s
def kG{r s:Row}{t:Int}(h:r.length=s.length):(fR r t s).length=r.length:=by unfold fR;simp[h]
def oC{r s:Row}{t:Int}(h:r.length=s.length)(j:Nat):(fR r t s).getD j 0=r.getD j 0+t*s.getD j 0:=by
 unfold fR;by_cases hj:j<r.length
 . rw[aP (by simp;omega),aP hj,aP (by omega)];simp
 . rw[jJ (by simp;omega),jJ (by omega),jJ (by omega)];simp
def fJ:Row->Rows->Row->Row
 |w::ws,r::rs,acc=>fJ ws rs (fR acc w r)
 |_,_,acc=>acc
def yo{n:Nat}:∀ {ws:Row} {rs:Rows} {acc:Row},acc.length=n->(∀r∈rs,r.length=n)->(fJ ws rs acc).length=n
 | [],_,acc,h,_=>by unfold fJ;exact h
 |_::_,[],acc,h,_=>by unfold fJ;exact h
 |w::ws,r::rs,acc,h,hr=>by
  unfold fJ;refine yo ?_ λ r hr'=>hr r (SG _ hr');rw[kG (by rw[h,hr r SD]),h]
def vE{n:Nat}:∀ {ws:Row} {rs:Rows} {acc:Row} (j:Nat),acc.length=n->(∀r∈rs,r.length=n)->ws.length=rs.length->(fJ ws rs acc).getD j 0=acc.getD j 0+S rs.length λ k=>ws.getD k 0*g rs k j
 | [],[],acc,j,h,_,_=>by unfold fJ;show _=_+(0:Int);rw[Uk]
 | [],_::_,acc,j,h,_,hl=>by cases hl
 |_::_,[],acc,j,h,_,hl=>by cases hl
 |w::ws,r::rs,acc,j,h,hr,hl=>by
  have e1:acc.length=r.length:=by rw[h,hr r SD]
  unfold fJ;rw[vE j (by rw[kG e1,h]) (λ r hr'=>hr r (SG _ hr')) (by simpa using hl),oC e1,SY,Fl]
  have:(λ k=>(w::ws).getD (k+1) 0*g (r::rs) (k+1) j)=λ k=>ws.getD k 0*g rs k j:=by
   funext k;unfold g;simp
  rw[this];unfold g;simp;omega
def eQ(n j:Nat):(List.replicate n (0:Int)).getD j 0=0:=by
 by_cases h:j<n
 . rw[aP (by simpa using h)];simp
 . rw[jJ (by simp;omega)]
def d6(n i:Nat):Row:=(List.range n).map λ k=>dl k i
def units(n:Nat):Rows:=(List.range n).map λ i=>d6 n i
def range_getD{α:Type}{f:Nat->α}{n i:Nat}{d:α}(h:i<n):((List.range n).map f).getD i d=f i:=by
 rw[aP (by simpa using h)];simp
def r_(n:Nat):cG n n (units n):=⟨by simp[units],λ r hr=>by unfold units at hr;obtain⟨i,_,rfl⟩:=SJ.mp hr;simp[d6]⟩
def ji{n i j:Nat}(hi:i<n)(hj:j<n):g (units n) i j=dl i j:=by
 unfold g units d6;rw[range_getD hi,range_getD hj];unfold dl;by_cases h:i=j
 . subst h;rfl
 . rw[Sf (Sq h),Sf h]
def nE(A:Rows)(j:Nat):Row:=A.map λ r=>r.getD j 0
def gp(A:Rows)(n:Nat):Rows:=(List.range n).map λ j=>nE A j
def rh{m n:Nat}{A:Rows}(ha:cG m n A):cG n m (gp A n):=⟨by simp[gp],λ r hr=>by
 unfold gp at hr;obtain⟨j,_,rfl⟩:=SJ.mp hr;unfold nE;rw[Sb,ha.len]⟩
def Kg{A:Rows}{i:Nat}(j:Nat)(h:i<A.length):(nE A j).getD i 0=g A i j:=by
 unfold nE g;rw[aP (by simpa using h),aP h];simp
def Ep{m n:Nat}{A:Rows}(ha:cG m n A){i j:Nat}(hi:i<m)(hj:j<n):g (gp A n) j i=g A i j:=by
 show((gp A n).getD j []).getD i 0=_;unfold gp;rw[range_getD hj,Kg j (by rw[ha.len];exact hi)]
def qj:Row->Row->Int
 |a::as,b::bs=>a*b+qj as bs
 |_,_=>0
def xT(i j:Nat):dl i j=dl j i:=by
 unfold dl;by_cases h:i=j
 . rw[Si h,Si h.symm]
 . rw[Sf h,Sf (Sq h)]
def sw(i j k:Nat):Nat:=if k=i then j else if k=j then i else k
def Rp{n i j:Nat}(hi:i<n)(hj:j<n)(hij:i≠j)(f:Nat->Int):S n (λ k=>f (sw i j k))=S n f:=by
 have:S n (λ k=>f (sw i j k))=S n λ k=>f k+(f j-f i)*dl k i+(f i-f j)*dl k j:=ax λ k _=>by
  unfold sw;by_cases h1:k=i
  . subst h1;rw[Si rfl,dE,eH hij];omega
  . rw[Sf h1,eH h1];by_cases h2:k=j
    . subst h2;rw[Si rfl,dE];omega
    . rw[Sf h2,eH h2];omega
 rw[this,f_,f_,qz (f:=λ _=>f j-f i) hi,qz (f:=λ _=>f i-f j) hj];omega
abbrev Fn:=Nat->Nat->Int
def sk(j c:Nat):Nat:=if c<j then c else c+1
def sg(j:Nat):Int:=if j%2=0 then 1 else-1
def yb(j:Nat):sg (j+1)= -sg j:=by unfold sg;split<;>split<;>omega
def x4:sg 0=1:=rfl
def lB{j c n:Nat}(h:c<n):sk j c<n+1:=by unfold sk;split<;>omega
def Qc{j k c:Nat}(h:k<j):sk j (sk k c)=sk k (sk (j-1) c):=by unfold sk;grind
def D:Nat->Fn->Int
 |0,_=>1
 |n+1,M=>S (n+1) λ j=>sg j*M 0 j*D n λ r c=>M (r+1) (sk j c)
def EY(M:Fn):D 0 M=1:=rfl
def eh(n:Nat)(M:Fn):D (n+1) M=S (n+1) λ j=>sg j*M 0 j*D n λ r c=>M (r+1) (sk j c):=rfl
def df:∀ {n:Nat} {M M':Fn},(∀r c,r<n->c<n->M r c=M' r c)->D n M=D n M'
 |0,_,_,_=>rfl
 |n+1,M,M',h=>by
  rw[eh,eh];refine ax λ j hj=>?_;have e:D n (λ r c=>M (r+1) (sk j c))=D n (λ r c=>M' (r+1) (sk j c)):=df λ r c hr hc=>h (r+1) (sk j c) (by omega) (lB hc);rw[h 0 j (by omega) hj,e]
def IK:∀ {n:Nat} {M P Q:Fn} {a b:Int} {i:Nat},i<n->(∀c,c<n->M i c=a*P i c+b*Q i c)->(∀r c,r<n->c<n->r≠i->M r c=P r c/\M r c=Q r c)->D n M=a*D n P+b*D n Q
 |0,_,_,_,_,_,_,h,_,_=>by omega
 |n+1,M,P,Q,a,b,0,_,h0,h=>by
  rw[eh,eh,eh,<-fj,<-fj,<-f_];refine ax λ j hj=>?_;have e1:D n (λ r c=>M (r+1) (sk j c))=D n (λ r c=>P (r+1) (sk j c)):=df λ r c hr hc=>(h (r+1) (sk j c) (by omega) (lB hc) (by omega)).1;have e2:D n (λ r c=>M (r+1) (sk j c))=D n (λ r c=>Q (r+1) (sk j c)):=df λ r c hr hc=>(h (r+1) (sk j c) (by omega) (lB hc) (by omega)).2;rw[h0 j hj,<-e1,<-e2];grind
 |n+1,M,P,Q,a,b,i+1,hi,h0,h=>by
  rw[eh,eh,eh,<-fj,<-fj,<-f_];refine ax λ j hj=>?_;have e:=IK (n:=n) (M:=λ r c=>M (r+1) (sk j c)) (P:=λ r c=>P (r+1) (sk j c)) (Q:=λ r c=>Q (r+1) (sk j c)) (a:=a) (b:=b) (i:=i) (by omega) (λ c hc=>h0 (sk j c) (lB hc)) λ r c hr hc hne=>h (r+1) (sk j c) (by omega) (lB hc) (by omega);have p:=h 0 j (by omega) hj (by omega);rw[e,<-p.1,<-p.2];grind
def Q9{n:Nat}{M:Fn}(h:∀c,c<n+2->M 0 c=M 1 c):D (n+2) M=0:=by
 let T:Nat->Nat->Int:=λ j k=>sg j*M 0 j*(sg k*M 1 (sk j k)*D n λ r c=>M (r+2) (sk j (sk k c)))
 have e1:∀j,j<n+2->sg j*M 0 j*D (n+1) (λ r c=>M (r+1) (sk j c))=S (n+1) λ k=>T j k:=λ j hj=>by
  rw[eh,<-fj]
 rw[eh,ax e1]
 have e2:∀j,j<n+2->S (n+1) (λ k=>T j k)=S (n+1) (λ k=>if k<j then T j k else 0)+S (n+1) (λ k=>if k<j then 0 else T j k):=λ j _=>by
  rw[<-f_];refine ax λ k _=>?_;split<;>omega
 rw[ax e2,f_]
 have e3:∀j k,j<n+2->k<n+1->¬k<j->T j k= -T (k+1) j:=λ j k hj hk hjk=>by
  have s1:sk (k+1) j=j:=by unfold sk;rw[Si (by omega)]
  have s2:sk j k=k+1:=by unfold sk;rw[Sf hjk]
  have s3:(λ r c=>M (r+2) (sk (k+1) (sk j c)))=λ r c=>M (r+2) (sk j (sk k c)):=by
   funext r c;rw[Qc (show j<k+1 by omega)];rfl
  show sg j*M 0 j*(sg k*M 1 (sk j k)*D n λ r c=>M (r+2) (sk j (sk k c)))= -(sg (k+1)*M 0 (k+1)*(sg j*M 1 (sk (k+1) j)*D n λ r c=>M (r+2) (sk (k+1) (sk j c))));rw[s1,s2,s3,yb,<-h j hj,<-h (k+1) (by omega)];grind
 have e4:S (n+2) (λ j=>S (n+1) λ k=>if k<j then 0 else T j k)= -S (n+2) (λ j=>S (n+1) λ k=>if k<j then T j k else 0):=by
  rw[lK,Fl (n+1) (λ j=>S (n+1) λ k=>if k<j then T j k else 0)];have z:S (n+1) (λ k=>if k<0 then T 0 k else 0)=0:=gn λ k _=>Sf (by omega);rw[z,UD,<-mV];refine ax λ k hk=>?_;have:S (n+2) (λ j=>if k<j then 0 else T j k)=S (n+1) (λ j=>if k<j then 0 else T j k)+(if k<n+1 then 0 else T (n+1) k):=rfl;rw[this,Si hk,Uk,<-mV];refine ax λ j hj=>?_;by_cases hkj:k<j
  . rw[Si hkj,Sf (by omega)];rfl
  . rw[Sf hkj,Si (by omega)];exact e3 j k (by omega) hk hkj
 rw[e4];omega
def IV:∀ {n:Nat} {M:Fn} {i:Nat},i+1<n->(∀c,c<n->M i c=M (i+1) c)->D n M=0
 |0,_,_,h,_=>by omega
 |1,_,_,h,_=>by omega
 |n+2,M,0,_,h=>Q9 h
 |n+2,M,i+1,hi,h=>by
  rw[eh];refine gn λ j hj=>?_;rw[IV (n:=n+1) (M:=λ r c=>M (r+1) (sk j c)) (i:=i) (by omega) λ c hc=>h (sk j c) (lB hc),SX]
structure Alt(n:Nat)(φ:Fn->Int):Prop where
 cg:∀M M':Fn,(∀r c,r<n->c<n->M r c=M' r c)->φ M=φ M'
 j8:∀(i:Nat) (M P Q:Fn) (a b:Int),i<n->(∀c,c<n->M i c=a*P i c+b*Q i c)->(∀r c,r<n->c<n->r≠i->M r c=P r c/\M r c=Q r c)->φ M=a*φ P+b*φ Q
 alt:∀(i j:Nat) (M:Fn),i<n->j<n->i≠j->(∀c,c<n->M i c=M j c)->φ M=0
def upd(M:Fn)(i:Nat)(x:Nat->Int):Fn:=λ r c=>if r=i then x c else M r c
def cQ(M:Fn)(i:Nat)(x:Nat->Int)(c:Nat):upd M i x i c=x c:=Si rfl
def aA{M:Fn}{i r:Nat}{x:Nat->Int}(h:r≠i)(c:Nat):upd M i x r c=M r c:=Sf h
def Ql{n i j:Nat}{φ:Fn->Int}(cg:∀M M':Fn,(∀r c,r<n->c<n->M r c=M' r c)->φ M=φ M')
 (j8:∀(i:Nat) (M P Q:Fn) (a b:Int),i<n->(∀c,c<n->M i c=a*P i c+b*Q i c)->(∀r c,r<n->c<n->r≠i->M r c=P r c/\M r c=Q r c)->φ M=a*φ P+b*φ Q)
 (hi:i<n) (hj:j<n) (hij:i≠j) (alt:∀N:Fn,(∀c,c<n->N i c=N j c)->φ N=0) (M:Fn):φ (λ r=>M (sw i j r))= -φ M:=by
 have l1:φ (upd (upd M i λ c=>M i c+M j c) j λ c=>M i c+M j c)=1*φ (upd (upd M i (M i)) j λ c=>M i c+M j c)+1*φ (upd (upd M i (M j)) j λ c=>M i c+M j c):=
  j8 i _ _ _ 1 1 hi (λ c _=>by rw[aA hij,aA hij,aA hij,cQ,cQ,cQ];omega) λ r c _ _ hr=>by
   unfold upd;grind
 have l2:∀x:Nat->Int,φ (upd (upd M i x) j λ c=>M i c+M j c)=1*φ (upd (upd M i x) j (M i))+1*φ (upd (upd M i x) j (M j)):=λ x=>
  j8 j _ _ _ 1 1 hj (λ c _=>by rw[cQ,cQ,cQ];omega) λ r c _ _ hr=>by
   rw[aA hr,aA hr,aA hr];exact⟨rfl,rfl⟩
 have z0:φ (upd (upd M i λ c=>M i c+M j c) j λ c=>M i c+M j c)=0:=alt _ λ c _=>by rw[aA hij,cQ,cQ]
 have z1:φ (upd (upd M i (M i)) j (M i))=0:=alt _ λ c _=>by rw[aA hij,cQ,cQ]
 have z2:φ (upd (upd M i (M j)) j (M j))=0:=alt _ λ c _=>by rw[aA hij,cQ,cQ]
 have s1:φ (upd (upd M i (M i)) j (M j))=φ M:=cg _ _ λ r c _ _=>by
  unfold upd;split
  . rename_i e;rw[e]
  . split
    . rename_i e;rw[e]
    . rfl
 have s2:φ (upd (upd M i (M j)) j (M i))=φ (λ r=>M (sw i j r)):=cg _ _ λ r c _ _=>by
  unfold upd sw;by_cases h1:r=j
  . rw[Si h1];by_cases h2:r=i
    . omega
    . rw[Sf h2,Si h1]
  . rw[Sf h1];by_cases h2:r=i
    . rw[Si h2,Si h2]
    . rw[Sf h2,Sf h2,Sf h1]
 have a1:=l2 (M i);have a2:=l2 (M j);rw[z1,s1]at a1;rw[z2,s2]at a2;rw[z0,a1,a2]at l1;omega
def Alt.swap{n i j:Nat}{φ:Fn->Int}(A:Alt n φ)(hi:i<n)(hj:j<n)(hij:i≠j)(M:Fn):φ (λ r=>M (sw i j r))= -φ M:=
 Ql A.cg A.j8 hi hj hij (λ N h=>A.alt i j N hi hj hij h) M
def xp{n:Nat}{φ:Fn->Int}(cg:∀M M':Fn,(∀r c,r<n->c<n->M r c=M' r c)->φ M=φ M')
 (j8:∀(i:Nat) (M P Q:Fn) (a b:Int),i<n->(∀c,c<n->M i c=a*P i c+b*Q i c)->(∀r c,r<n->c<n->r≠i->M r c=P r c/\M r c=Q r c)->φ M=a*φ P+b*φ Q)
 (adj:∀(i:Nat) (M:Fn),i+1<n->(∀c,c<n->M i c=M (i+1) c)->φ M=0):Alt n φ:=by
 have far:∀(d i:Nat) (M:Fn),i+d+1<n->(∀c,c<n->M i c=M (i+d+1) c)->φ M=0:=by
  intro d;induction d with
  |zero=>exact λ i M h1 h2=>adj i M h1 h2
  |succ d ih=>
   intro i M h1 h2;have hs:=Ql cg j8 (i:=i+d+1) (j:=i+d+1+1) (by omega) (by omega) (by omega) (λ N h=>adj (i+d+1) N (by omega) h) M
   have:φ (λ r=>M (sw (i+d+1) (i+d+1+1) r))=0:=ih i _ (by omega) λ c hc=>by
    have e1:sw (i+d+1) (i+d+1+1) i=i:=by unfold sw;rw[Sf (by omega),Sf (by omega)]
    have e2:sw (i+d+1) (i+d+1+1) (i+d+1)=i+d+1+1:=by unfold sw;rw[Si rfl]
    rw[e1,e2];exact h2 c hc
   omega
 refine⟨cg,j8,λ i j M hi hj hij h=>?_⟩;by_cases hlt:i<j
 . obtain⟨d,rfl⟩:∃d,j=i+d+1:=⟨j-i-1,by omega⟩
   exact far d i M hj h
 . obtain⟨d,rfl⟩:∃d,i=j+d+1:=⟨i-j-1,by omega⟩
   exact far d j M hi λ c hc=>(h c hc).symm
def p8(n:Nat):Alt n (D n):=xp (λ _ _ h=>df h) (λ _ _ _ _ _ _ hi h0 h=>IK hi h0 h) λ _ _ h1 h2=>IV h1 h2
def Alt.A7{n i:Nat}{φ:Fn->Int}(A:Alt n φ)(hi:i<n){M:Fn}(h:∀c,c<n->M i c=0):φ M=0:=by
 have:=A.j8 i M M M 0 0 hi (λ c hc=>by rw[h c hc];rfl) λ _ _ _ _ _=>⟨rfl,rfl⟩
 omega
def Alt.Er{n i:Nat}{φ:Fn->Int}(A:Alt n φ)(hi:i<n)(M:Fn)(t:Int)(x:Nat->Int):φ (upd M i λ c=>t*x c)=t*φ (upd M i x):=by
 have:=A.j8 i (upd M i λ c=>t*x c) (upd M i x) (upd M i x) t 0 hi (λ c hc=>by rw[cQ,cQ];omega) λ r c _ _ hr=>by rw[aA hr,aA hr];exact⟨rfl,rfl⟩
 omega
def Alt.Ff{n i:Nat}{φ:Fn->Int}(A:Alt n φ)(hi:i<n)(M:Fn)(x y:Nat->Int):φ (upd M i λ c=>x c+y c)=φ (upd M i x)+φ (upd M i y):=by
 have:=A.j8 i (upd M i λ c=>x c+y c) (upd M i x) (upd M i y) 1 1 hi (λ c hc=>by rw[cQ,cQ,cQ];omega) λ r c _ _ hr=>by rw[aA hr,aA hr,aA hr];exact⟨rfl,rfl⟩
 omega
def Alt.tD{n i:Nat}{φ:Fn->Int}(A:Alt n φ)(hi:i<n)(M:Fn)(a:Nat->Int)(x:Nat->Nat->Int):∀m,φ (upd M i λ c=>S m λ j=>a j*x j c)=S m λ j=>a j*φ (upd M i (x j))
 |0=>A.A7 hi λ c _=>by rw[cQ];rfl
 |m+1=>by
  have:(λ c=>S (m+1) λ j=>a j*x j c)=λ c=>(S m λ j=>a j*x j c)+a m*x m c:=rfl;rw[this,A.Ff hi,A.tD hi M a x m,A.Er hi];rfl
def un(j c:Nat):Nat:=if c<j then c else c-1
def grow(j:Nat)(B:Fn):Fn:=λ r c=>if r=0 then dl j c else if c=j then 0 else B (r-1) (un j c)
def wK{n j c:Nat}(hj:j<n+1)(hc:c<n+1)(h:c≠j):un j c<n:=by unfold un;split<;>omega
def Ea{j c:Nat}(h:c≠j):sk j (un j c)=c:=by unfold sk un;grind
def Alt.grow{n j:Nat}{φ:Fn->Int}(A:Alt (n+1) φ)(hj:j<n+1):Alt n λ B=>φ (Mx.grow j B) where
 cg:=λ M M' h=>A.cg _ _ λ r c hr hc=>by
  have:=h (r-1) (un j c);have:=wK (c:=c) hj hc;unfold Mx.grow;grind
 j8:=λ i M P Q a b hi h0 h=>A.j8 (i+1) _ _ _ a b (by omega) (λ c hc=>by
  have:=h0 (un j c);have:=wK (c:=c) hj hc;have e:i+1-1=i:=by omega
  unfold Mx.grow;rw[e];grind) λ r c hr hc hne=>by
  have:=h (r-1) (un j c);have:=wK (c:=c) hj hc;unfold Mx.grow;grind
 alt:=λ i k M hi hk hik h=>A.alt (i+1) (k+1) _ (by omega) (by omega) (by omega) λ c hc=>by
  have:=h (un j c);have:=wK (c:=c) hj hc;have e:i+1-1=i:=by omega
  have e2:k+1-1=k:=by omega
  unfold Mx.grow;rw[e,e2];grind
def Alt.units{n:Nat}{φ:Fn->Int}(A:Alt (n+1) φ):∀j,j<n+1->φ (Mx.grow j dl)=sg j*φ dl
 |0,_=>by
  rw[x4,UB];refine A.cg _ _ λ r c hr hc=>?_;unfold Mx.grow un dl;grind
 |j+1,hj=>by
  have ih:=A.units j (by omega);have s:=A.swap (i:=0) (j:=j+1) (by omega) hj (by omega) (Mx.grow j dl);rw[yb,UC,<-ih,<-s];refine A.cg _ _ λ r c hr hc=>?_;unfold Mx.grow un dl sw;grind
def Alt.Rv{n i k:Nat}{φ:Fn->Int}(A:Alt n φ)(hi:i<n)(hk:k<n)(hik:i≠k)(M:Fn)(x:Nat->Int)(t:Int):φ (upd M i λ c=>x c+t*M k c)=φ (upd M i x):=by
 rw[A.Ff hi,A.Er hi M t (M k),A.alt i k (upd M i (M k)) hi hk hik λ c _=>by rw[cQ,aA (Sq hik)],SX,Uk]
def zr(j m:Nat)(M:Fn):Fn:=λ r c=>if r=0 then dl j c else if r<=m/\c=j then 0 else M r c
def Alt.zr{n j:Nat}{φ:Fn->Int}(A:Alt (n+1) φ)(M:Fn):∀m,m<=n->φ (Mx.zr j m M)=φ (upd M 0 (dl j))
 |0,_=>A.cg _ _ λ r c hr hc=>by unfold Mx.zr upd;grind
 |m+1,hm=>by
  rw[<-A.zr M m (by omega)];have e:=A.Rv (i:=m+1) (k:=0) (by omega) (by omega) (by omega) (Mx.zr j m M) (M (m+1)) (-M (m+1) j)
  have e1:φ (Mx.zr j (m+1) M)=φ (upd (Mx.zr j m M) (m+1) λ c=>M (m+1) c+ -M (m+1) j*Mx.zr j m M 0 c):=A.cg _ _ λ r c hr hc=>by
   unfold upd Mx.zr dl;by_cases h0:r=m+1
   . subst h0;by_cases h1:c=j
     . subst h1;simp;omega
     . have:¬j=c:=λ z=>h1 z.symm;simp[h1,this]
   . rw[Sf h0];grind
  have e2:φ (upd (Mx.zr j m M) (m+1) (M (m+1)))=φ (Mx.zr j m M):=A.cg _ _ λ r c hr hc=>by
   unfold upd Mx.zr;grind
  rw[e1,e,e2]
def C8:∀ {n:Nat} {φ:Fn->Int},Alt n φ->∀M,φ M=φ dl*D n M
 |0,φ,A,M=>by rw[EY,Vr];exact A.cg _ _ λ r c hr=>by omega
 |n+1,φ,A,M=>by
  have h1:φ M=S (n+1) λ j=>M 0 j*φ (upd M 0 (dl j)):=by
   rw[<-A.tD (by omega) M (M 0) dl (n+1)];refine A.cg _ _ λ r c hr hc=>?_;by_cases h0:r=0
   . subst h0;rw[cQ,qz hc]
   . rw[aA h0]
  have h2:∀j,j<n+1->φ (upd M 0 (dl j))=φ (Mx.grow j λ r c=>M (r+1) (sk j c)):=λ j hj=>by
   rw[<-A.zr M n (R_ _)];refine A.cg _ _ λ r c hr hc=>?_;unfold Mx.grow Mx.zr;by_cases h0:r=0
   . rw[Si h0,Si h0]
   . rw[Sf h0,Sf h0];by_cases h3:c=j
     . rw[Si ⟨by omega,h3⟩,Si h3]
     . rw[Sf (by omega),Sf h3];dsimp only;rw[Ea h3,show r-1+1=r by omega]
  rw[h1,eh,<-fj];refine ax λ j hj=>?_;have h3:=C8 (A.grow hj) λ r c=>M (r+1) (sk j c);have h4:=A.units j hj;have h5:φ (Mx.grow j λ r c=>M (r+1) (sk j c))=φ (Mx.grow j dl)*D n λ r c=>M (r+1) (sk j c):=h3;rw[h2 j hj,h5,h4];grind
def x5:∀n,D n dl=1
 |0=>rfl
 |n+1=>by
  rw[eh,jd (k:=0) (by omega) λ j hj h0=>by rw[eH (Sq h0),SX,Tu]]
  have:D n (λ r c=>dl (r+1) (sk 0 c))=D n dl:=df λ r c _ _=>by
   unfold dl sk;grind
  rw[this,x5 n,dE];rfl
def D6(n:Nat)(A B:Fn):D n (λ r c=>S n λ k=>A r k*B k c)=D n A*D n B:=by
 have al:Alt n λ A=>D n (λ r c=>S n λ k=>A r k*B k c):=by
  refine⟨λ M M' h=>df λ r c hr hc=>ax λ k hk=>by rw[h r k hr hk],λ i M P Q a b hi h0 h=>(p8 n).j8 i _ _ _ a b hi (λ c hc=>?_) λ r c hr hc hne=>⟨ax λ k hk=>by rw[(h r k hr hk hne).1],ax λ k hk=>by rw[(h r k hr hk hne).2]⟩,λ i j M hi hj hij h=>(p8 n).alt i j _ hi hj hij λ c hc=>ax λ k hk=>by rw[h k hk]⟩;show(S n λ k=>M i k*B k c)=a*(S n λ k=>P i k*B k c)+b*S n λ k=>Q i k*B k c;rw[<-fj,<-fj,<-f_];refine ax λ k hk=>?_;rw[h0 k hk];grind
 have h:=C8 al A;have e:D n (λ r c=>S n λ k=>dl r k*B k c)=D n B:=df λ r c hr hc=>m7 hr λ k=>B k c;rw[h,e,Ua]
def EV:∀ {n:Nat} {M P Q:Fn} {a b:Int} {i:Nat},i<n->(∀r,r<n->M r i=a*P r i+b*Q r i)->(∀r c,r<n->c<n->c≠i->M r c=P r c/\M r c=Q r c)->D n M=a*D n P+b*D n Q
 |0,_,_,_,_,_,_,h,_,_=>by omega
 |n+1,M,P,Q,a,b,i,hi,h0,h=>by
  rw[eh,eh,eh,<-fj,<-fj,<-f_];refine ax λ j hj=>?_;by_cases hij:j=i
  . subst hij;have hs:∀c,sk j c≠j:=λ c=>by unfold sk;split<;>omega
    have e1:D n (λ r c=>M (r+1) (sk j c))=D n (λ r c=>P (r+1) (sk j c)):=df λ r c hr hc=>(h (r+1) (sk j c) (by omega) (lB hc) (hs c)).1;have e2:D n (λ r c=>M (r+1) (sk j c))=D n (λ r c=>Q (r+1) (sk j c)):=df λ r c hr hc=>(h (r+1) (sk j c) (by omega) (lB hc) (hs c)).2;rw[h0 0 (by omega),<-e1,<-e2];grind
  . have p:=h 0 j (by omega) hj hij;have hu:sk j (un j i)=i:=Ea (Sq hij);have hs:∀c,c≠un j i->sk j c≠i:=λ c hc=>by unfold sk;unfold un at hc;grind
    have hlt:un j i<n:=wK hj hi (Sq hij)
    have e:=EV (n:=n) (M:=λ r c=>M (r+1) (sk j c)) (P:=λ r c=>P (r+1) (sk j c)) (Q:=λ r c=>Q (r+1) (sk j c)) (a:=a) (b:=b) (i:=un j i) hlt (λ r hr=>by
     rw[hu];exact h0 (r+1) (by omega)) λ r c hr hc hne=>h (r+1) (sk j c) (by omega) (lB hc) (hs c hne)
    rw[e,<-p.1,<-p.2];grind
def EC:∀ {n:Nat} {M:Fn} {i:Nat},i+1<n->(∀r,r<n->M r i=M r (i+1))->D n M=0
 |0,_,_,h,_=>by omega
 |n+1,M,i,hi,h=>by
  rw[eh]
  have key:∀j,j<n+1->j≠i->j≠i+1->D n (λ r c=>M (r+1) (sk j c))=0:=λ j hj h1 h2=>by
   refine EC (i:=un j i) (by unfold un;split<;>omega) λ r hr=>?_;have e1:sk j (un j i)=i:=Ea (Sq h1);have e2:sk j (un j i+1)=i+1:=by unfold sk un;grind
   rw[e1,e2];exact h (r+1) (by omega)
  have e:D n (λ r c=>M (r+1) (sk i c))=D n (λ r c=>M (r+1) (sk (i+1) c)):=df λ r c hr hc=>by
   by_cases hc2:c=i
   . subst hc2;have a1:sk c c=c+1:=by unfold sk;rw[Sf (by omega)]
     have a2:sk (c+1) c=c:=by unfold sk;rw[Si (by omega)]
     rw[a1,a2];exact(h (r+1) (by omega)).symm
   . have a1:sk i c=sk (i+1) c:=by unfold sk;grind
     rw[a1]
  have two:∀(m:Nat) (f:Nat->Int),i+1<m->(∀j,j<m->j≠i->j≠i+1->f j=0)->S m f=f i+f (i+1):=λ m=>by
   induction m with
   |zero=>intro f h;omega
   |succ m ih=>
    intro f hm hf;show S m f+f m=_;by_cases hmi:m=i+1
    . subst hmi;rw[jd (k:=i) (by omega) λ j hj hne=>hf j (by omega) hne (by omega)]
    . rw[ih f (by omega) λ j hj h1 h2=>hf j (by omega) h1 h2,hf m (by omega) (by omega) hmi,Uk]
  rw[two (n+1) _ hi λ j hj h1 h2=>by rw[key j hj h1 h2,SX],e,yb,h 0 (by omega)];grind
def tr(M:Fn):Fn:=λ r c=>M c r
def xt(n:Nat)(M:Fn):D n (tr M)=D n M:=by
 have al:Alt n λ A=>D n (tr A):=xp (λ M M' h=>df λ r c hr hc=>h c r hc hr)
  (λ i M P Q a b hi h0 h=>EV hi (λ r hr=>h0 r hr) λ r c hr hc hne=>h c r hc hr hne)
  λ i M hi h=>EC hi λ r hr=>h r hr
 have h:=C8 al M;have e:D n (tr dl)=D n dl:=df λ r c _ _=>xT c r;have h2:D n (tr M)=D n (tr dl)*D n M:=h;rw[h2,e,x5,UB]
def Pr:Nat->(Nat->Int)->Int
 |0,_=>1
 |n+1,f=>Pr n f*f n
def Cn:∀(n:Nat) (f:Nat->Int),Pr (n+1) f=f 0*Pr n λ i=>f (i+1)
 |0,f=>by show 1*f 0=f 0*1;omega
 |n+1,f=>by
  have:Pr (n+1+1) f=Pr (n+1) f*f (n+1):=rfl;rw[this,Cn n f];have:Pr (n+1) (λ i=>f (i+1))=Pr n (λ i=>f (i+1))*f (n+1):=rfl;rw[this,T6]
def IE:∀ {n:Nat} {M:Fn},(∀r c,r<n->c<n->r<c->M r c=0)->D n M=Pr n λ i=>M i i
 |0,_,_=>rfl
 |n+1,M,h=>by
  rw[eh,jd (k:=0) (by omega) λ j hj h0=>by rw[h 0 j (by omega) hj (by omega),SX,Tu],Cn,x4,UB];have s:∀c,sk 0 c=c+1:=λ c=>by unfold sk;rw[Sf (by omega)]
  have e:D n (λ r c=>M (r+1) (sk 0 c))=Pr n λ i=>M (i+1) (i+1):=by
   rw[IE λ r c hr hc hrc=>by rw[s];exact h (r+1) (c+1) (by omega) (by omega) (by omega)];simp only[s]
  rw[e]
def MO{n:Nat}{M:Fn}(h:∀r c,r<n->c<n->c<r->M r c=0):D n M=Pr n λ i=>M i i:=by
 rw[<-xt n M,IE (M:=tr M) λ r c hr hc hrc=>h c r hc hr hrc];rfl
def Ar:∀ {n:Nat} {M:Fn},(∀c,c<n+1->M n c=dl n c)->D (n+1) M=D n M
 |0,M,h=>by
  rw[eh];show 0+sg 0*M 0 0*D 0 _=1;rw[h 0 (by omega),dE,x4,EY];omega
 |n+1,M,h=>by
  have e1:∀j,j<n+1->D (n+1) (λ r c=>M (r+1) (sk j c))=D n (λ r c=>M (r+1) (sk j c)):=λ j hj=>Ar λ c hc=>by
   rw[h (sk j c) (lB hc)];unfold dl sk;grind
  have e2:D (n+1) (λ r c=>M (r+1) (sk (n+1) c))=0:=(p8 (n+1)).A7 (i:=n) (by omega) λ c hc=>by
   have s:sk (n+1) c=c:=by unfold sk;rw[Si (by omega)]
   rw[s,h c (by omega),eH (by omega)]
  have e3:D (n+1+1) M=(S (n+1) λ j=>sg j*M 0 j*D (n+1) λ r c=>M (r+1) (sk j c))+sg (n+1)*M 0 (n+1)*D (n+1) (λ r c=>M (r+1) (sk (n+1) c)):=eh (n+1) M;rw[e3,e2,SX,Uk,eh];exact ax λ j hj=>by rw[e1 j hj]
def gx(R:Fn)(p:Nat)(x:Nat->Int)(j:Nat):Int:=D (p+1) λ r c=>if r<p then R r (if c<p then c else j)else x (if c<p then c else j)
def L5{R:Fn}{p j:Nat}{x:Nat->Int}(h:j<p):gx R p x j=0:=by
 unfold gx;rw[<-xt];refine(p8 (p+1)).alt j p _ (by omega) (by omega) (by omega) λ c hc=>?_;unfold tr;dsimp only;rw[Si h,Sf (TN p)]
def bt(R:Fn)(p:Nat)(x:Nat->Int)(k:Nat):Int:=D (p+1) (upd (λ c r=>if r<p then R r c else x c) p (dl k))
def Qa(R:Fn)(p:Nat)(x:Nat->Int)(j:Nat):gx R p x j=D p R*x j+S p λ k=>bt R p x k*R k j:=by
 have e1:gx R p x j=D (p+1) (upd (λ c r=>if r<p then R r c else x c) p λ r=>S (p+1) λ k=>(if k<p then R k j else x j)*dl k r):=by
  unfold gx;rw[<-xt];refine df λ c r hc hr=>?_;unfold tr upd;by_cases h:c=p
  . subst h;rw[Si rfl];dsimp only;rw[qz hr,Sf (TN _)]
  . rw[Sf h];dsimp only;rw[Si (show c<p by omega)]
 rw[e1,(p8 (p+1)).tD (by omega)]
 have e2:D (p+1) (upd (λ c r=>if r<p then R r c else x c) p (dl p))=D p R:=by
  rw[Ar λ c _=>cQ _ _ _ _];rw[<-xt];refine df λ r c hr hc=>?_;unfold tr;rw[aA (by omega),Si (by omega)]
 have e3:(S (p+1) λ k=>(if k<p then R k j else x j)*D (p+1) (upd (λ c r=>if r<p then R r c else x c) p (dl k)))=(S p λ k=>(if k<p then R k j else x j)*D (p+1) (upd (λ c r=>if r<p then R r c else x c) p (dl k)))+(if p<p then R p j else x j)*D (p+1) (upd (λ c r=>if r<p then R r c else x c) p (dl p)):=rfl;rw[e3,e2,Sf (TN p),Int.add_comm,Ua];congr 1;refine ax λ k hk=>?_;rw[Si hk,Ua];rfl
def cl(p j1 j2 c:Nat):Nat:=if c<p then c else if c=p then j1 else j2
def zk{n:Nat}{f:Nat->Int}{m:Nat}(h:∀i,i<n->(f i).natAbs<=m):(S n f).natAbs<=n*m:=by
 induction n with
 |zero=>simp[S]
 |succ n ih=>
  have h1:=ih λ i hi=>h i (by omega);have h2:=h n (by omega);show(S n f+f n).natAbs<=_;rw[VR];omega
def lam(G:Fn)(i j:Nat):Int:=gx G j (G i) j
def QW(A:Rows):Fn:=λ i j=>qj (A.getD i []) (A.getD j [])
def PM(G:Fn)(i:Nat):Row:=(List.range (i+1)).map λ j=>lam G i j
def Mg(G:Fn)(n:Nat):Rows:=(List.range n).map (PM G)
def RA(A:Rows)(N:Nat):Fn:=λ i j=>if j<N then QW A i j else(A.getD i []).getD (j-N) 0
def ev(A:Rows)(N i k c:Nat):Int:=gx (RA A N) k (RA A N i) (N+c)
def Dp(n:Nat)(a b:Int)(f g:Nat->Int):S n (λ c=>a*f c-b*g c)=a*S n f-b*S n g:=by
 induction n with
 |zero=>show(0:Int)=a*0-b*0;omega
 |succ n ih=>
  show S n (λ c=>a*f c-b*g c)+(a*f n-b*g n)=a*(S n f+f n)-b*(S n g+g n);rw[ih,Int.mul_add,Int.mul_add];omega
section
variable {A:Rows}{N w:Nat}
end
def RH(M:Fn)(k j:Nat)(q:Int):Fn:=λ a b=>if a=k then M a b-q*M j b else M a b
def RZ(M:Fn)(k j:Nat)(q:Int):Fn:=λ a b=>if b=k then M a b-q*M a j else M a b
def tk(G:Fn)(k j:Nat)(q:Int):Fn:=RZ (RH G k j q) k j q
section
variable {G:Fn}{t:Nat}(sym:∀i j,G i j=G j i)
include sym
end
section
variable {A:Rows}{N w:Nat}
def du(hA:cG N w A){i:Nat}(hi:i<N):(A.getD i []).length=w:=hA.fE _ (by have:=hA.len;rw[aP (by omega)];exact Tg _)
end
def bJ(A:Rows)(k:Nat)(q:Int)(j:Nat):Rows:=A.set k (fR (A.getD k []) (-q) (A.getD j []))
def ck(A:Rows)(k o:Nat):Rows:=(A.set k (A.getD o [])).set o (A.getD k [])
def mD{A:Rows}{k i:Nat}{r:Row}(hk:k<A.length):(A.set k r).getD i []=if i=k then r else A.getD i []:=by
 rw[Sd,List.getElem?_set];by_cases h:k=i
 . rw[Si h,Si (by omega),Si h.symm];rfl
 . rw[Sf h,Sf (Sq h),Sd]
def EX{A:Rows}{k j:Nat}{q:Int}:(bJ A k q j).length=A.length:=by unfold bJ;rw[SO]
def vk{A:Rows}{N w k j:Nat}{q:Int}(hA:cG N w A)(hk:k<N)(hj:j<N):cG N w (bJ A k q j):=by
 refine⟨EX.trans hA.len,λ r hr=>?_⟩;unfold bJ at hr;rcases U9 hr with h|rfl
 . exact hA.fE r h
 . rw[kG (by rw[du hA hk,du hA hj]),du hA hk]
structure Tn(A0 A U C:Rows)(N w:Nat):Prop where
 isA:cG N w A
 fv:cG N N U
 gD:cG N N C
 ua:∀i c,i<N->c<w->g A i c=S N λ k=>g U i k*g A0 k c
 ub:∀i j,i<N->j<N->S N (λ k=>g U i k*g C j k)=dl i j
 bu:∀i j,i<N->j<N->S N (λ k=>g C k i*g U k j)=dl i j
def eA{A:Rows}{N w k j:Nat}{q:Int}(hA:cG N w A)(hk:k<N)(hj:j<N)(i c:Nat):g (bJ A k q j) i c=if i=k then g A k c-q*g A j c else g A i c:=by
 unfold g bJ;have hl:=hA.len;rw[mD (by omega)];by_cases h:i=k
 . rw[Si h,Si h,oC (by rw[du hA hk,du hA hj]),UC];omega
 . rw[Sf h,Sf h]
def wc(n:Nat)(a b:Int)(f h:Nat->Int):S n (λ c=>a*f c+b*h c)=a*S n f+b*S n h:=by
 rw[f_,fj,fj]
def Tn.take{A0 A U C:Rows}{N w k j:Nat}{q:Int}(T:Tn A0 A U C N w)(hk:k<N)(hj:j<N)(hkj:j≠k):Tn A0 (bJ A k q j) (bJ U k q j) (bJ C j (-q) k) N w where
 isA:=vk T.isA hk hj
 fv:=vk T.fv hk hj
 gD:=vk T.gD hj hk
 ua:=λ i c hi hc=>by
  rw[eA T.isA hk hj];have e:S N (λ m=>g (bJ U k q j) i m*g A0 m c)=S N λ m=>(if i=k then g U k m-q*g U j m else g U i m)*g A0 m c:=ax λ m _=>by rw[eA T.fv hk hj]
  rw[e];by_cases h:i=k
  . simp only[Si h];rw[T.ua k c hk hc,T.ua j c hj hc];have e2:S N (λ m=>(g U k m-q*g U j m)*g A0 m c)=S N λ m=>1*(g U k m*g A0 m c)-q*(g U j m*g A0 m c):=ax λ m _=>by grind
    rw[e2,Dp];omega
  . simp only[Sf h];exact T.ua i c hi hc
 ub:=λ i l hi hl=>by
  have e:S N (λ m=>g (bJ U k q j) i m*g (bJ C j (-q) k) l m)=S N λ m=>(if i=k then g U k m-q*g U j m else g U i m)*(if l=j then g C j m- -q*g C k m else g C l m):=ax λ m _=>by rw[eA T.fv hk hj,eA T.gD hj hk]
  rw[e];have djk:dl j k=0:=eH hkj;by_cases h:i=k
  . by_cases h2:l=j
    . simp only[Si h,Si h2];have e2:S N (λ m=>(g U k m-q*g U j m)*(g C j m- -q*g C k m))=S N λ m=>1*(1*(g U k m*g C j m)+q*(g U k m*g C k m))-q*(1*(g U j m*g C j m)+q*(g U j m*g C k m)):=ax λ m _=>by grind
      rw[e2,Dp,wc,wc,T.ub k j hk hj,T.ub k k hk hk,T.ub j j hj hj,T.ub j k hj hk,h,h2,dE,dE,djk,xT k j,djk];omega
    . simp only[Si h,Sf h2];have e2:S N (λ m=>(g U k m-q*g U j m)*g C l m)=S N λ m=>1*(g U k m*g C l m)-q*(g U j m*g C l m):=ax λ m _=>by grind
      rw[e2,Dp,T.ub k l hk hl,T.ub j l hj hl,h,eH (Sq h2)];omega
  . by_cases h2:l=j
    . simp only[Sf h,Si h2];have e2:S N (λ m=>g U i m*(g C j m- -q*g C k m))=S N λ m=>1*(g U i m*g C j m)+q*(g U i m*g C k m):=ax λ m _=>by grind
      rw[e2,wc,T.ub i j hi hj,T.ub i k hi hk,h2,eH h];omega
    . simp only[Sf h,Sf h2];exact T.ub i l hi hl
 bu:=λ i l hi hl=>by
  have e:S N (λ m=>g (bJ C j (-q) k) m i*g (bJ U k q j) m l)=S N λ m=>g C m i*g U m l+((q*(g C k i*g U j l))*dl m j+(-(q*(g C k i*g U j l)))*dl m k):=ax λ m _=>by
   rw[eA T.fv hk hj,eA T.gD hj hk];by_cases h1:m=j
   . have h2:m≠k:=by omega
     rw[Si h1,Sf h2,h1,dE,eH hkj];grind
   . rw[Sf h1,eH h1];by_cases h2:m=k
     . rw[Si h2,h2,dE];grind
     . rw[Sf h2,eH h2];grind
  rw[e,f_,wc,T.bu i l hi hl]
  have e1:S N (λ c=>dl c j)=1:=by
   rw[jd hj λ i _ h=>eH h,dE]
  have e2:S N (λ c=>dl c k)=1:=by
   rw[jd hk λ i _ h=>eH h,dE]
  rw[e1,e2];omega
def Bj{A:Rows}{k o i:Nat}(hk:k<A.length)(ho:o<A.length):(ck A k o).getD i []=A.getD (sw k o i) []:=by
 unfold ck;rw[mD (by rw[SO];exact ho),mD hk];unfold sw;by_cases h1:i=k
 . rw[Si h1,Si h1];by_cases h2:i=o
   . rw[Si h2,<-h1,<-h2]
   . rw[Sf h2]
 . rw[Sf h1,Sf h1];by_cases h2:i=o
   . rw[Si h2,Si h2]
   . rw[Sf h2,Sf h2]
def vm{A:Rows}{N w k o:Nat}(hA:cG N w A)(hk:k<N)(ho:o<N):cG N w (ck A k o):=by
 refine⟨by unfold ck;rw[SO,SO];exact hA.len,λ r hr=>?_⟩;unfold ck at hr;rcases U9 hr with h|rfl
 . rcases U9 h with h|rfl
   . exact hA.fE r h
   . exact du hA ho
 . exact du hA hk
def kT{A:Rows}{N w k o:Nat}(hA:cG N w A)(hk:k<N)(ho:o<N)(i c:Nat):g (ck A k o) i c=g A (sw k o i) c:=by
 unfold g;rw[Bj (by have:=hA.len;omega) (by have:=hA.len;omega)]
def ud{k o N i:Nat}(hk:k<N)(ho:o<N)(hi:i<N):sw k o i<N:=by unfold sw;split<;>(try split)<;>assumption
def EM(k o x:Nat):sw k o (sw k o x)=x:=by
 unfold sw;by_cases h1:x=k
 . subst h1;rw[Si rfl];by_cases h2:o=x
   . rw[Si h2];exact h2
   . rw[Sf h2,Si rfl]
 . rw[Sf h1];by_cases h2:x=o
   . subst h2;rw[Si rfl,Si rfl]
   . rw[Sf h2,Sf h1,Sf h2]
def ON{k o a b:Nat}:dl (sw k o a) (sw k o b)=dl a b:=by
 by_cases h:a=b
 . rw[h,dE,dE]
 . rw[eH h,eH λ z=>h (by rw[<-EM k o a,<-EM k o b,z])]
def Lm(k x:Nat):sw k k x=x:=by
 unfold sw;by_cases h:x=k
 . rw[Si h,h]
 . rw[Sf h,Sf h]
def O6{n i j:Nat}(hi:i<n)(hj:j<n)(f:Nat->Int):S n (λ k=>f (sw i j k))=S n f:=by
 by_cases h:i=j
 . subst h;exact ax λ k _=>by rw[Lm]
 . exact Rp hi hj h f
def Tn.Jm{A0 A U C:Rows}{N w k o:Nat}(T:Tn A0 A U C N w)(hk:k<N)(ho:o<N):Tn A0 (ck A k o) (ck U k o) (ck C k o) N w where
 isA:=vm T.isA hk ho
 fv:=vm T.fv hk ho
 gD:=vm T.gD hk ho
 ua:=λ i c hi hc=>by
  rw[kT T.isA hk ho,T.ua _ c (ud hk ho hi) hc];exact ax λ m _=>by rw[kT T.fv hk ho]
 ub:=λ i j hi hj=>by
  rw[<-ON (k:=k) (o:=o),<-T.ub _ _ (ud hk ho hi) (ud hk ho hj)];exact ax λ m _=>by rw[kT T.fv hk ho,kT T.gD hk ho]
 bu:=λ i j hi hj=>by
  rw[<-T.bu i j hi hj,<-O6 hk ho λ m=>g C m i*g U m j];exact ax λ m _=>by rw[kT T.fv hk ho,kT T.gD hk ho]
def ik(A:Rows)(k:Nat):Rows:=A.set k ((A.getD k []).map λ x=> -x)
def A_{A:Rows}{N w k:Nat}(hA:cG N w A)(hk:k<N):cG N w (ik A k):=by
 refine⟨by unfold ik;rw[SO];exact hA.len,λ r hr=>?_⟩;unfold ik at hr;rcases U9 hr with h|rfl
 . exact hA.fE r h
 . rw[Sb];exact du hA hk
def kE(r:Row)(c:Nat):(r.map λ x=> -x).getD c 0= -r.getD c 0:=by
 rw[Sd,Sd,SF];cases r[c]?<;>rfl
def lb{A:Rows}{N w k:Nat}(hA:cG N w A)(hk:k<N)(i c:Nat):g (ik A k) i c=if i=k then-g A k c else g A i c:=by
 unfold g ik;rw[mD (by have:=hA.len;omega)];by_cases h:i=k
 . rw[Si h,Si h,kE]
 . rw[Sf h,Sf h]
def Tn.neg{A0 A U C:Rows}{N w k:Nat}(T:Tn A0 A U C N w)(hk:k<N):Tn A0 (ik A k) (ik U k) (ik C k) N w where
 isA:=A_ T.isA hk
 fv:=A_ T.fv hk
 gD:=A_ T.gD hk
 ua:=λ i c hi hc=>by
  rw[lb T.isA hk];by_cases h:i=k
  . rw[Si h,T.ua k c hk hc,<-mV];exact ax λ m _=>by rw[lb T.fv hk,Si h,UC]
  . rw[Sf h,T.ua i c hi hc];exact ax λ m _=>by rw[lb T.fv hk,Sf h]
 ub:=λ i j hi hj=>by
  have e:S N (λ m=>g (ik U k) i m*g (ik C k) j m)=S N λ m=>(if i=k then-1 else 1)*(if j=k then-1 else 1)*(g U i m*g C j m):=ax λ m _=>by
   rw[lb T.fv hk,lb T.gD hk];by_cases h1:i=k<;>by_cases h2:j=k<;>simp only[h1,h2,UU,Uw]<;>grind
  rw[e,fj,T.ub i j hi hj];by_cases h1:i=k
  . by_cases h2:j=k
    . simp[h1,h2]
    . rw[eH (by omega)];simp
  . by_cases h2:j=k
    . rw[eH (by omega)];simp
    . simp[h1,h2]
 bu:=λ i j hi hj=>by
  rw[<-T.bu i j hi hj]
  exact ax λ m _=>by
   rw[lb T.fv hk,lb T.gD hk];by_cases h:m=k
   . subst h;rw[Si rfl,Si rfl];grind
   . rw[Sf h,Sf h]
structure gQ(A:Rows)(N top p:Nat)(L:List Nat):Prop where
 mem:∀k,k∈L↔top<=k/\k<N/\g A k p≠0
 ord:L.Pairwise λ i j=>(g A i p).natAbs<(g A j p).natAbs\/((g A i p).natAbs=(g A j p).natAbs/\i<j)
def vV{f:Nat->Nat}:∀ {l m:List Nat},(∀k,k∈l↔k∈m)->l.Pairwise (λ i j=>f i<f j\/(f i=f j/\i<j))->m.Pairwise (λ i j=>f i<f j\/(f i=f j/\i<j))->l=m
 | [],[],_,_,_=>rfl
 | [],b::m,h,_,_=>by have:=(h b).mpr (SD ..);simp at this
 |a::l,[],h,_,_=>by have:=(h a).mp (SD ..);simp at this
 |a::l,b::m,h,h1,h2=>by
  obtain⟨p1,q1⟩:=Vp.mp h1;obtain⟨p2,q2⟩:=Vp.mp h2
  have e:a=b:=by
   rcases SA.mp ((h a).mp (SD ..))with z|z
   . exact z
   . rcases SA.mp ((h b).mpr (SD ..))with y|y
     . exact y.symm
     . have x1:=p1 b y;have x2:=p2 a z;omega
  subst e;have na:a∉l:=λ z=>by have:=p1 a z;omega
  have nb:a∉m:=λ z=>by have:=p2 a z;omega
  rw[vV (l:=l) (m:=m) (λ k=>?_) q1 q2];have:=h k;rw[SA,SA]at this;constructor
  . intro z;rcases this.mp (.inr z)with y|y
    . subst y;exact absurd z na
    . exact y
  . intro z;rcases this.mpr (.inr z)with y|y
    . subst y;exact absurd z nb
    . exact y
def gQ.unique{A:Rows}{N top p:Nat}{L M:List Nat}(h:gQ A N top p L)(h':gQ A N top p M):L=M:=
 vV (f:=λ i=>(g A i p).natAbs) (λ k=>(h.mem k).trans (h'.mem k).symm) h.ord h'.ord
structure B3 where
 A:Rows
 U:Rows
 C:Rows
def qn(x y:Int):Int:=(2*x+y).fdiv (2*y)
def lP(b:B3)(p k j:Nat):B3:=⟨bJ b.A k (qn (g b.A k p) (g b.A j p)) j,bJ b.U k (qn (g b.A k p) (g b.A j p)) j,bJ b.C j (-(qn (g b.A k p) (g b.A j p))) k⟩
def uz(N top p:Nat)(b c:B3):Prop:=∃(L:List Nat) (k j:Nat),gQ b.A N top p (L++[j,k])/\c=lP b p k j
def uz.unique{N top p:Nat}{b c d:B3}(h:uz N top p b c)(h':uz N top p b d):c=d:=by
 obtain⟨L,k,j,h1,rfl⟩:=h;obtain⟨M,k',j',h2,rfl⟩:=h';have e:=h1.unique h2;have e2:=Ui List.reverse e;simp only[List.reverse_append,List.reverse_cons,List.reverse_nil,Ws,W7,Vo]at e2;rw[e2.1,e2.2.1]
inductive fK(N top p:Nat):B3->B3->Prop
 |refl (b:B3):fK N top p b b
 |head {b c d:B3} (h:uz N top p b c) (t:fK N top p c d):fK N top p b d
def fK.tail{N top p:Nat}{b c d:B3}(h:fK N top p b c)(t:uz N top p c d):fK N top p b d:=by
 induction h with
 |refl b=>exact .head t (.refl _)
 |head x _ ih=>exact .head x (ih t)
def wN(N top p:Nat)(b:B3):Prop:=∃L,gQ b.A N top p L/\L.length<=1
def wN.stop{N top p:Nat}{b c:B3}(h:wN N top p b)(s:uz N top p b c):False:=by
 obtain⟨L,h1,h2⟩:=h;obtain⟨M,k,j,h3,_⟩:=s;rw[h1.unique h3]at h2;simp at h2
def fK.unique{N top p:Nat}{b c d:B3}(h:fK N top p b c)(hc:wN N top p c)(h':fK N top p b d)(hd:wN N top p d):c=d:=by
 induction h with
 |refl b=>
  cases h' with
  |refl=>rfl
  |head s _=>exact(hc.stop s).elim
 |head s _ ih=>
  cases h' with
  |refl=>exact(hd.stop s).elim
  |head s' t=>
   rw[s'.unique s]at t;exact ih hc t
def g0(X:Rows)(N top m:Nat):Prop:=∀i c,top<=i->i<N->(g X i c).natAbs<=m
def PR(f:Nat->Nat):Nat->Nat
 |0=>1
 |n+1=>PR f n*f n
def Fw{f:Nat->Nat}(h:∀i,1<=f i):∀n,1<=PR f n
 |0=>R_ _
 |n+1=>Tb (Fw h n) (h n)
def Ae{f f':Nat->Nat}:∀ {n:Nat},(∀i,i<n->f i=f' i)->PR f n=PR f' n
 |0,_=>rfl
 |n+1,h=>by
  show PR f n*f n=PR f' n*f' n;rw[Ae λ i hi=>h i (S9 hi),h n (S0 n)]
def EL{f f':Nat->Nat}{k:Nat}:∀ {n:Nat},k<n->(∀i,i≠k->f i=f' i)->PR f n*f' k=PR f' n*f k
 |0,hk,_=>absurd hk (SN _)
 |n+1,hk,h=>by
  show PR f n*f n*f' k=PR f' n*f' n*f k;by_cases e:k=n
  . subst e;rw[Ae (n:=k) λ i hi=>h i (SW hi),VG,Uj (f k),VG]
  . have:=EL (n:=n) (by omega) h;rw[h n (Sq e),Nat.mul_right_comm,this,Nat.mul_right_comm]
def Js{f:Nat->Nat}{m top:Nat}(hm:1<=m):∀ {n:Nat},(∀i,i<n->i<top->f i<=1)->(∀i,i<n->f i<=m)->PR f n<=m^(n-top)
 |0,_,_=>by simp[PR]
 |n+1,h1,h2=>by
  have ih:=Js hm (n:=n) (λ i hi=>h1 i (S9 hi)) λ i hi=>h2 i (S9 hi);show PR f n*f n<=_;by_cases ht:n<top
  . have z:n+1-top=n-top:=by omega
    rw[z];exact Se (Tb ih (h1 n (S0 n) ht)) (by rw[Va];exact R_ _)
  . have z:n+1-top=(n-top)+1:=by omega
    rw[z,T3];exact Tb ih (h2 n (S0 n))
def wt(A:Rows)(top p i:Nat):Nat:=if top<=i/\g A i p≠0 then 2*(g A i p).natAbs else 1
def FT(A:Rows)(top p i:Nat):1<=wt A top p i:=by
 unfold wt;split<;>omega
def CH{x y:Int}(hy:y≠0):2*(x-qn x y*y).natAbs<=y.natAbs:=by
 unfold qn;have h1:=TU (2*x+y) (2*y);have h2:(2*x+y).fmod (2*y)=2*x+y-2*y*(2*x+y).fdiv (2*y):=by omega
 generalize(2*x+y).fdiv (2*y)=q at*;have e:2*(x-q*y)=(2*x+y).fmod (2*y)-y:=by rw[h2];grind
 rcases Vq hy with h|h
 . have a0:=Int.neg_fmod_neg (2*x+y) (2*y);have a1:=Th (-(2*x+y)) (show 0< -(2*y) by omega);have a2:=TC (-(2*x+y)) (show 0< -(2*y) by omega);omega
 . have a1:=Th (2*x+y) (show 0<2*y by omega);have a2:=TC (2*x+y) (show 0<2*y by omega);omega
def Kv{x y:Int}(hy:y≠0)(hxy:y.natAbs<=x.natAbs):(1+(qn x y).natAbs)*(if x-qn x y*y≠0 then 2*(x-qn x y*y).natAbs else 1)<=2*x.natAbs:=by
 have h2:=CH (x:=x) hy;generalize qn x y=q at*;generalize hr:x-q*y=r at*;have hx:x=q*y+r:=by omega
 have hq:(q*y).natAbs=q.natAbs*y.natAbs:=Tc ..;by_cases h0:r=0
 . rw[Sf (λ z=>z h0),Va];subst h0;have hxa:x.natAbs=q.natAbs*y.natAbs:=by rw[<-hq,hx];simp
   have hy1:1<=y.natAbs:=by omega
   have hq1:1<=q.natAbs:=by
    rcases Nat.eq_zero_or_pos q.natAbs with z|z
    . rw[z,Xd]at hxa;omega
    . exact z
   have:q.natAbs<=q.natAbs*y.natAbs:=UJ _ hy1;omega
 . rw[Si h0];have hr1:1<=r.natAbs:=by omega
   have key:(1+q.natAbs)*r.natAbs<=x.natAbs:=by
    rcases Ul q.natAbs 2 with hlt|hge
    . rcases Ul q.natAbs 1 with h|h
      . have z:q.natAbs=0:=by omega
        have zq:q=0:=by omega
        subst zq;simp at hx;subst hx;simp
      . have z:q.natAbs=1:=by omega
        rw[z]at hq⊢;have:(q*y).natAbs=y.natAbs:=by omega
        have h3:x.natAbs=y.natAbs+r.natAbs\/x.natAbs+r.natAbs=y.natAbs\/x.natAbs+y.natAbs=r.natAbs:=by omega
        omega
    . have h3:(q*y).natAbs<=x.natAbs+r.natAbs:=by omega
      rw[hq]at h3;have h4:q.natAbs*(2*r.natAbs)<=q.natAbs*y.natAbs:=TR _ h2;have h5:2*r.natAbs<=q.natAbs*r.natAbs:=Tx _ hge;have h6:q.natAbs*(2*r.natAbs)=q.natAbs*r.natAbs+q.natAbs*r.natAbs:=by rw[V7];omega
      rw[VI,Vb];omega
   have:(1+q.natAbs)*(2*r.natAbs)=2*((1+q.natAbs)*r.natAbs):=by rw[V7]
   omega
structure rg(A0:Rows)(N w top p m:Nat)(b0 b:B3)(gr:Nat):Prop where
 tn:Tn A0 b.A b.U b.C N w
 up:∀i,i<top->b.A.getD i []=b0.A.getD i []/\b.U.getD i []=b0.U.getD i []/\b.C.getD i []=b0.C.getD i []
 lA:g0 b.A N top (m*gr)
 lU:g0 b.U N top (m*gr)
 lC:g0 b.C N top (m*gr)
 zs:∀i c,top<=i->i<N->c<p->g b.A i c=0
 QA:gr*PR (wt b.A top p) N<=PR (wt b0.A top p) N
 pos:1<=gr
 OD:b=b0\/∃j,top<=j/\j<N/\g b.A j p≠0
def vF{X:Rows}{N w top k j m gr:Nat}{q:Int}(hX:cG N w X)(hk:k<N)(hj:j<N)(hkt:top<=k)(hjt:top<=j)(h:g0 X N top (m*gr)):g0 (bJ X k q j) N top (m*(gr*(1+q.natAbs))):=λ i c hi hN=>by
 rw[eA hX hk hj];have e:m*(gr*(1+q.natAbs))=m*gr+q.natAbs*(m*gr):=by rw[<-VG,Nat.mul_add,Va,Uj (m*gr) q.natAbs]
 rw[e];by_cases hik:i=k
 . rw[Si hik];have h1:=h k c hkt hk;have h2:=h j c hjt hj;have h3:(q*g X j c).natAbs<=q.natAbs*(m*gr):=by rw[Tc];exact TR _ h2
   omega
 . rw[Sf hik];have:=h i c hi hN;omega
def gM{X:Rows}{k j i:Nat}{q:Int}(hk:k<X.length)(h:i≠k):(bJ X k q j).getD i []=X.getD i []:=by
 unfold bJ;rw[mD hk,Sf h]
def rg.step{A0:Rows}{N w top p m gr:Nat}{b0 b:B3}{L:List Nat}{k j:Nat}(G:rg A0 N w top p m b0 b gr)(hp:p<w)(hL:gQ b.A N top p (L++[j,k])):
 rg A0 N w top p m b0 (lP b p k j) (gr*(1+(qn (g b.A k p) (g b.A j p)).natAbs))/\(g (lP b p k j).A k p).natAbs<(g b.A k p).natAbs/\(∀i,i≠k->g (lP b p k j).A i p=g b.A i p)/\top<=k/\k<N/\top<=j/\j<N/\j≠k/\g b.A j p≠0:=by
 obtain⟨hk1,hk2,hk3⟩:=(hL.mem k).mp (by simp);obtain⟨hj1,hj2,hj3⟩:=(hL.mem j).mp (by simp);have hord:=hL.ord;rw[List.pairwise_append]at hord;have o2:=(Vp.mp hord.2.1).1 k (by simp);have hjk:j≠k:=by intro z;subst z;omega
 have hle:(g b.A j p).natAbs<=(g b.A k p).natAbs:=by omega
 have gk:g (lP b p k j).A k p=g b.A k p-qn (g b.A k p) (g b.A j p)*g b.A j p:=by
  show g (bJ b.A k _ j) k p=_;rw[eA G.tn.isA hk2 hj2,Si rfl]
 have gi:∀i,i≠k->g (lP b p k j).A i p=g b.A i p:=λ i hi=>by
  show g (bJ b.A k _ j) i p=_;rw[eA G.tn.isA hk2 hj2,Sf hi]
 have hrest:=CH (x:=g b.A k p) hj3;have hgrow:=Kv (x:=g b.A k p) hj3 hle;refine⟨⟨G.tn.take hk2 hj2 hjk,λ i hi=>?_,vF G.tn.isA hk2 hj2 hk1 hj1 G.lA,vF G.tn.fv hk2 hj2 hk1 hj1 G.lU,?_,λ i c hi hN hc=>?_,?_,?_,.inr ⟨j,hj1,hj2,by rw[gi j hjk];exact hj3⟩⟩,?_,gi,hk1,hk2,hj1,hj2,hjk,hj3⟩
 . obtain⟨a1,a2,a3⟩:=G.up i hi;refine⟨(gM (by rw[G.tn.isA.len];exact hk2) (by omega)).trans a1,(gM (by rw[G.tn.fv.len];exact hk2) (by omega)).trans a2,(gM (by rw[G.tn.gD.len];exact hj2) (by omega)).trans a3⟩
 . have:=vF (q:= -(qn (g b.A k p) (g b.A j p))) G.tn.gD hj2 hk2 hj1 hk1 G.lC;rw[Uo]at this;exact this
 . show g (bJ b.A k _ j) i c=0;rw[eA G.tn.isA hk2 hj2];by_cases h:i=k
   . rw[Si h,G.zs k c hk1 hk2 hc,G.zs j c hj1 hj2 hc,SX];rfl
   . rw[Sf h];exact G.zs i c hi hN hc
 . have e:=EL (f:=wt (lP b p k j).A top p) (f':=wt b.A top p) (k:=k) hk2 λ i hi=>by unfold wt;rw[gi i hi]
   have w1:wt b.A top p k=2*(g b.A k p).natAbs:=by unfold wt;rw[Si ⟨hk1,hk3⟩]
   have w2:(1+(qn (g b.A k p) (g b.A j p)).natAbs)*wt (lP b p k j).A top p k<=wt b.A top p k:=by
    rw[w1];unfold wt;rw[gk];by_cases h0:g b.A k p-qn (g b.A k p) (g b.A j p)*g b.A j p=0
    . rw[Sf (λ z=>z.2 h0)];rw[Sf (λ z=>z h0)]at hgrow;exact hgrow
    . rw[Si ⟨hk1,h0⟩];rw[Si h0]at hgrow;exact hgrow
   have hw:0<wt b.A top p k:=FT _ _ _ _;refine Nat.le_of_mul_le_mul_right (c:=wt b.A top p k) ?_ hw
   have s1:gr*(1+(qn (g b.A k p) (g b.A j p)).natAbs)*PR (wt (lP b p k j).A top p) N*wt b.A top p k=gr*PR (wt b.A top p) N*((1+(qn (g b.A k p) (g b.A j p)).natAbs)*wt (lP b p k j).A top p k):=by
    rw[VG _ (PR _ N),e];simp only[VG,V7]
   rw[s1];exact Tb G.QA w2
 . exact Nat.mul_pos G.pos (by omega)
 . rw[gk];omega
def rg.low{A0:Rows}{N w top p e gr:Nat}{b0 b:B3}(G:rg A0 N w top p (2^e) b0 b gr)(h0:g0 b0.A N top (2^e)):2^e*gr<=2^((N-top+1)*(e+1)):=by
 have h1:gr<=PR (wt b0.A top p) N:=Se (UJ _ (Fw (FT _ _ _) N)) G.QA
 have h2:PR (wt b0.A top p) N<=(2^(e+1))^(N-top):=Js VU (λ i _ ht=>by unfold wt;rw[Sf (by omega)];exact R_ _) λ i hi=>by
  unfold wt;split
  . rename_i h;have:=h0 i p h.1 hi;rw[T3];omega
  . exact VU
 refine Se (TR _ (Se h1 h2)) ?_;rw[<-Nat.pow_mul,<-Um];refine Sv (by decide) ?_;have e1:(N-top+1)*(e+1)=(e+1)*(N-top)+(e+1):=by rw[VI,Vb,Uj]
 rw[e1];omega
structure fZ(A0:Rows)(N w:Nat)(b:B3)(top p:Nat)(ld:Nat->Nat)(e u:Nat):Prop where
 tn:Tn A0 b.A b.U b.C N w
 le:top<=N
 lo:g0 b.A N top (2^e)/\g0 b.U N top (2^e)/\g0 b.C N top (2^e)
 hi:∀i c,i<top->(g b.A i c).natAbs<=2^u/\(g b.U i c).natAbs<=2^u/\(g b.C i c).natAbs<=2^u
 zs:∀i c,top<=i->i<N->c<p->g b.A i c=0
 lead:∀i,i<top->ld i<p/\0<g b.A i (ld i)/\∀c,c<ld i->g b.A i c=0
 mono:∀i j,i<j->j<top->ld i<ld j
 red:∀i j,i<j->j<top->0<=g b.A i (ld j)/\g b.A i (ld j)<g b.A j (ld j)
def fZ.oX{A0:Rows}{N w top p e u:Nat}{b:B3}{ld:Nat->Nat}(S:fZ A0 N w b top p ld e u):rg A0 N w top p (2^e) b b 1:=
 ⟨S.tn,λ _ _=>⟨rfl,rfl,rfl⟩,by rw[Va];exact S.lo.1,by rw[Va];exact S.lo.2.1,by rw[Va];exact S.lo.2.2,S.zs,by rw[Vb];exact R_ _,R_ _,.inl rfl⟩
def fZ.skip{A0:Rows}{N w top p e u:Nat}{b:B3}{ld:Nat->Nat}(S:fZ A0 N w b top p ld e u)(h:gQ b.A N top p []):fZ A0 N w b top (p+1) ld e u:=
 ⟨S.tn,S.le,S.lo,S.hi,λ i c h1 h2 h3=>by
  by_cases hc:c=p
  . subst hc;exact Ug λ z=>absurd ((h.mem i).mpr ⟨h1,h2,z⟩) (by simp)
  . exact S.zs i c h1 h2 (by omega),λ i hi=>⟨S9 (S.lead i hi).1,(S.lead i hi).2⟩,S.mono,S.red⟩
def setB(b:B3)(p top r:Nat):B3:=
 if g (ck b.A top r) top p<0 then⟨ik (ck b.A top r) top,ik (ck b.U top r) top,ik (ck b.C top r) top⟩else⟨ck b.A top r,ck b.U top r,ck b.C top r⟩
def vK{X:Rows}{N w top r m:Nat}(hX:cG N w X)(ht:top<N)(hr:r<N)(hrt:top<=r)(h:g0 X N top m):g0 (ck X top r) N top m:=λ i c hi hN=>by
 rw[kT hX ht hr];refine h _ c ?_ (ud ht hr hN);unfold sw;split
 . exact hrt
 . split
   . exact R_ _
   . exact hi
def Bd{X:Rows}{N w top m:Nat}(hX:cG N w X)(ht:top<N)(h:g0 X N top m):g0 (ik X top) N top m:=λ i c hi hN=>by
 rw[lb hX ht];split
 . rw[Uo];exact h top c (R_ _) ht
 . exact h i c hi hN
def vn{X:Rows}{N w top r i:Nat}(hX:cG N w X)(ht:top<N)(hr:r<N)(hrt:top<=r)(hi:i<top):(ck X top r).getD i []=X.getD i []:=by
 rw[Bj (by have:=hX.len;omega) (by have:=hX.len;omega)];unfold sw;rw[Sf (by omega),Sf (by omega)]
def Aq{X:Rows}{N w top i:Nat}(hX:cG N w X)(ht:top<N)(hi:i<top):(ik X top).getD i []=X.getD i []:=by
 unfold ik;rw[mD (by have:=hX.len;omega),Sf (by omega)]
structure jC(A0:Rows)(N w top p m:Nat)(b0 b:B3):Prop where
 tn:Tn A0 b.A b.U b.C N w
 up:∀i,i<top->b.A.getD i []=b0.A.getD i []/\b.U.getD i []=b0.U.getD i []/\b.C.getD i []=b0.C.getD i []
 lo:g0 b.A N top m/\g0 b.U N top m/\g0 b.C N top m
 zs:∀i c,top<=i->i<N->c<p->g b.A i c=0
 tp:0<g b.A top p
 z1:∀i,top<i->i<N->g b.A i p=0
def rg.set{A0:Rows}{N w top p m gr r:Nat}{b0 b:B3}(G:rg A0 N w top p m b0 b gr)(hL:gQ b.A N top p [r]):jC A0 N w top p (m*gr) b0 (setB b p top r)/\top<=r/\r<N:=by
 obtain⟨hr1,hr2,hr3⟩:=(hL.mem r).mp (by simp);have ht:top<N:=by omega
 have z:∀i,top<=i->i<N->i≠r->g b.A i p=0:=λ i h1 h2 h3=>Ug λ y=>h3 (by simpa using(hL.mem i).mpr ⟨h1,h2,y⟩);have swg:∀i c,g (ck b.A top r) i c=g b.A (sw top r i) c:=λ i c=>kT G.tn.isA ht hr2 i c;have gt:g (ck b.A top r) top p=g b.A r p:=by rw[swg];unfold sw;rw[Si rfl]
 have T1:=G.tn.Jm ht hr2
 have z1:∀i,top<i->i<N->g (ck b.A top r) i p=0:=λ i h1 h2=>by
  rw[swg];unfold sw;rw[Sf (by omega)];by_cases h:i=r
  . rw[Si h];exact z top (R_ _) ht (by omega)
  . rw[Sf h];exact z i (by omega) h2 h
 have zs:∀i c,top<=i->i<N->c<p->g (ck b.A top r) i c=0:=λ i c h1 h2 h3=>by
  rw[swg];refine G.zs _ c ?_ (ud ht hr2 h2) h3;unfold sw;split
  . exact hr1
  . split
    . exact R_ _
    . exact h1
 have up:∀i,i<top->(ck b.A top r).getD i []=b0.A.getD i []/\(ck b.U top r).getD i []=b0.U.getD i []/\(ck b.C top r).getD i []=b0.C.getD i []:=λ i hi=>by
  obtain⟨a1,a2,a3⟩:=G.up i hi;exact⟨(vn G.tn.isA ht hr2 hr1 hi).trans a1,(vn G.tn.fv ht hr2 hr1 hi).trans a2,(vn G.tn.gD ht hr2 hr1 hi).trans a3⟩
 have lo:=And.intro (vK G.tn.isA ht hr2 hr1 G.lA) (And.intro (vK G.tn.fv ht hr2 hr1 G.lU) (vK G.tn.gD ht hr2 hr1 G.lC));refine⟨?_,hr1,hr2⟩;unfold setB;by_cases hs:g (ck b.A top r) top p<0
 . rw[Si hs];refine⟨T1.neg ht,λ i hi=>?_,⟨Bd T1.isA ht lo.1,Bd T1.fv ht lo.2.1,Bd T1.gD ht lo.2.2⟩,λ i c h1 h2 h3=>?_,?_,λ i h1 h2=>?_⟩
   . obtain⟨a1,a2,a3⟩:=up i hi;exact⟨(Aq T1.isA ht hi).trans a1,(Aq T1.fv ht hi).trans a2,(Aq T1.gD ht hi).trans a3⟩
   . show g (ik (ck b.A top r) top) i c=0;rw[lb T1.isA ht];split
     . rw[zs top c (R_ _) ht h3];rfl
     . exact zs i c h1 h2 h3
   . show 0<g (ik (ck b.A top r) top) top p;rw[lb T1.isA ht,Si rfl];omega
   . show g (ik (ck b.A top r) top) i p=0;rw[lb T1.isA ht,Sf (by omega)];exact z1 i h1 h2
 . rw[Sf hs];exact⟨T1,up,lo,zs,by show 0<g (ck b.A top r) top p;rw[gt]at hs⊢;omega,z1⟩
def lH(p top:Nat):Nat->B3->B3
 |0,b=>b
 |k+1,b=>
  let c:=lH p top k b
  ⟨bJ c.A k ((g c.A k p).fdiv (g c.A top p)) top,bJ c.U k ((g c.A k p).fdiv (g c.A top p)) top,bJ c.C top (-((g c.A k p).fdiv (g c.A top p))) k⟩
structure oQ(A0:Rows)(N w top p e u:Nat)(b:B3)(k:Nat)(c:B3):Prop where
 tn:Tn A0 c.A c.U c.C N w
 rA:∀i,k<=i->c.A.getD i []=b.A.getD i []/\c.U.getD i []=b.U.getD i []
 rC:∀i,i≠top->c.C.getD i []=b.C.getD i []
 ah:∀i q,i<k->q<p->g c.A i q=g b.A i q
 rd:∀i,i<k->0<=g c.A i p/\g c.A i p<g c.A top p
 sz:∀i q,i<k->(g c.A i q).natAbs<=2^(u+e+1)/\(g c.U i q).natAbs<=2^(u+e+1)
 sC:∀q,(g c.C top q).natAbs<=2^e+k*2^(u+u)
def iK(a:Int){b:Int}(hb:0<b):(a.fdiv b).natAbs<=a.natAbs:=by
 have h1:=TU a b;have h2:=Th a hb;have h3:=TC a hb;generalize a.fdiv b=q at*;rcases Int.lt_trichotomy q 0 with h|h|h
 . have h4:0<=(b-1)*(-q-1):=XC (by omega) (by omega);have e:(b-1)*(-q-1)= -(b*q)-b+q+1:=by grind
   omega
 . subst h;simp
 . have:q<=b*q:=by
    have:0<=(b-1)*q:=XC (by omega) (by omega);grind
   omega
def oQ.step{A0:Rows}{N w top p e u k:Nat}{b c:B3}(I:oQ A0 N w top p e u b k c)(hk:k<top)(ht:top<N)(hp:p<w)(htp:0<g b.A top p)(hz:∀q,q<p->g b.A top q=0)
 (hlo:∀q,(g b.A top q).natAbs<=2^e/\(g b.U top q).natAbs<=2^e) (hhi:∀i q,i<top->(g b.A i q).natAbs<=2^u/\(g b.U i q).natAbs<=2^u/\(g b.C i q).natAbs<=2^u):
 oQ A0 N w top p e u b (k+1) ⟨bJ c.A k ((g c.A k p).fdiv (g c.A top p)) top,bJ c.U k ((g c.A k p).fdiv (g c.A top p)) top,bJ c.C top (-((g c.A k p).fdiv (g c.A top p))) k⟩:=by
 have hkN:k<N:=by omega
 have gA:∀i q,k<=i->g c.A i q=g b.A i q:=λ i q hi=>by unfold g;rw[(I.rA i hi).1]
 have gU:∀i q,k<=i->g c.U i q=g b.U i q:=λ i q hi=>by unfold g;rw[(I.rA i hi).2]
 have gC:∀i q,i≠top->g c.C i q=g b.C i q:=λ i q hi=>by unfold g;rw[I.rC i hi]
 have qe:((g c.A k p).fdiv (g c.A top p)).natAbs<=2^u:=by
  rw[gA k p (R_ _),gA top p (by omega)];exact Se (iK _ htp) (hhi k p hk).1
 have hq:∀x:Int,x.natAbs<=2^e->((g c.A k p).fdiv (g c.A top p)*x).natAbs<=2^(u+e):=λ x hx=>by
  rw[Tc,Um];exact Tb qe hx
 have le1:2^u<=2^(u+e):=Sv (by decide) (by omega);refine⟨I.tn.take hkN ht (by omega),λ i hi=>?_,λ i hi=>?_,λ i q hi hqp=>?_,λ i hi=>?_,λ i q hi=>?_,λ q=>?_⟩
 . exact⟨(gM (by rw[I.tn.isA.len];exact hkN) (by omega)).trans (I.rA i (by omega)).1,(gM (by rw[I.tn.fv.len];exact hkN) (by omega)).trans (I.rA i (by omega)).2⟩
 . exact(gM (by rw[I.tn.gD.len];exact ht) hi).trans (I.rC i hi)
 . show g (bJ c.A k _ top) i q=_;rw[eA I.tn.isA hkN ht];split
   . rename_i h;rw[gA top q (by omega),hz q hqp,SX,gA k q (R_ _),h];omega
   . exact I.ah i q (by omega) hqp
 . show 0<=g (bJ c.A k _ top) i p/\g (bJ c.A k _ top) i p<g (bJ c.A k _ top) top p;rw[eA I.tn.isA hkN ht,eA I.tn.isA hkN ht,Sf (show¬top=k by omega)];split
   . have h1:=TU (g c.A k p) (g c.A top p);have htp':0<g c.A top p:=by rw[gA top p (by omega)];exact htp
     have h2:=Th (g c.A k p) htp';have h3:=TC (g c.A k p) htp';rw[Ua]at h1;omega
   . exact I.rd i (by omega)
 . show(g (bJ c.A k _ top) i q).natAbs<=_/\(g (bJ c.U k _ top) i q).natAbs<=_;rw[eA I.tn.isA hkN ht,eA I.tn.fv hkN ht];split
   . have a1:=hq (g c.A top q) (by rw[gA top q (by omega)];exact(hlo q).1);have a2:=hq (g c.U top q) (by rw[gU top q (by omega)];exact(hlo q).2);rw[gA k q (R_ _),gU k q (R_ _)];have b1:=(hhi k q hk).1;have b2:=(hhi k q hk).2.1;rw[T3];omega
   . exact I.sz i q (by omega)
 . show(g (bJ c.C top _ k) top q).natAbs<=_;rw[eA I.tn.gD ht hkN,Si rfl,gC k q (by omega),UC];have a1:=I.sC q
   have a2:((g c.A k p).fdiv (g c.A top p)*g b.C k q).natAbs<=2^(u+u):=by
    rw[Tc,Um];exact Tb qe (hhi k q hk).2.2
   rw[VI,Vb];omega
def oQ.start{A0:Rows}{N w top p e u:Nat}{b:B3}(T:Tn A0 b.A b.U b.C N w)(h:∀q,(g b.C top q).natAbs<=2^e):oQ A0 N w top p e u b 0 b:=
 ⟨T,λ _ _=>⟨rfl,rfl⟩,λ _ _=>rfl,λ _ _ h=>absurd h (SN _),λ _ h=>absurd h (SN _),λ _ _ h=>absurd h (SN _),λ q=>by rw[Xd];exact h q⟩
def jC.next{A0:Rows}{N w top p e u e' u':Nat}{b0 b c:B3}{ld:Nat->Nat}(S:fZ A0 N w b0 top p ld e u)(s:jC A0 N w top p (2^e') b0 b)(ht:top<N)(I:oQ A0 N w top p e' u b top c)(hN:N<=8)
 (h1:u+e'+1<=u') (h2:u+u+4<=u'):fZ A0 N w c (top+1) (p+1) (λ i=>if i=top then p else ld i) e' u':=by
 have hup:∀i q,i<top->g b.A i q=g b0.A i q:=λ i q hi=>by unfold g;rw[(s.up i hi).1]
 have hA:∀i q,top<=i->g c.A i q=g b.A i q:=λ i q hi=>by unfold g;rw[(I.rA i hi).1]
 have hU:∀i q,top<=i->g c.U i q=g b.U i q:=λ i q hi=>by unfold g;rw[(I.rA i hi).2]
 have hC:∀i q,i≠top->g c.C i q=g b.C i q:=λ i q hi=>by unfold g;rw[I.rC i hi]
 have le:∀ {a x:Nat},a<=2^x->x<=u'->a<=2^u':=λ h hx=>Se h (Sv (by decide) hx);refine⟨I.tn,ht,⟨λ i q hi hN=>?_,λ i q hi hN=>?_,λ i q hi hN=>?_⟩,λ i q hi=>?_,λ i q hi hN hq=>?_,λ i hi=>?_,λ i j hij hj=>?_,λ i j hij hj=>?_⟩
 . rw[hA i q (by omega)];exact s.lo.1 i q (by omega) hN
 . rw[hU i q (by omega)];exact s.lo.2.1 i q (by omega) hN
 . rw[hC i q (by omega)];exact s.lo.2.2 i q (by omega) hN
 . by_cases h:i=top
   . subst h;refine⟨?_,?_,?_⟩
     . rw[hA i q (R_ _)];exact le (s.lo.1 i q (R_ _) ht) (by omega)
     . rw[hU i q (R_ _)];exact le (s.lo.2.1 i q (R_ _) ht) (by omega)
     . have h3:=I.sC q;have h4:i*2^(u+u)<=2^(u+u+3):=by rw[Um _ _ 3,Uj];exact TR _ (by omega)
       have h5:2^(u+u+3)*2<=2^u':=by rw[<-T3];exact Sv (by decide) h2
       have h6:2^e'*2<=2^u':=by rw[<-T3];exact Sv (by decide) (by omega)
       omega
   . have hi':i<top:=by omega
     refine⟨le (I.sz i q hi').1 h1,le (I.sz i q hi').2 h1,?_⟩;rw[hC i q h];have:g b.C i q=g b0.C i q:=by unfold g;rw[(s.up i hi').2.2]
     rw[this];exact le (S.hi i q hi').2.2 (by omega)
 . rw[hA i q (by omega)];by_cases h:q=p
   . rw[h];exact s.z1 i (by omega) hN
   . exact s.zs i q (by omega) hN (by omega)
 . by_cases h:i=top
   . subst h;rw[Si rfl];refine⟨S0 p,?_,λ q hq=>?_⟩
     . rw[hA i p (R_ _)];exact s.tp
     . rw[hA i q (R_ _)];exact s.zs i q (R_ _) ht hq
   . have hi':i<top:=by omega
     rw[Sf h];obtain⟨a1,a2,a3⟩:=S.lead i hi';refine⟨S9 a1,?_,λ q hq=>?_⟩
     . rw[I.ah i _ hi' a1,hup i _ hi'];exact a2
     . rw[I.ah i _ hi' (Ub hq a1),hup i _ hi'];exact a3 q hq
 . by_cases h:j=top
   . rw[Si h,Sf (by omega)];exact(S.lead i (by omega)).1
   . rw[Sf h,Sf (by omega)];exact S.mono i j hij (by omega)
 . by_cases h:j=top
   . subst h;rw[Si rfl];exact I.rd i hij
   . have hj':j<top:=by omega
     rw[Sf h];have:=S.red i j hij hj';have hl:=(S.lead j hj').1;rw[I.ah i _ (by omega) hl,I.ah j _ hj' hl,hup i _ (by omega),hup j _ hj'];exact this
def Tn.start{A:Rows}{N w:Nat}(hA:cG N w A):Tn A A (units N) (units N) N w where
 isA:=hA
 fv:=r_ N
 gD:=r_ N
 ua:=λ i c hi hc=>by
  rw[<-m7 hi λ k=>g A k c];exact ax λ m hm=>by rw[ji hi hm]
 ub:=λ i j hi hj=>by
  rw[xT i j,<-m7 hi λ k=>dl j k]
  . exact ax λ m hm=>by rw[ji hi hm,ji hj hm]
 bu:=λ i j hi hj=>by
  rw[<-qz hi λ k=>dl k j];exact ax λ m hm=>by rw[ji hm hi,ji hm hj,Ua]
def fZ.start{A:Rows}{N w e:Nat}(hA:cG N w A)(h:g0 A N 0 (2^e)):fZ A N w ⟨A,units N,units N⟩ 0 0 (λ _=>0) e 0:=by
 have hu:g0 (units N) N 0 (2^e):=λ i c _ hi=>by
  by_cases hc:c<N
  . rw[ji hi hc];unfold dl;split
    . exact VU
    . exact SM _
  . unfold g;rw[jJ (l:=(units N).getD i []) (by rw[du (r_ N) hi];omega)];exact SM _
 exact⟨Tn.start hA,SM _,⟨h,hu,hu⟩,λ _ _ h=>absurd h (SN _),λ _ _ _ _ h=>absurd h (SN _),λ _ h=>absurd h (SN _),λ _ _ _ h=>absurd h (SN _),λ _ _ _ h=>absurd h (SN _)⟩
def SU(f:Nat->Nat):Nat->Nat
 |0=>0
 |n+1=>SU f n+f n
def Jb{f f':Nat->Nat}:∀ {n:Nat},(∀i,i<n->f' i<=f i)->SU f' n<=SU f n
 |0,_=>R_ _
 |n+1,h=>Nat.add_le_add (Jb λ i hi=>h i (S9 hi)) (h n (S0 n))
def Jt{f f':Nat->Nat}{k:Nat}(hlt:f' k<f k):∀ {n:Nat},k<n->(∀i,i<n->f' i<=f i)->SU f' n<SU f n
 |0,hk,_=>absurd hk (SN _)
 |n+1,hk,h=>by
  by_cases e:k=n
  . subst e;exact Nat.add_lt_add_of_le_of_lt (Jb λ i hi=>h i (S9 hi)) hlt
  . exact Nat.add_lt_add_of_lt_of_le (Jt hlt (by omega) λ i hi=>h i (S9 hi)) (h n (S0 n))
def mu(A:Rows)(N p:Nat):Nat:=SU (λ i=>(g A i p).natAbs) N
inductive Ci(N p:Nat):Nat->B3->Nat->B3->Prop
 |none {top:Nat} {b:B3} (h:gQ b.A N top p []):Ci N p top b top b
 |one {top r:Nat} {b c:B3} (h:fK N top p b c) (l:gQ c.A N top p [r]):Ci N p top b (top+1) (lH p top top (setB c p top r))
def Ci.unique{N p t t1 t2:Nat}{b b1 b2:B3}(h:Ci N p t b t1 b1)(h':Ci N p t b t2 b2):t1=t2/\b1=b2:=by
 have no:∀ {c:B3} {r:Nat},gQ b.A N t p []->fK N t p b c->gQ c.A N t p [r]->False:=λ{c r} h g l=>by
  cases g with
  |refl=>have:=h.unique l;cases this
  |head s _=>exact wN.stop ⟨[],h,by simp⟩ s
 cases h with
 |none h=>
  cases h' with
  |none _=>exact⟨rfl,rfl⟩
  |one g l=>exact(no h g l).elim
 |one g l=>
  cases h' with
  |none h=>exact(no h g l).elim
  |one g' l'=>
   have e:=g.unique ⟨_,l,by simp⟩ g' ⟨_,l',by simp⟩;subst e;have e2:=l.unique l';cases e2;exact⟨rfl,rfl⟩
inductive ir(A:Rows)(N:Nat):Nat->Nat->B3->Prop
 |start:ir A N 0 0 ⟨A,units N,units N⟩
 |next {p t t':Nat} {b b':B3} (h:ir A N p t b) (c:Ci N p t b t' b'):ir A N (p+1) t' b'
def ir.unique{A:Rows}{N:Nat}:∀ {p t1 t2:Nat} {b1 b2:B3},ir A N p t1 b1->ir A N p t2 b2->t1=t2/\b1=b2
 |0,_,_,_,_,.start,.start=>⟨rfl,rfl⟩
 |p+1,_,_,_,_,.next h c,.next h' c'=>by
  obtain⟨rfl,rfl⟩:=ir.unique h h';exact c.unique c'
def Ez(N e0:Nat):Nat->Nat
 |0=>e0
 |t+1=>(N-t+1)*(Ez N e0 t+1)
def Vz(N e0:Nat):Nat->Nat
 |0=>0
 |t+1=>Vz N e0 t+Vz N e0 t+Ez N e0 (t+1)+5
def bT(X:Rows)(n w:Nat)(v:Nat->Int):Prop:=∃z:Nat->Int,∀c,c<w->v c=S n λ k=>z k*g X k c
def bT.row{X:Rows}{n w k:Nat}(hk:k<n):bT X n w (g X k):=⟨λ i=>dl k i,λ c _=>(m7 hk λ i=>g X i c).symm⟩
def bT.sub{X:Rows}{n w:Nat}{u v:Nat->Int}(hu:bT X n w u)(hv:bT X n w v):bT X n w λ c=>u c-v c:=by
 obtain⟨y,hy⟩:=hu;obtain⟨z,hz⟩:=hv;refine⟨λ k=>y k-z k,λ c hc=>?_⟩;show u c-v c=S n λ k=>(y k-z k)*g X k c;rw[hy c hc,hz c hc,Tt,<-mV,<-f_];exact ax λ k _=>by rw[Wa,Tt]
def bT.trans{X Y:Rows}{m n w:Nat}{v:Nat->Int}(h:∀k,k<m->bT Y n w (g X k))(hv:bT X m w v):bT Y n w v:=by
 obtain⟨z,hz⟩:=hv
 have h':∀k,∃y:Nat->Int,k<m->∀c,c<w->g X k c=S n λ i=>y i*g Y i c:=λ k=>by
  by_cases hk:k<m
  . obtain⟨y,hy⟩:=h k hk;exact⟨y,λ _=>hy⟩
  . exact⟨λ _=>0,λ h=>absurd h hk⟩
 refine⟨λ i=>S m λ k=>z k*Classical.choose (h' k) i,λ c hc=>?_⟩;rw[hz c hc]
 have e1:S m (λ k=>z k*g X k c)=S m λ k=>S n λ i=>z k*Classical.choose (h' k) i*g Y i c:=ax λ k hk=>by
  rw[Wl (h' k) hk c hc,<-fj];exact ax λ i _=>(T6 _ _ _).symm
 rw[e1,lK];exact ax λ i _=>m_ _ _ _
structure bc(X:Rows)(n w:Nat)(ld:Nat->Nat):Prop where
 lead:∀i,i<n->ld i<w/\0<g X i (ld i)/\∀c,c<ld i->g X i c=0
 mono:∀i j,i<j->j<n->ld i<ld j
def bc.inj{X:Rows}{n w:Nat}{ld:Nat->Nat}(s:bc X n w ld){i j:Nat}(hi:i<n)(hj:j<n)(h:ld i=ld j):i=j:=by
 rcases UI i j with q|q|q
 . exact absurd h (SW (s.mono i j q hj))
 . exact q
 . exact absurd h.symm (SW (s.mono j i q hi))
def bc.lt{X:Rows}{n w:Nat}{ld:Nat->Nat}(s:bc X n w ld){i j:Nat}(hi:i<n)(hj:j<n)(h:ld i<ld j):i<j:=by
 rcases UI i j with q|q|q
 . exact q
 . rw[q]at h;exact absurd h (TN _)
 . exact absurd (Ub h (s.mono j i q hi)) (TN _)
def bc.gone{X:Rows}{n w q:Nat}{ld:Nat->Nat}{v z:Nat->Int}(s:bc X n w ld)(hz:∀c,c<w->v c=S n λ k=>z k*g X k c)(h0:∀c,c<q->v c=0)(k:Nat):k<n->ld k<q->z k=0:=by
 induction k using Nat.strongRecOn with
 |ind k ih=>
  intro hk hq;obtain⟨h1,h2,h3⟩:=s.lead k hk;have e:=hz (ld k) h1;rw[h0 _ hq,jd hk λ i hi ne=>?_]at e
  . exact(Int.mul_eq_zero.mp e.symm).resolve_right (Vf h2)
  . rcases UR ne with l|l
    . rw[ih i l hi (Ub (s.mono i k l hk) hq),Tu]
    . rw[(s.lead i hi).2.2 _ (s.mono k i l hi),SX]
def bc.at{X:Rows}{n w q:Nat}{ld:Nat->Nat}{v:Nat->Int}(s:bc X n w ld)(hv:bT X n w v)(hq:q<w)(h0:∀c,c<q->v c=0):(∃i,i<n/\ld i=q/\g X i q∣v q)\/v q=0:=by
 obtain⟨z,hz⟩:=hv
 have go:∀k,k<n->ld k≠q->z k*g X k q=0:=λ k hk ne=>by
  rcases UR ne with l|l
  . rw[s.gone hz h0 k hk l,Tu]
  . rw[(s.lead k hk).2.2 _ l,SX]
 by_cases h:∃i,i<n/\ld i=q
 . obtain⟨i,hi,e⟩:=h;refine .inl ⟨i,hi,e,z i,?_⟩;rw[hz q hq,jd hi λ k hk ne=>go k hk λ z=>ne (s.inj hk hi (z.trans e.symm)),Ua]
 . refine .inr ?_;rw[hz q hq];exact gn λ k hk=>go k hk λ e=>h ⟨k,hk,e⟩
def bc.sees{X Y:Rows}{n m w:Nat}{ld ld':Nat->Nat}(sX:bc X n w ld)(sY:bc Y m w ld')(h:∀k,k<n->bT Y m w (g X k))(i:Nat)(hi:i<n):∃j,j<m/\ld' j=ld i/\g Y j (ld i)∣g X i (ld i):=by
 obtain⟨h1,h2,h3⟩:=sX.lead i hi;rcases sY.at (h i hi) h1 h3 with q|q
 . exact q
 . rw[q]at h2;exact absurd h2 (by decide)
def bc.same{X Y:Rows}{n m w:Nat}{ld ld':Nat->Nat}(sX:bc X n w ld)(sY:bc Y m w ld')(h1:∀k,k<n->bT Y m w (g X k))(h2:∀k,k<m->bT X n w (g Y k))(i:Nat):i<n->i<m/\ld' i=ld i/\g Y i (ld i)=g X i (ld i):=by
 induction i using Nat.strongRecOn with
 |ind i ih=>
  intro hi;obtain⟨j,hj,ej,dj⟩:=sX.sees sY h1 i hi
  have e:j=i:=by
   rcases UI j i with l|l|l
   . have:=(ih j l (Ub l hi)).2.1;exact absurd (this.symm.trans ej) (SW (sX.mono j i l hi))
   . exact l
   . obtain⟨k,hk,ek,_⟩:=sY.sees sX h2 i (Ub l hj);have lk:k<i:=sX.lt hk hi (by rw[ek,<-ej];exact sY.mono i j l hj);have:=(ih k lk hk).2.1;exact absurd (this.trans ek) (SW (sY.mono k i lk (Ub l hj)))
  subst e;refine⟨hj,ej,?_⟩;obtain⟨k,hk,ek,dk⟩:=sY.sees sX h2 j hj;have:=sX.inj hk hi (ek.trans ej);subst this;rw[ej]at dk;exact Int.dvd_antisymm (by rw[<-ej];exact UE (sY.lead k hj).2.1) (UE (sX.lead k hi).2.1) dj dk
def bc.many{X Y:Rows}{n m w:Nat}{ld ld':Nat->Nat}(sX:bc X n w ld)(sY:bc Y m w ld')(h1:∀k,k<n->bT Y m w (g X k))(h2:∀k,k<m->bT X n w (g Y k)):n=m:=by
 refine Xk ?_ ?_
 . cases n with
   |zero=>exact SM _
   |succ n=>exact(sX.same sY h1 h2 n (S0 n)).1
 . cases m with
   |zero=>exact SM _
   |succ m=>exact(sY.same sX h2 h1 m (S0 m)).1
def kb(X:Rows)(n:Nat)(ld:Nat->Nat):Prop:=∀i j,i<j->j<n->0<=g X i (ld j)/\g X i (ld j)<g X j (ld j)
def bc.only{X Y:Rows}{n m w:Nat}{ld ld':Nat->Nat}(sX:bc X n w ld)(sY:bc Y m w ld')(h1:∀k,k<n->bT Y m w (g X k))(h2:∀k,k<m->bT X n w (g Y k))(rX:kb X n ld)(rY:kb Y m ld'){i:Nat}(hi:i<n)(c:Nat):c<w->g X i c=g Y i c:=by
 induction c using Nat.strongRecOn with
 |ind c ih=>
  intro hc;obtain⟨im,il,ig⟩:=sX.same sY h1 h2 i hi;have hv:bT X n w λ c=>g X i c-g Y i c:=(bT.row hi).sub (h2 i im);rcases sX.at hv hc λ d hd=>by rw[ih d hd (Ub hd hc),Xe]with⟨j,hj,rfl,d⟩|q
  . obtain⟨jm,jl,jg⟩:=sX.same sY h1 h2 j hj;rcases UI i j with l|l|l
    . have a:=rX i j l hj;have b:=rY i j l jm;rw[jl,jg]at b;exact XD (VM d (by omega))
    . subst l;exact ig.symm
    . rw[(sX.lead i hi).2.2 _ (sX.mono j i l hi),(sY.lead i im).2.2 _ (by rw[il];exact sX.mono j i l hi)]
  . exact XD q
def fK.oX{A0:Rows}{N w top p m:Nat}{b0 b c:B3}(hp:p<w)(h:fK N top p b c):∀ {gr:Nat},rg A0 N w top p m b0 b gr->∃gr',rg A0 N w top p m b0 c gr':=by
 induction h with
 |refl b=>exact λ G=>⟨_,G⟩
 |head s _ ih=>
  intro gr G;obtain⟨L,k,j,hL,rfl⟩:=s;exact ih (G.step hp hL).1
def jC.mono{A0:Rows}{N w top p m m':Nat}{b0 b:B3}(s:jC A0 N w top p m b0 b)(h:m<=m'):jC A0 N w top p m' b0 b:=
 ⟨s.tn,s.up,⟨λ i c h1 h2=>Se (s.lo.1 i c h1 h2) h,λ i c h1 h2=>Se (s.lo.2.1 i c h1 h2) h,λ i c h1 h2=>Se (s.lo.2.2 i c h1 h2) h⟩,s.zs,s.tp,s.z1⟩
def jC.Qk{A0:Rows}{N w top p m:Nat}{b0 b:B3}(s:jC A0 N w top p m b0 b){i:Nat}(hi:i<top)(q:Nat):g b.A i q=g b0.A i q/\g b.U i q=g b0.U i q/\g b.C i q=g b0.C i q:=by
 obtain⟨a1,a2,a3⟩:=s.up i hi;unfold g;rw[a1,a2,a3];exact⟨rfl,rfl,rfl⟩
def fZ.one{A0:Rows}{N w t p e u r:Nat}{b c:B3}{ld:Nat->Nat}(S:fZ A0 N w b t p ld e u)(hp:p<w)(h:fK N t p b c)(l:gQ c.A N t p [r]):
 jC A0 N w t p (2^((N-t+1)*(e+1))) b (setB c p t r)/\t<N/\∀k,k<=t->oQ A0 N w t p ((N-t+1)*(e+1)) u (setB c p t r) k (lH p t k (setB c p t r)):=by
 obtain⟨gr,G⟩:=h.oX hp S.oX;obtain⟨s,h1,h2⟩:=G.set l;have s1:=s.mono (G.low S.lo.1);have ht:t<N:=WL h1 h2;refine⟨s1,ht,λ k=>?_⟩;induction k with
 |zero=>exact λ _=>oQ.start s1.tn λ q=>s1.lo.2.2 t q (R_ _) ht
 |succ k ih=>
  intro hk;refine(ih (Tz hk)).step hk ht hp s1.tp (λ q hq=>s1.zs t q (R_ _) ht hq) (λ q=>⟨s1.lo.1 t q (R_ _) ht,s1.lo.2.1 t q (R_ _) ht⟩) λ i q hi=>?_;obtain⟨a1,a2,a3⟩:=s1.Qk hi q;rw[a1,a2,a3];exact S.hi i q hi
def ir.RI{A:Rows}{N w e0:Nat}(hA:cG N w A)(hlo:g0 A N 0 (2^e0))(hN:N<=8){p t:Nat}{b:B3}(h:ir A N p t b):p<=w->∃ld,fZ A N w b t p ld (Ez N e0 t) (Vz N e0 t):=by
 induction h with
 |start=>exact λ _=>⟨_,fZ.start hA hlo⟩
 |next _ c ih=>
  intro hp;obtain⟨ld,S⟩:=ih (Tz hp);cases c with
  |none l=>exact⟨ld,S.skip l⟩
  |one g l=>
   obtain⟨s1,ht,I⟩:=S.one hp g l;exact⟨_,jC.next (e':=Ez N e0 (_+1)) (u':=Vz N e0 (_+1)) S s1 ht (I _ (R_ _)) hN (by show _<=Vz N e0 _+Vz N e0 _+Ez N e0 (_+1)+5;omega) (by show _<=Vz N e0 _+Vz N e0 _+Ez N e0 (_+1)+5;omega)⟩
def nl(A:Rows)(N t p:Nat):Nat:=SU (λ i=>if t<=i/\g A i p≠0 then 1 else 0) N
def Ej{n:Nat}{f:Nat->Int}:∀ {N:Nat},n<=N->(∀i,n<=i->i<N->f i=0)->S N f=S n f
 |0,h,_=>by rw[Nat.le_zero.mp h]
 |N+1,h,z=>by
  by_cases e:n=N+1
  . rw[e]
  . have hn:n<=N:=by omega
    show S N f+f N=_;rw[z N hn (S0 N),Uk];exact Ej hn λ i h1 h2=>z i h1 (S9 h2)
def fZ.Pu{A:Rows}{N w top e u:Nat}{c:B3}{ld:Nat->Nat}(s:fZ A N w c top w ld e u):bc c.A top w ld/\kb c.A top ld:=⟨⟨s.lead,s.mono⟩,s.red⟩
def fZ.in{A:Rows}{N w top e u:Nat}{c:B3}{ld:Nat->Nat}(s:fZ A N w c top w ld e u)(k:Nat)(hk:k<top):bT A N w (g c.A k):=
 ⟨g c.U k,λ q hq=>s.tn.ua k q (Sw hk s.le) hq⟩
def fZ.out{A:Rows}{N w top e u:Nat}{c:B3}{ld:Nat->Nat}(s:fZ A N w c top w ld e u)(k:Nat)(hk:k<N):bT c.A top w (g A k):=by
 refine⟨λ i=>g c.C i k,λ q hq=>?_⟩
 have e1:S N (λ i=>g c.C i k*g c.A i q)=g A k q:=by
  have:S N (λ i=>g c.C i k*g c.A i q)=S N λ i=>S N λ j=>g c.C i k*g c.U i j*g A j q:=ax λ i hi=>by
   rw[s.tn.ua i q hi hq,<-fj];exact ax λ j _=>(T6 _ _ _).symm
  rw[this,lK]
  have e2:S N (λ j=>S N λ i=>g c.C i k*g c.U i j*g A j q)=S N λ j=>dl k j*g A j q:=ax λ j hj=>by
   rw[m_,s.tn.bu k j hk hj]
  rw[e2,m7 hk λ j=>g A j q]
 rw[<-e1];exact Ej s.le λ i h1 h2=>by rw[s.zs i q h1 h2 hq,SX]
def d9{X:Rows}{n i q:Nat}(h:i<n):g (X.take n) i q=g X i q:=by
 unfold g;rw[Sd (l:=X.take n),Sd (l:=X),VP h]
def bT.Ru{X:Rows}{n w:Nat}{u v:Nat->Int}(x:Int)(hu:bT X n w u)(hv:bT X n w v):bT X n w λ c=>u c+x*v c:=by
 obtain⟨y,hy⟩:=hu;obtain⟨z,hz⟩:=hv;refine⟨λ k=>y k+x*z k,λ c hc=>?_⟩;show u c+x*v c=S n λ k=>(y k+x*z k)*g X k c;rw[hy c hc,hz c hc,<-fj,<-f_];exact ax λ k _=>by rw[Int.add_mul,T6]
def bT.eq{X:Rows}{n w:Nat}{u v:Nat->Int}(hu:bT X n w u)(h:∀c,c<w->v c=u c):bT X n w v:=by
 obtain⟨y,hy⟩:=hu;exact⟨y,λ c hc=>(h c hc).trans (hy c hc)⟩
structure og(X:Rows)(n:Nat)(Y:Rows)(m w:Nat):Prop where
 to:∀k,k<n->bT Y m w (g X k)
 of:∀k,k<m->bT X n w (g Y k)
def bT.zero{X:Rows}{n w:Nat}{v:Nat->Int}(h:∀c,c<w->v c=0):bT X n w v:=
 ⟨λ _=>0,λ c hc=>by rw[h c hc,gn λ k _=>Tu _]⟩
def qV{X:Rows}{r:Row}{k:Nat}(hk:k<=X.length)(i:Nat):(X.take k++r::X.drop k).getD i []=if i<k then X.getD i []else if i=k then r else X.getD (i-1) []:=by
 have lt:(X.take k).length=k:=by rw[Tr];omega
 rw[Sd,Sd,Sd];by_cases h:i<k
 . rw[Si h,Sk (by rw[lt];exact h),VP h]
 . rw[Sf h,S7 (by rw[lt];omega),lt];by_cases h2:i=k
   . rw[Si h2,h2,Ve];rfl
   . rw[Sf h2];have:i-k=(i-1-k)+1:=by omega
     rw[this,V1,VV];congr 2;omega
structure sy(F:Rows)(w:Nat)(ld:Nat->Nat)(row:Nat->Int)(i:Nat)(o:Int)(L:Nat->Int):Prop where
 pos:0<o
 sum:bT F i w λ c=>o*row c-L c
 off:∀k,k<i->L (ld k)=0
 least:∀(m:Int) (v:Nat->Int),bT F i w v->(∀k,k<i->m*row (ld k)=v (ld k))->o∣m
structure Ba(F:Rows)(n w:Nat)(ld:Nat->Nat)(row:Nat->Int)(i:Nat)(L:Nat->Int):Prop where
 sum:bT F n w λ c=>row c-L c
 red:∀k,k<i->0<=L (ld k)/\L (ld k)<g F k (ld k)
def Ba.start{F:Rows}{n w:Nat}{ld:Nat->Nat}{row:Nat->Int}:Ba F n w ld row 0 row:=⟨bT.zero λ c _=>Xe _,λ _ h=>absurd h (SN _)⟩
def Ba.step{F:Rows}{n w i:Nat}{ld:Nat->Nat}{row L:Nat->Int}(s:bc F n w ld)(hi:i<n)(f:Ba F n w ld row i L):Ba F n w ld row (i+1) λ c=>L c-(L (ld i)).fdiv (g F i (ld i))*g F i c:=by
 obtain⟨l1,l2,l3⟩:=s.lead i hi;refine⟨(f.sum.Ru ((L (ld i)).fdiv (g F i (ld i))) (bT.row hi)).eq λ c _=>by omega,λ k hk=>?_⟩;show 0<=L (ld k)-_*g F i (ld k)/\L (ld k)-_*g F i (ld k)<_;rcases Ul k i with h|h
 . rw[l3 _ (s.mono k i h hi),SX,Int.sub_zero];exact f.red k h
 . have:k=i:=Xk (Nat.le_of_lt_succ hk) h;subst this;have e:=Int.fmod_add_mul_fdiv (L (ld k)) (g F k (ld k));have a:=Th (L (ld k)) l2;have b:=TC (L (ld k)) l2;rw[Ua]at e;omega
def wC{K m:Nat}:∀ {n:Nat} {M:Fn},n<=K->(∀r c,r<n->c<n->(M r c).natAbs<=m)->(D n M).natAbs<=(K*m)^n
 |0,_,_,_=>by simp[D]
 |n+1,M,hn,h=>by
  rw[eh]
  have key:∀j,j<n+1->(sg j*M 0 j*D n λ r c=>M (r+1) (sk j c)).natAbs<=m*(K*m)^n:=λ j hj=>by
   have a:=wC (K:=K) (m:=m) (n:=n) (M:=λ r c=>M (r+1) (sk j c)) (by omega) λ r c hr hc=>h (r+1) (sk j c) (by omega) (lB hc);have b:=h 0 j (by omega) hj;have s:(sg j).natAbs=1:=by unfold sg;split<;>rfl
   rw[Tc,Tc,s,Vb];exact Tb b a
  refine Se (zk key) ?_;rw[T3,Uj ((K*m)^n),VG];exact Tx _ hn
def pick{t N:Nat}{U B:Fn}(h:∀k l,k<t->l<t->S N (λ i=>U k i*B i l)=dl k l):∃I:Nat->Nat,(∀k,k<t->I k<N)/\D t (λ k l=>B (I k) l)≠0:=by
 apply Ug;intro no
 have go:∀s,s<=t->∀I:Nat->Nat,(∀k,k<t->s<=k->I k<N)->D t (λ k l=>if k<s then dl k l else B (I k) l)=0:=by
  intro s;induction s with
  |zero=>
   intro _ I hI;exact Ug λ z=>no ⟨I,λ k hk=>hI k hk (SM _),z⟩
  |succ s ih=>
   intro hs I hI
   have e:D t (λ k l=>if k<s+1 then dl k l else B (I k) l)=D t (upd (λ k l=>if k<s then dl k l else B (I k) l) s λ l=>S N λ j=>U s j*B j l):=df λ k l hk hl=>by
    unfold upd;by_cases h1:k=s
    . subst h1;rw[Si rfl,Si (S0 _)];exact(h k l hk hl).symm
    . rw[Sf h1];show _=if k<s then dl k l else B (I k) l
      by_cases h2:k<s
      . rw[Si (by omega),Si h2]
      . rw[Sf (by omega),Sf h2]
   rw[e,(p8 t).tD (by omega)];refine gn λ j hj=>?_
   have e2:=ih (by omega) (λ k=>if k=s then j else I k) λ k hk hsk=>by
    by_cases h1:k=s
    . rw[Si h1];exact hj
    . rw[Sf h1];exact hI k hk (by omega)
   have e3:D t (upd (λ k l=>if k<s then dl k l else B (I k) l) s (B j))=D t (λ k l=>if k<s then dl k l else B (if k=s then j else I k) l):=df λ k l hk hl=>by
    unfold upd;by_cases h1:k=s
    . subst h1;rw[Si rfl,Sf (TN _),Si rfl]
    . rw[Sf h1,Sf h1]
   rw[e3,e2,SX]
 have z:=go t (R_ _) (λ _=>0) λ k h1 h2=>absurd h1 (Nat.not_lt.mpr h2);rw[df (M':=dl) λ r c hr hc=>Si hr,x5]at z;exact absurd z (by decide)
def wy:∀ {n:Nat} {f:Nat->Int},(∀i,i<n->0<f i)->0<Pr n f
 |0,_,_=>show(0:Int)<1 by decide
 |n+1,f,h=>Int.mul_pos (wy λ i hi=>h i (S9 hi)) (h n (S0 n))
def Jz:∀ {n:Nat} {f:Nat->Int},(∀i,i<n->0<f i)->∀k,k<n->f k<=Pr n f
 |n+1,f,h,k,hk=>by
  have p:=wy λ i hi=>h i (S9 hi);have q:=h n (S0 n);show f k<=Pr n f*f n;by_cases e:k=n
  . subst e;have:=Int.mul_le_mul_of_nonneg_right (show(1:Int)<=Pr k f from p) (UE q);omega
  . have a:=Jz (λ i hi=>h i (S9 hi)) k (by omega);have:=WB (show(1:Int)<=f n from q) (UE p);omega
def wL{w x:Int}{m:Nat}(hw:w≠0)(h:(w*x).natAbs<=m):x.natAbs<=m:=by
 rw[Tc]at h;exact Se (Vw _ (by omega)) h
def E8{b i j:Nat}(h:1<=b)(l:i<=j):(9*b)^i<=(9*b)^j:=Sv (by omega) l
def Ig{A F U B:Fn}{N w t b:Nat}{ld:Nat->Nat}(t8:t<=8)(b1:1<=b)(hA:∀i c,i<N->c<w->(A i c).natAbs<=b)(hAF:∀i c,i<N->c<w->A i c=S t λ k=>B i k*F k c)(hUB:∀k l,k<t->l<t->S N (λ i=>U k i*B i l)=dl k l)(lead:∀i,i<t->ld i<w/\0<F i (ld i)/\∀c,c<ld i->F i c=0)(mono:∀i j,i<j->j<t->ld i<ld j)(red:∀i j,i<j->j<t->0<=F i (ld j)/\F i (ld j)<F j (ld j)):
 Pr t (λ i=>F i (ld i))<=((9*b)^8:Nat)/\∀k c,k<t->c<w->(F k c).natAbs<=8*((9*b)^9*(9*b)^8):=by
 obtain⟨I,hI,hw⟩:=pick hUB;have eE:D t (λ k l=>F k (ld l))=Pr t λ i=>F i (ld i):=MO λ r c hr hc h=>(lead r hr).2.2 _ (mono c r h hr);have pos:0<Pr t λ i=>F i (ld i):=wy λ i hi=>(lead i hi).2.1
 have eM:D t (λ k l=>A (I k) (ld l))=D t (λ k l=>B (I k) l)*D t λ k l=>F k (ld l):=by
  rw[<-D6];exact df λ k l hk hl=>hAF _ _ (hI k hk) (lead l hl).1
 have bM:(D t (λ k l=>A (I k) (ld l))).natAbs<=(9*b)^t:=wC (K:=9) (by omega) λ r c hr hc=>hA _ _ (hI r hr) (lead c hc).1;rw[eM,eE]at bM;have bP:(Pr t λ i=>F i (ld i)).natAbs<=(9*b)^8:=Se (wL hw bM) (E8 b1 t8);refine⟨by omega,λ k c hk hc=>?_⟩
 have bF:∀l,l<t->(F k (ld l)).natAbs<=(9*b)^8:=λ l hl=>by
  have p:=Jz (f:=λ i=>F i (ld i)) (λ i hi=>(lead i hi).2.1) l hl;rcases UI k l with h|h|h
  . have:=red k l h hl;have p':F l (ld l)<=Pr t λ i=>F i (ld i):=p;omega
  . subst h;have q:=(lead k hk).2.1;have p':F k (ld k)<=Pr t λ i=>F i (ld i):=p;omega
  . rw[(lead k hk).2.2 _ (mono l k h hk)];exact SM _
 have e0:=Qa (λ l k=>F k (ld l)) t (λ k=>F k c) k;rw[L5 hk]at e0;have eT:D t (λ l k=>F k (ld l))=Pr t λ i=>F i (ld i):=by rw[<-eE];exact xt t λ k l=>F k (ld l)
 rw[eT]at e0
 have bB:∀l,l<t->(D t (λ k l=>B (I k) l)*bt (λ l k=>F k (ld l)) t (λ k=>F k c) l).natAbs<=(9*b)^9:=λ l hl=>by
  have eW:D (t+1) (λ i k=>if i=t then dl t k else if k=t then 0 else B (I i) k)=D t λ k l=>B (I k) l:=by
   rw[Ar λ c _=>Si rfl];exact df λ r c hr hc=>by rw[Sf (by omega),Sf (by omega)]
  have eX:D (t+1) (upd (λ i r=>if r<t then A (I i) (ld r)else A (I i) c) t (dl l))=D t (λ k l=>B (I k) l)*bt (λ l k=>F k (ld l)) t (λ k=>F k c) l:=by
   unfold bt;rw[<-eW,<-D6];refine df λ i r hi hr=>?_;by_cases h:i=t
   . subst h;rw[cQ];have:(S (i+1) λ k=>(if i=i then dl i k else if k=i then 0 else B (I i) k)*upd (λ c_1 r=>if r<i then F c_1 (ld r)else F c_1 c) i (dl l) k r)=S (i+1) λ k=>dl i k*upd (λ c_1 r=>if r<i then F c_1 (ld r)else F c_1 c) i (dl l) k r:=ax λ k _=>by rw[Si rfl]
     rw[this,m7 (S0 i),cQ]
   . have hi':i<t:=by omega
     rw[aA h];show _=(S t λ k=>(if i=t then dl t k else if k=t then 0 else B (I i) k)*upd (λ c_1 r=>if r<t then F c_1 (ld r)else F c_1 c) t (dl l) k r)+(if i=t then dl t t else if t=t then 0 else B (I i) t)*upd (λ c_1 r=>if r<t then F c_1 (ld r)else F c_1 c) t (dl l) t r;have z:(if i=t then dl t t else if t=t then 0 else B (I i) t)*upd (λ c_1 r=>if r<t then F c_1 (ld r)else F c_1 c) t (dl l) t r=0:=by rw[Sf h,Si rfl,Tu]
     rw[z,Uk]
     have e2:∀k,k<t->(if i=t then dl t k else if k=t then 0 else B (I i) k)*upd (λ c_1 r=>if r<t then F c_1 (ld r)else F c_1 c) t (dl l) k r=B (I i) k*(if r<t then F k (ld r)else F k c):=λ k hk=>by
      rw[Sf h,Sf (by omega),aA (by omega)]
     rw[ax e2];by_cases hrt:r<t
     . rw[Si hrt,hAF _ _ (hI i hi') (lead r hrt).1];exact ax λ k _=>by rw[Si hrt]
     . rw[Sf hrt,hAF _ _ (hI i hi') hc];exact ax λ k _=>by rw[Sf hrt]
  rw[<-eX];refine Se (wC (K:=9) (by omega) λ r q hr hq=>?_) (E8 b1 (show t+1<=9 by omega));by_cases h:r=t
  . subst h;rw[cQ];unfold dl;split<;>omega
  . rw[aA h];have hr':r<t:=by omega
    split
    . rename_i hq';exact hA _ _ (hI r hr') (lead q hq').1
    . exact hA _ _ (hI r hr') hc
 have e1:D t (λ k l=>B (I k) l)*(Pr t λ i=>F i (ld i))*F k c= -S t λ l=>(D t (λ k l=>B (I k) l)*bt (λ l k=>F k (ld l)) t (λ k=>F k c) l)*F k (ld l):=by
  have:(S t λ l=>(D t (λ k l=>B (I k) l)*bt (λ l k=>F k (ld l)) t (λ k=>F k c) l)*F k (ld l))=D t (λ k l=>B (I k) l)*S t λ l=>bt (λ l k=>F k (ld l)) t (λ k=>F k c) l*F k (ld l):=by
   rw[<-fj];exact ax λ l _=>T6 _ _ _
  rw[this,T6,<-Int.mul_neg];congr 1;omega
 refine wL (w:=D t (λ k l=>B (I k) l)*(Pr t λ i=>F i (ld i))) (Uh hw (Vf pos)) ?_;rw[e1,Uo];refine Se (zk λ l hl=>?_) (Tx _ t8);rw[Tc];exact Tb (bB l hl) (bF l hl)
def fZ.back{A0:Rows}{N w top e u:Nat}{c:B3}{ld:Nat->Nat}(H:fZ A0 N w c top w ld e u){i q:Nat}(hi:i<N)(hq:q<w):g A0 i q=S top λ k=>g c.C k i*g c.A k q:=by
 have T:=H.tn
 have e1:S N (λ k=>g c.C k i*g c.A k q)=g A0 i q:=by
  have:S N (λ k=>g c.C k i*g c.A k q)=S N λ k=>S N λ m=>g c.C k i*g c.U k m*g A0 m q:=ax λ k hk=>by
   rw[T.ua k q hk hq,<-fj];exact ax λ m _=>(T6 _ _ _).symm
  rw[this,lK];have:(S N λ m=>S N λ k=>g c.C k i*g c.U k m*g A0 m q)=S N λ m=>dl i m*g A0 m q:=ax λ m hm=>by rw[m_,T.bu i m hi hm]
  rw[this,m7 hi]
 have cut:∀n,top<=n->n<=N->S n (λ k=>g c.C k i*g c.A k q)=S top λ k=>g c.C k i*g c.A k q:=λ n=>by
  induction n with
  |zero=>intro h _;rw[Nat.le_zero.mp h]
  |succ n ih=>
   intro h h2;by_cases e:top=n+1
   . rw[e]
   . show S n _+g c.C n i*g c.A n q=_;rw[ih (by omega) (by omega),H.zs n q (by omega) (by omega) hq,SX,Uk]
 rw[<-e1,cut N H.le (R_ _)]
def fZ.small{A0:Rows}{N w top e u b:Nat}{c:B3}{ld:Nat->Nat}(H:fZ A0 N w c top w ld e u)(hN:N<=8)(b1:1<=b)(hA:∀i c,i<N->c<w->(g A0 i c).natAbs<=b):
 Pr top (λ i=>g c.A i (ld i))<=((9*b)^8:Nat)/\∀k q,k<top->q<w->(g c.A k q).natAbs<=8*((9*b)^9*(9*b)^8):=
 Ig (A:=g A0) (F:=g c.A) (U:=g c.U) (B:=λ i k=>g c.C k i) (Se H.le hN) b1 hA (λ i q hi hq=>H.back hi hq) (λ k l hk hl=>H.tn.ub k l (Sw hk H.le) (Sw hl H.le)) H.lead H.mono H.red
def bz(F:Rows)(i:Nat):Nat:=(F.getD i []).findIdx (λ x=>x != 0)
def wD:∀ {r:Row} {l:Nat},(∀c,c<l->r.getD c 0=0)->r.getD l 0≠0->r.findIdx (λ x=>x != 0)=l
 | [],l,_,h=>(h rfl).elim
 |x::r,0,_,h=>by
  have h':(x != 0)=true:=W0.mpr h;rw[List.findIdx_cons,h'];rfl
 |x::r,l+1,hz,h=>by
  have x0:(x != 0)=false:=bne_eq_false_iff_eq.mpr (hz 0 (Nat.zero_lt_succ _));rw[List.findIdx_cons,x0,wD (r:=r) (l:=l) (λ c hc=>hz (c+1) (Xf hc)) h];rfl
def bc.bz{F:Rows}{n w:Nat}{ld:Nat->Nat}(s:bc F n w ld){i:Nat}(hi:i<n):Mx.bz F i=ld i:=by
 obtain⟨_,h2,h3⟩:=s.lead i hi;exact wD h3 (Vf h2)
def bc.Bq{F:Rows}{n w:Nat}{ld:Nat->Nat}(s:bc F n w ld):bc F n w (Mx.bz F):=
 ⟨λ i hi=>by rw[s.bz hi];exact s.lead i hi,λ i j h hj=>by rw[s.bz hj,s.bz (Ub h hj)];exact s.mono i j h hj⟩
def j9(F:Rows)(L:Row)(i:Nat):Int:=(L.getD (bz F i) 0).fdiv (g F i (bz F i))
def cZ(F:Rows)(r:Row):Nat->Row
 |0=>r
 |i+1=>fR (cZ F r i) (-(j9 F (cZ F r i) i)) (F.getD i [])
def nJ(F:Rows)(r:Row)(n:Nat):Row:=(List.range n).map λ i=>j9 F (cZ F r i) i
section
variable {F:Rows}{r:Row}{m w:Nat}(isF:cG m w F)(lr:r.length=w)
include isF lr
theorem jX:∀ {i:Nat},i<=m->(cZ F r i).length=w
 |0,_=>lr
 |i+1,h=>by
  unfold cZ;rw[kG (by rw[jX (by omega),isF.row (by omega)])];exact jX (by omega)
theorem AW{i:Nat}(hi:i<m)(c:Nat):(cZ F r (i+1)).getD c 0=(cZ F r i).getD c 0-j9 F (cZ F r i) i*g F i c:=by
 conv=>lhs;unfold cZ
 rw[oC (by rw[jX isF lr (by omega),isF.row hi]),UC];rfl
theorem xO:∀ {i:Nat},i<=m->∀c,r.getD c 0=(cZ F r i).getD c 0+S i λ j=>j9 F (cZ F r j) j*g F j c
 |0,_,c=>(Uk _).symm
 |i+1,h,c=>by
  have e:=xO (i:=i) (by omega) c;rw[AW isF lr (by omega)];show _=_+(S i _+j9 F (cZ F r i) i*g F i c);omega
theorem qM(s:bc F m w (bz F)):∀ {i:Nat},i<=m->Ba F m w (bz F) (λ c=>r.getD c 0) i (λ c=>(cZ F r i).getD c 0)
 |0,_=>Ba.start
 |i+1,h=>by
  have:=(qM s (i:=i) (by omega)).step s h
  have e:(λ c=>(cZ F r (i+1)).getD c 0)=λ c=>(cZ F r i).getD c 0-((cZ F r i).getD (bz F i) 0).fdiv (g F i (bz F i))*g F i c:=by
   funext c;rw[AW isF lr h];rfl
  rw[e];exact this
theorem oH{f e:Nat}(s:bc F m w (bz F))(hF:∀k c,k<m->c<w->(g F k c).natAbs<=2^f)(hr:∀c,c<w->(r.getD c 0).natAbs<=2^e):∀ {i:Nat},i<=m->∀c,c<w->((cZ F r i).getD c 0).natAbs<=2^(e+i*(f+1))
 |0,_,c,hc=>by rw[Xd];exact hr c hc
 |i+1,h,c,hc=>by
  have ih:=oH s hF hr (i:=i) (by omega);obtain⟨l1,l2,_⟩:=s.lead i h;have q:=Se (iK ((cZ F r i).getD (bz F i) 0) l2) (ih _ l1);rw[AW isF lr h]
  have p:(j9 F (cZ F r i) i*g F i c).natAbs<=2^(e+i*(f+1))*2^f:=by
   rw[Tc];exact Tb q (hF i c h hc)
  have b:=ih c hc
  have e1:2^(e+(i+1)*(f+1))=2^(e+i*(f+1))*2^f*2:=by
   rw[show e+(i+1)*(f+1)=e+i*(f+1)+f+1 by rw[VR];omega,T3,Um]
  have e2:2^(e+i*(f+1))<=2^(e+i*(f+1))*2^f:=UJ _ (VJ (by decide));rw[e1];omega
end
def GU{A0:Rows}{N w top e u:Nat}{c:B3}{ld:Nat->Nat}(H:fZ A0 N w c top w ld e u){r ws:Row}(lw:ws.length=top)(hs:∀q,q<w->r.getD q 0=S top λ j=>ws.getD j 0*g c.A j q){q:Nat}(hq:q<w):(S N λ n=>(fJ ws (c.U.take top) (List.replicate N 0)).getD n 0*g A0 n q)=r.getD q 0:=by
 have T:=H.tn;have hl:(c.U.take top).length=top:=by rw[Tr,T.fv.len];exact Xl H.le
 have e1:∀n,(fJ ws (c.U.take top) (List.replicate N 0)).getD n 0=S top λ j=>ws.getD j 0*g c.U j n:=λ n=>by
  rw[vE (n:=N) n (by simp) (λ r hr=>T.fv.fE r (U_ hr)) (by rw[hl,lw]),eQ,UD,hl];refine ax λ j hj=>?_;unfold g;rw[aP (l:=c.U.take top) (by omega),V8,aP (l:=c.U) (by have:=T.fv.len;have:=H.le;omega)]
 have e2:(S N λ n=>(fJ ws (c.U.take top) (List.replicate N 0)).getD n 0*g A0 n q)=S N λ n=>S top λ j=>ws.getD j 0*(g c.U j n*g A0 n q):=ax λ n _=>by
  rw[e1,<-m_];exact ax λ j _=>T6 _ _ _
 rw[e2,lK,hs q hq];refine ax λ j hj=>?_;rw[fj,<-T.ua j q (Sw hj H.le) hq]
def SQ:Nat->(Nat->Rat)->Rat
 |0,_=>0
 |n+1,f=>SQ n f+f n
def rj{n:Nat}{f h:Nat->Rat}(e:∀i,i<n->f i=h i):SQ n f=SQ n h:=by
 induction n with
 |zero=>rfl
 |succ n ih=>unfold SQ;rw[ih λ i hi=>e i (by omega),e n (by omega)]
def xS{n:Nat}{f:Nat->Rat}(e:∀i,i<n->f i=0):SQ n f=0:=by
 induction n with
 |zero=>rfl
 |succ n ih=>unfold SQ;rw[ih λ i hi=>e i (by omega),e n (by omega)];grind
def ER(n:Nat)(f h:Nat->Rat):SQ n (λ i=>f i+h i)=SQ n f+SQ n h:=by
 induction n with
 |zero=>unfold SQ;grind
 |succ n ih=>unfold SQ;rw[ih];grind
def LV(n:Nat)(x:Rat)(f:Nat->Rat):SQ n (λ i=>x*f i)=x*SQ n f:=by
 induction n with
 |zero=>unfold SQ;grind
 |succ n ih=>unfold SQ;rw[ih];grind
def EH{n k:Nat}(hk:k<n){f:Nat->Rat}(h:∀i,i<n->i≠k->f i=0):SQ n f=f k:=by
 induction n with
 |zero=>omega
 |succ n ih=>
  unfold SQ;by_cases e:k=n
  . subst e;rw[xS λ i hi=>h i (by omega) (by omega)];grind
  . rw[ih (by omega) λ i hi hn=>h i (by omega) hn,h n (by omega) (by omega)];grind
def Om{n k:Nat}(hk:k<n){f h:Nat->Rat}(e:∀i,i<n->i≠k->h i=f i):SQ n h=SQ n f+(h k-f k):=by
 induction n with
 |zero=>omega
 |succ n ih=>
  unfold SQ;by_cases q:k=n
  . subst q;rw[rj (f:=h) (h:=f) λ i hi=>e i (by omega) (by omega)];grind
  . rw[ih (by omega) λ i hi hn=>e i (by omega) hn,e n (by omega) (by omega)];grind
def Wh(x:Rat):Prop:=∃z:Int,x=(z:Rat)
def Wh.zero:Wh 0:=⟨0,rfl⟩
def Wh.add{x y:Rat}(h:Wh x)(k:Wh y):Wh (x+y):=by
 obtain⟨a,rfl⟩:=h;obtain⟨b,rfl⟩:=k;exact⟨a+b,(Xm a b).symm⟩
def Wh.mul{x:Rat}(h:Wh x)(c:Int):Wh ((c:Rat)*x):=by
 obtain⟨a,rfl⟩:=h;exact⟨c*a,(Xn c a).symm⟩
def Wh.neg{x:Rat}(h:Wh x):Wh (-x):=by
 obtain⟨a,rfl⟩:=h;exact⟨-a,(Rat.intCast_neg a).symm⟩
def dq(ps:List Rat)(w:Nat)(v:Nat->Int):Rat:=SQ w λ c=>ps.getD c 0*(v c:Rat)
def zU(ps:List Rat)(w n:Nat)(x:Nat->Int)(f:Nat->Nat->Int):dq ps w (λ c=>S n λ k=>x k*f k c)=SQ n λ k=>(x k:Rat)*dq ps w (f k):=by
 induction n with
 |zero=>exact xS λ c _=>by show _*((0:Int):Rat)=0;grind
 |succ n ih=>
  have:dq ps w (λ c=>S (n+1) λ k=>x k*f k c)=dq ps w (λ c=>S n λ k=>x k*f k c)+(x n:Rat)*dq ps w (f n):=by
   unfold dq;rw[<-LV,<-ER];refine rj λ c _=>?_;show _*(((S n λ k=>x k*f k c)+x n*f n c:Int):Rat)=_;rw[Xm,Xn];grind
  rw[this,ih];rfl
def Nq(ps:List Rat)(w:Nat)(u v:Nat->Int):dq ps w (λ c=>u c+v c)=dq ps w u+dq ps w v:=by
 unfold dq;rw[<-ER];exact rj λ c _=>by rw[Xm];grind
def vj{ps:List Rat}{w:Nat}{u v:Nat->Int}(h:∀c,c<w->u c=v c):dq ps w u=dq ps w v:=rj λ c hc=>by rw[h c hc]
def C_{n:Nat}{f:Nat->Rat}(h:∀i,i<n->Wh (f i)):Wh (SQ n f):=by
 induction n with
 |zero=>exact Wh.zero
 |succ n ih=>exact(ih λ i hi=>h i (by omega)).add (h n (by omega))
def ju{ps:List Rat}{k:Nat}{x:Rat}(hk:k<ps.length)(c:Nat):(ps.set k x).getD c 0=if c=k then x else ps.getD c 0:=by
 rw[Sd,Sd];by_cases h:c=k
 . subst h;rw[Sy hk,Si rfl];rfl
 . rw[Sj (Sq h),Sf h]
def Oh{ps:List Rat}{w k:Nat}{x:Rat}(lp:ps.length=w)(hk:k<w)(v:Nat->Int):dq (ps.set k x) w v=dq ps w v+(x-ps.getD k 0)*(v k:Rat):=by
 unfold dq;rw[Om hk (f:=λ c=>ps.getD c 0*(v c:Rat)) λ c _ hn=>by rw[ju (by omega),Sf hn]];rw[ju (by omega),Si rfl];grind
def FW(F:Rows)(w l:Nat)(ps:List Rat)(k:Nat):List Rat:=if bz F k<l then ps.set (bz F k) ((0-dq ps w (g F k))/(g F k (bz F k):Rat))else ps
def nv(F:Rows)(m w l:Nat)(ps:List Rat):Nat->List Rat
 |0=>ps
 |i+1=>FW F w l (nv F m w l ps i) (m-1-i)
def j6(w l:Nat)(b:Int):List Rat:=(List.replicate w 0).set l (Rat.divInt 1 b)
def Oe(w c:Nat):(List.replicate w (0:Rat)).getD c 0=0:=by
 rw[Sd,VY];split<;>rfl
structure oY(F:Rows)(m w l:Nat)(p:Rat)(i:Nat)(ps:List Rat):Prop where
 len:ps.length=w
 nil:∀c,c≠l->(∀k,m-i<=k->k<m->bz F k≠c)->ps.getD c 0=0
 hi:∀c,l<c->ps.getD c 0=0
 at_:ps.getD l 0=p
 off:∀k,m-i<=k->k<m->bz F k<l->dq ps w (g F k)=0
def oY.start{F:Rows}{m w l:Nat}(b:Int)(hl:l<w):oY F m w l (Rat.divInt 1 b) 0 (j6 w l b):=by
 have hw:l<(List.replicate w (0:Rat)).length:=by simpa using hl
 refine⟨by unfold j6;simp,λ c hc _=>?_,λ c hc=>?_,?_,λ k h1 h2=>by omega⟩
 . unfold j6;rw[ju hw,Sf hc,Oe]
 . unfold j6;rw[ju hw,Sf (by omega),Oe]
 . unfold j6;rw[ju hw,Si rfl]
def oY.step{F:Rows}{m w l i:Nat}{p:Rat}{ps:List Rat}(s:bc F m w (bz F))(hi:i<m)(P:oY F m w l p i ps):oY F m w l p (i+1) (FW F w l ps (m-1-i)):=by
 generalize hk:m-1-i=k0;have hk0:k0<m:=by omega
 obtain⟨l1,l2,l3⟩:=s.lead k0 hk0;unfold FW;by_cases h:bz F k0<l
 . rw[Si h]
   have pz:ps.getD (bz F k0) 0=0:=P.nil _ (by omega) λ k h1 h2 e=>by
    have:=s.mono k0 k (by omega) h2;omega
   have hne:(g F k0 (bz F k0):Rat)≠0:=λ z=>by
    have:g F k0 (bz F k0)=0:=Wz.mp z;omega
   have hlen:bz F k0<ps.length:=by rw[P.len];exact l1
   refine⟨by rw[SO];exact P.len,λ c hc hn=>?_,λ c hc=>?_,?_,λ k h1 h2 h3=>?_⟩
   . rw[ju hlen,Sf (Sq (hn k0 (by omega) hk0))];exact P.nil c hc λ k h1 h2=>hn k (by omega) h2
   . rw[ju hlen,Sf (by omega)];exact P.hi c hc
   . rw[ju hlen,Sf (by omega)];exact P.at_
   . rw[Oh P.len l1,pz];by_cases e:k=k0
     . subst e;have:(0-dq ps w (g F k))/(g F k (bz F k):Rat)*(g F k (bz F k):Rat)=0-dq ps w (g F k):=Rat.div_mul_cancel hne;grind
     . have hk':m-i<=k:=by omega
       rw[P.off k hk' h2 h3,(s.lead k h2).2.2 _ (s.mono k0 k (by omega) h2)];show _+_*((0:Int):Rat)=0;grind
 . rw[Sf h];refine⟨P.len,λ c hc hn=>P.nil c hc λ k h1 h2=>hn k (by omega) h2,P.hi,P.at_,λ k h1 h2 h3=>?_⟩;by_cases e:k=k0
   . subst e;omega
   . exact P.off k (by omega) h2 h3
def oY.all{F:Rows}{m w l:Nat}(b:Int)(s:bc F m w (bz F))(hl:l<w):∀ {i:Nat},i<=m->oY F m w l (Rat.divInt 1 b) i (nv F m w l (j6 w l b) i)
 |0,_=>oY.start b hl
 |i+1,h=>(oY.all b s hl (i:=i) (by omega)).step s h
def u9(F:Rows)(m l:Nat)(x b:Int):Prop:=(∃k,k<m/\bz F k=l/\b=g F k l)\/((∀k,k<m->bz F k≠l)/\b=2*(x.natAbs:Int))
def u9.unique{F:Rows}{m w l:Nat}{x b b':Int}(s:bc F m w (bz F))(h:u9 F m l x b)(h':u9 F m l x b'):b=b':=by
 rcases h with⟨k,hk,e,rfl⟩|⟨n,rfl⟩
 . rcases h' with⟨k',hk',e',rfl⟩|⟨n',rfl⟩
   . rw[s.inj hk hk' (e.trans e'.symm)]
   . exact absurd e (n' k hk)
 . rcases h' with⟨k',hk',e',rfl⟩|⟨n',rfl⟩
   . exact absurd e' (n k' hk')
   . rfl
def u9.pos{F:Rows}{m w l:Nat}{x b:Int}(s:bc F m w (bz F))(h:u9 F m l x b)(hx:x≠0):0<b:=by
 rcases h with⟨k,hk,e,rfl⟩|⟨n,rfl⟩
 . have:=(s.lead k hk).2.1;rw[e]at this;exact this
 . omega
def zP{b:Int}(hb:b≠0)(x:Int):Rat.divInt 1 b*(x:Rat)=(x:Rat)/(b:Rat):=by
 rw[Rat.divInt_eq_div];grind
def Nj{x b:Int}(h0:0<x.natAbs)(h1:(x.natAbs:Int)<b):¬Wh ((x:Rat)/(b:Rat)):=by
 rintro⟨z,e⟩
 have hb:(b:Rat)≠0:=λ q=>by
  have:b=0:=Wz.mp q;omega
 have e2:(x:Rat)=(z:Rat)*(b:Rat):=by rw[<-e];exact(Rat.div_mul_cancel hb).symm
 rw[<-Xn]at e2;have e3:x=z*b:=Wz.mp e2;have hz:z≠0:=λ q=>by rw[q,Tu]at e3;omega
 have:(z*b).natAbs=z.natAbs*b.natAbs:=Tc _ _;have h2:1*b.natAbs<=z.natAbs*b.natAbs:=Tx _ (by omega);rw[e3]at h1;omega
def oY.whole{F:Rows}{m w l:Nat}{R:Row}{b:Int}{ps:List Rat}(s:bc F m w (bz F))(hl:l<w)(hb:u9 F m l (R.getD l 0) b)(h0:R.getD l 0≠0)(P:oY F m w l (Rat.divInt 1 b) m ps){k:Nat}(hk:k<m):Wh (dq ps w (g F k)):=by
 obtain⟨l1,l2,l3⟩:=s.lead k hk;rcases UI (bz F k) l with h|h|h
 . rw[P.off k (by omega) hk h];exact Wh.zero
 . have e:dq ps w (g F k)=ps.getD l 0*(g F k l:Rat):=EH hl λ c hc hn=>by
    rcases UR hn with q|q
    . rw[l3 c (by omega)];show _*((0:Int):Rat)=0;grind
    . rw[P.hi c q];grind
   have hb':b=g F k l:=by
    rcases hb with⟨k',hk',e',rfl⟩|⟨n,_⟩
    . rw[s.inj hk hk' (h.trans e'.symm)]
    . exact absurd h (n k hk)
   rw[e,P.at_,hb'];have hp:0<g F k l:=by rw[<-h];exact l2
   rw[zP (by omega)]
   have:(g F k l:Rat)≠0:=λ q=>by
    have:g F k l=0:=Wz.mp q;omega
   have e1:(g F k l:Rat)/(g F k l:Rat)=1:=by rw[Rat.div_def];exact Rat.mul_inv_cancel _ this
   rw[e1];exact⟨1,rfl⟩
 . have e:dq ps w (g F k)=0:=xS λ c hc=>by
    rcases Ul l c with q|q
    . rw[P.hi c q];grind
    . rw[l3 c (by omega)];show _*((0:Int):Rat)=0;grind
   rw[e];exact Wh.zero
def oY.not{F:Rows}{m w l:Nat}{R:Row}{b:Int}{ps:List Rat}(s:bc F m w (bz F))(hl:l<w)(hb:u9 F m l (R.getD l 0) b)(h0:R.getD l 0≠0)(hz:∀c,c<l->R.getD c 0=0)(red:∀k,k<m->0<=R.getD (bz F k) 0/\R.getD (bz F k) 0<g F k (bz F k))(P:oY F m w l (Rat.divInt 1 b) m ps):¬Wh (dq ps w λ c=>R.getD c 0):=by
 have bp:=hb.pos s h0
 have e:dq ps w (λ c=>R.getD c 0)=ps.getD l 0*((R.getD l 0:Int):Rat):=EH hl λ c hc hn=>by
  rcases UR hn with q|q
  . show _*((R.getD c 0:Int):Rat)=0;rw[hz c q];show _*((0:Int):Rat)=0;grind
  . rw[P.hi c q];grind
 rw[e,P.at_,zP (by omega)];refine Nj (by omega) ?_;rcases hb with⟨k,hk,e,rfl⟩|⟨n,rfl⟩
 . have:=red k hk;rw[e]at this;omega
 . omega
def Kw(n:Nat)(f:Nat->Rat):SQ (n+1) f=f 0+SQ n λ i=>f (i+1):=by
 induction n with
 |zero=>unfold SQ SQ;grind
 |succ n ih=>
  have:SQ (n+1+1) f=SQ (n+1) f+f (n+1):=rfl;rw[this,ih];have:SQ (n+1) (λ i=>f (i+1))=SQ n (λ i=>f (i+1))+f (n+1):=rfl;rw[this];grind
def lX:Rat->List Rat->Row->Rat
 |t,p::ps,n::r=>lX (t+p*(n:Rat)) ps r
 |t,_,_=>t
def Gv:∀(ps:List Rat) (r:Row) (t:Rat) {w:Nat},ps.length=w->r.length=w->lX t ps r=t+dq ps w λ c=>r.getD c 0
 | [],[],t,w,h,_=>by
   subst h;unfold lX;show t=t+0;grind
 | [],_::_,t,w,h1,h2=>by subst h1;cases h2
 |_::_,[],t,w,h1,h2=>by subst h2;cases h1
 |p::ps,n::r,t,w,h1,h2=>by
  subst h1;unfold lX;rw[Gv ps r _ rfl (Nat.succ.inj h2)];unfold dq;rw[SY,Kw]
  have e:(λ i=>(p::ps).getD (i+1) 0*(((n::r).getD (i+1) 0:Int):Rat))=λ i=>ps.getD i 0*((r.getD i 0:Int):Rat):=by
   funext i;simp
  rw[e];show _=t+(p*(n:Rat)+_);grind
def wo:Int->Int->List Rat->Row->Int×Int
 |T,B,p::ps,n::r=>wo (T*p.den+p.num*n*B) (B*p.den) ps r
 |T,B,_,_=>(T,B)
structure Sz(q:Rat)(m:Nat):Prop where
 num:q.num.natAbs<=2^m
 den:q.den<=2^m
def Sz.mono{q:Rat}{m n:Nat}(h:Sz q m)(l:m<=n):Sz q n:=⟨Se h.num (Sv (by decide) l),Se h.den (Sv (by decide) l)⟩
def Sz.int{n:Int}{m:Nat}(h:n.natAbs<=2^m):Sz (n:Rat) m:=⟨h,VJ (by decide)⟩
def Sz.of{t b:Int}{m:Nat}(hb:b≠0)(h1:t.natAbs<=2^m)(h2:b.natAbs<=2^m):Sz (Rat.divInt t b) m:=by
 have hg:1<=b.gcd t:=by
  have:b.gcd t≠0:=λ z=>hb (Int.gcd_eq_zero_iff.mp z).1;omega
 constructor
 . rw[Rat.num_divInt];have:((b.sign*t)/((b.gcd t:Nat):Int)).natAbs<=(b.sign*t).natAbs:=Int.natAbs_ediv_le_natAbs _ _
   have e:(b.sign*t).natAbs<=t.natAbs:=by
    rw[Tc];have:b.sign.natAbs<=1:=by rw[Int.natAbs_sign];split<;>omega
    calc b.sign.natAbs*t.natAbs<=1*t.natAbs:=Tx _ this
     _=t.natAbs:=Vb _
   omega
 . rw[Rat.den_divInt,Sf hb];exact Se (Nat.div_le_self _ _) h2
def iz{x y:Int}{a b:Nat}(hx:x.natAbs<=2^a)(hy:y.natAbs<=2^b):(x*y).natAbs<=2^(a+b):=by
 rw[Tc,Um];exact Tb hx hy
def den_nz(q:Rat):((q.den:Nat):Int)≠0:=by have:=q.den_nz;omega
def oO(q:Rat):q=Rat.divInt q.num ((q.den:Nat):Int):=(Rat.num_divInt_den q).symm
def add_eq(p q:Rat):p+q=Rat.divInt (p.num*((q.den:Nat):Int)+q.num*((p.den:Nat):Int)) (((p.den:Nat):Int)*((q.den:Nat):Int)):=by
 conv=>lhs;rw[oO p,oO q]
 rw[Rat.divInt_add_divInt _ _ (den_nz p) (den_nz q)]
def sub_eq(p q:Rat):p-q=Rat.divInt (p.num*((q.den:Nat):Int)-q.num*((p.den:Nat):Int)) (((p.den:Nat):Int)*((q.den:Nat):Int)):=by
 conv=>lhs;rw[oO p,oO q]
 rw[Rat.divInt_sub_divInt _ _ (den_nz p) (den_nz q)]
def mul_eq(p q:Rat):p*q=Rat.divInt (p.num*q.num) (((p.den:Nat):Int)*((q.den:Nat):Int)):=by
 conv=>lhs;rw[oO p,oO q]
 rw[XE]
def div_eq(p q:Rat):p/q=Rat.divInt (p.num*((q.den:Nat):Int)) (((p.den:Nat):Int)*q.num):=by
 rw[Rat.div_def,Rat.inv_def];conv=>lhs;rw[oO p]
 rw[XE]
def Sz.tR{q:Rat}{m:Nat}(h:Sz q m):(((q.den:Nat):Int)).natAbs<=2^m:=h.den
def Sz.add{p q:Rat}{a b:Nat}(hp:Sz p a)(hq:Sz q b):Sz (p+q) (a+b+1):=by
 rw[add_eq];have h1:=iz hp.num hq.tR;have h2:=iz hq.num hp.tR;have h3:=iz hp.tR hq.tR;rw[Nat.add_comm b a]at h2;exact Sz.of (Uh (den_nz p) (den_nz q)) (by rw[T3];omega) (Se h3 (Sv (by decide) (by omega)))
def Sz.neg{q:Rat}{b:Nat}(hq:Sz q b):Sz (0-q) b:=by
 have e:(0:Rat)-q= -q:=by grind
 rw[e];exact⟨by rw[show(-q).num= -q.num from rfl,Uo];exact hq.num,hq.den⟩
def Sz.mul{p q:Rat}{a b:Nat}(hp:Sz p a)(hq:Sz q b):Sz (p*q) (a+b):=by
 rw[mul_eq];exact Sz.of (Uh (den_nz p) (den_nz q)) (iz hp.num hq.num) (iz hp.tR hq.tR)
def Sz.div{p q:Rat}{a b:Nat}(hp:Sz p a)(hq:Sz q b)(h0:q.num≠0):Sz (p/q) (a+b):=by
 rw[div_eq];exact Sz.of (Uh (den_nz p) h0) (iz hp.num hq.tR) (iz hp.tR hq.num)
def Pb:List Rat->Nat->Prop
 | [],_=>True
 |q::qs,t=>∃a b,Sz q a/\Pb qs b/\a+b<=t
def Pb.mono:∀ {ps:List Rat} {s t:Nat},Pb ps s->s<=t->Pb ps t
 | [],_,_,_,_=>trivial
 |_::_,_,_,⟨a,b,h1,h2,h3⟩,l=>⟨a,b,h1,h2,Se h3 l⟩
def Pb.set{x:Rat}{a:Nat}(hx:Sz x a):∀ {ps:List Rat} {t k:Nat},Pb ps t->Pb (ps.set k x) (t+a)
 | [],_,_,_=>trivial
 |q::qs,t,0,⟨a',b,h1,h2,h3⟩=>⟨a,b,hx,h2,by omega⟩
 |q::qs,t,k+1,⟨a',b,h1,h2,h3⟩=>⟨a',b+a,h1,h2.set hx,by omega⟩
def Pb.rep:∀n:Nat,Pb (List.replicate n 0) 0
 |0=>trivial
 |n+1=>⟨0,0,⟨by decide,by decide⟩,Pb.rep n,R_ _⟩
def Pb.lX:∀ {ps:List Rat} {r:Row} {s e t:Nat} {x:Rat},Sz x s->Pb ps t->(∀n∈r,n.natAbs<=2^e)->Sz (lX x ps r) (s+t+ps.length*(e+1))
 | [],r,s,e,t,x,hx,_,_=>by unfold Mx.lX;exact hx.mono (by omega)
 |_::_,[],s,e,t,x,hx,_,_=>by unfold Mx.lX;exact hx.mono (by omega)
 |p::ps,n::r,s,e,t,x,hx,⟨a,b,h1,h2,h3⟩,hr=>by
  unfold Mx.lX;have h4:=hx.add (h1.mul (Sz.int (hr n SD)));refine(Pb.lX h4 h2 λ k hk=>hr k (SG _ hk)).mono ?_;rw[SY,VR];omega
structure mj(A0:Rows)(N w:Nat)(b:B3)(top p:Nat)(ld:Nat->Nat)(e u v:Nat):Prop where
 tn:Tn A0 b.A b.U b.C N w
 le:top<=N
 lo:g0 b.A N top (2^e)/\g0 b.U N top (2^e)/\g0 b.C N top (2^e)
 hi:∀i c,i<top->(g b.A i c).natAbs<=2^u/\(g b.U i c).natAbs<=2^u/\(g b.C i c).natAbs<=2^v
 zs:∀i c,top<=i->i<N->c<p->g b.A i c=0
 lead:∀i,i<top->ld i<p/\0<g b.A i (ld i)/\∀c,c<ld i->g b.A i c=0
 mono:∀i j,i<j->j<top->ld i<ld j
 red:∀i j,i<j->j<top->0<=g b.A i (ld j)/\g b.A i (ld j)<g b.A j (ld j)
def mj.oX{A0:Rows}{N w top p e u v:Nat}{b:B3}{ld:Nat->Nat}(S:mj A0 N w b top p ld e u v):rg A0 N w top p (2^e) b b 1:=
 ⟨S.tn,λ _ _=>⟨rfl,rfl,rfl⟩,by rw[Va];exact S.lo.1,by rw[Va];exact S.lo.2.1,by rw[Va];exact S.lo.2.2,S.zs,by rw[Vb];exact R_ _,R_ _,.inl rfl⟩
def mj.skip{A0:Rows}{N w top p e u v:Nat}{b:B3}{ld:Nat->Nat}(S:mj A0 N w b top p ld e u v)(h:gQ b.A N top p []):mj A0 N w b top (p+1) ld e u v:=
 ⟨S.tn,S.le,S.lo,S.hi,λ i c h1 h2 h3=>by
  by_cases hc:c=p
  . subst hc;exact Ug λ z=>absurd ((h.mem i).mpr ⟨h1,h2,z⟩) (by simp)
  . exact S.zs i c h1 h2 (by omega),λ i hi=>⟨S9 (S.lead i hi).1,(S.lead i hi).2⟩,S.mono,S.red⟩
structure pB(A0:Rows)(N w top p e u v:Nat)(b:B3)(k:Nat)(c:B3):Prop where
 tn:Tn A0 c.A c.U c.C N w
 rA:∀i,k<=i->c.A.getD i []=b.A.getD i []/\c.U.getD i []=b.U.getD i []
 rC:∀i,i≠top->c.C.getD i []=b.C.getD i []
 ah:∀i q,i<k->q<p->g c.A i q=g b.A i q
 rd:∀i,i<k->0<=g c.A i p/\g c.A i p<g c.A top p
 sz:∀i q,i<k->(g c.A i q).natAbs<=2^(u+e+1)/\(g c.U i q).natAbs<=2^(u+e+1)
 sC:∀q,(g c.C top q).natAbs<=2^e+k*2^(u+v)
def pB.step{A0:Rows}{N w top p e u v k:Nat}{b c:B3}(I:pB A0 N w top p e u v b k c)(hk:k<top)(ht:top<N)(hp:p<w)(htp:0<g b.A top p)(hz:∀q,q<p->g b.A top q=0)
 (hlo:∀q,(g b.A top q).natAbs<=2^e/\(g b.U top q).natAbs<=2^e) (hhi:∀i q,i<top->(g b.A i q).natAbs<=2^u/\(g b.U i q).natAbs<=2^u/\(g b.C i q).natAbs<=2^v):
 pB A0 N w top p e u v b (k+1) ⟨bJ c.A k ((g c.A k p).fdiv (g c.A top p)) top,bJ c.U k ((g c.A k p).fdiv (g c.A top p)) top,bJ c.C top (-((g c.A k p).fdiv (g c.A top p))) k⟩:=by
 have hkN:k<N:=by omega
 have gA:∀i q,k<=i->g c.A i q=g b.A i q:=λ i q hi=>by unfold g;rw[(I.rA i hi).1]
 have gU:∀i q,k<=i->g c.U i q=g b.U i q:=λ i q hi=>by unfold g;rw[(I.rA i hi).2]
 have gC:∀i q,i≠top->g c.C i q=g b.C i q:=λ i q hi=>by unfold g;rw[I.rC i hi]
 have qe:((g c.A k p).fdiv (g c.A top p)).natAbs<=2^u:=by
  rw[gA k p (R_ _),gA top p (by omega)];exact Se (iK _ htp) (hhi k p hk).1
 have hq:∀x:Int,x.natAbs<=2^e->((g c.A k p).fdiv (g c.A top p)*x).natAbs<=2^(u+e):=λ x hx=>by
  rw[Tc,Um];exact Tb qe hx
 have le1:2^u<=2^(u+e):=Sv (by decide) (by omega);refine⟨I.tn.take hkN ht (by omega),λ i hi=>?_,λ i hi=>?_,λ i q hi hqp=>?_,λ i hi=>?_,λ i q hi=>?_,λ q=>?_⟩
 . exact⟨(gM (by rw[I.tn.isA.len];exact hkN) (by omega)).trans (I.rA i (by omega)).1,(gM (by rw[I.tn.fv.len];exact hkN) (by omega)).trans (I.rA i (by omega)).2⟩
 . exact(gM (by rw[I.tn.gD.len];exact ht) hi).trans (I.rC i hi)
 . show g (bJ c.A k _ top) i q=_;rw[eA I.tn.isA hkN ht];split
   . rename_i h;rw[gA top q (by omega),hz q hqp,SX,gA k q (R_ _),h];omega
   . exact I.ah i q (by omega) hqp
 . show 0<=g (bJ c.A k _ top) i p/\g (bJ c.A k _ top) i p<g (bJ c.A k _ top) top p;rw[eA I.tn.isA hkN ht,eA I.tn.isA hkN ht,Sf (show¬top=k by omega)];split
   . have h1:=TU (g c.A k p) (g c.A top p);have htp':0<g c.A top p:=by rw[gA top p (by omega)];exact htp
     have h2:=Th (g c.A k p) htp';have h3:=TC (g c.A k p) htp';rw[Ua]at h1;omega
   . exact I.rd i (by omega)
 . show(g (bJ c.A k _ top) i q).natAbs<=_/\(g (bJ c.U k _ top) i q).natAbs<=_;rw[eA I.tn.isA hkN ht,eA I.tn.fv hkN ht];split
   . have a1:=hq (g c.A top q) (by rw[gA top q (by omega)];exact(hlo q).1);have a2:=hq (g c.U top q) (by rw[gU top q (by omega)];exact(hlo q).2);rw[gA k q (R_ _),gU k q (R_ _)];have b1:=(hhi k q hk).1;have b2:=(hhi k q hk).2.1;rw[T3];omega
   . exact I.sz i q (by omega)
 . show(g (bJ c.C top _ k) top q).natAbs<=_;rw[eA I.tn.gD ht hkN,Si rfl,gC k q (by omega),UC];have a1:=I.sC q
   have a2:((g c.A k p).fdiv (g c.A top p)*g b.C k q).natAbs<=2^(u+v):=by
    rw[Tc,Um];exact Tb qe (hhi k q hk).2.2
   rw[VI,Vb];omega
def pB.start{A0:Rows}{N w top p e u v:Nat}{b:B3}(T:Tn A0 b.A b.U b.C N w)(h:∀q,(g b.C top q).natAbs<=2^e):pB A0 N w top p e u v b 0 b:=
 ⟨T,λ _ _=>⟨rfl,rfl⟩,λ _ _=>rfl,λ _ _ h=>absurd h (SN _),λ _ h=>absurd h (SN _),λ _ _ h=>absurd h (SN _),λ q=>by rw[Xd];exact h q⟩
def jC.PY{A0:Rows}{N w top p e u v e' u' v':Nat}{b0 b c:B3}{ld:Nat->Nat}(S:mj A0 N w b0 top p ld e u v)(s:jC A0 N w top p (2^e') b0 b)(ht:top<N)(I:pB A0 N w top p e' u v b top c)(hN:N<=8)
 (h1:u+e'+1<=u') (h2:u+v+4<=v') (h9:e'+1<=v'):mj A0 N w c (top+1) (p+1) (λ i=>if i=top then p else ld i) e' u' v':=by
 have hup:∀i q,i<top->g b.A i q=g b0.A i q:=λ i q hi=>by unfold g;rw[(s.up i hi).1]
 have hA:∀i q,top<=i->g c.A i q=g b.A i q:=λ i q hi=>by unfold g;rw[(I.rA i hi).1]
 have hU:∀i q,top<=i->g c.U i q=g b.U i q:=λ i q hi=>by unfold g;rw[(I.rA i hi).2]
 have hC:∀i q,i≠top->g c.C i q=g b.C i q:=λ i q hi=>by unfold g;rw[I.rC i hi]
 have le:∀ {a x:Nat},a<=2^x->x<=u'->a<=2^u':=λ h hx=>Se h (Sv (by decide) hx);refine⟨I.tn,ht,⟨λ i q hi hN=>?_,λ i q hi hN=>?_,λ i q hi hN=>?_⟩,λ i q hi=>?_,λ i q hi hN hq=>?_,λ i hi=>?_,λ i j hij hj=>?_,λ i j hij hj=>?_⟩
 . rw[hA i q (by omega)];exact s.lo.1 i q (by omega) hN
 . rw[hU i q (by omega)];exact s.lo.2.1 i q (by omega) hN
 . rw[hC i q (by omega)];exact s.lo.2.2 i q (by omega) hN
 . by_cases h:i=top
   . subst h;refine⟨?_,?_,?_⟩
     . rw[hA i q (R_ _)];exact le (s.lo.1 i q (R_ _) ht) (by omega)
     . rw[hU i q (R_ _)];exact le (s.lo.2.1 i q (R_ _) ht) (by omega)
     . have h3:=I.sC q;have h4:i*2^(u+v)<=2^(u+v+3):=by rw[Um _ _ 3,Uj];exact TR _ (by omega)
       have h5:2^(u+v+3)*2<=2^v':=by rw[<-T3];exact Sv (by decide) h2
       have h6:2^e'*2<=2^v':=by rw[<-T3];exact Sv (by decide) h9
       omega
   . have hi':i<top:=by omega
     refine⟨le (I.sz i q hi').1 h1,le (I.sz i q hi').2 h1,?_⟩;rw[hC i q h];have:g b.C i q=g b0.C i q:=by unfold g;rw[(s.up i hi').2.2]
     rw[this];exact Se (S.hi i q hi').2.2 (Sv (by decide) (by omega))
 . rw[hA i q (by omega)];by_cases h:q=p
   . rw[h];exact s.z1 i (by omega) hN
   . exact s.zs i q (by omega) hN (by omega)
 . by_cases h:i=top
   . subst h;rw[Si rfl];refine⟨S0 p,?_,λ q hq=>?_⟩
     . rw[hA i p (R_ _)];exact s.tp
     . rw[hA i q (R_ _)];exact s.zs i q (R_ _) ht hq
   . have hi':i<top:=by omega
     rw[Sf h];obtain⟨a1,a2,a3⟩:=S.lead i hi';refine⟨S9 a1,?_,λ q hq=>?_⟩
     . rw[I.ah i _ hi' a1,hup i _ hi'];exact a2
     . rw[I.ah i _ hi' (Ub hq a1),hup i _ hi'];exact a3 q hq
 . by_cases h:j=top
   . rw[Si h,Sf (by omega)];exact(S.lead i (by omega)).1
   . rw[Sf h,Sf (by omega)];exact S.mono i j hij (by omega)
 . by_cases h:j=top
   . subst h;rw[Si rfl];exact I.rd i hij
   . have hj':j<top:=by omega
     rw[Sf h];have:=S.red i j hij hj';have hl:=(S.lead j hj').1;rw[I.ah i _ (by omega) hl,I.ah j _ hj' hl,hup i _ (by omega),hup j _ hj'];exact this
def mj.start{A:Rows}{N w e:Nat}(hA:cG N w A)(h:g0 A N 0 (2^e)):mj A N w ⟨A,units N,units N⟩ 0 0 (λ _=>0) e 0 0:=by
 have S:=fZ.start hA h;exact⟨S.tn,S.le,S.lo,S.hi,S.zs,S.lead,S.mono,S.red⟩
def Uz(N e0:Nat):Nat->Nat
 |0=>0
 |t+1=>Uz N e0 t+Ez N e0 (t+1)+1
def Cz(N e0:Nat):Nat->Nat
 |0=>0
 |t+1=>Uz N e0 t+Cz N e0 t+Ez N e0 (t+1)+4
def mj.one{A0:Rows}{N w t p e u v r:Nat}{b c:B3}{ld:Nat->Nat}(S:mj A0 N w b t p ld e u v)(hp:p<w)(h:fK N t p b c)(l:gQ c.A N t p [r]):
 jC A0 N w t p (2^((N-t+1)*(e+1))) b (setB c p t r)/\t<N/\∀k,k<=t->pB A0 N w t p ((N-t+1)*(e+1)) u v (setB c p t r) k (lH p t k (setB c p t r)):=by
 obtain⟨gr,G⟩:=h.oX hp S.oX;obtain⟨s,h1,h2⟩:=G.set l;have s1:=s.mono (G.low S.lo.1);have ht:t<N:=WL h1 h2;refine⟨s1,ht,λ k=>?_⟩;induction k with
 |zero=>exact λ _=>pB.start s1.tn λ q=>s1.lo.2.2 t q (R_ _) ht
 |succ k ih=>
  intro hk;refine(ih (Tz hk)).step hk ht hp s1.tp (λ q hq=>s1.zs t q (R_ _) ht hq) (λ q=>⟨s1.lo.1 t q (R_ _) ht,s1.lo.2.1 t q (R_ _) ht⟩) λ i q hi=>?_;obtain⟨a1,a2,a3⟩:=s1.Qk hi q;rw[a1,a2,a3];exact S.hi i q hi
def ir.QV{A:Rows}{N w e0:Nat}(hA:cG N w A)(hlo:g0 A N 0 (2^e0))(hN:N<=8){p t:Nat}{b:B3}(h:ir A N p t b):p<=w->∃ld,mj A N w b t p ld (Ez N e0 t) (Uz N e0 t) (Cz N e0 t):=by
 induction h with
 |start=>exact λ _=>⟨_,mj.start hA hlo⟩
 |next _ c ih=>
  intro hp;obtain⟨ld,S⟩:=ih (Tz hp);cases c with
  |none l=>exact⟨ld,S.skip l⟩
  |one g l=>
   obtain⟨s1,ht,I⟩:=S.one hp g l;exact⟨_,jC.PY (e':=Ez N e0 (_+1)) (u':=Uz N e0 (_+1)) (v':=Cz N e0 (_+1)) S s1 ht (I _ (R_ _)) hN (by show _<=Uz N e0 _+Ez N e0 (_+1)+1;omega) (by show _<=Uz N e0 _+Cz N e0 _+Ez N e0 (_+1)+4;omega) (by show _<=Uz N e0 _+Cz N e0 _+Ez N e0 (_+1)+4;omega)⟩
def pY{α β:Type}(f:α->β):∀(l:List α) (k:Nat),(l.map f).eraseIdx k=(l.eraseIdx k).map f
 | [],_=>rfl
 |_::_,0=>rfl
 |x::l,k+1=>by
  show f x::(l.map f).eraseIdx k=f x::(l.eraseIdx k).map f;rw[pY f l k]
def bc.Iu{F:Rows}{n w:Nat}{ld:Nat->Nat}{v:Nat->Int}(s:bc F n w ld)(hv:bT F n w v)(h:∀k,k<n->(v (ld k)).natAbs<(g F k (ld k)).natAbs)(c:Nat):c<w->v c=0:=by
 induction c using Nat.strongRecOn with
 |ind c ih=>
  intro hc;rcases s.at hv hc λ d hd=>ih d hd (Ub hd hc)with⟨k,hk,rfl,d⟩|q
  . exact VM d (h k hk)
  . exact q
def uE(a:Nat)(f:Nat->Int):∀b,S (a+b) f=S a f+S b λ i=>f (a+i)
 |0=>(Uk _).symm
 |b+1=>by
  show S (a+b) f+f (a+b)=S a f+(S b (λ i=>f (a+i))+f (a+b));rw[uE a f b,Int.add_assoc]
def Ay{X:Rows}{m i q:Nat}:g (X.drop m) i q=g X (m+i) q:=by
 have e:(X.drop m).getD i []=X.getD (m+i) []:=by rw[Sd,VV,Sd]
 unfold g;rw[e]
def fZ.kernel{A:Rows}{N w top e u:Nat}{c:B3}{ld:Nat->Nat}(H:fZ A N w c top w ld e u){x:Nat->Int}:(∀q,q<w->(S N λ n=>x n*g A n q)=0)↔bT (c.U.drop top) (N-top) N x:=by
 have le:=H.le;constructor
 . intro h
   let y:Nat->Int:=λ i=>S N λ k=>x k*g c.C i k
   have e1:∀j,j<N->x j=S N λ i=>y i*g c.U i j:=λ j hj=>by
    have:(S N λ i=>y i*g c.U i j)=S N λ i=>S N λ k=>x k*(g c.C i k*g c.U i j):=ax λ i _=>by
     show(S N λ k=>x k*g c.C i k)*g c.U i j=_;rw[<-m_];exact ax λ k _=>T6 _ _ _
    rw[this,lK];have e2:(S N λ k=>S N λ i=>x k*(g c.C i k*g c.U i j))=S N λ k=>x k*dl k j:=ax λ k hk=>by rw[fj,H.tn.bu k j hk hj]
    rw[e2];exact(qz hj x).symm
   have z:∀i,i<top->y i=0:=λ i hi=>by
    refine H.Pu.1.gone (v:=λ _=>0) (z:=y) (q:=w) (λ q hq=>?_) (λ _ _=>rfl) i hi (H.lead i hi).1
    have e3:(S N λ n=>x n*g A n q)=S N λ i=>y i*g c.A i q:=by
     have a1:(S N λ n=>x n*g A n q)=S N λ n=>S N λ i=>y i*(g c.U i n*g A n q):=ax λ n hn=>by
      rw[e1 n hn,<-m_];exact ax λ i _=>T6 _ _ _
     rw[a1,lK];exact ax λ i hi=>by rw[fj,H.tn.ua i q hi hq]
    rw[h q hq]at e3;rw[e3];exact Ej le λ i h1 h2=>by rw[H.zs i q h1 h2 hq,SX]
   refine⟨λ i=>y (top+i),λ j hj=>?_⟩;have e4:=uE top (λ i=>y i*g c.U i j) (N-top);rw[Vg le]at e4;rw[e1 j hj,e4,gn λ i hi=>by rw[z i hi,Tu],UD];exact ax λ i _=>by rw[Ay]
 . rintro⟨z,hz⟩ q hq
   have e1:(S N λ n=>x n*g A n q)=S N λ n=>S (N-top) λ i=>z i*(g c.U (top+i) n*g A n q):=ax λ n hn=>by
    rw[hz n hn,<-m_];exact ax λ i _=>by rw[Ay,T6]
   rw[e1,lK];refine gn λ i hi=>?_;have hi2:top+i<N:=by omega
   rw[fj,<-H.tn.ua (top+i) q hi2 hq,H.zs (top+i) q (by omega) hi2 hq,SX]
def ir.Rq{A:Rows}{N p:Nat}{t:Nat}{c:B3}(h:ir A N p t c):t=0->c=⟨A,units N,units N⟩:=by
 induction h with
 |start=>exact λ _=>rfl
 |next _ c ih=>
  intro ht;cases c with
  |none l=>exact ih ht
  |one g l=>cases ht
def bc.F9{X:Rows}{n w:Nat}{ld:Nat->Nat}{v z:Nat->Int}(s:bc X n w ld)(hz:∀c,c<w->v c=S n λ k=>z k*g X k c){j:Nat}(hj:j<=n)(h0:∀l,l<j->v (ld l)=0)(l:Nat):l<j->z l=0:=by
 induction l using Nat.strongRecOn with
 |_ l ih=>
  intro hl;obtain⟨h1,h2,_⟩:=s.lead l (by omega);have e:=hz _ h1
  rw[h0 l hl,jd (k:=l) (by omega) λ k hk hne=>by
   rcases UR hne with q|q
   . rw[ih k q (by omega),Tu]
   . rw[(s.lead k hk).2.2 _ (s.mono l k q hk),SX]]at e
  rcases Int.mul_eq_zero.mp e.symm with q|q
  . exact q
  . omega
def bc.RO{X:Rows}{n w:Nat}{ld:Nat->Nat}{v z:Nat->Int}(s:bc X n w ld)(hz:∀c,c<w->v c=S n λ k=>z k*g X k c){j:Nat}(hj:j<n)(h0:∀l,l<j->v (ld l)=0):v (ld j)=z j*g X j (ld j):=by
 obtain⟨h1,h2,_⟩:=s.lead j hj;rw[hz _ h1]
 exact jd hj λ k hk hne=>by
  rcases UR hne with q|q
  . rw[s.F9 hz (Tz hj) h0 k q,Tu]
  . rw[(s.lead k hk).2.2 _ (s.mono j k q hk),SX]
def bc.nil{X:Rows}{n w:Nat}{ld:Nat->Nat}{v:Nat->Int}(s:bc X n w ld)(hv:bT X n w v)(h0:∀l,l<n->v (ld l)=0)(c:Nat)(hc:c<w):v c=0:=by
 obtain⟨z,hz⟩:=hv;rw[hz c hc];exact gn λ k hk=>by rw[s.F9 hz (R_ n) h0 k hk,Tu]
def bT.j8{X:Rows}{n w:Nat}{u v:Nat->Int}(a:Int)(hu:bT X n w u)(hv:bT X n w v):bT X n w λ c=>u c+a*v c:=by
 obtain⟨y,hy⟩:=hu;obtain⟨z,hz⟩:=hv;refine⟨λ k=>y k+a*z k,λ c hc=>?_⟩;show u c+a*v c=S n λ k=>(y k+a*z k)*g X k c;rw[hy c hc,hz c hc,<-fj,<-f_];exact ax λ k _=>by rw[Int.add_mul,T6]
def bT.comb{X:Rows}{n w:Nat}{a:Nat->Int}{v:Nat->Nat->Int}:∀ {m:Nat},(∀l,l<m->bT X n w (v l))->bT X n w λ c=>S m λ l=>a l*v l c
 |0,_=>⟨λ _=>0,λ c _=>(gn λ k _=>Tu _).symm⟩
 |m+1,h=>bT.j8 (a m) (bT.comb (m:=m) λ l hl=>h l (by omega)) (h m (S0 m))
def RU{X:Rows}{n w M:Nat}{ld:Nat->Nat}{d:Int}{v:Nat->Nat->Int}(s:bc X n w ld)(r:kb X n ld)(hd:d≠0)(hv:∀l,l<n->bT X n w (v l))(hl:∀l j,l<n->j<n->v l (ld j)=d*dl l j)(hb:∀l c,l<n->c<w->(v l c).natAbs<=M):∀i c,i<n->c<w->(g X i c).natAbs<=n*M:=λ i c hi hc=>by
 have le:∀j,j<n->(g X j (ld j)).natAbs<=d.natAbs:=λ j hj=>by
  obtain⟨z,hz⟩:=hv j hj;have e:=s.RO hz hj λ l h=>by rw[hl j l hj (by omega),eH (by omega),SX]
  rw[hl j j hj hj,dE,Vr]at e;rw[e,Tc];refine Vw _ (Int.natAbs_pos.mpr λ q=>hd ?_);rw[e,q,Tu]
 have bd:∀l,l<n->(g X i (ld l)).natAbs<=d.natAbs:=λ l h=>by
  have h1:=le l h;rcases UI i l with q|q|q
  . have:=r i l q h;omega
  . rw[q];exact h1
  . rw[(s.lead i hi).2.2 _ (s.mono l i q hi)];exact SM _
 have e:d*g X i c=S n λ l=>g X i (ld l)*v l c:=by
  have y:bT X n w λ c=>(0*g X i c+d*g X i c)-S n λ l=>g X i (ld l)*v l c:=bT.sub (bT.j8 d (bT.eq (u:=λ c=>S 0 λ _=>0) (bT.comb (m:=0) (a:=λ _=>0) (v:=λ _ _=>0) λ l h=>absurd h (SN _)) λ c _=>Tu _) (bT.row hi)) (bT.comb hv)
  have:=s.nil y (λ l h=>by
   obtain⟨h1,_⟩:=s.lead l h
   have e:(S n λ k=>g X i (ld k)*v k (ld l))=d*g X i (ld l):=by
    rw[jd h λ k hk hne=>by rw[hl k l hk h,eH hne,SX,SX],hl l l h h,dE,Vr,Ua]
   show(0*g X i (ld l)+d*g X i (ld l))-(S n λ k=>g X i (ld k)*v k (ld l))=0;rw[e];omega) c hc
  simp only[Tu,UD]at this;omega
 have b2:(d*g X i c).natAbs<=n*(d.natAbs*M):=by
  rw[e];exact zk λ l h=>by rw[Tc];exact Tb (bd l h) (hb l c h hc)
 rw[Tc,V7]at b2;exact Nat.le_of_mul_le_mul_left b2 (Int.natAbs_pos.mpr hd)
def OB{t l j:Nat}{M:Fn}(hl:l<t)(hj:j<t):D t (upd M l (M j))=D t M*dl l j:=by
 by_cases h:l=j
 . subst h;rw[dE,Vr]
   exact df λ r c _ _=>by
    by_cases q:r=l
    . subst q;exact cQ ..
    . exact aA q c
 . rw[eH h,SX];exact(p8 t).alt l j _ hl hj h λ c _=>by rw[cQ,aA (Sq h)]
def Q3{t l:Nat}{M:Fn}{x y:Nat->Int}(h:∀c,c<t->x c=y c):D t (upd M l x)=D t (upd M l y):=df λ r c _ hc=>by
 unfold upd;split
 . exact h c hc
 . rfl
def Ri{A B:Fn}{G:Rows}{t w b:Nat}{ld:Nat->Nat}(s:bc G t w ld)(r:kb G t ld)(t8:t<=9)(hA:∀i c,i<t->c<w->(A i c).natAbs<=b)(hAB:∀i c,i<t->c<w->A i c=S t λ k=>B i k*g G k c)(hB:D t B≠0):∀k c,k<t->c<w->(g G k c).natAbs<=t*(9*b)^t:=by
 have hd:D t (λ r i=>A i (ld r))≠0:=by
  have e1:D t (λ r i=>A i (ld r))=D t (λ i r=>A i (ld r)):=xt t λ i r=>A i (ld r)
  have e2:D t (λ i r=>A i (ld r))=D t B*D t λ k r=>g G k (ld r):=by
   rw[<-D6];exact df λ i r hi hr=>hAB i _ hi (s.lead r hr).1
  rw[e1,e2,MO λ r c hr hc h=>(s.lead r hr).2.2 _ (s.mono c r h hr)];exact Uh hB (Vf (wy λ i hi=>(s.lead i hi).2.1))
 refine RU (v:=λ l c=>D t (upd (λ r i=>A i (ld r)) l λ i=>A i c)) s r hd (λ l hl=>?_) (λ l j hl hj=>OB (M:=λ r i=>A i (ld r)) hl hj) λ l c hl hc=>wC (K:=9) t8 λ r i hr hi=>?_
 . refine⟨λ k=>D t (upd (λ r i=>A i (ld r)) l λ i=>B i k),λ c hc=>?_⟩;have e:=(p8 t).tD hl (λ r i=>A i (ld r)) (λ k=>g G k c) (λ k i=>B i k) t;show D t (upd (λ r i=>A i (ld r)) l λ i=>A i c)=_;rw[Q3 λ i hi=>(hAB i c hi hc).trans (ax λ k _=>Ua _ _),e];exact ax λ k _=>Ua _ _
 . unfold upd;split
   . exact hA i c hi hc
   . exact hA i _ hi (s.lead r hr).1
def og.picked{A F:Rows}{N m w:Nat}{ld:Nat->Nat}(st:bc F m w ld)(same:og A N F m w):∃(I:Nat->Nat) (B:Fn),(∀k,k<m->I k<N)/\(∀i c,i<m->c<w->g A (I i) c=S m λ k=>B i k*g F k c)/\D m B≠0:=by
 have hB:∀i,∃z:Nat->Int,i<N->∀c,c<w->g A i c=S m λ k=>z k*g F k c:=λ i=>by
  by_cases h:i<N
  . obtain⟨z,hz⟩:=same.to i h;exact⟨z,λ _=>hz⟩
  . exact⟨λ _=>0,λ z=>absurd z h⟩
 have hU:∀k,∃z:Nat->Int,k<m->∀c,c<w->g F k c=S N λ i=>z i*g A i c:=λ k=>by
  by_cases h:k<m
  . obtain⟨z,hz⟩:=same.of k h;exact⟨z,λ _=>hz⟩
  . exact⟨λ _=>0,λ z=>absurd z h⟩
 let B:Fn:=λ i=>Classical.choose (hB i)
 let U:Fn:=λ k=>Classical.choose (hU k)
 have eB:∀i,i<N->∀c,c<w->g A i c=S m λ k=>B i k*g F k c:=λ i=>Wl (hB i);have eU:∀k,k<m->∀c,c<w->g F k c=S N λ i=>U k i*g A i c:=λ k=>Wl (hU k)
 obtain⟨I,h1,h2⟩:=pick (t:=m) (N:=N) (U:=U) (B:=B) λ k l hk hl=>by
  have e1:∀c,c<w->S m (λ l=>(S N λ i=>U k i*B i l)*g F l c)=g F k c:=λ c hc=>by
   rw[eU k hk c hc]
   have:(S N λ i=>U k i*g A i c)=S N λ i=>S m λ l=>U k i*B i l*g F l c:=ax λ i hi=>by
    rw[eB i hi c hc,<-fj];exact ax λ l _=>(T6 _ _ _).symm
   rw[this,lK];exact ax λ l _=>(m_ _ _ _).symm
  have e2:∀c,c<w->(0:Int)=S m λ l=>((S N λ i=>U k i*B i l)-dl k l)*g F l c:=λ c hc=>by
   have h1:(S m λ l=>((S N λ i=>U k i*B i l)-dl k l)*g F l c)=S m (λ l=>(S N λ i=>U k i*B i l)*g F l c)-S m λ l=>dl k l*g F l c:=by
    rw[Tt,<-mV,<-f_];exact ax λ l _=>by rw[Wa,Tt]
   rw[h1,e1 c hc,m7 hk,Xe]
  have e3:(S N λ i=>U k i*B i l)-dl k l=0:=st.gone (v:=λ _=>0) (z:=λ l=>(S N λ i=>U k i*B i l)-dl k l) (q:=w) e2 (λ _ _=>rfl) l hl (st.lead l hl).1;omega
 exact⟨I,λ i=>B (I i),h1,λ i c hi hc=>eB _ (h1 i hi) c hc,h2⟩
def og.abs{A F:Rows}{N m w b:Nat}(m8:m<=8)(sF:bc F m w (bz F))(rF:kb F m (bz F))(same:og A N F m w)(hA:∀i c,i<N->c<w->(g A i c).natAbs<=b):∀i c,i<m->c<w->(g F i c).natAbs<=m*(9*b)^m:=by
 obtain⟨I,B,h1,h2,h3⟩:=same.picked sF;exact Ri (A:=λ i=>g A (I i)) sF rF (by omega) (λ i c hi hc=>hA _ c (h1 i hi) hc) h2 h3
def cU(p:Nat)(f r:Row):Row:=fR r (-((r.getD p 0).fdiv (f.getD p 0))) f
def kB{p w:Nat}{f r:Row}(hf:f.length=w)(hr:r.length=w):(cU p f r).length=w:=by unfold cU;rw[kG (by omega)];exact hr
def ot{p w:Nat}{f r:Row}(hf:f.length=w)(hr:r.length=w)(c:Nat):(cU p f r).getD c 0=r.getD c 0-(r.getD p 0).fdiv (f.getD p 0)*f.getD c 0:=by
 unfold cU;rw[oC (by omega),UC];omega
def Gh{p w:Nat}{f r:Row}(hf:f.length=w)(hr:r.length=w):(cU p f r).getD p 0=(r.getD p 0).fmod (f.getD p 0):=by
 rw[ot hf hr];have:=TU (r.getD p 0) (f.getD p 0);rw[Ua]at this;omega
def Bw{a b:Int}(h:b<0):a.fmod b<=0/\b<a.fmod b:=by
 have h1:=Int.emod_nonneg a (show b≠0 by omega);have h2:=Int.emod_lt a (show b≠0 by omega);rw[Int.fmod_eq_emod];split
 . rename_i z;rcases z with z|z
   . omega
   . rw[Int.emod_eq_zero_of_dvd z];omega
 . rename_i z;have:a%b≠0:=λ y=>z (.inr (Int.dvd_of_emod_eq_zero y));omega
def mF{a b:Int}(hb:b≠0):0<=a.fmod b*b/\(a.fmod b).natAbs<b.natAbs:=by
 rcases Vq hb with h|h
 . obtain⟨h2,h3⟩:=Bw (a:=a) h;exact⟨V9 h2 (by omega),by omega⟩
 . have h2:=Th a h;have h3:=TC a h;exact⟨XC h2 (by omega),by omega⟩
def FL{a b:Int}(h:0<a*b)(l:b.natAbs<=a.natAbs):2*(a.fmod b).natAbs<=a.natAbs:=by
 have hb:b≠0:=λ z=>by rw[z,SX]at h;omega
 obtain⟨s1,s2⟩:=mF (a:=a) hb;have e:=TU a b;rcases Vq hb with hb'|hb'
 . have ha:a<0:=Uy λ z=>by
    have:=Us z (UE hb');omega
   have h2:=(Bw (a:=a) hb').1
   have q1:1<=a.fdiv b:=Uy λ z=>by
    have z:a.fdiv b<=0:=z;have:0<=b*a.fdiv b:=V9 (by omega) z;omega
   have:b*a.fdiv b<=b*1:=Int.mul_le_mul_of_nonpos_left (by omega) q1;omega
 . have ha:0<a:=Uy λ z=>by
    have:=U0 z (UE hb');omega
   have h2:=Th a hb'
   have q1:1<=a.fdiv b:=Uy λ z=>by
    have z:a.fdiv b<=0:=z;have:b*a.fdiv b<=0:=Us (by omega) z;omega
   have:b*1<=b*a.fdiv b:=WB q1 (by omega);omega
structure Pt(X:Rows)(p w B:Nat)(sg:Bool):Prop where
 fE:∀r∈X,r.length=w
 nz:∀r∈X,r.getD p 0≠0
 bd:∀r∈X,∀c,(r.getD c 0).natAbs<=3*B
 sz:∃M g:Nat,(∀r∈X,∀c,(r.getD c 0).natAbs<=M)/\(∀r∈X,(r.getD p 0).natAbs<=g)/\(2<=X.length->∀r0∈X,(∀r∈X,(r0.getD p 0).natAbs<=(r.getD p 0).natAbs)->M*g^3*(r0.getD p 0).natAbs^2<=B)
 same:sg=true->∀r∈X,∀s∈X,0<r.getD p 0*s.getD p 0
def Pt.start{X:Rows}{p w e:Nat}(fE:∀r∈X,r.length=w)(nz:∀r∈X,r.getD p 0≠0)(bd:∀r∈X,∀c,(r.getD c 0).natAbs<=2^e):Pt X p w (2^(6*e)) false:=by
 have up:2^e<=3*2^(6*e):=Se (Sv (by decide) (by omega)) (Vw _ (by decide));refine⟨fE,nz,λ r hr c=>Se (bd r hr c) up,⟨2^e,2^e,bd,λ r hr=>bd r hr p,λ _ r0 h0 _=>?_⟩,λ z=>by cases z⟩;have h1:(r0.getD p 0).natAbs^2<=(2^e)^2:=WE (bd r0 h0 p) 2;refine Se (TR _ h1) ?_;have:2^e*(2^e)^3*(2^e)^2=(2^e)^6:=by grind
 rw[this,<-Nat.pow_mul,Uj];exact R_ _
def Pt.pass{X X':Rows}{p w B:Nat}{sg:Bool}{r0:Row}(h:Pt X p w B sg)(hX:2<=X.length)(h0:r0∈X)(least:∀r∈X,(r0.getD p 0).natAbs<=(r.getD p 0).natAbs)(sub:∀r∈X',r∈X):
 Pt (r0::(X'.map (cU p r0)).filter λ r=>decide (r.getD p 0≠0)) p w (if sg then B else 3*B) true/\∀r∈X'.map (cU p r0),r.length=w/\∀c,(r.getD c 0).natAbs<=3*B:=by
 obtain⟨M,g,hM,hg,hB⟩:=h.sz;have hB:=hB hX r0 h0 least;have w0:=h.fE r0 h0;have n0:=h.nz r0 h0;have f1:1<=(r0.getD p 0).natAbs:=by omega
 have fg:=hg r0 h0;have M0:=hM r0 h0;generalize hf:(r0.getD p 0).natAbs=f at*;have g1:1<=g:=by omega
 have hM':(M+2*g/f*M)*f<=3*M*g:=by
  have a1:2*g/f*f<=2*g:=Nat.div_mul_le_self _ _;have a2:2*g/f*M*f=2*g/f*f*M:=by grind
  have a3:2*g/f*f*M<=2*g*M:=Tx _ a1;have a4:M*f<=M*g:=TR _ fg;rw[VI,a2];have:3*M*g=M*g+2*g*M:=by grind
  omega
 have ent:∀r∈X,∀c,((cU p r0 r).getD c 0).natAbs<=M+2*g/f*M:=λ r hr c=>by
  rw[ot w0 (h.fE r hr)]
  have q1:((r.getD p 0).fdiv (r0.getD p 0)).natAbs<=2*g/f:=by
   rw[Nat.le_div_iff_mul_le (by omega)];have e:=TU (r.getD p 0) (r0.getD p 0);have s2:=(mF (a:=r.getD p 0) n0).2;have hr':=hg r hr;have:(r0.getD p 0*(r.getD p 0).fdiv (r0.getD p 0)).natAbs<=2*g:=by omega
   rw[Tc,hf,Uj]at this;exact this
  have q2:((r.getD p 0).fdiv (r0.getD p 0)*r0.getD c 0).natAbs<=2*g/f*M:=by
   rw[Tc];exact Tb q1 (M0 c)
  have:=hM r hr c;omega
 have B3:M+2*g/f*M<=3*B:=by
  have a1:M+2*g/f*M<=(M+2*g/f*M)*f:=UJ _ (by omega)
  have a2:M*g<=M*g^3*f^2:=by
   have:M*g^3*f^2=M*g*(g^2*f^2):=by grind
   rw[this];exact UJ _ (Nat.mul_pos (VJ g1) (VJ f1))
  have a3:3*M*g=3*(M*g):=by grind
  omega
 have Yb:∀r∈X'.map (cU p r0),r.length=w/\∀c,(r.getD c 0).natAbs<=3*B:=λ r hr=>by
  obtain⟨s,hs,rfl⟩:=SJ.mp hr;exact⟨kB w0 (h.fE s (sub s hs)),λ c=>Se (ent s (sub s hs) c) B3⟩
 have BB:3*B<=3*(if sg=true then B else 3*B):=by split<;>omega
 have inY:∀r∈(X'.map (cU p r0)).filter (λ r=>decide (r.getD p 0≠0)),∃s∈X,r=cU p r0 s/\r.getD p 0≠0/\r.getD p 0=(s.getD p 0).fmod (r0.getD p 0):=λ r hr=>by
  obtain⟨h1,h2⟩:=Td.mp hr;obtain⟨s,hs,rfl⟩:=SJ.mp h1;exact⟨s,sub s hs,rfl,by simpa using h2,Gh w0 (h.fE s (sub s hs))⟩
 refine⟨⟨λ r hr=>?_,λ r hr=>?_,λ r hr c=>?_,⟨M+2*g/f*M,f,λ r hr c=>?_,λ r hr=>?_,λ l2 r1 h1 least1=>?_⟩,λ _ r hr s hs=>?_⟩,Yb⟩
 . rcases SA.mp hr with rfl|hr
   . exact w0
   . exact(Yb r (Td.mp hr).1).1
 . rcases SA.mp hr with rfl|hr
   . exact n0
   . obtain⟨_,_,_,z,_⟩:=inY r hr;exact z
 . rcases SA.mp hr with rfl|hr
   . exact Se (h.bd r h0 c) BB
   . exact Se ((Yb r (Td.mp hr).1).2 c) BB
 . rcases SA.mp hr with rfl|hr
   . exact Se (M0 c) (Nat.le_add_right _ _)
   . obtain⟨s,hs,rfl,_⟩:=inY r hr;exact ent s hs c
 . rcases SA.mp hr with rfl|hr
   . exact Wq hf
   . obtain⟨s,hs,_,_,e⟩:=inY r hr;have:=(mF (a:=s.getD p 0) n0).2;rw[e];omega
 . obtain⟨y,hy⟩:∃y:Row,y∈(X'.map (cU p r0)).filter (λ r:Row=>decide (r.getD p 0≠0)):=by
    cases e:(X'.map (cU p r0)).filter (λ r=>decide (r.getD p 0≠0))with
    |nil=>rw[e]at l2;simp at l2
    |cons y ys=>exact⟨y,SD⟩
   have ly:=least1 y (SG _ hy);obtain⟨s,hs,_,_,e⟩:=inY y hy;generalize(r1.getD p 0).natAbs=f' at ly;generalize M+2*g/f*M=M' at hM'
   have st:M'*f^3*f'^2<=3*(M*g*f^2*f'^2):=by
    have a1:M'*f^3*f'^2=M'*f*(f^2*f'^2):=by grind
    have a2:3*(M*g*f^2*f'^2)=3*M*g*(f^2*f'^2):=by grind
    rw[a1,a2];exact Tx _ hM'
   have sl:=(mF (a:=s.getD p 0) n0).2;rw[<-e,hf]at sl;cases hsg:sg with
   |false=>
    rw[Sf (by decide)];have b1:f'^2<=g^2:=WE (by omega) 2;have b2:M*g*f^2*f'^2<=M*g*f^2*g^2:=TR _ b1;have b3:M*g*f^2*g^2=M*g^3*f^2:=by grind
    omega
   |true=>
    rw[Si rfl];have hh:=FL (h.same hsg s hs r0 h0) (by rw[hf];exact least s hs);rw[<-e]at hh;have hs':=hg s hs;have b1:(2*f')^2<=g^2:=WE (by omega) 2;have b2:M*g*f^2*(2*f')^2<=M*g*f^2*g^2:=TR _ b1;have b3:M*g*f^2*g^2=M*g^3*f^2:=by grind
    have b4:M*g*f^2*(2*f')^2=4*(M*g*f^2*f'^2):=by grind
    omega
 . have sgn:∀r∈r0::(X'.map (cU p r0)).filter (λ r=>decide (r.getD p 0≠0)),0<r.getD p 0*r0.getD p 0:=λ r hr=>by
    rcases SA.mp hr with rfl|hr
    . rcases Vq n0 with z|z
      . exact W4 z z
      . exact Int.mul_pos z z
    . obtain⟨s,hs,_,nz,e⟩:=inY r hr;have:=(mF (a:=s.getD p 0) n0).1;rw[<-e]at this;have ne:r.getD p 0*r0.getD p 0≠0:=Uh nz n0;omega
   have a:=sgn r hr;have b:=sgn s hs;rcases Vq n0 with z|z
   . have ra:r.getD p 0<0:=Uy λ y=>by
      have:=Us y (UE z);omega
     have rb:s.getD p 0<0:=Uy λ y=>by
      have:=Us y (UE z);omega
     exact W4 ra rb
   . have ra:0<r.getD p 0:=Uy λ y=>by
      have:=U0 y (UE z);omega
     have rb:0<s.getD p 0:=Uy λ y=>by
      have:=U0 y (UE z);omega
     exact Int.mul_pos ra rb
def cS(X:Rows)(w:Nat)(r:Row):Prop:=bT X X.length w λ c=>r.getD c 0
def cS.mem{X:Rows}{w:Nat}{r:Row}(h:r∈X):cS X w r:=by
 obtain⟨i,hi,rfl⟩:=SV.mp h;refine(bT.row (k:=i) hi).eq λ c _=>?_;unfold g;rw[aP hi]
def cS.sub{X Y:Rows}{w:Nat}{r:Row}(h:∀q∈X,cS Y w q)(hr:cS X w r):cS Y w r:=
 bT.trans (λ k hk=>h _ (by rw[aP hk];exact Tg _)) hr
def cS.j8{X:Rows}{w:Nat}{r s:Row}(t:Int)(l:r.length=s.length)(h1:cS X w r)(h2:cS X w s):cS X w (fR r t s):=
 (bT.j8 t h1 h2).eq λ c _=>oC l ..
structure jL(X Y:Rows)(w:Nat):Prop where
 to:∀r∈X,cS Y w r
 of:∀r∈Y,cS X w r
def jL.refl(X:Rows)(w:Nat):jL X X w:=⟨λ _=>cS.mem,λ _=>cS.mem⟩
def jL.trans{X Y Z:Rows}{w:Nat}(a:jL X Y w)(b:jL Y Z w):jL X Z w:=⟨λ r hr=>cS.sub b.to (a.to r hr),λ r hr=>cS.sub a.of (b.of r hr)⟩
def yR{p w:Nat}{f r:Row}(hf:f.length=w)(hr:r.length=w):fR (cU p f r) ((r.getD p 0).fdiv (f.getD p 0)) f=r:=by
 refine x6 (n:=w) (by rw[kG (by rw[kB hf hr,hf]),kB hf hr]) hr λ c _=>?_;rw[oC (by rw[kB hf hr,hf]),ot hf hr];omega
def mem_erase{X:Rows}{j:Nat}{r0 r:Row}(hj:X[j]?=some r0)(hr:r∈X):r=r0\/r∈X.eraseIdx j:=by
 obtain⟨i,hi,rfl⟩:=SV.mp hr;obtain⟨h1,h2⟩:=Sg.mp hj;by_cases e:i=j
 . subst e;exact .inl h2
 . exact .inr (List.mem_eraseIdx_iff_getElem.mpr ⟨i,hi,e,rfl⟩)
def jL.pass{O X:Rows}{p w j:Nat}{r0:Row}(hj:X[j]?=some r0)(fE:∀r∈X,r.length=w):jL (O++X) ((O++((X.eraseIdx j).map (cU p r0)).filter λ r=>decide (r.getD p 0=0))++(r0::((X.eraseIdx j).map (cU p r0)).filter λ r=>decide (r.getD p 0≠0))) w:=by
 have h0:r0∈X:=S8 hj;have w0:=fE r0 h0;refine⟨λ r hr=>?_,λ r hr=>?_⟩
 . rcases SE.mp hr with h|h
   . exact cS.mem (SS _ (SS _ h))
   . rcases mem_erase hj h with rfl|h
     . exact cS.mem (So _ SD)
     . have wr:=fE r (VW h);have m:cU p r0 r∈(X.eraseIdx j).map (cU p r0):=SJ.mpr ⟨r,h,rfl⟩
       have a:cS ((O++((X.eraseIdx j).map (cU p r0)).filter λ r=>decide (r.getD p 0=0))++(r0::((X.eraseIdx j).map (cU p r0)).filter λ r=>decide (r.getD p 0≠0))) w (cU p r0 r):=by
        by_cases z:(cU p r0 r).getD p 0=0
        . exact cS.mem (SS _ (So _ (Td.mpr ⟨m,TF z⟩)))
        . exact cS.mem (So _ (SG _ (Td.mpr ⟨m,TF z⟩)))
       rw[<-yR (p:=p) w0 wr];exact a.j8 _ (by rw[kB w0 wr,w0]) (cS.mem (So _ SD))
 . have inY:∀r∈(X.eraseIdx j).map (cU p r0),cS (O++X) w r:=λ r hr=>by
    obtain⟨s,hs,rfl⟩:=SJ.mp hr;have hs':=VW hs;exact cS.j8 _ (by rw[fE s hs',w0]) (cS.mem (So _ hs')) (cS.mem (So _ h0))
   rcases SE.mp hr with h|h
   . rcases SE.mp h with h|h
     . exact cS.mem (SS _ h)
     . exact inY r (Td.mp h).1
   . rcases SA.mp h with rfl|h
     . exact cS.mem (So _ h0)
     . exact inY r (Td.mp h).1
structure Ld(X R F:Rows)(p w e u:Nat):Prop where
 same:jL X (R++F) w
 wR:∀r∈R,r.length=w
 wF:∀r∈F,r.length=w
 zs:∀r∈R,∀c,c<p->r.getD c 0=0
 st:∃ld:Nat->Nat,(∀i,i<F.length->ld i<p/\0<g F i (ld i)/\∀c,c<ld i->g F i c=0)/\(∀i j,i<j->j<F.length->ld i<ld j)/\∀i j,i<j->j<F.length->0<=g F i (ld j)/\g F i (ld j)<g F j (ld j)
 len:R.length+F.length=X.length
 bR:∀r∈R,∀c,(r.getD c 0).natAbs<=2^e
 bF:∀r∈F,∀c,(r.getD c 0).natAbs<=2^u
def Ld.start{X:Rows}{w e:Nat}(wX:∀r∈X,r.length=w)(bX:∀r∈X,∀c,(r.getD c 0).natAbs<=2^e):Ld X X [] 0 w e 0:=
 ⟨by rw[TZ];exact .refl X w,wX,λ r hr=>(by cases hr),λ _ _ c h=>absurd h (SN c),⟨λ _=>0,λ i h=>absurd h (SN i),λ i j _ h=>absurd h (SN j),λ i j _ h=>absurd h (SN j)⟩,rfl,bX,λ r hr=>(by cases hr)⟩
def Ld.skip{X R F:Rows}{p w e u:Nat}(h:Ld X R F p w e u)(z:∀r∈R,r.getD p 0=0):Ld X R F (p+1) w e u:=
 ⟨h.same,h.wR,h.wF,λ r hr c hc=>by
  by_cases e:c=p
  . subst e;exact z r hr
  . exact h.zs r hr c (by omega),let⟨ld,a,b,c⟩:=h.st;⟨ld,λ i hi=>⟨S9 (a i hi).1,(a i hi).2⟩,b,c⟩,h.len,h.bR,h.bF⟩
def Ld.next{X R O F:Rows}{f:Row}{p w e u e' u':Nat}(h:Ld X R F p w e u)(hp:p<w)(sam:jL R (O++[f]) w)(wO:∀r∈O,r.length=w)(wf:f.length=w)(zO:∀r∈O,∀c,c<p+1->r.getD c 0=0)(zf:∀c,c<p->f.getD c 0=0)(f0:0<f.getD p 0)(ln:O.length+1=R.length)(bO:∀r∈O,∀c,(r.getD c 0).natAbs<=2^e')(bf:∀c,(f.getD c 0).natAbs<=2^e')(hu:u+e'+1<=u'):Ld X O (F.map (cU p f)++[f]) (p+1) w e' u':=by
 have lF:(F.map (cU p f)).length=F.length:=Sb ..
 have gl:∀i c,i<F.length->g (F.map (cU p f)++[f]) i c=g F i c-(g F i p).fdiv (f.getD p 0)*f.getD c 0:=λ i c hi=>by
  have e1:(F.map (cU p f)++[f]).getD i []=cU p f (F.getD i []):=by
   rw[Sd,Sk (by omega),SF,Sm hi,aP hi];rfl
  unfold g;rw[e1,ot wf (h.wF _ (by rw[aP hi];exact Tg _))]
 have gt:∀c,g (F.map (cU p f)++[f]) F.length c=f.getD c 0:=λ c=>by
  have e1:(F.map (cU p f)++[f]).getD F.length []=f:=by
   rw[Sd,S7 (by omega),lF,Ve];rfl
  unfold g;rw[e1]
 have glp:∀i,i<F.length->g (F.map (cU p f)++[f]) i p=(g F i p).fmod (f.getD p 0):=λ i hi=>by
  rw[gl i p hi];have:=TU (g F i p) (f.getD p 0);rw[Ua]at this;omega
 have gll:∀i c,i<F.length->c<p->g (F.map (cU p f)++[f]) i c=g F i c:=λ i c hi hc=>by rw[gl i c hi,zf c hc,SX,Int.sub_zero]
 have le:(F.map (cU p f)++[f]).length=F.length+1:=by rw[TB,lF];rfl
 have fl:∀a:Int,(a.fdiv (f.getD p 0)).natAbs<=a.natAbs:=λ a=>iK a f0;refine⟨h.same.trans ⟨λ r hr=>?_,λ r hr=>?_⟩,wO,λ r hr=>?_,zO,?_,by rw[le];have:=h.len;omega,bO,λ r hr c=>?_⟩
 . have mf:f∈O++(F.map (cU p f)++[f]):=by simp
   rcases SE.mp hr with q|q
   . refine cS.sub (λ s hs=>?_) (sam.to r q);rcases SE.mp hs with y|y
     . exact cS.mem (SS _ y)
     . rw[Te.mp y];exact cS.mem mf
   . have wr:=h.wF r q;rw[<-yR (p:=p) wf wr];exact(cS.mem (So _ (SS _ (SJ.mpr ⟨r,q,rfl⟩)))).j8 _ (by rw[kB wf wr,wf]) (cS.mem mf)
 . have mf:cS (R++F) w f:=cS.sub (λ s hs=>cS.mem (SS _ hs)) (sam.of f (by simp));rcases SE.mp hr with q|q
   . exact cS.sub (λ s hs=>cS.mem (SS _ hs)) (sam.of r (SS _ q))
   . rcases SE.mp q with q|q
     . obtain⟨s,hs,rfl⟩:=SJ.mp q;exact cS.j8 _ (by rw[h.wF s hs,wf]) (cS.mem (So _ hs)) mf
     . rw[Te.mp q];exact mf
 . rcases SE.mp hr with q|q
   . obtain⟨s,hs,rfl⟩:=SJ.mp q;exact kB wf (h.wF s hs)
   . rw[Te.mp q];exact wf
 . obtain⟨ld,a,b,c⟩:=h.st;rw[le];refine⟨λ i=>if i=F.length then p else ld i,λ i hi=>?_,λ i j hij hj=>?_,λ i j hij hj=>?_⟩
   . dsimp only;by_cases q:i=F.length
     . subst q;rw[Si rfl,gt];exact⟨S0 p,f0,λ c hc=>by rw[gt];exact zf c hc⟩
     . have hi':i<F.length:=by omega
       obtain⟨a1,a2,a3⟩:=a i hi';rw[Sf q,gll i _ hi' a1];exact⟨S9 a1,a2,λ c hc=>by rw[gll i c hi' (by omega)];exact a3 c hc⟩
   . dsimp only;rw[Sf (show¬i=F.length by omega)];by_cases q:j=F.length
     . rw[Si q];exact(a i (by omega)).1
     . rw[Sf q];exact b i j hij (by omega)
   . dsimp only;by_cases q:j=F.length
     . subst q;rw[Si rfl,glp i hij,gt];exact⟨Th _ f0,TC _ f0⟩
     . have hj':j<F.length:=by omega
       rw[Sf q,gll i _ (by omega) (a j hj').1,gll j _ hj' (a j hj').1];exact c i j hij hj'
 . have up:∀ {x y:Nat},x<=y->2^x<=2^y:=λ h=>Sv (by decide) h;rcases SE.mp hr with q|q
   . obtain⟨s,hs,rfl⟩:=SJ.mp q;rw[ot wf (h.wF s hs)];have h1:=h.bF s hs c
     have h2:((s.getD p 0).fdiv (f.getD p 0)*f.getD c 0).natAbs<=2^(u+e'):=by
      rw[Tc,Um];exact Tb (Se (fl _) (h.bF s hs p)) (bf c)
     have h3:2^u<=2^(u+e'):=up (by omega);have h4:2^(u+e')*2<=2^u':=by rw[<-T3];exact up hu
     omega
   . rw[Te.mp q];exact Se (bf c) (up (by omega))
def Ld.end{X R F:Rows}{w e u:Nat}(h:Ld X R F w w e u):cG F.length w F/\bc F F.length w (bz F)/\kb F F.length (bz F)/\og X X.length F F.length w:=by
 obtain⟨ld,a,b,c⟩:=h.st;have s:bc F F.length w ld:=⟨a,b⟩
 refine⟨⟨rfl,h.wF⟩,s.Bq,λ i j hij hj=>by rw[s.bz hj];exact c i j hij hj,λ k hk=>?_,λ k hk=>?_⟩
 . have:=h.same.to (X.getD k []) (by rw[aP hk];exact Tg _);refine cS.sub (Y:=F) (λ r hr=>?_) this;rcases SE.mp hr with q|q
   . exact⟨λ _=>0,λ c hc=>(h.zs r q c hc).trans (gn λ k _=>Tu _).symm⟩
   . exact cS.mem q
 . exact cS.sub (X:=R++F) (Y:=X) h.same.of (cS.mem (So _ (by rw[aP hk];exact Tg _)))
def Ln(A:Rows)(N:Nat):Rows:=(List.range N).map λ n=>A.getD n []++d6 N n
def Am{A:Rows}{N n:Nat}(hn:n<N):(Ln A N).getD n []=A.getD n []++d6 N n:=by
 unfold Ln;rw[aP (by simpa using hn),VF,WM]
def zj{A:Rows}{N w:Nat}(hA:cG N w A):cG N (w+N) (Ln A N):=⟨by simp[Ln],λ r hr=>by
 unfold Ln at hr;obtain⟨n,hn,rfl⟩:=SJ.mp hr;rw[UA]at hn;rw[TB,hA.row hn];simp[d6]⟩
def Mj{A:Rows}{N w n c:Nat}(hA:cG N w A)(hn:n<N)(hc:c<w):g (Ln A N) n c=g A n c:=by
 unfold g;rw[Am hn,Sd,Sk (by rw[hA.row hn];exact hc)];exact(Sd ..).symm
def Dy{A:Rows}{N w n j:Nat}(hA:cG N w A)(hn:n<N)(hj:j<N):g (Ln A N) n (w+j)=dl n j:=by
 have e:(d6 N n).getD j 0=dl n j:=by
  have:=ji hn hj;unfold g units at this;rwa [aP (l:=(List.range N).map (d6 N)) (by simpa using hn),VF,WM]at this
 rw[<-e];unfold g;rw[Am hn,Sd,S7 (by rw[hA.row hn];omega),hA.row hn,Vh,Sd]
def LW{A:Rows}{N w:Nat}(hA:cG N w A)(v:Nat->Int):bT (Ln A N) N (w+N) v↔∀c,c<w->v c=S N λ n=>v (w+n)*g A n c:=by
 constructor
 . rintro⟨z,hz⟩ c hc
   have e:∀j,j<N->v (w+j)=z j:=λ j hj=>by
    rw[hz (w+j) (by omega),jd hj λ n hn hne=>by rw[Dy hA hn hj,eH hne,SX],Dy hA hj hj,dE,Vr]
   rw[hz c (by omega)];exact ax λ n hn=>by rw[e n hn,Mj hA hn hc]
 . intro h;refine⟨λ n=>v (w+n),λ c hc=>?_⟩;rcases Ul c w with q|q
   . rw[h c q];exact ax λ n hn=>by rw[Mj hA hn q]
   . obtain⟨j,rfl⟩:=Nat.le.dest q;have hj:j<N:=by omega
     rw[jd hj λ n hn hne=>by rw[Dy hA hn hj,eH hne,SX],Dy hA hj hj,dE,Vr]
def Bx(f:Nat->Nat)(w:Nat):∀m,(∀i j,i<j->j<m->f i<f j)->∃h,h<=m/\(∀i,i<h->f i<w)/\∀i,h<=i->i<m->w<=f i
 |0,_=>⟨0,R_ _,λ i h=>absurd h (SN _),λ i _ h=>absurd h (SN _)⟩
 |m+1,mono=>by
  obtain⟨h,h1,h2,h3⟩:=Bx f w m λ i j a b=>mono i j a (by omega);by_cases q:f m<w
  . refine⟨m+1,R_ _,λ i hi=>?_,λ i a b=>absurd b (by omega)⟩;by_cases e:i=m
    . rw[e];exact q
    . exact Ub (mono i m (by omega) (by omega)) q
  . refine⟨h,by omega,h2,λ i a b=>?_⟩;by_cases e:i=m
    . rw[e];omega
    . exact h3 i a (by omega)
def CT{r:Row}{w c:Nat}:(r.drop w).getD c 0=r.getD (w+c) 0:=by
 rw[Sd,VV,Sd]
def Gd(F:Rows)(h w:Nat):Rows:=(F.drop h).map (List.drop w)
def OV{F:Rows}{h w i c:Nat}(hi:h+i<F.length):g (Gd F h w) i c=g F (h+i) (w+c):=by
 have e:(Gd F h w).getD i []=(F.getD (h+i) []).drop w:=by
  unfold Gd;rw[Sd,SF,VV,Sm hi,aP hi];rfl
 unfold g;rw[e,CT]
structure tU(A F:Rows)(N w m h:Nat):Prop where
 hA:cG N w A
 is:cG m (w+N) F
 st:bc F m (w+N) (bz F)
 red:kb F m (bz F)
 same:og (Ln A N) N F m (w+N)
 le:h<=m
 lo:∀i,i<h->bz F i<w
 hi:∀i,h<=i->i<m->w<=bz F i
section
variable {A F:Rows}{N w m h:Nat}(L:tU A F N w m h)
include L
theorem tU.zero{i c:Nat}(h1:h<=i)(h2:i<m)(hc:c<w):g F i c=0:=(L.st.lead i h2).2.2 c (Sw hc (L.hi i h1 h2))
theorem tU.IC(v:Nat->Int):bT F m (w+N) v↔∀c,c<w->v c=S N λ n=>v (w+n)*g A n c:=by
 rw[<-LW L.hA];exact⟨λ q=>bT.trans L.same.of q,λ q=>bT.trans L.same.to q⟩
theorem tU.Gj:cG (m-h) N (Gd F h w):=⟨by unfold Gd;rw[Sb,TJ,L.is.len],λ r hr=>by
 unfold Gd at hr;obtain⟨s,hs,rfl⟩:=SJ.mp hr;rw[TJ,L.is.fE s (List.mem_of_mem_drop hs)];omega⟩
theorem tU.oX{i c:Nat}(hi:i<m-h):g (Gd F h w) i c=g F (h+i) (w+c):=OV (by rw[L.is.len];omega)
theorem tU.MG:bc (Gd F h w) (m-h) N λ i=>bz F (h+i)-w:=by
 refine⟨λ i hi=>?_,λ i j hij hj=>?_⟩
 . obtain⟨a,b,c⟩:=L.st.lead (h+i) (by omega);have q:=L.hi (h+i) (by omega) (by omega);refine⟨by omega,?_,λ c' hc'=>?_⟩
   . rw[L.oX hi,Vg q];exact b
   . rw[L.oX hi];exact c _ (by omega)
 . have:=L.st.mono (h+i) (h+j) (by omega) (by omega);have:=L.hi (h+i) (by omega) (by omega);omega
theorem tU.N_:kb (Gd F h w) (m-h) (bz (Gd F h w)):=λ i j hij hj=>by
 rw[L.MG.bz hj,L.oX (by omega),L.oX hj,Vg (L.hi (h+j) (by omega) (by omega))];exact L.red (h+i) (h+j) (by omega) (by omega)
theorem tU.pK(x:Nat->Int):(∀q,q<w->(S N λ n=>x n*g A n q)=0)↔bT (Gd F h w) (m-h) N x:=by
 constructor
 . intro hx
   have lv:bT F m (w+N) λ c=>if c<w then 0 else x (c-w):=(L.IC _).mpr λ c hc=>by
    rw[Si hc,<-hx c hc];exact ax λ n _=>by rw[Sf (by omega),Vh]
   obtain⟨z,hz⟩:=lv;have z0:∀i,i<h->z i=0:=λ i hi=>L.st.gone hz (q:=w) (λ c hc=>Si hc) i (Sw hi L.le) (L.lo i hi);refine⟨λ i=>z (h+i),λ c hc=>?_⟩;have e:=hz (w+c) (by omega);dsimp only at e;rw[Sf (by omega),Vh]at e;have sp:=uE h (λ i=>z i*g F i (w+c)) (m-h);rw[Vg L.le]at sp;rw[e,sp,gn λ i hi=>by rw[z0 i hi,Tu],UD];exact ax λ i hi=>by rw[L.oX hi]
 . rintro⟨z,hz⟩ q hq;have lv:bT F m (w+N) λ c=>S (m-h) λ i=>z i*g F (h+i) c:=bT.comb λ i hi=>bT.row (by omega);have e:=(L.IC _).mp lv q hq;rw[gn λ i hi=>by rw[L.zero (by omega) (by omega) hq,SX]]at e;rw[e]
   exact ax λ n hn=>by
    rw[hz n hn];congr 1;exact ax λ i hi=>by rw[L.oX hi]
theorem tU.heads:cG h (w+N) (F.take h)/\bc (F.take h) h (w+N) (bz (F.take h))/\(∀i c,i<h->g (F.take h) i c=g F i c)/\∀i,i<h->bz (F.take h) i=bz F i:=by
 have gt:∀i c,i<h->g (F.take h) i c=g F i c:=λ i c hi=>by
  have e:(F.take h).getD i []=F.getD i []:=by rw[Sd,Sd,List.getElem?_take,Si hi]
  unfold g;rw[e]
 have s:bc (F.take h) h (w+N) (bz F):=⟨λ i hi=>by
  obtain⟨a,b,c⟩:=L.st.lead i (Sw hi L.le);exact⟨a,by rw[gt i _ hi];exact b,λ c' hc=>by rw[gt i _ hi];exact c c' hc⟩,λ i j hij hj=>L.st.mono i j hij (Sw hj L.le)⟩
 have:=L.le;exact⟨⟨by rw[Tr,L.is.len];omega,λ r hr=>L.is.fE r (U_ hr)⟩,s.Bq,gt,λ i hi=>s.bz hi⟩
theorem tU.rest{r:Row}(lr:r.length=w):let v:=cZ (F.take h) (r++List.replicate N 0) h
 ((∀c,c<w->v.getD c 0=0)->∀c,c<w->(S N λ n=>(0-v.getD (w+n) 0)*g A n c)=r.getD c 0)/\((∃c,c<w/\v.getD c 0≠0)->∀x:Nat->Int,¬ ∀c,c<w->(S N λ n=>x n*g A n c)=r.getD c 0):=by
 intro v;obtain⟨hI,hS,hg,hl⟩:=L.heads;have lr0:(r++List.replicate N 0).length=w+N:=by simp[lr]
 have r1:∀c,c<w->(r++List.replicate N 0).getD c 0=r.getD c 0:=λ c hc=>by rw[Sd,Sk (by omega),Sd]
 have r2:∀n,(r++List.replicate N 0).getD (w+n) 0=0:=λ n=>by
  rw[Sd,S7 (by omega),<-Sd,eQ]
 have sm:=xO hI lr0 (R_ h);have z_:=qM hI lr0 hS (R_ h);refine⟨λ z c hc=>?_,?_⟩
 . have lu:bT F m (w+N) λ c=>S h λ j=>j9 (F.take h) (cZ (F.take h) (r++List.replicate N 0) j) j*g F j c:=bT.comb λ i hi=>bT.row (Sw hi L.le);have e:=(L.IC _).mp lu c hc
   have sm':∀c,(r++List.replicate N 0).getD c 0=v.getD c 0+S h λ j=>j9 (F.take h) (cZ (F.take h) (r++List.replicate N 0) j) j*g F j c:=λ c=>by
    rw[sm c];congr 1;exact ax λ j hj=>by rw[hg j c hj]
   have s1:=sm' c;rw[r1 c hc,z c hc,UD,e]at s1;rw[s1]
   exact ax λ n _=>by
    have s2:=sm' (w+n);rw[r2 n]at s2;congr 1;omega
 . rintro⟨c,hc,hne⟩ x hx
   have ly:bT F m (w+N) λ c=>if c<w then r.getD c 0 else x (c-w):=(L.IC _).mpr λ c hc=>by
    rw[Si hc,<-hx c hc];exact ax λ n _=>by rw[Sf (by omega),Vh]
   obtain⟨t,ht⟩:=ly;have sH:bc (F.take h) h w (bz (F.take h)):=⟨λ i hi=>⟨by rw[hl i hi];exact L.lo i hi,(hS.lead i hi).2⟩,hS.mono⟩
   have lv:bT (F.take h) h w λ c=>v.getD c 0:=⟨λ j=>t j-j9 (F.take h) (cZ (F.take h) (r++List.replicate N 0) j) j,λ c hc=>by
    have e1:=ht c (by omega);dsimp only at e1;rw[Si hc]at e1;have sp:=uE h (λ i=>t i*g F i c) (m-h);rw[Vg L.le,gn (n:=m-h) λ i hi=>by rw[L.zero (by omega) (by omega) hc,SX],Uk]at sp;have s1:=sm c;rw[r1 c hc,e1,sp]at s1
    have e3:(S h λ k=>(t k-j9 (F.take h) (cZ (F.take h) (r++List.replicate N 0) k) k)*g (F.take h) k c)=(S h λ k=>t k*g F k c)-S h λ k=>j9 (F.take h) (cZ (F.take h) (r++List.replicate N 0) k) k*g (F.take h) k c:=by
     rw[Tt,<-mV,<-f_];exact ax λ k hk=>by rw[Wa,Tt,hg k c hk]
    show v.getD c 0=_;rw[e3,s1];show v.getD c 0=v.getD c 0+_-_;omega⟩
   exact hne (sH.Iu lv (λ k hk=>by
    obtain⟨a,b⟩:=z_.red k hk;show(v.getD (bz (F.take h) k) 0).natAbs<_;have a':0<=v.getD (bz (F.take h) k) 0:=a;have b':v.getD (bz (F.take h) k) 0<g (F.take h) k (bz (F.take h) k):=b;omega) c hc)
end
end Mx
namespace Prog
open PySem L2 L3
open PySem.Spec hiding items?
open PyProof.Rows hiding St
def iV{i j:Int}(h1: -(2^64)<i)(h2:i<2^64):IntMulOk i j:= .of_left (intBits_le_64 h1 h2)
def uF{i j:Int}(h1: -(2^64)<j)(h2:j<2^64):IntMulOk i j:= .of_right (intBits_le_64 h1 h2)
def isInt:D->Bool
 | .int _=>true
 |_=>false
abbrev az(r:List Int):List D:=r.map D.int
abbrev aY(r:List Int):D:= .tup (az r)
abbrev aI(r:List Int):D:= .lst (az r)
abbrev c7(A:List (List Int)):D:= .tup (A.map aY)
def cK(st:ag):List D->List (List Int)->Prop
 | [],[]=>True
 |d::ds,r::rs=>items? st d=some (az r)/\cK st ds rs
 |_,_=>False
structure jc(st:ag)(d:D)(A:List (List Int)):Prop where
 ex:∃ds,items? st d=some ds/\cK st ds A
def cK.len{st:ag}:∀ {ds:List D} {A:List (List Int)},cK st ds A->ds.length=A.length
 | [],[],_=>rfl
 |_::_,_::_,h=>by simp[cK.len h.2]
def cK.tup{st:ag}:∀ {A:List (List Int)},cK st (A.map aY) A
 | []=>trivial
 |_::_=>⟨rfl,cK.tup⟩
def cK.lst{st:ag}:∀ {A:List (List Int)},cK st (A.map aI) A
 | []=>trivial
 |_::_=>⟨rfl,cK.lst⟩
def cK.get{st:ag}:∀ {ds:List D} {A:List (List Int)} {i:Nat} {d:D},cK st ds A->ds[i]?=some d->∃r,A[i]?=some r/\items? st d=some (az r)
 |_::_,r::_,0,_,h,e=>by simp at e;subst e;exact⟨r,rfl,h.1⟩
 |_::_,_::_,i+1,d,h,e=>by
  obtain⟨r,e1,e2⟩:=cK.get (i:=i) (d:=d) h.2 (by simpa using e);exact⟨r,by simpa using e1,e2⟩
def oN{st:ag}{A:List (List Int)}:jc st (c7 A) A:=⟨_,rfl,cK.tup⟩
structure Ext(st st':ag):Prop where
 len:st.length<=st'.length
 same:∀m,m<st.length->st'[m]?=st[m]?
def Ext.refl{st:ag}:Ext st st:=⟨R_ _,λ _ _=>rfl⟩
def Ext.trans{st st1 st2:ag}(a:Ext st st1)(b:Ext st1 st2):Ext st st2:=⟨Se a.len b.len,λ m h=>(b.same m (Sw h a.len)).trans (a.same m h)⟩
def Ext.push{st:ag}{c:List Cell}:Ext st (st++c):=⟨by simp,λ m h=>Sk h⟩
def Ext.set{st:ag}{n:Nat}{c:Cell}{st0:ag}(a:Ext st0 st)(h:st0.length<=n):Ext st0 (st.set n c):=⟨by rw[SO];exact a.len,λ m hm=>by rw[Sj (by omega)];exact a.same m hm⟩
def Ext.items{st st':ag}{d:D}{xs:List D}(x:Ext st st')(e:items? st d=some xs):items? st' d=some xs:=by
 cases d with
 |ref n=>
  unfold items? at e⊢;simp only at e⊢;cases q:st[n]? with
  |none=>rw[q]at e;cases e
  |some c=>
   have hn:=(Sg.mp q).1;rw[x.same n hn];exact e
 |_=>exact e
def dF{r:List Int}{k:Nat}(h:k<r.length):eV (az r) (k:Int)=some (.int (r.getD k 0)):=by
 refine kX ?_;rw[SF,Sm h,Mx.aP h];rfl
def getD_mem{r:List Int}{k:Nat}(h:k<r.length):r.getD k 0∈r:=by rw[Mx.aP h];exact Tg _
def cK.at{st:ag}{ds:List D}{A:List (List Int)}{k:Nat}(h:cK st ds A)(hk:k<A.length):∃d,eV ds (k:Int)=some d/\items? st d=some (az (A.getD k [])):=by
 have hl:=h.len;have e:ds[k]?=some ds[k]:=Sm (by omega);obtain⟨r,er,hr⟩:=h.get e;refine⟨ds[k],kX e,?_⟩;rw[Mx.aP hk];rw[Sm hk]at er;cases er;exact hr
def ints_app{r:List Int}{x:Int}:az r++[D.int x]=az (r++[x]):=by simp[az]
def zK{A:List (List Int)}{r:List Int}:A.map aY++[aY r]=(A++[r]).map aY:=by simp
def sf{r s:List Int}{d:D}(h:d∈gg (az r) (az s)):∃a b,a∈r/\b∈s/\d= .tup [.int a,.int b]:=by
 obtain⟨n,hn,e⟩:=SV.mp h;have e':(gg (az r) (az s))[n]?=some d:=by rw[Sm hn,e]
 obtain⟨x,y,ex,ey,rfl⟩:=vS e';rw[SF]at ex ey;cases q1:r[n]? with
 |none=>rw[q1]at ex;cases ex
 |some a=>
  cases q2:s[n]? with
  |none=>rw[q2]at ey;cases ey
  |some b=>
   rw[q1]at ex;rw[q2]at ey;cases ex;cases ey;exact⟨a,b,S8 q1,S8 q2,rfl⟩
def Hg(n:Nat):(List.replicate n [D.int 0]).flatten=az (List.replicate n 0):=by
 induction n with
 |zero=>rfl
 |succ n ih=>rw[TQ,Uq,ih];rfl
def E_{x y:D}{xs ys:List D}:gg (x::xs) (y::ys)= .tup [x,y]::gg xs ys:=rfl
def JY{n:Nat}{r:List Int}:(az r).all (pl n)=true:=by
 refine Tp.mpr λ d hd=>?_;obtain⟨i,_,rfl⟩:=SJ.mp hd;cases n<;>rfl
def aF:Addr:=181
abbrev gT(b:Bool):Cell:=Cell.tab 161 ⟨82,32,82,66⟩ "Bench.live_rows.<locals>.<lambda>" b
abbrev Mg:List (Addr×Pos×Str):=[(161,⟨82,32,82,66⟩,"Bench.live_rows.<locals>.<lambda>")]
def GZ{a:Int}{m:Nat}(h:a.natAbs<2^m):Builtin.Int.intBits a<=m:=by
 unfold Builtin.Int.intBits;by_cases h0:a.natAbs=0
 . have:a=0:=by omega
   subst this;simp
 . have:=(Nat.log2_lt h0).mpr h;split<;>omega
def dS{a b:Int}{m n:Nat}(ha:a.natAbs<=2^m)(hb:b.natAbs<=2^n)(h:m+n<=130000000):IntMulOk a b:=by
 have q:∀ {x:Int} {k:Nat},x.natAbs<=2^k->Builtin.Int.intBits x<=k+1:=λ{x k} h=>GZ (WL h (Nat.pow_lt_pow_right (by decide) (S0 k)));have h1:=q ha;have h2:=q hb;have e:(2:Nat)^27=134217728:=by decide
 have z:Builtin.Int.intTooBig (Builtin.Int.intBits a+Builtin.Int.intBits b)=false:=by
  unfold Builtin.Int.intTooBig bitsLine;exact Tf (by omega)
 unfold IntMulOk;rw[z];simp
def vN:cY:=λ ds st K=>∃a b,ds=[.int a,.int b]/\K (.int ((Nat.gcd a.natAbs b.natAbs:Nat):Int)) st
def rl:List Str:=["one","other","great","small","rest"]
def H_:DS:=(aJ (a9 2 (b_ qh (af (ae 0) ak)))
 (aJ (a9 3 (b_ qh (af (ae 1) ak)))
 (aJ (tO (bS (aw nG (ae 3) (dC (.int 0)))) (aJ (a9 4 (aw kF (ae 2) (ae 3)))
 (aJ (a9 2 (ae 3))
 (a9 3 (ae 4)))))
 (cy (ae 2)))))
def GR(a b:Nat):(a:Int).fmod (b:Int)=((a%b:Nat):Int):=by
 rw[Int.fmod_eq_emod_of_nonneg _ (VX b)];exact(Int.natCast_emod a b).symm
abbrev R9(S:cY)(n:Nat)(P:DS)(N:List Str):Prop:=∀ds st K,S ds st K->ds.length=n/\P {nx:=λ _ st'=>K .aG st',rt:=K} (a7 N ds) st
def Fc:R9 vN 2 H_ rl:=by
 rintro ds st K ⟨a,b,rfl,k⟩;refine⟨rfl,?_⟩;refine qy (qy ?_);refine⟨λ m σ st'=>∃(g s:Nat) (r:Option D),σ=[some (.int a),some (.int b),some (.int g),some (.int s),r]/\st'=st/\Nat.gcd g s=Nat.gcd a.natAbs b.natAbs/\s=m,⟨b.natAbs,a.natAbs,b.natAbs,none,?_,rfl,rfl,rfl⟩,?_⟩
 . rfl
 . rintro m σ st' ⟨g,s,r,rfl,rfl,hg,rfl⟩;refine ne2 (λ h=>fT ?_) λ h=>?_
   . refine nh h ⟨g%s,Nat.mod_lt _ (by omega),s,g%s,some (.int ((g%s:Nat):Int)),?_,rfl,?_,rfl⟩
     . rw[GR];rfl
     . rw[XO,<-Nat.gcd_rec,XO];exact hg
   . have:s=0:=by omega
     subst this;rw[Nat.gcd_zero_right]at hg;subst hg;exact k
abbrev je(q:Rat):D:= .tup [.int q.num,.int ((q.den:Nat):Int)]
def pd:cY:=λ ds st K=>∃(t b:Int),ds=[.int t,.int b]/\b≠0/\K (je (Rat.divInt t b)) st
def wV:List Str:=["top","bottom","shrink"]
def MB:DS:=(aJ (a9 2 (aH vN (af (ae 0) (af (ae 1) ak))))
 (aJ (ft (bS (aw sA (ae 1) (dC (.int 0)))) (a9 2 (pD ka (ae 2))) fk)
 (cy (jb (af (aw gN (ae 0) (ae 2)) (af (aw gN (ae 1) (ae 2)) ak))))))
def tJ{g t:Int}(hg:g≠0)(h:g∣t):t.fdiv (-g)=(-1*t).fdiv g:=by
 obtain⟨c,rfl⟩:=h
 have e1:(g*c).fdiv (-g)= -c:=by
  have:g*c=(-g)*(-c):=by rw[Int.neg_mul_neg]
  rw[this,Xg _ (by omega)]
 have e2:(-1*(g*c)).fdiv g= -c:=by
  have: -1*(g*c)=g*(-c):=by rw[UC,UB,Int.mul_neg]
  rw[this,Xg _ hg]
 rw[e1,e2]
def Fo(t b:Int):((Nat.gcd t.natAbs b.natAbs:Nat):Int)∣t:=Int.ofNat_dvd_left.mpr (Nat.gcd_dvd_left _ _)
def FI(t b:Int):((Nat.gcd t.natAbs b.natAbs:Nat):Int)∣b:=Int.ofNat_dvd_left.mpr (Nat.gcd_dvd_right _ _)
def Ll{t b:Int}(hb:b≠0):D.tup [.int (((if b<0 then(-1:Int)else 1)*t).fdiv ((Nat.gcd t.natAbs b.natAbs:Nat):Int)),.int (((if b<0 then(-1:Int)else 1)*b).fdiv ((Nat.gcd t.natAbs b.natAbs:Nat):Int))]=je (Rat.divInt t b):=by
 unfold je;have hg:(b.gcd t:Nat)=Nat.gcd t.natAbs b.natAbs:=by unfold Int.gcd;rw[XO]
 have hs:(if b<0 then(-1:Int)else 1)=b.sign:=by
  rcases Int.lt_trichotomy b 0 with h|h|h
  . rw[Si h,Int.sign_eq_neg_one_of_neg h]
  . exact absurd h hb
  . rw[Sf (by omega),Int.sign_eq_one_of_pos h]
 have e1:(Rat.divInt t b).num=((if b<0 then(-1:Int)else 1)*t).fdiv ((Nat.gcd t.natAbs b.natAbs:Nat):Int):=by
  rw[Rat.num_divInt,hs,hg,UY _ (VX _)]
 have e2:(((Rat.divInt t b).den:Nat):Int)=((if b<0 then(-1:Int)else 1)*b).fdiv ((Nat.gcd t.natAbs b.natAbs:Nat):Int):=by
  rw[Rat.den_divInt,Sf hb,hs,hg,UY _ (VX _),Int.natCast_ediv];congr 1;rw[Int.sign_mul_self]
 rw[e1,e2]
def La:R9 pd 2 MB wV:=by
 rintro ds st K ⟨t,b,rfl,hb,k⟩;refine⟨rfl,?_⟩;refine⟨t,b,rfl,?_⟩
 have hg0:Nat.gcd t.natAbs b.natAbs≠0:=λ z=>by
  have:=Nat.eq_zero_of_gcd_eq_zero_right z;omega
 have hne:((Nat.gcd t.natAbs b.natAbs:Nat):Int)≠0:=by omega
 rw[<-Ll hb]at k;refine F0 (λ h=>fT ?_) λ h=>?_
 . rw[Si h,<-tJ hne (Fo t b),<-tJ hne (FI t b)]at k;exact jx (gR (by omega) (gR (by omega) ⟨Ss rfl,k⟩))
 . rw[Sf (by omega),UB,UB]at k;exact gR hne (gR hne ⟨Ss rfl,k⟩)
structure Fq(st:ag)(d:D)(q:Rat)(m:Nat):Prop where
 ao:items? st d=some [.int q.num,.int ((q.den:Nat):Int)]
 sz:Mx.Sz q m
def Fq.b{st:ag}{d:D}{q:Rat}{m:Nat}(h:Fq st d q m):(((q.den:Nat):Int)).natAbs<=2^m:=h.sz.den
def Fq.of{st:ag}{q:Rat}{m:Nat}(h:Mx.Sz q m):Fq st (je q) q m:=⟨rfl,h⟩
def AA:cY:=λ ds st K=>∃x y p q a b,ds=[x,y]/\Fq st x p a/\Fq st y q b/\a+b<=130000000/\K (je (p+q)) st
def wj:List Str:=["one","other"]
def NS:DS:=(cy (aH pd (af (aw eC (aw dh (aw aU (ae 0) (dC (.int 0))) (aw aU (ae 1) (dC (.int 1)))) (aw dh (aw aU (ae 1) (dC (.int 0))) (aw aU (ae 0) (dC (.int 1))))) (af (aw dh (aw aU (ae 0) (dC (.int 1))) (aw aU (ae 1) (dC (.int 1)))) ak))))
def Le:R9 AA 2 NS wj:=by
 rintro ds st K ⟨x,y,p,q,a,b,rfl,X,Y,h,k⟩;refine⟨rfl,?_⟩;have h':b+a<=130000000:=by omega
 rw[Mx.add_eq]at k;exact aB X.ao rfl (aB Y.ao rfl (dm (dS X.sz.num Y.b h) (aB Y.ao rfl (aB X.ao rfl (dm (dS Y.sz.num X.b h') (fY (aB X.ao rfl (aB Y.ao rfl (dm (dS X.b Y.b h) ⟨_,_,rfl,Uh (Mx.den_nz p) (Mx.den_nz q),k⟩)))))))))
def xq:cY:=λ ds st K=>∃x y p q a b,ds=[x,y]/\Fq st x p a/\Fq st y q b/\a+b<=130000000/\K (je (p-q)) st
def uK:List Str:=["one","other"]
def JK:DS:=(cy (aH pd (af (aw kJ (aw dh (aw aU (ae 0) (dC (.int 0))) (aw aU (ae 1) (dC (.int 1)))) (aw dh (aw aU (ae 1) (dC (.int 0))) (aw aU (ae 0) (dC (.int 1))))) (af (aw dh (aw aU (ae 0) (dC (.int 1))) (aw aU (ae 1) (dC (.int 1)))) ak))))
def HI:R9 xq 2 JK uK:=by
 rintro ds st K ⟨x,y,p,q,a,b,rfl,X,Y,h,k⟩;refine⟨rfl,?_⟩;have h':b+a<=130000000:=by omega
 rw[Mx.sub_eq]at k;exact aB X.ao rfl (aB Y.ao rfl (dm (dS X.sz.num Y.b h) (aB Y.ao rfl (aB X.ao rfl (dm (dS Y.sz.num X.b h') (lg (aB X.ao rfl (aB Y.ao rfl (dm (dS X.b Y.b h) ⟨_,_,rfl,Uh (Mx.den_nz p) (Mx.den_nz q),k⟩)))))))))
def yh:cY:=λ ds st K=>∃x y p q a b,ds=[x,y]/\Fq st x p a/\Fq st y q b/\a+b<=130000000/\K (je (p*q)) st
def uG:List Str:=["one","other"]
def Kr:DS:=(cy (aH pd (af (aw dh (aw aU (ae 0) (dC (.int 0))) (aw aU (ae 1) (dC (.int 0)))) (af (aw dh (aw aU (ae 0) (dC (.int 1))) (aw aU (ae 1) (dC (.int 1)))) ak))))
def Ie:R9 yh 2 Kr uG:=by
 rintro ds st K ⟨x,y,p,q,a,b,rfl,X,Y,h,k⟩;refine⟨rfl,?_⟩;rw[Mx.mul_eq]at k;exact aB X.ao rfl (aB Y.ao rfl (dm (dS X.sz.num Y.sz.num h) (aB X.ao rfl (aB Y.ao rfl (dm (dS X.b Y.b h) ⟨_,_,rfl,Uh (Mx.den_nz p) (Mx.den_nz q),k⟩)))))
def Av:cY:=λ ds st K=>∃x y p q a b,ds=[x,y]/\Fq st x p a/\Fq st y q b/\a+b<=130000000/\q.num≠0/\K (je (p/q)) st
def vT:List Str:=["one","other"]
def NU:DS:=(cy (aH pd (af (aw dh (aw aU (ae 0) (dC (.int 0))) (aw aU (ae 1) (dC (.int 1)))) (af (aw dh (aw aU (ae 0) (dC (.int 1))) (aw aU (ae 1) (dC (.int 0)))) ak))))
def Ki:R9 Av 2 NU vT:=by
 rintro ds st K ⟨x,y,p,q,a,b,rfl,X,Y,h,hq,k⟩;refine⟨rfl,?_⟩;rw[Mx.div_eq]at k;exact aB X.ao rfl (aB Y.ao rfl (dm (dS X.sz.num Y.b h) (aB X.ao rfl (aB Y.ao rfl (dm (dS X.b Y.sz.num h) ⟨_,_,rfl,Uh (Mx.den_nz p) hq,k⟩)))))
def mG:cY:=λ ds st K=>∃n:Int,ds=[.int n]/\K (je (n:Rat)) st
def uB:List Str:=["n"]
def KD:DS:=(cy (jb (af (ae 0) (af (dC (.int 1)) ak))))
def Ib:R9 mG 1 KD uB:=by
 rintro ds st K ⟨n,rfl,k⟩;exact⟨rfl,Ss rfl,k⟩
def pV:cY:=λ ds st K=>∃(d:D) (A:List (List Int)),ds=[d]/\jc st d A/\A.length<=1000/\K (c7 A) st
def pW:List Str:=["rows"]
def FO:DS:=(cy (b_ c6 (af (cT (dz (ae 0)) [none] (a8 0) cF (b_ c6 (af (ae 0) ak))) ak)))
def iI{tg:f9}{te:DE}{ok:ag->Prop}{σc:cm}{st:ag}{K:List D->ag->Prop}{ds:List D}{A:List (List Int)}(f:List Int->D)(aL:ok st)(hr:cK st ds A)(hx:∀d r,r∈A->items? st d=some (az r)->∀K',K' (f r) st->∃σ2,tg d σc=some σ2/\te σ2 st K')(k:K (A.map f) st):dA tg cF te ok σc ds [] st K:=by
 refine gu (λ rest acc st'=>∃(A1 A2:List (List Int)),st=st'/\A1++A2=A/\cK st rest A2/\acc=A1.map f) ?_ ?_ _ _ _ ⟨[],A,rfl,rfl,hr,rfl⟩
 . rintro acc st' ⟨A1,A2,rfl,he,h,rfl⟩;match A2,h with
   | [],_=>
     rw[TZ]at he;subst he;exact⟨aL,k⟩
 . rintro d rest acc st' ⟨A1,A2,rfl,he,h,rfl⟩ next
   match A2,h with
   |r::A2,h=>
    obtain⟨σ2,e2,q⟩:=hx d r (by rw[<-he];simp) h.1 (λ y st2=>dA tg cF te ok σc rest (A1.map f++[y]) st2 K) (next _ _ ⟨A1++[r],A2,rfl,by rw[<-he];simp,h.2,by simp⟩);exact⟨aL,σ2,e2,q⟩
def DF:R9 pV 1 FO pW:=by
 rintro ds st K ⟨d,A,rfl,⟨da,hd,ra⟩,hl,k⟩;refine⟨rfl,?_⟩;refine o8 hd λ ok aL=>⟨bZ (by rw[ra.len];exact hl),?_⟩
 refine iI aY aL ra (λ e r hr he K' q=>⟨_,rfl,cH he q⟩) ?_;exact cH rfl k
def my:cY:=λ ds st K=>∃x y t r s,ds=[x,.int t,y]/\items? st x=some (az r)/\items? st y=some (az s)/\r.length<=1000/\(∀b∈s,IntMulOk t b)/\K (aI (Mx.fR r t s)) st
def uL:List Str:=["row","times","other"]
def J6:DS:=(cy (cT (tu (af (ae 0) (af (ae 2) ak))) [none,none,some 1] (gz 0 1) cF (aw eC (ae 0) (aw dh (ae 2) (ae 1)))))
def yY{t:Int}:∀(r s:List Int),(gg (az r) (az s)).map (λ d=>match d with| .tup [.int a,.int b]=> .int (a+t*b)|_=> .aG)=az (Mx.fR r t s)
 | [],_=>rfl
 |_::_,[]=>rfl
 |a::r,b::s=>by
  have:=yY (t:=t) r s;unfold gg Mx.fR at this⊢;simp only[az,TH,WN,Wb]at this⊢;rw[this]
def GH:R9 my 3 J6 uL:=by
 rintro ds st K ⟨x,y,t,r,s,rfl,hx,hy,hl,hm,k⟩;refine⟨rfl,?_⟩;refine qG hx hy λ ok aL=>⟨bZ (by rw[pe];simp;omega),?_⟩
 refine comp_map (g:=λ d=>match d with| .tup [.int a,.int b]=> .int (a+t*b)|_=> .aG) (aL st hx hy) _ (λ d hd K' q=>?_) ?_
 . obtain⟨a,b,ha,hb,rfl⟩:=sf hd;exact⟨_,rfl,dm (hm b hb) (fY q)⟩
 . rw[yY];exact k
def vG:cY:=λ ds st K=>∃(x y:D) (n:Nat) (ws:List Int) (A:List (List Int)),ds=[x,y,.int n]/\items? st x=some (az ws)/\jc st y A/\(∀r∈A,r.length=n)/\n<=1000/\(∀w∈ws,∀r∈A,∀b∈r,IntMulOk w b)/\K (aY (Mx.fJ ws A (List.replicate n 0))) st
def sr:List Str:=["weights","rows","wide","total","weight","row"]
def Hj:DS:=(aJ (a9 3 (aw dh (nD (af (dC (.int 0)) ak)) (ae 2)))
 (aJ (jz (tu (af (ae 0) (af (ae 1) ak))) (gz 4 5) (a9 3 (aH my (af (ae 3) (af (ae 4) (af (ae 5) ak))))))
 (cy (b_ c6 (af (ae 3) ak)))))
def EB:R9 vG 3 Hj sr:=by
 rintro ds st K ⟨x,y,n,ws,A,rfl,hx,⟨dr,hy,hr⟩,hw,hn,hm,k⟩;refine⟨rfl,?_⟩;refine RQ (Ss rfl) (LD ⟨by omega,by omega,bZ (by simp;omega)⟩ ?_);rw[SH,Hg];refine qG hx hy λ ok aL=>?_
 refine iS (λ rest σ st'=>∃(v4 v5:Option D) (ws':List Int) (ds':List D) (A':List (List Int)) (acc:List Int),st=st'/\rest=gg (az ws') ds'/\cK st ds' A'/\σ=[some x,some y,some (.int n),some (aI acc),v4,v5]/\acc.length=n/\(∀r∈A',r∈A)/\(∀w∈ws',w∈ws)/\Mx.fJ ws' A' acc=Mx.fJ ws A (List.replicate n 0)) ?_ ?_ _ _ _
  ⟨none,none,ws,dr,A,List.replicate n 0,rfl,rfl,hr,rfl,by simp,λ _ h=>h,λ _ h=>h,rfl⟩
 . rintro σ st1 ⟨v4,v5,ws',ds',A',acc,rfl,he,hr',rfl,hl,_,_,hs⟩;refine⟨aL _ hx hy,cH rfl ?_⟩
   have:Mx.fJ ws' A' acc=acc:=by
    match ws',ds',A',hr',he with
    | [],_,_,_,_=>unfold Mx.fJ;rfl
    |_::_,[],[],_,_=>unfold Mx.fJ;rfl
    |_::_,_::_,_::_,_,he=>cases he
   rw[this]at hs;rw[hs];exact k
 . rintro d rest σ st1 ⟨v4,v5,ws',ds',A',acc,rfl,he,hr',rfl,hl,ha,hw',hs⟩ next
   match ws',ds',A',hr',he with
   |w::ws',e::ds',r::A',hr',he=>
    simp only[az,TH,E_,Vo]at he;obtain⟨rfl,rfl⟩:=he;refine⟨aL _ hx hy,_,rfl,?_⟩;have hrl:=hw r (ha r SD);refine⟨_,_,_,acc,r,rfl,rfl,hr'.1,by omega,λ b hb=>hm w (hw' w SD) r (ha r SD) b hb,?_⟩;refine next _ _ ⟨_,_,ws',ds',A',Mx.fR acc w r,rfl,rfl,hr'.2,rfl,by rw[Mx.kG (by omega)];exact hl,λ q hq=>ha q (SG _ hq),λ q hq=>hw' q (SG _ hq),?_⟩
    rw[<-hs];rfl
   | [],_,_,_,he=>cases he
   |_::_,[],[],_,he=>cases he
def vp:cY:=λ ds st K=>∃(d:D) (A:List (List Int)) (j:Nat),ds=[d,.int j]/\jc st d A/\(∀r∈A,j<r.length)/\A.length<=1000/\K (aY (Mx.nE A j)) st
def sq:List Str:=["rows","place"]
def HX:DS:=(cy (b_ c6 (af (cT (dz (ae 0)) [none,some 1] (a8 0) cF (aw aU (ae 0) (ae 1))) ak)))
def tX{tg:f9}{te:DE}{ok:ag->Prop}{σc:cm}{st:ag}{K:List D->ag->Prop}{ds:List D}{A:List (List Int)}(f:List Int->D)(aL:ok st)(hr:cK st ds A)(hx:∀d r,r∈A->items? st d=some (az r)->∀K',K' (f r) st->∃σ2,tg d σc=some σ2/\te σ2 st K')(k:K (A.map f) st):dA tg cF te ok σc ds [] st K:=by
 refine gu (λ rest acc st'=>∃(A1 A2:List (List Int)),st=st'/\A1++A2=A/\cK st rest A2/\acc=A1.map f) ?_ ?_ _ _ _ ⟨[],A,rfl,rfl,hr,rfl⟩
 . rintro acc st' ⟨A1,A2,rfl,he,h,rfl⟩;match A2,h with
   | [],_=>
     rw[TZ]at he;subst he;exact⟨aL,k⟩
 . rintro d rest acc st' ⟨A1,A2,rfl,he,h,rfl⟩ next
   match A2,h with
   |r::A2,h=>
    obtain⟨σ2,e2,q⟩:=hx d r (by rw[<-he];simp) h.1 (λ y st2=>dA tg cF te ok σc rest (A1.map f++[y]) st2 K) (next _ _ ⟨A1++[r],A2,rfl,by rw[<-he];simp,h.2,by simp⟩);exact⟨aL,σ2,e2,q⟩
def yJ(A:List (List Int))(j:Nat):A.map (λ r=>D.int (r.getD j 0))=az (Mx.nE A j):=by unfold Mx.nE az;rw[Ta];rfl
def EA:R9 vp 2 HX sq:=by
 rintro ds st K ⟨d,A,j,rfl,⟨da,hd,ra⟩,hj,hl,k⟩;refine⟨rfl,?_⟩;refine o8 hd λ ok aL=>⟨bZ (by rw[ra.len];exact hl),?_⟩
 refine tX (λ r=> .int (r.getD j 0)) aL ra (λ e r hr he K' q=>⟨_,rfl,aB he (dF (hj r hr)) q⟩) ?_;rw[yJ];exact cH rfl k
def kq:cY:=λ ds st K=>∃(d:D) (A:List (List Int)) (n:Nat),ds=[d,.int n]/\jc st d A/\(∀r∈A,r.length=n)/\A.length<=1000/\n<=1000/\K (c7 (Mx.gp A n)) st
def ku:List Str:=["rows","wide"]
def yZ:DS:=(cy (b_ c6 (af (cT (dR (af (ae 1) ak)) [none,some 0] (a8 0) cF (aH vp (af (ae 1) (af (ae 0) ak)))) ak)))
def HU(A:List (List Int))(n:Nat):(List.range n).map (λ j=>aY (Mx.nE A j))=(Mx.gp A n).map aY:=by unfold Mx.gp;rw[Ta];rfl
def xD:R9 kq 2 yZ ku:=by
 rintro ds st K ⟨d,A,n,rfl,hd,hw,hl,hn,k⟩;refine⟨rfl,?_⟩;refine fh ⟨by omega,by omega⟩ ⟨bZ (by rw[cf];omega),?_⟩;rw[SH];refine lj (λ j=>aY (Mx.nE A j)) n (λ i hi K' q=>⟨_,rfl,d,A,i,rfl,hd,λ r hr=>by rw[hw r hr];exact hi,hl,q⟩) ?_;rw[HU];exact cH rfl k
def r8:cY:=λ ds st K=>∃(n i:Nat),ds=[.int n,.int i]/\n<=1000/\K (aY (Mx.d6 n i)) st
def nN:List Str:=["n","place"]
def Eh:DS:=(cy (b_ c6 (af (cT (dR (af (ae 0) ak)) [none,some 1] (a8 0) cF (ES (bS (aw kP (ae 0) (ae 1))) (dC (.int 1)) (dC (.int 0)))) ak)))
def BX:R9 r8 2 Eh nN:=by
 rintro ds st K ⟨n,i,rfl,hn,k⟩;refine⟨rfl,?_⟩;refine fh ⟨by omega,by omega⟩ ⟨bZ (by rw[cf];omega),?_⟩;rw[SH];refine lj (λ j=> .int (Mx.dl j i)) n (λ j hj K' q=>⟨_,rfl,?_⟩) ?_
 . refine eq2 (λ h=>fT ?_) λ h=>?_
   . have:j=i:=by omega
     subst this;rw[Mx.dE]at q;exact q
   . rw[Mx.eH (by omega)]at q;exact q
 . have:(List.range n).map (λ j=>D.int (Mx.dl j i))=az (Mx.d6 n i):=by unfold Mx.d6 az;rw[Ta];rfl
   rw[this];exact cH rfl k
def mR:cY:=λ ds st K=>∃(n:Nat),ds=[.int n]/\n<=1000/\K (c7 (Mx.units n)) st
def mK:List Str:=["n"]
def BP:DS:=(cy (b_ c6 (af (cT (dR (af (ae 0) ak)) [none,some 0] (a8 0) cF (aH r8 (af (ae 1) (af (ae 0) ak)))) ak)))
def AQ:R9 mR 1 BP mK:=by
 rintro ds st K ⟨n,rfl,hn,k⟩;refine⟨rfl,?_⟩;refine fh ⟨by omega,by omega⟩ ⟨bZ (by rw[cf];omega),?_⟩;rw[SH];refine lj (λ i=>aY (Mx.d6 n i)) n (λ i hi K' q=>⟨_,rfl,n,i,rfl,hn,q⟩) ?_;have:(List.range n).map (λ i=>aY (Mx.d6 n i))=(Mx.units n).map aY:=by unfold Mx.units;rw[Ta];rfl
 rw[this];exact cH rfl k
def gB:List Int->Nat->Option Nat
 | [],_=>none
 |x::xs,i=>if x=0 then gB xs (i+1)else some i
def iP(r:List Int):Option Nat:=gB r 0
def jW(r:List Int):D:=match iP r with
 |some k=> .int (k:Int)
 |none=> .aG
def js:cY:=λ ds st K=>∃(d:D) (r:List Int),ds=[d]/\items? st d=some (az r)/\K (jW r) st
def pP:List Str:=["row","place","number"]
def Ge:DS:=(aJ (jz (zz (af (ae 0) ak)) (gz 1 2) (ft (bS (aw nG (ae 2) (dC (.int 0)))) (cy (ae 1)) fk))
 (cy (dC .aG)))
def DB:R9 js 1 Ge pP:=by
 rintro ds st K ⟨d,r,rfl,hd,k⟩;refine⟨rfl,?_⟩;refine B9 hd λ ok aL=>?_;refine iS (λ rest σ st'=>st'=st/\∃(v1 v2:Option D) (s:List Int) (i:Nat),σ=[some d,v1,v2]/\rest=hJ i (az s)/\gB r 0=gB s i) ?_ ?_ _ _ _ ⟨rfl,none,none,r,0,rfl,rfl,rfl⟩
 . rintro σ st' ⟨rfl,v1,v2,s,i,rfl,hr,hl⟩;match s,hr with
   | [],_=>
     refine⟨aL _ hd,?_⟩;have:jW r= .aG:=by unfold jW iP;rw[hl];rfl
     rw[this]at k;exact k
 . rintro x rest σ st' ⟨rfl,v1,v2,s,i,rfl,hr,hl⟩ next
   match s,hr,hl with
   |y::s,hr,hl=>
    simp only[az,TH,hJ,Vo]at hr;obtain⟨rfl,rfl⟩:=hr;refine⟨aL _ hd,_,rfl,?_⟩;refine ne2 (λ h=>fT ?_) λ h=>?_
    . have:jW r= .int (i:Int):=by unfold jW iP;rw[hl];unfold gB;rw[Sf h]
      rw[this]at k;exact k
    . refine next _ _ ⟨rfl,_,_,s,i+1,rfl,rfl,?_⟩
      rw[hl];unfold gB;rw[Si h];cases s<;>rfl
   | [],hr,_=>cases hr
def Bb:∀(r:List Int) (i l:Nat),(∀c,c<l->r.getD c 0=0)->r.getD l 0≠0->gB r i=some (i+l)
 | [],_,_,_,h=>(h rfl).elim
 |x::r,i,0,_,h=>by
  unfold gB;rw[Sf (show¬x=0 from h)];rfl
 |x::r,i,l+1,hz,h=>by
  unfold gB;rw[Si (show x=0 from hz 0 (Nat.zero_lt_succ _)),Bb r (i+1) l (λ c hc=>hz (c+1) (Xf hc)) h,Nat.add_right_comm];rfl
def xm:∀(r:List Int) (i:Nat),gB r i=none->∀c,r.getD c 0=0
 | [],_,_,_=>rfl
 |x::r,i,h,c=>by
  unfold gB at h;split at h
  . cases c with
    |zero=>assumption
    |succ c=>exact xm r (i+1) h c
  . cases h
def yH{r:List Int}{l:Nat}(h:∀c,c<l->r.getD c 0=0)(h':r.getD l 0≠0):iP r=some l:=by
 have:=Bb r 0 l h h';rw[VA]at this;exact this
def drop_cons{F:List (List Int)}{i:Nat}{d:D}{rest:List D}(hr:d::rest=(F.map aY).drop i):i<F.length/\d=aY (F.getD i [])/\rest=(F.map aY).drop (i+1):=by
 have hi:i<F.length:=by
  rcases Ul i F.length with h|h
  . exact h
  . rw[Ud (by rw[Sb];exact h)]at hr;cases hr
 rw[TL (by rw[Sb];exact hi),VF]at hr;obtain⟨h1,h2⟩:=VH hr;exact⟨hi,by rw[Mx.aP hi];exact h1,h2⟩
def drop_nil{F:List (List Int)}{i:Nat}(hr: []=(F.map aY).drop i):F.length<=i:=by
 have:=Ui List.length hr;rw[TJ,Sb,UW]at this;omega
def jG:cY:=λ ds st K=>∃(t d:Int),ds=[.int t,.int d]/\d≠0/\K (.int (Mx.qn t d)) st
def gH:List Str:=["top","bottom"]
def tZ:DS:=(cy (aw gN (aw eC (aw dh (dC (.int 2)) (ae 0)) (ae 1)) (aw dh (dC (.int 2)) (ae 1))))
def sG:R9 jG 2 tZ gH:=by
 rintro ds st K ⟨t,d,rfl,hd,k⟩;exact⟨rfl,dm (iV (by decide) (by decide)) (fY (dm (iV (by decide) (by decide)) (gR (by omega) k)))⟩
def kg:cY:=λ ds st K=>∃(n k o:Nat) (A:List (List Int)),ds=[.ref n,.int k,.int o]/\st[n]?=some (.lst (A.map aI))/\k<A.length/\o<A.length/\K (.ref st.length) (st++[.lst ((Mx.ck A k o).map aI)])
def mT:List Str:=["rows","k","other","order"]
def BY:DS:=(aJ (a9 3 (b_ td (af (ae 0) ak)))
 (aJ (gm (ae 3) (ae 1) (aw aU (ae 0) (ae 2)))
 (aJ (gm (ae 3) (ae 2) (aw aU (ae 0) (ae 1)))
 (cy (ae 3)))))
def eP{A:List (List Int)}{j:Nat}(h:j<A.length):eV (A.map aI) (j:Int)=some (aI (A.getD j [])):=by
 refine kX ?_;rw[SF,Sm h,Mx.aP h];rfl
def m9{m k:Nat}(h:k<m):j7 m (k:Int)=some k:=by
 have:=Et (i:=(k:Int)) (m:=m) (by omega) (by omega);rw[SH]at this;exact this
def i4{A:List (List Int)}{k:Nat}{r:List Int}:(A.map aI).set k (aI r)=(A.set k r).map aI:=by rw[XQ]
def zV:R9 kg 3 BY mT:=by
 rintro ds st K ⟨n,k,o,A,rfl,e,hk,ho,kk⟩;refine⟨rfl,?_⟩;have hn:n<st.length:=(Sg.mp e).1;refine HG (aO e) ?_;have e1:(st++[Cell.lst (A.map aI)])[n]?=some (.lst (A.map aI)):=by rw[Sk hn];exact e
 have e2:(st++[Cell.lst (A.map aI)])[st.length]?=some (.lst (A.map aI)):=by simp
 refine aB (aO e1) (eP ho) (jD e2 (by rw[Sb];exact m9 hk) ?_);rw[i4]
 have es:(st++[Cell.lst (A.map aI)]).set st.length (.lst ((A.set k (A.getD o [])).map aI))=st++[Cell.lst ((A.set k (A.getD o [])).map aI)]:=by
  rw[XF _ _ (R_ _),Ve];rfl
 rw[es];have e3:(st++[Cell.lst ((A.set k (A.getD o [])).map aI)])[n]?=some (.lst (A.map aI)):=by rw[Sk hn];exact e
 have e4:(st++[Cell.lst ((A.set k (A.getD o [])).map aI)])[st.length]?=some (.lst ((A.set k (A.getD o [])).map aI)):=by simp
 refine aB (aO e3) (eP hk) (jD e4 (by rw[Sb,SO];exact m9 ho) ?_);rw[i4]
 have es2:(st++[Cell.lst ((A.set k (A.getD o [])).map aI)]).set st.length (.lst (((A.set k (A.getD o [])).set o (A.getD k [])).map aI))=st++[Cell.lst ((Mx.ck A k o).map aI)]:=by
  rw[XF _ _ (R_ _),Ve];rfl
 rw[es2];exact kk
def nj:cY:=λ ds st K=>∃(d:D) (r:List Int),ds=[d]/\items? st d=some (az r)/\r.length<=1000/\K (aI (r.map λ x=> -x)) st
def pZ:List Str:=["row"]
def Gz:DS:=(cy (cT (dz (ae 0)) [none] (a8 0) cF (pD ka (ae 0))))
def Dq:R9 nj 1 Gz pZ:=by
 rintro ds st K ⟨d,r,rfl,hd,hl,k⟩;refine⟨rfl,?_⟩;refine o8 hd λ ok aL=>⟨bZ (by unfold az;rw[Sb];exact hl),?_⟩
 refine comp_map (g:=λ x=>match x with| .int a=> .int (-a)|_=> .aG) aL _ (λ x hx K' q=>?_) ?_
 . unfold az at hx;obtain⟨a,_,rfl⟩:=SJ.mp hx;exact⟨_,rfl,jx q⟩
 . have e:(az r).map (λ x=>match x with| .int a=> .int (-a)|_=> .aG)=az (r.map λ x=> -x):=by unfold az;rw[Ta,Ta];rfl
   rw[e];exact k
structure Bn(st:ag)(b xb xu xc:Nat)(A U C:List (List Int)):Prop where
 eb:st[b]?=some (Cell.ins aF [("body",.ref xb),("turn",.ref xu),("back_columns",.ref xc)])
 e1:st[xb]?=some (Cell.lst (A.map aI))
 e2:st[xu]?=some (Cell.lst (U.map aI))
 e3:st[xc]?=some (Cell.lst (C.map aI))
 n1:xb≠xu
 n2:xb≠xc
 n3:xu≠xc
def k9{st:ag}{b x:Nat}{C:Addr}{fs:List (Str×D)}{xs:List D}(h1:st[b]?=some (Cell.ins C fs))(h2:st[x]?=some (Cell.lst xs)):b≠x:=λ z=>by rw[z,h2]at h1;cases h1
def ky:cY:=λ ds st K=>∃(b N:Nat) (d:D) (A:List (List Int)),ds=[.ref b,d]/\st[b]?=some (.ins aF [])/\jc st d A/\A.length=N/\N<=8/\∀st',Bn st' b st.length (st.length+1) (st.length+2) A (Mx.units N) (Mx.units N)->st'.length=st.length+3->(∀m,m<st.length->m≠b->st'[m]?=st[m]?)->K .aG st'
def iC:List Str:=["self","rows"]
def vJ:DS:=(aJ (pN aF "body" (ae 0) (lS (dz (ae 1)) [none] (a8 0) cF (b_ mP (af (ae 0) ak))))
 (aJ (pN aF "turn" (ae 0) (lS (dz (aH mR (af (b_ fG (af (ae 1) ak)) ak))) [none] (a8 0) cF (b_ mP (af (ae 0) ak))))
 (pN aF "back_columns" (ae 0) (lS (dz (aH mR (af (b_ fG (af (ae 1) ak)) ak))) [none] (a8 0) cF (b_ mP (af (ae 0) ak))))))
def rT(f:Str)(v:D):∀fs:List (Str×D),(putD f v fs).length<=fs.length+1
 | []=>by simp[putD]
 |(g,x)::r=>by
  unfold putD;split
  . simp
  . have:=rT f v r;simp only[SY];omega
def Ap{st:ag}{A:List (List Int)}:cK st (A.map aY) A:=cK.tup
def yt(n:Nat):(Mx.units n).length=n:=by unfold Mx.units;simp
def uW:R9 ky 2 vJ iC:=by
 rintro ds st K ⟨b,N,d,A,rfl,eb,hA,hl,hN,k⟩;refine⟨rfl,?_⟩;have hb:b<st.length:=(Sg.mp eb).1;obtain⟨da,hd,ra⟩:=hA.ex;have hdl:=ra.len;have lst:∀(e:D) (r:List Int),True:=λ _ _=>trivial;refine o8 hd λ ok aL=>⟨bZ (by omega),?_⟩
 refine iI aI aL ra (λ e r hr he K' q=>⟨_,rfl,om he q⟩) ?_;have eb1:(st++[Cell.lst (A.map aI)])[b]?=some (.ins aF []):=by rw[Sk hb];exact eb
 refine oJ eb1 (by decide) ?_;generalize hs1:(st++[Cell.lst (A.map aI)]).set b (.ins aF (putD "body" (.ref st.length) []))=st1;have l1:st1.length=st.length+1:=by rw[<-hs1];simp
 have f1:∀m,m<st.length->m≠b->st1[m]?=st[m]?:=λ m hm hmb=>by rw[<-hs1,Sj (Sq hmb),Sk hm]
 have b1:st1[b]?=some (.ins aF (putD "body" (.ref st.length) [])):=by rw[<-hs1,Sy (by simp;omega)]
 have x1:st1[st.length]?=some (.lst (A.map aI)):=by rw[<-hs1,Sj (by omega)];simp
 clear hs1
 have itd:∃da',items? st1 d=some da'/\da'.length=N:=by
  cases d with
  |ref n=>
   by_cases hnb:n=b
   . subst hnb;unfold items? at hd;simp only[eb]at hd;cases hd
   . have hn:n<st.length:=by
      unfold items? at hd;simp only at hd;cases q:st[n]? with
      |none=>rw[q]at hd;cases hd
      |some c=>exact(Sg.mp q).1
     refine⟨da,?_,by omega⟩;unfold items? at hd⊢;simp only at hd⊢;rw[f1 n hn hnb];exact hd
  |_=>exact⟨da,hd,by omega⟩
 obtain⟨da1,hd1,hdl1⟩:=itd;refine dO hd1 ?_;rw[hdl1];refine⟨N,rfl,by omega,?_⟩;refine iq ⟨bZ (by rw[Sb,yt];omega),?_⟩;refine iI aI trivial Ap (λ e r hr he K' q=>⟨_,rfl,om he q⟩) ?_;have b2:(st1++[Cell.lst ((Mx.units N).map aI)])[b]?=some (.ins aF (putD "body" (.ref st.length) [])):=by rw[Sk (by omega)];exact b1
 refine oJ b2 (by have:=rT "body" (.ref st.length) [];simp only[UW]at this;omega) ?_;generalize hs2:(st1++[Cell.lst ((Mx.units N).map aI)]).set b (.ins aF (putD "turn" (.ref st1.length) (putD "body" (.ref st.length) [])))=st2;have l2:st2.length=st.length+2:=by rw[<-hs2];simp;omega
 have f2:∀m,m<st1.length->m≠b->st2[m]?=st1[m]?:=λ m hm hmb=>by rw[<-hs2,Sj (Sq hmb),Sk hm]
 have b2':st2[b]?=some (.ins aF (putD "turn" (.ref st1.length) (putD "body" (.ref st.length) []))):=by rw[<-hs2,Sy (by simp;omega)]
 have x2:st2[st1.length]?=some (.lst ((Mx.units N).map aI)):=by rw[<-hs2,Sj (by omega)];simp
 clear hs2
 have itd2:items? st2 d=some da1:=by
  cases d with
  |ref n=>
   by_cases hnb:n=b
   . subst hnb;unfold items? at hd1;simp only[b1]at hd1;cases hd1
   . have hn:n<st1.length:=by
      unfold items? at hd1;simp only at hd1;cases q:st1[n]? with
      |none=>rw[q]at hd1;cases hd1
      |some c=>exact(Sg.mp q).1
     unfold items? at hd1⊢;simp only at hd1⊢;rw[f2 n hn hnb];exact hd1
  |_=>exact hd1
 refine dO itd2 ?_;rw[hdl1];refine⟨N,rfl,by omega,?_⟩;refine iq ⟨bZ (by rw[Sb,yt];omega),?_⟩;refine iI aI trivial Ap (λ e r hr he K' q=>⟨_,rfl,om he q⟩) ?_;have b3:(st2++[Cell.lst ((Mx.units N).map aI)])[b]?=some (.ins aF (putD "turn" (.ref st1.length) (putD "body" (.ref st.length) []))):=by rw[Sk (by omega)];exact b2'
 refine oJ b3 (by have h1:=rT "body" (.ref st.length) [];have h2:=rT "turn" (.ref st1.length) (putD "body" (.ref st.length) []);simp only[UW]at h1;omega) ?_;refine k _ ⟨?_,?_,?_,?_,by omega,by omega,by omega⟩ (by simp;omega) λ m hm hmb=>?_
 . rw[Sy (by simp;omega),l1,l2];rfl
 . rw[Sj (by omega),Sk (by omega),f2 _ (by omega) (by omega)];exact x1
 . rw[Sj (by omega),Sk (by omega)];rw[l1]at x2;exact x2
 . rw[Sj (by omega)];rw[show st.length+2=st2.length by omega];simp
 . rw[Sj (Sq hmb),Sk (by omega),f2 m (by omega) hmb,f1 m hm hmb]
def lE:cY:=λ ds st K=>∃(b xb xu xc N w k j:Nat) (A U C:List (List Int)) (q:Int),ds=[.ref b,.int k,.int q,.int j]/\Bn st b xb xu xc A U C/\Mx.cG N w A/\Mx.cG N N U/\Mx.cG N N C/\k<N/\j<N/\N<=8/\w<=9/\(∀x∈A.getD j [],IntMulOk (-q) x)/\(∀x∈U.getD j [],IntMulOk (-q) x)/\(∀x∈C.getD k [],IntMulOk q x)/\
 ∀st',Bn st' b xb xu xc (Mx.bJ A k q j) (Mx.bJ U k q j) (Mx.bJ C j (-q) k)->st'.length=st.length->(∀m,m≠xb->m≠xu->m≠xc->st'[m]?=st[m]?)->K .aG st'
def lQ:List Str:=["self","k","times","other"]
def A6:DS:=(aJ (gm (e_ aF "body" (ae 0)) (ae 1) (aH my (af (aw aU (e_ aF "body" (ae 0)) (ae 1)) (af (pD ka (ae 2)) (af (aw aU (e_ aF "body" (ae 0)) (ae 3)) ak)))))
 (aJ (gm (e_ aF "turn" (ae 0)) (ae 1) (aH my (af (aw aU (e_ aF "turn" (ae 0)) (ae 1)) (af (pD ka (ae 2)) (af (aw aU (e_ aF "turn" (ae 0)) (ae 3)) ak)))))
 (gm (e_ aF "back_columns" (ae 0)) (ae 3) (aH my (af (aw aU (e_ aF "back_columns" (ae 0)) (ae 3)) (af (ae 2) (af (aw aU (e_ aF "back_columns" (ae 0)) (ae 1)) ak)))))))
def y6:R9 lE 4 A6 lQ:=by
 rintro ds st K ⟨b,xb,xu,xc,N,w,k,j,A,U,C,q,rfl,B,hA,hU,hC,hk,hj,hN,hw,mA,mU,mC,kk⟩;refine⟨rfl,?_⟩;have lA:=hA.len;have lU:=hU.len;have lC:=hC.len;have rA:=Mx.du hA hk;have rU:=Mx.du hU hk;have rC:=Mx.du hC hj;have bx1:=k9 B.eb B.e1;have bx2:=k9 B.eb B.e2;have bx3:=k9 B.eb B.e3;have n1:=B.n1;have n2:=B.n2;have n3:=B.n3;refine dc B.eb rfl (aB (aO B.e1) (eP (by omega)) (jx (dc B.eb rfl (aB (aO B.e1) (eP (by omega)) ?_))));refine⟨_,_,-q,A.getD k [],A.getD j [],rfl,rfl,rfl,by omega,mA,?_⟩;refine dc B.eb rfl (jD B.e1 (by rw[Sb,lA];exact m9 hk) ?_);rw[i4];have g1:∀m,m≠xb->(st.set xb (.lst ((A.set k (Mx.fR (A.getD k []) (-q) (A.getD j []))).map aI)))[m]?=st[m]?:=λ m hm=>Sj (Sq hm);have h1:(st.set xb (.lst ((A.set k (Mx.fR (A.getD k []) (-q) (A.getD j []))).map aI)))[xb]?=some (.lst ((Mx.bJ A k q j).map aI)):=Sy (Sg.mp B.e1).1;have z1:(st.set xb (.lst ((A.set k (Mx.fR (A.getD k []) (-q) (A.getD j []))).map aI))).length=st.length:=SO;generalize st.set xb (.lst ((A.set k (Mx.fR (A.getD k []) (-q) (A.getD j []))).map aI))=st1 at g1 h1 z1⊢;have eb1:=(g1 b bx1).trans B.eb;have e21:=(g1 xu (Sq n1)).trans B.e2;have e31:=(g1 xc (Sq n2)).trans B.e3;refine dc eb1 rfl (aB (aO e21) (eP (by omega)) (jx (dc eb1 rfl (aB (aO e21) (eP (by omega)) ?_))));refine⟨_,_,-q,U.getD k [],U.getD j [],rfl,rfl,rfl,by omega,mU,?_⟩;refine dc eb1 rfl (jD e21 (by rw[Sb,lU];exact m9 hk) ?_);rw[i4];have g2:∀m,m≠xu->(st1.set xu (.lst ((U.set k (Mx.fR (U.getD k []) (-q) (U.getD j []))).map aI)))[m]?=st1[m]?:=λ m hm=>Sj (Sq hm);have h2:(st1.set xu (.lst ((U.set k (Mx.fR (U.getD k []) (-q) (U.getD j []))).map aI)))[xu]?=some (.lst ((Mx.bJ U k q j).map aI)):=Sy (Sg.mp e21).1;have z2:(st1.set xu (.lst ((U.set k (Mx.fR (U.getD k []) (-q) (U.getD j []))).map aI))).length=st1.length:=SO;generalize st1.set xu (.lst ((U.set k (Mx.fR (U.getD k []) (-q) (U.getD j []))).map aI))=st2 at g2 h2 z2⊢;have eb2:=(g2 b bx2).trans eb1;have e32:=(g2 xc (Sq n3)).trans e31;refine dc eb2 rfl (aB (aO e32) (eP (by omega)) (dc eb2 rfl (aB (aO e32) (eP (by omega)) ?_)));refine⟨_,_,q,C.getD j [],C.getD k [],rfl,rfl,rfl,by omega,mC,?_⟩;refine dc eb2 rfl (jD e32 (by rw[Sb,lC];exact m9 hj) ?_);rw[i4];have hc:C.set j (Mx.fR (C.getD j []) q (C.getD k []))=Mx.bJ C j (-q) k:=by unfold Mx.bJ;rw[Int.neg_neg]
 rw[hc];refine kk _ ⟨?_,?_,?_,?_,n1,n2,n3⟩ (by rw[SO];omega) λ m m1 m2 m3=>?_
 . rw[Sj (Sq bx3)];exact eb2
 . rw[Sj (Sq n2),g2 _ n1];exact h1
 . rw[Sj (Sq n3)];exact h2
 . exact Sy (Sg.mp e32).1
 . rw[Sj (Sq m3),g2 m m2,g1 m m1]
def kI:cY:=λ ds st K=>∃(b xb xu xc N w k o:Nat) (A U C:List (List Int)),ds=[.ref b,.int k,.int o]/\Bn st b xb xu xc A U C/\Mx.cG N w A/\Mx.cG N N U/\Mx.cG N N C/\k<N/\o<N/\
 ∀st',Bn st' b st.length (st.length+1) (st.length+2) (Mx.ck A k o) (Mx.ck U k o) (Mx.ck C k o)->st'.length=st.length+3->(∀m,m<st.length->m≠b->st'[m]?=st[m]?)->K .aG st'
def iB:List Str:=["self","k","other"]
def vz:DS:=(aJ (pN aF "body" (ae 0) (aH kg (af (e_ aF "body" (ae 0)) (af (ae 1) (af (ae 2) ak)))))
 (aJ (pN aF "turn" (ae 0) (aH kg (af (e_ aF "turn" (ae 0)) (af (ae 1) (af (ae 2) ak)))))
 (pN aF "back_columns" (ae 0) (aH kg (af (e_ aF "back_columns" (ae 0)) (af (ae 1) (af (ae 2) ak)))))))
def uS:R9 kI 3 vz iB:=by
 rintro ds st K ⟨b,xb,xu,xc,N,w,k,o,A,U,C,rfl,B,hA,hU,hC,hk,ho,kk⟩;refine⟨rfl,?_⟩;have lA:=hA.len;have lU:=hU.len;have lC:=hC.len;have bx1:=k9 B.eb B.e1;have bx2:=k9 B.eb B.e2;have bx3:=k9 B.eb B.e3;have hb:b<st.length:=(Sg.mp B.eb).1;have hu:xu<st.length:=(Sg.mp B.e2).1;have hc:xc<st.length:=(Sg.mp B.e3).1;refine dc B.eb rfl ?_;refine⟨xb,k,o,A,rfl,B.e1,by omega,by omega,?_⟩;have eb1:(st++[Cell.lst ((Mx.ck A k o).map aI)])[b]?=some (.ins aF [("body",.ref xb),("turn",.ref xu),("back_columns",.ref xc)]):=by rw[Sk hb];exact B.eb
 refine oJ eb1 (by simp) ?_;have pb:putD "body" (.ref st.length) [("body",.ref xb),("turn",.ref xu),("back_columns",.ref xc)]=([("body",.ref st.length),("turn",.ref xu),("back_columns",.ref xc)]:List (Str×D)):=rfl;rw[pb];generalize hs1:(st++[Cell.lst ((Mx.ck A k o).map aI)]).set b (.ins aF [("body",.ref st.length),("turn",.ref xu),("back_columns",.ref xc)])=st1;have l1:st1.length=st.length+1:=by rw[<-hs1];simp
 have f1:∀m,m<st.length->m≠b->st1[m]?=st[m]?:=λ m hm hmb=>by rw[<-hs1,Sj (Sq hmb),Sk hm]
 have b1:st1[b]?=some (.ins aF [("body",.ref st.length),("turn",.ref xu),("back_columns",.ref xc)]):=by rw[<-hs1,Sy (by simp;omega)]
 have x1:st1[st.length]?=some (.lst ((Mx.ck A k o).map aI)):=by rw[<-hs1,Sj (by omega)];simp
 clear hs1 eb1;refine dc b1 rfl ?_;refine⟨xu,k,o,U,rfl,(f1 xu hu (Sq bx2)).trans B.e2,by omega,by omega,?_⟩;have eb1:(st1++[Cell.lst ((Mx.ck U k o).map aI)])[b]?=some (.ins aF [("body",.ref st.length),("turn",.ref xu),("back_columns",.ref xc)]):=by rw[Sk (by omega)];exact b1
 refine oJ eb1 (by simp) ?_;have pb:putD "turn" (.ref st1.length) [("body",.ref st.length),("turn",.ref xu),("back_columns",.ref xc)]=([("body",.ref st.length),("turn",.ref st1.length),("back_columns",.ref xc)]:List (Str×D)):=rfl;rw[pb];generalize hs2:(st1++[Cell.lst ((Mx.ck U k o).map aI)]).set b (.ins aF [("body",.ref st.length),("turn",.ref st1.length),("back_columns",.ref xc)])=st2;have l2:st2.length=st.length+2:=by rw[<-hs2];simp;omega
 have f2:∀m,m<st1.length->m≠b->st2[m]?=st1[m]?:=λ m hm hmb=>by rw[<-hs2,Sj (Sq hmb),Sk hm]
 have b2:st2[b]?=some (.ins aF [("body",.ref st.length),("turn",.ref st1.length),("back_columns",.ref xc)]):=by rw[<-hs2,Sy (by simp;omega)]
 have x2:st2[st1.length]?=some (.lst ((Mx.ck U k o).map aI)):=by rw[<-hs2,Sj (by omega)];simp
 clear hs2 eb1;refine dc b2 rfl ?_;refine⟨xc,k,o,C,rfl,((f2 xc (by omega) (Sq bx3)).trans (f1 xc hc (Sq bx3))).trans B.e3,by omega,by omega,?_⟩;have eb1:(st2++[Cell.lst ((Mx.ck C k o).map aI)])[b]?=some (.ins aF [("body",.ref st.length),("turn",.ref st1.length),("back_columns",.ref xc)]):=by rw[Sk (by omega)];exact b2
 refine oJ eb1 (by simp) ?_;have pb:putD "back_columns" (.ref st2.length) [("body",.ref st.length),("turn",.ref st1.length),("back_columns",.ref xc)]=([("body",.ref st.length),("turn",.ref st1.length),("back_columns",.ref st2.length)]:List (Str×D)):=rfl;rw[pb];refine kk _ ⟨?_,?_,?_,?_,by omega,by omega,by omega⟩ (by simp;omega) λ m hm hmb=>?_
 . rw[Sy (by simp;omega),l1,l2]
 . rw[Sj (by omega),Sk (by omega),f2 _ (by omega) (by omega)];exact x1
 . rw[Sj (by omega),Sk (by omega)];rw[l1]at x2;exact x2
 . rw[Sj (by omega)];rw[show st.length+2=st2.length by omega];simp
 . rw[Sj (Sq hmb),Sk (by omega),f2 m (by omega) hmb,f1 m hm hmb]
def i_:cY:=λ ds st K=>∃(b xb xu xc N w k:Nat) (A U C:List (List Int)),ds=[.ref b,.int k]/\Bn st b xb xu xc A U C/\Mx.cG N w A/\Mx.cG N N U/\Mx.cG N N C/\k<N/\N<=8/\w<=9/\
 ∀st',Bn st' b xb xu xc (Mx.ik A k) (Mx.ik U k) (Mx.ik C k)->st'.length=st.length->(∀m,m≠xb->m≠xu->m≠xc->st'[m]?=st[m]?)->K .aG st'
def gy:List Str:=["self","k"]
def sE:DS:=(aJ (gm (e_ aF "body" (ae 0)) (ae 1) (aH nj (af (aw aU (e_ aF "body" (ae 0)) (ae 1)) ak)))
 (aJ (gm (e_ aF "turn" (ae 0)) (ae 1) (aH nj (af (aw aU (e_ aF "turn" (ae 0)) (ae 1)) ak)))
 (gm (e_ aF "back_columns" (ae 0)) (ae 1) (aH nj (af (aw aU (e_ aF "back_columns" (ae 0)) (ae 1)) ak)))))
def rQ:R9 i_ 2 sE gy:=by
 rintro ds st K ⟨b,xb,xu,xc,N,w,k,A,U,C,rfl,B,hA,hU,hC,hk,hN,hw,kk⟩;refine⟨rfl,?_⟩;have lA:=hA.len;have lU:=hU.len;have lC:=hC.len;have rA:=Mx.du hA hk;have rU:=Mx.du hU hk;have rC:=Mx.du hC hk;have bx1:=k9 B.eb B.e1;have bx2:=k9 B.eb B.e2;have bx3:=k9 B.eb B.e3;have n1:=B.n1;have n2:=B.n2;have n3:=B.n3;refine dc B.eb rfl (aB (aO B.e1) (eP (by omega)) ?_);refine⟨_,A.getD k [],rfl,rfl,by omega,?_⟩;refine dc B.eb rfl (jD B.e1 (by rw[Sb,lA];exact m9 hk) ?_);rw[i4];have g1:∀m,m≠xb->(st.set xb (.lst ((A.set k ((A.getD k []).map λ x=> -x)).map aI)))[m]?=st[m]?:=λ m hm=>Sj (Sq hm);have h1:(st.set xb (.lst ((A.set k ((A.getD k []).map λ x=> -x)).map aI)))[xb]?=some (.lst ((Mx.ik A k).map aI)):=Sy (Sg.mp B.e1).1;have z1:(st.set xb (.lst ((A.set k ((A.getD k []).map λ x=> -x)).map aI))).length=st.length:=SO;generalize st.set xb (.lst ((A.set k ((A.getD k []).map λ x=> -x)).map aI))=st1 at g1 h1 z1⊢;have eb1:=(g1 b bx1).trans B.eb;have e21:=(g1 xu (Sq n1)).trans B.e2;have e31:=(g1 xc (Sq n2)).trans B.e3;refine dc eb1 rfl (aB (aO e21) (eP (by omega)) ?_);refine⟨_,U.getD k [],rfl,rfl,by omega,?_⟩;refine dc eb1 rfl (jD e21 (by rw[Sb,lU];exact m9 hk) ?_);rw[i4];have g2:∀m,m≠xu->(st1.set xu (.lst ((U.set k ((U.getD k []).map λ x=> -x)).map aI)))[m]?=st1[m]?:=λ m hm=>Sj (Sq hm);have h2:(st1.set xu (.lst ((U.set k ((U.getD k []).map λ x=> -x)).map aI)))[xu]?=some (.lst ((Mx.ik U k).map aI)):=Sy (Sg.mp e21).1;have z2:(st1.set xu (.lst ((U.set k ((U.getD k []).map λ x=> -x)).map aI))).length=st1.length:=SO;generalize st1.set xu (.lst ((U.set k ((U.getD k []).map λ x=> -x)).map aI))=st2 at g2 h2 z2⊢;have eb2:=(g2 b bx2).trans eb1;have e32:=(g2 xc (Sq n3)).trans e31;refine dc eb2 rfl (aB (aO e32) (eP (by omega)) ?_);refine⟨_,C.getD k [],rfl,rfl,by omega,?_⟩;refine dc eb2 rfl (jD e32 (by rw[Sb,lC];exact m9 hk) ?_);rw[i4];refine kk _ ⟨?_,?_,?_,?_,n1,n2,n3⟩ (by rw[SO];omega) λ m m1 m2 m3=>?_
 . rw[Sj (Sq bx3)];exact eb2
 . rw[Sj (Sq n2),g2 _ n1];exact h1
 . rw[Sj (Sq n3)];exact h2
 . exact Sy (Sg.mp e32).1
 . rw[Sj (Sq m3),g2 m m2,g1 m m1]
def g7:cY:=λ ds st K=>∃(b xb xu xc N w top p:Nat) (A U C:List (List Int)) (f:Bool),ds=[.ref b,.int top,.int p]/\Bn st b xb xu xc A U C/\Mx.cG N w A/\top<=N/\N<=8/\p<w/\w<=9/\st[0]?=some (gT f)/\
 ∀L,Mx.gQ A N top p L->K (.lst (L.map λ(k:Nat)=> .int (k:Int))) (st.set 0 (gT true))
def g9:List Str:=["self","top","place","live"]
def uT:DS:=(aJ (a9 3 (cT (uu (af (ae 1) (af (b_ fG (af (e_ aF "body" (ae 0)) ak)) ak))) [none,some 0,some 2] (a8 0) (bS (aw nG (aw aU (aw aU (e_ aF "body" (ae 1)) (ae 0)) (ae 2)) (dC (.int 0)))) (ae 0)))
 (cy (Bi 0 161 ⟨82,32,82,66⟩ "Bench.live_rows.<locals>.<lambda>" [none,some 0,some 2] (b_ qh (af (aw aU (aw aU (e_ aF "body" (ae 1)) (ae 0)) (ae 2)) ak)) (ae 3))))
def xo{a b:Prop}(h:b):if false=true then a else b:=h
def Ku{st:ag}{b:Nat}{C:Addr}{fs:List (Str×D)}{f:Bool}(h1:st[b]?=some (Cell.ins C fs))(h2:st[0]?=some (gT f)):b≠0:=λ z=>by rw[z,h2]at h1;cases h1
def uk{st:ag}{b:Nat}{xs:List D}{f:Bool}(h1:st[b]?=some (Cell.lst xs))(h2:st[0]?=some (gT f)):b≠0:=λ z=>by rw[z,h2]at h1;cases h1
def Bn.keep{st st':ag}{b xb xu xc:Nat}{A U C:List (List Int)}(B:Bn st b xb xu xc A U C)(h:∀m,m=b\/m=xb\/m=xu\/m=xc->st'[m]?=st[m]?):Bn st' b xb xu xc A U C:=
 ⟨(h b (.inl rfl)).trans B.eb,(h xb (.inr (.inl rfl))).trans B.e1,(h xu (.inr (.inr (.inl rfl)))).trans B.e2,(h xc (.inr (.inr (.inr rfl)))).trans B.e3,B.n1,B.n2,B.n3⟩
def Bn.tab{st:ag}{b xb xu xc:Nat}{A U C:List (List Int)}{f:Bool}(B:Bn st b xb xu xc A U C)(h:st[0]?=some (gT f))(c:Cell):Bn (st.set 0 c) b xb xu xc A U C:=
 B.keep λ m hm=>Sj λ z=>by
  subst z;rcases hm with rfl|rfl|rfl|rfl
  . exact Ku B.eb h rfl
  . exact uk B.e1 h rfl
  . exact uk B.e2 h rfl
  . exact uk B.e3 h rfl
def oP{r:List Int}{k:Nat}(h:k<r.length):eV (az r) (k:Int)=some (.int (r.getD k 0)):=by
 refine kX ?_;unfold az;rw[SF,Sm h,Mx.aP h];rfl
def gO(A:List (List Int))(N top p:Nat):List Nat:=(List.range (N-top)).filterMap λ i=>if Mx.g A (top+i) p≠0 then some (top+i)else none
def yK{A:List (List Int)}{N top p k:Nat}:k∈gO A N top p↔top<=k/\k<N/\Mx.g A k p≠0:=by
 unfold gO;rw[VO];constructor
 . rintro⟨i,hi,e⟩;rw[UA]at hi;split at e
   . rename_i h;cases e;exact⟨by omega,by omega,h⟩
   . cases e
 . rintro⟨h1,h2,h3⟩;refine⟨k-top,UA.mpr (by omega),?_⟩;rw[show top+(k-top)=k by omega,Si h3]
def pw_filterMap{f:Nat->Option Nat}(h:∀i j a b,i<j->f i=some a->f j=some b->a<b):∀ {l:List Nat},l.Pairwise (· < ·)->(l.filterMap f).Pairwise (· < ·)
 | [],_=>by simp
 |x::l,hl=>by
  obtain⟨h1,h2⟩:=Vp.mp hl;rw[VL];split
  . exact pw_filterMap h h2
  . rename_i a e;refine Vp.mpr ⟨λ b hb=>?_,pw_filterMap h h2⟩;obtain⟨j,hj,ej⟩:=VO.mp hb;exact h x j a b (h1 j hj) e ej
def pw_liveR{A:List (List Int)}{N top p:Nat}:(gO A N top p).Pairwise (· < ·):=by
 unfold gO;refine pw_filterMap (λ i j a b hij ha hb=>?_) List.pairwise_lt_range;split at ha
 . split at hb
   . cases ha;cases hb;omega
   . cases hb
 . cases ha
def y_{f:Nat->Option Nat}(l:List Nat):(l.filterMap f).length<=l.length:=List.length_filterMap_le ..
def J8{A:List (List Int)}{N top p:Nat}{os:List (Int×Int)}(hp:os.Perm (((gO A N top p).map λ(k:Nat)=>(((Mx.g A k p).natAbs:Nat):Int)).zip ((gO A N top p).map λ(k:Nat)=>(k:Int))))(hs:os.Pairwise slt):
 Mx.gQ A N top p (os.map λ q=>q.2.toNat)/\os.map (λ q=>D.int q.2)=(os.map λ q=>q.2.toNat).map λ(k:Nat)=>D.int (k:Int):=by
 have hz:((gO A N top p).map λ(k:Nat)=>(((Mx.g A k p).natAbs:Nat):Int)).zip ((gO A N top p).map λ(k:Nat)=>(k:Int))=(gO A N top p).map λ k=>((((Mx.g A k p).natAbs:Nat):Int),(k:Int)):=by
  exact List.zip_map' ..
 rw[hz]at hp
 have hm:∀q∈os,∃k,k∈gO A N top p/\q=((((Mx.g A k p).natAbs:Nat):Int),(k:Int)):=λ q hq=>by
  obtain⟨k,h1,h2⟩:=SJ.mp (hp.mem_iff.mp hq);exact⟨k,h1,h2.symm⟩
 refine⟨⟨λ k=>?_,?_⟩,?_⟩
 . rw[<-yK];constructor
   . intro h;obtain⟨q,hq,e⟩:=SJ.mp h;obtain⟨j,h1,rfl⟩:=hm q hq;simp only[SH]at e;rw[<-e];exact h1
   . intro h;exact SJ.mpr ⟨((((Mx.g A k p).natAbs:Nat):Int),(k:Int)),hp.mem_iff.mpr (SJ.mpr ⟨k,h,rfl⟩),by simp⟩
 . rw[V6];refine hs.imp_of_mem λ{x y} hx hy h=>?_;obtain⟨j,_,rfl⟩:=hm x hx;obtain⟨k,_,rfl⟩:=hm y hy;unfold slt at h;simp only[SH];omega
 . rw[Ta];refine Ue λ q hq=>?_;obtain⟨j,_,rfl⟩:=hm q hq;simp
def t9:R9 g7 3 uT g9:=by
 rintro ds st K ⟨b,xb,xu,xc,N,w,top,p,A,U,C,f,rfl,B,hA,ht,hN,hp,hw,h0,k⟩;refine⟨rfl,?_⟩;have lA:=hA.len;have rowA:∀i,i<N->(A.getD i []).length=w:=λ i hi=>Mx.du hA hi;refine dc B.eb rfl (dO (aO B.e1) ?_);rw[Sb,lA];refine Lq ⟨by omega,by omega,by omega,by omega⟩ ⟨bZ (by unfold fe;simp;omega),?_⟩;have er:((N:Int)-(top:Int)).toNat=N-top:=by omega
 rw[er];refine gu (λ rest acc st'=>∃i:Nat,i<=N-top/\st'=st/\rest=(List.range (N-top-i)).map (λ j=>D.int ((top+i+j:Nat):Int))/\acc=((List.range i).filterMap λ i=>if Mx.g A (top+i) p≠0 then some (top+i)else none).map λ(k:Nat)=>D.int (k:Int)) ?_ ?_ _ _ _ ⟨0,SM _,rfl,by unfold fe;simp,by simp⟩
 . rintro acc st' ⟨i,hi,rfl,hr,rfl⟩
   have hi':i=N-top:=by
    rcases Ul i (N-top)with z|z
    . rw[show N-top-i=(N-top-i-1)+1 by omega,Tw]at hr;cases hr
    . omega
   subst hi';refine⟨trivial,?_⟩;have e1:((gO A N top p).map λ(k:Nat)=>D.int (k:Int))=((gO A N top p).map λ(k:Nat)=>(k:Int)).map D.int:=by rw[Ta];rfl
   refine⟨(gO A N top p).map λ(k:Nat)=>(k:Int),(gO A N top p).map λ(k:Nat)=>(((Mx.g A k p).natAbs:Nat):Int),f,Ui D.lst e1,?_,?_,by rw[Sb,Sb],h0,λ i n q hn hq=>?_,λ os hp' hs=>?_⟩
   . rw[Sb];have:=y_ (f:=λ i=>if Mx.g A (top+i) p≠0 then some (top+i)else none) (List.range (N-top));rw[List.length_range]at this;show(gO A N top p).length<64;unfold gO;omega
   . rw[V6];exact pw_liveR.imp λ h=>by omega
   . rw[SF]at hn hq;cases z:(gO A N top p)[i]? with
     |none=>rw[z]at hn;cases hn
     |some j=>
      rw[z]at hn hq;cases hn;cases hq;obtain⟨j1,j2,j3⟩:=yK.mp (S8 z);have B1:=B.tab h0 (gT true);refine dc B1.eb rfl (aB (aO B1.e1) (eP (by omega)) (aB rfl (oP (by rw[rowA j j2];exact hp)) (qy ⟨rfl,rfl⟩)))
   . obtain⟨h1,h2⟩:=J8 hp' hs;rw[h2];exact k _ h1
 . rintro d rest acc st' ⟨i,hi,rfl,hr,rfl⟩ next
   have hlt:i<N-top:=by
    rcases Ul i (N-top)with z|z
    . exact z
    . rw[show N-top-i=0 by omega]at hr;cases hr
   rw[show N-top-i=(N-top-i-1)+1 by omega,Tw,TH,Ta]at hr;obtain⟨rfl,rfl⟩:=VH hr;refine⟨trivial,_,rfl,?_⟩;refine dc B.eb rfl (aB (aO B.e1) (eP (j:=top+i+0) (by omega)) (aB rfl (oP (by rw[rowA _ (by omega)];exact hp)) ?_));have e2:List.range (i+1)=List.range i++[i]:=WA
   have e3:((List.range (N-top-i-1)).map ((λ j=>D.int ((top+i+j:Nat):Int))∘Nat.succ))=(List.range (N-top-(i+1))).map λ j=>D.int ((top+(i+1)+j:Nat):Int):=by
    rw[show N-top-i-1=N-top-(i+1) by omega];refine Ue λ j _=>?_;show D.int ((top+i+(j+1):Nat):Int)=_;rw[show top+i+(j+1)=top+(i+1)+j by omega]
   refine ne2 (λ h=>?_) λ h=>?_
   . refine(next _ _ ⟨i+1,by omega,rfl,e3,?_⟩);rw[e2,XG,UG];have:Mx.g A (top+i) p≠0:=h;simp[this]
   . refine(next _ _ ⟨i+1,by omega,rfl,e3,?_⟩);rw[e2,XG,UG];have:Mx.g A (top+i) p=0:=h;simp[this]
structure Bo(n0:Nat)(st st':ag)(b xb xu xc:Nat):Prop where
 lo:1<=n0/\n0<=b/\n0<=xb/\n0<=xu/\n0<=xc
 fr:∀m,m<n0->m≠0->st'[m]?=st[m]?
 tb:∃f,st'[0]?=some (gT f)
def mw:cY:=λ ds st K=>∃(n0 b xb xu xc N w top p e u:Nat) (A0 A U C:List (List Int)) (ld:Nat->Nat),ds=[.ref b,.int top,.int p]/\Bn st b xb xu xc A U C/\Bo n0 st st b xb xu xc/\Mx.fZ A0 N w ⟨A,U,C⟩ top p ld e u/\N<=8/\w<=9/\p<w/\(N-top+1)*(e+1)<=60000000/\
 (∀st',Bn st' b xb xu xc A U C->Bo n0 st st' b xb xu xc->Mx.gQ A N top p []->K (.bl false) st')/\
 ∀st' xb' xu' xc' (c:Mx.B3) (r:Nat),Bn st' b xb' xu' xc' (Mx.setB c p top r).A (Mx.setB c p top r).U (Mx.setB c p top r).C->Bo n0 st st' b xb' xu' xc'->Mx.fK N top p ⟨A,U,C⟩ c->Mx.gQ c.A N top p [r]->top<N->
  Mx.jC A0 N w top p (2^((N-top+1)*(e+1))) ⟨A,U,C⟩ (Mx.setB c p top r)->K (.bl true) st'
def jZ:List Str:=["self","top","place","live","great","small"]
def xY:DS:=(aJ (a9 3 (kl aF "live_rows" g7 (ae 0) (af (ae 1) (af (ae 2) ak))))
 (aJ (tO (bS (aw sU (b_ fG (af (ae 3) ak)) (dC (.int 1)))) (aJ (a9 4 (aw aU (ae 3) (pD ka (dC (.int 1)))))
 (aJ (a9 5 (aw aU (ae 3) (pD ka (dC (.int 2)))))
 (aJ (mW (kl aF "take" lE (ae 0) (af (ae 4) (af (aH jG (af (aw aU (aw aU (e_ aF "body" (ae 0)) (ae 4)) (ae 2)) (af (aw aU (aw aU (e_ aF "body" (ae 0)) (ae 5)) (ae 2)) ak))) (af (ae 5) ak)))))
 (a9 3 (kl aF "live_rows" g7 (ae 0) (af (ae 1) (af (ae 2) ak))))))))
 (aJ (ft (bS (aw kP (b_ fG (af (ae 3) ak)) (dC (.int 0)))) (cy (dC (.bl false))) fk)
 (aJ (mW (kl aF "exchange" kI (ae 0) (af (ae 1) (af (aw aU (ae 3) (dC (.int 0))) ak))))
 (aJ (ft (bS (aw sA (aw aU (aw aU (e_ aF "body" (ae 0)) (ae 1)) (ae 2)) (dC (.int 0)))) (mW (kl aF "change_sign" i_ (ae 0) (af (ae 1) ak))) fk)
 (cy (dC (.bl true))))))))
def Bo.MD{n0:Nat}{st st':ag}{b xb xu xc:Nat}(h:Bo n0 st st' b xb xu xc):Bo n0 st (st'.set 0 (gT true)) b xb xu xc:=
 ⟨h.lo,λ m hm h0=>by rw[Sj (Sq h0)];exact h.fr m hm h0,true,by
  obtain⟨f,e⟩:=h.tb;exact Sy (Sg.mp e).1⟩
def Bo.low{n0:Nat}{st st1 st2:ag}{b xb xu xc:Nat}(h:Bo n0 st st1 b xb xu xc)(f:∀m,m≠xb->m≠xu->m≠xc->st2[m]?=st1[m]?):Bo n0 st st2 b xb xu xc:=by
 obtain⟨l1,l2,l3,l4,l5⟩:=h.lo;refine⟨h.lo,λ m hm h0=>?_,?_⟩
 . rw[f m (by omega) (by omega) (by omega)];exact h.fr m hm h0
 . obtain⟨z,e⟩:=h.tb;exact⟨z,by rw[f 0 (by omega) (by omega) (by omega)];exact e⟩
def xB{X:List (List Int)}{N w top m i:Nat}(hX:Mx.cG N w X)(h:Mx.g0 X N top m)(hi:top<=i)(hN:i<N):∀x∈X.getD i [],x.natAbs<=m:=λ x hx=>by
 obtain⟨c,hc,rfl⟩:=SV.mp hx;have:=h i c hi hN;unfold Mx.g at this;rwa [Mx.aP hc]at this
def zI{n j:Nat}(h:1<=j)(h2:j<=n):j7 n (-(j:Int))=some (n-j):=by
 unfold j7;rw[Sf (by omega),Si (by omega)];congr 1;omega
def Pz{L:List Nat}{j k:Nat}:eV ((L++[j,k]).map λ(k:Nat)=>D.int (k:Int)) (-1)=some (.int (k:Int)):=by
 unfold eV;have:=zI (n:=((L++[j,k]).map λ(k:Nat)=>D.int (k:Int)).length) (j:=1) (by decide) (by simp);rw[show(-((1:Nat):Int))= -1 from rfl]at this;rw[this];simp
def OX{L:List Nat}{j k:Nat}:eV ((L++[j,k]).map λ(k:Nat)=>D.int (k:Int)) (-2)=some (.int (j:Int)):=by
 unfold eV;have:=zI (n:=((L++[j,k]).map λ(k:Nat)=>D.int (k:Int)).length) (j:=2) (by decide) (by simp);rw[show(-((2:Nat):Int))= -2 from rfl]at this;rw[this];simp
def GP:∀ {L:List Nat},1<L.length->∃M j k,L=M++[j,k]:=λ{L} h=>by
 refine⟨L.take (L.length-2),L[L.length-2]'(by omega),L[L.length-1]'(by omega),?_⟩;have e1:L=L.take (L.length-2)++L.drop (L.length-2):=(Wm _ _).symm
 have e2:L.drop (L.length-2)=[L[L.length-2]'(by omega),L[L.length-1]'(by omega)]:=by
  rw[TL (by omega),TL (by omega),Ud (by omega)];congr 2;congr 1;omega
 rw[<-e2];exact e1
def v9:R9 mw 3 xY jZ:=by
 rintro ds st K ⟨n0,b,xb,xu,xc,N,w,top,p,e,u,A0,A,U,C,ld,rfl,B,O,S,hN,hw,hp,hz,kf,kt⟩;refine⟨rfl,?_⟩;have hle:=S.le;obtain⟨f,h0⟩:=O.tb;refine k6 B.eb rfl ?_;refine⟨b,xb,xu,xc,N,w,top,p,A,U,C,f,rfl,B,S.tn.isA,hle,hN,hp,hw,h0,λ L hL=>?_⟩;have B1:=B.tab h0 (gT true);have O1:=O.MD;try dsimp only[ak]
 refine iX (λ σ st'=>∃(L:List Nat) (v4 v5:Option D) (c:Mx.B3) (gr:Nat),σ=[some (.ref b),some (.int top),some (.int p),some (.lst (L.map λ(k:Nat)=> .int (k:Int))),v4,v5]/\L.length<=1/\Bn st' b xb xu xc c.A c.U c.C/\Bo n0 st st' b xb xu xc/\Mx.fK N top p ⟨A,U,C⟩ c/\Mx.rg A0 N w top p (2^e) ⟨A,U,C⟩ c gr/\Mx.gQ c.A N top p L) (λ nx hnx=>?_) ?_
 . refine⟨λ m σ st'=>∃(L:List Nat) (v4 v5:Option D) (c:Mx.B3) (gr:Nat),σ=[some (.ref b),some (.int top),some (.int p),some (.lst (L.map λ(k:Nat)=> .int (k:Int))),v4,v5]/\Bn st' b xb xu xc c.A c.U c.C/\Bo n0 st st' b xb xu xc/\Mx.fK N top p ⟨A,U,C⟩ c/\Mx.rg A0 N w top p (2^e) ⟨A,U,C⟩ c gr/\Mx.gQ c.A N top p L/\m=Mx.mu c.A N p,⟨_,L,none,none,⟨A,U,C⟩,1,rfl,B1,O1,.refl _,S.oX,hL,rfl⟩,?_⟩;rintro m σ st1 ⟨L,v4,v5,c,gr,rfl,B,O,hR,hG,hL,rfl⟩;refine dO rfl ?_;rw[Sb];refine Jg (λ h=>fT ?_) λ h=>xo (hnx _ _ ⟨L,v4,v5,c,gr,rfl,by omega,B,O,hR,hG,hL⟩);obtain⟨M,j,k,rfl⟩:=GP (L:=L) (by omega);refine jx (aB rfl Pz (jx (aB rfl OX ?_)));obtain⟨G2,hlt,hoth,k1,k2,j1,j2,hjk,hj0⟩:=hG.step hp hL;have T:=hG.tn;have lA:=T.isA.len;have hlow:=G2.low S.lo.1;refine k6 B.eb rfl (dc B.eb rfl (aB (aO B.e1) (eP (by omega)) (aB rfl (oP (by rw[Mx.du T.isA k2];exact hp)) (dc B.eb rfl (aB (aO B.e1) (eP (by omega)) (aB rfl (oP (by rw[Mx.du T.isA j2];exact hp)) ?_))))));refine⟨_,_,rfl,hj0,?_⟩
   have hq:(Mx.qn (Mx.g c.A k p) (Mx.g c.A j p)).natAbs<=2^((N-top+1)*(e+1)):=by
    refine Se ?_ hlow;have a1:=hG.pos;have a2:1<=2^e:=VU;have a3:1*(Mx.qn (Mx.g c.A k p) (Mx.g c.A j p)).natAbs<=gr*(1+(Mx.qn (Mx.g c.A k p) (Mx.g c.A j p)).natAbs):=Tb a1 (by omega);have a4:=Tb a2 a3;omega
   have hx:2^e*gr<=2^((N-top+1)*(e+1)):=hG.low S.lo.1
   have hm:∀ {x:Int},x.natAbs<=2^e*gr->IntMulOk (Mx.qn (Mx.g c.A k p) (Mx.g c.A j p)) x/\IntMulOk (-(Mx.qn (Mx.g c.A k p) (Mx.g c.A j p))) x:=λ{x} h=>
    ⟨dS hq (Se h hx) (by omega),dS (by rw[Uo];exact hq) (Se h hx) (by omega)⟩
   refine⟨b,xb,xu,xc,N,w,k,j,c.A,c.U,c.C,_,rfl,B,T.isA,T.fv,T.gD,k2,j2,hN,hw,λ x hx=>(hm (xB T.isA hG.lA j1 j2 x hx)).2,λ x hx=>(hm (xB T.fv hG.lU j1 j2 x hx)).2,λ x hx=>(hm (xB T.gD hG.lC k1 k2 x hx)).1,λ st2 B2 l2 f2=>?_⟩;have O2:=O.low f2;obtain⟨f',h0'⟩:=O2.tb;refine k6 B2.eb rfl ?_;refine⟨b,xb,xu,xc,N,w,top,p,_,_,_,f',rfl,B2,G2.tn.isA,hle,hN,hp,hw,h0',λ L2 hL2=>?_⟩;refine⟨_,?_,L2,_,_,Mx.lP c p k j,_,rfl,B2.tab h0' (gT true),O2.MD,hR.tail ⟨M,k,j,hL,rfl⟩,G2,hL2,rfl⟩;unfold Mx.mu;refine Mx.Jt (k:=k) hlt k2 λ i hi=>?_;by_cases h:i=k
   . rw[h];exact Tz hlt
   . rw[hoth i h];exact R_ _
 . rintro σ st1 ⟨L,v4,v5,c,gr,rfl,hl,B,O,hR,hG,hL⟩;refine dO rfl ?_;rw[Sb];match L,hl,hL with
   | [],_,hL=>
     refine eq2 (λ h=>fT ?_) λ h=>absurd rfl h
     have e0:c=⟨A,U,C⟩:=by
      rcases hG.OD with z|⟨j,h1,h2,h3⟩
      . exact z
      . exact absurd ((hL.mem j).mpr ⟨h1,h2,h3⟩) (by simp)
     subst e0;exact kf st1 B O hL
   | [r],_,hL=>
     refine eq2 (λ h=>absurd h (by simp)) λ h=>xo ?_;obtain⟨s1,hr1,hr2⟩:=hG.set hL;have ht:top<N:=by omega
     have T:=hG.tn
     have s2:Mx.jC A0 N w top p (2^((N-top+1)*(e+1))) ⟨A,U,C⟩ (Mx.setB c p top r):=by
      have hlow:=hG.low S.lo.1;exact⟨s1.tn,s1.up,⟨λ i q h1 h2=>Se (s1.lo.1 i q h1 h2) hlow,λ i q h1 h2=>Se (s1.lo.2.1 i q h1 h2) hlow,λ i q h1 h2=>Se (s1.lo.2.2 i q h1 h2) hlow⟩,s1.zs,s1.tp,s1.z1⟩
     refine k6 B.eb rfl (aB rfl (show eV ([r].map λ(k:Nat)=>D.int (k:Int)) 0=some (.int (r:Int))from rfl) ?_);refine⟨b,xb,xu,xc,N,w,top,r,c.A,c.U,c.C,rfl,B,T.isA,T.fv,T.gD,ht,hr2,λ st2 B2 l2 f2=>?_⟩;obtain⟨l1,l2',l3,l4,l5⟩:=O.lo
     have hst:n0<=st1.length:=by
      have:=(Sg.mp B.eb).1;omega
     have O2:Bo n0 st st2 b st1.length (st1.length+1) (st1.length+2):=by
      refine⟨⟨l1,l2',by omega,by omega,by omega⟩,λ m hm h0=>?_,?_⟩
      . rw[f2 m (by omega) (by omega)];exact O.fr m hm h0
      . obtain⟨z,e⟩:=O.tb;exact⟨z,by rw[f2 0 (by omega) (by omega)];exact e⟩
     have T1:=T.Jm ht hr2;refine dc B2.eb rfl (aB (aO B2.e1) (eP (by have:=T1.isA.len;omega)) (aB rfl (oP (by rw[Mx.du T1.isA ht];exact hp)) ?_));refine F0 (λ h=>fT ?_) λ h=>xo ?_
     . have es:Mx.setB c p top r=⟨Mx.ik (Mx.ck c.A top r) top,Mx.ik (Mx.ck c.U top r) top,Mx.ik (Mx.ck c.C top r) top⟩:=Si h;refine k6 B2.eb rfl ?_;refine⟨b,_,_,_,N,w,top,_,_,_,rfl,B2,T1.isA,T1.fv,T1.gD,ht,hN,hw,λ st3 B3 l3 f3=>?_⟩;exact kt st3 _ _ _ c r (by rw[es];exact B3) (O2.low f3) hR hL ht s2
     . have es:Mx.setB c p top r=⟨Mx.ck c.A top r,Mx.ck c.U top r,Mx.ck c.C top r⟩:=Sf (λ z=>by unfold Mx.g at z;omega);exact kt st2 _ _ _ c r (by rw[es];exact B2) O2 hR hL ht s2
def ja:cY:=λ ds st K=>∃(b xb xu xc N w top p e u:Nat) (A0 A U C:List (List Int)),ds=[.ref b,.int top,.int p]/\Bn st b xb xu xc A U C/\Mx.Tn A0 A U C N w/\N<=8/\w<=9/\p<w/\top<N/\0<Mx.g A top p/\(∀q,q<p->Mx.g A top q=0)/\
 (∀q,(Mx.g A top q).natAbs<=2^e/\(Mx.g U top q).natAbs<=2^e/\(Mx.g C top q).natAbs<=2^e)/\(∀i q,i<top->(Mx.g A i q).natAbs<=2^u/\(Mx.g U i q).natAbs<=2^u/\(Mx.g C i q).natAbs<=2^u)/\e<=60000000/\u<=60000000/\
 ∀st',Bn st' b xb xu xc (Mx.lH p top top ⟨A,U,C⟩).A (Mx.lH p top top ⟨A,U,C⟩).U (Mx.lH p top top ⟨A,U,C⟩).C->(∀m,m≠xb->m≠xu->m≠xc->st'[m]?=st[m]?)->Mx.oQ A0 N w top p e u ⟨A,U,C⟩ top (Mx.lH p top top ⟨A,U,C⟩)->K .aG st'
def gv:List Str:=["self","top","place","k"]
def sJ:DS:=(jz (dR (af (ae 1) ak)) (a8 3) (mW (kl aF "take" lE (ae 0) (af (ae 3) (af (aw gN (aw aU (aw aU (e_ aF "body" (ae 0)) (ae 3)) (ae 2)) (aw aU (aw aU (e_ aF "body" (ae 0)) (ae 1)) (ae 2))) (af (ae 1) ak))))))
def DL{X:List (List Int)}{i:Nat}{x:Int}(hx:x∈X.getD i []):∃q,x=Mx.g X i q:=by
 obtain⟨c,hc,rfl⟩:=SV.mp hx;exact⟨c,by unfold Mx.g;rw[Mx.aP hc]⟩
def rO:R9 ja 3 sJ gv:=by
 rintro ds st K ⟨b,xb,xu,xc,N,w,top,p,e,u,A0,A,U,C,rfl,B,T,hN,hw,hp,ht,htp,hz,hlo,hhi,he,hu,kk⟩;refine⟨rfl,?_⟩;refine fh ⟨by omega,by omega⟩ ?_;rw[SH];refine kM top (λ k σ st'=>∃v3:Option D,σ=[some (.ref b),some (.int top),some (.int p),v3]/\Bn st' b xb xu xc (Mx.lH p top k ⟨A,U,C⟩).A (Mx.lH p top k ⟨A,U,C⟩).U (Mx.lH p top k ⟨A,U,C⟩).C/\(∀m,m≠xb->m≠xu->m≠xc->st'[m]?=st[m]?)/\Mx.oQ A0 N w top p e u ⟨A,U,C⟩ k (Mx.lH p top k ⟨A,U,C⟩)) ?_ ?_ ⟨none,rfl,B,λ _ _ _ _=>rfl,Mx.oQ.start T λ q=>(hlo q).2.2⟩
 . rintro σ st' ⟨v3,rfl,B',f,I⟩;exact kk st' B' f I
 . rintro k σ st' rest hk ⟨v3,rfl,B',f,I⟩ next
   refine⟨_,rfl,?_⟩;have hs:=I.step hk ht hp htp hz (λ q=>⟨(hlo q).1,(hlo q).2.1⟩) hhi;generalize hc:Mx.lH p top k ⟨A,U,C⟩=c at*;have lA:=I.tn.isA.len;have kN:k<N:=by omega
   have gA:∀i q,k<=i->Mx.g c.A i q=Mx.g A i q:=λ i q hi=>by unfold Mx.g;rw[(I.rA i hi).1]
   have gU:∀i q,k<=i->Mx.g c.U i q=Mx.g U i q:=λ i q hi=>by unfold Mx.g;rw[(I.rA i hi).2]
   have gC:∀i q,i≠top->Mx.g c.C i q=Mx.g C i q:=λ i q hi=>by unfold Mx.g;rw[I.rC i hi]
   have hq:((Mx.g c.A k p).fdiv (Mx.g c.A top p)).natAbs<=2^u:=by
    rw[gA k p (R_ _),gA top p (by omega)];exact Se (Mx.iK _ htp) (hhi k p hk).1
   have htp':Mx.g c.A top p≠0:=by rw[gA top p (by omega)];omega
   refine k6 B'.eb rfl (dc B'.eb rfl (aB (aO B'.e1) (eP (by omega)) (aB rfl (oP (by rw[Mx.du I.tn.isA kN];exact hp)) (dc B'.eb rfl (aB (aO B'.e1) (eP (by omega)) (aB rfl (oP (by rw[Mx.du I.tn.isA ht];exact hp)) (gR htp' ?_)))))));refine⟨b,xb,xu,xc,N,w,k,top,c.A,c.U,c.C,_,rfl,B',I.tn.isA,I.tn.fv,I.tn.gD,kN,ht,hN,hw,λ x hx=>?_,λ x hx=>?_,λ x hx=>?_,λ st2 B2 l2 f2=>?_⟩
   . obtain⟨q,rfl⟩:=DL hx;rw[gA top q (by omega)];exact dS (by rw[Uo];exact hq) (hlo q).1 (by omega)
   . obtain⟨q,rfl⟩:=DL hx;rw[gU top q (by omega)];exact dS (by rw[Uo];exact hq) (hlo q).2.1 (by omega)
   . obtain⟨q,rfl⟩:=DL hx;rw[gC k q (by omega)];exact dS hq (hhi k q hk).2.2 (by omega)
   . have el:Mx.lH p top (k+1) ⟨A,U,C⟩=⟨Mx.bJ c.A k ((Mx.g c.A k p).fdiv (Mx.g c.A top p)) top,Mx.bJ c.U k ((Mx.g c.A k p).fdiv (Mx.g c.A top p)) top,Mx.bJ c.C top (-((Mx.g c.A k p).fdiv (Mx.g c.A top p))) k⟩:=by rw[<-hc];rfl
     refine next _ _ ⟨_,rfl,?_,λ m h1 h2 h3=>(f2 m h1 h2 h3).trans (f m h1 h2 h3),?_⟩
     . rw[el];exact B2
     . rw[el];exact hs
structure Bk(st st':ag):Prop where
 le:st.length<=st'.length
 fr:∀m,m<st.length->m≠0->st'[m]?=st[m]?
 tb:∃f,st'[0]?=some (gT f)
def nX:cY:=λ ds st K=>∃(d:D) (N w e0:Nat) (A:List (List Int)) (f:Bool),ds=[d]/\jc st d A/\Mx.cG N w A/\1<=N/\N<=8/\w<=9/\Mx.g0 A N 0 (2^e0)/\(∀t,t<=N->Mx.Ez N e0 t<=50000000/\Mx.Vz N e0 t<=60000000)/\st[0]?=some (gT f)/\
 ∀st' (top:Nat) (c:Mx.B3) (ld:Nat->Nat),Mx.ir A N w top c->Mx.fZ A N w c top w ld (Mx.Ez N e0 top) (Mx.Vz N e0 top)->Bk st st'->K (.tup [c7 (c.A.take top),c7 c.U,c7 (Mx.gp c.C N)]) st'
def n_:List Str:=["rows","bench","top","place","back"]
def Dx:DS:=(aJ (a9 1 (DU aF ky (af (ae 0) ak)))
 (aJ (a9 2 (dC (.int 0)))
 (aJ (jz (dR (af (b_ fG (af (aw aU (ae 0) (dC (.int 0))) ak)) ak)) (a8 3) (ft (bS (kl aF "gather" mw (ae 1) (af (ae 2) (af (ae 3) ak)))) (aJ (mW (kl aF "lower_above" ja (ae 1) (af (ae 2) (af (ae 3) ak))))
 (DJ 2 (Aj (λ i j=>i+j)) (dC (.int 1)))) fk))
 (aJ (a9 4 (aH kq (af (e_ aF "back_columns" (ae 1)) (af (b_ fG (af (ae 0) ak)) ak))))
 (cy (jb (af (aH pV (af (jF (e_ aF "body" (ae 1)) ia (lV (ae 2))) ak)) (af (aH pV (af (e_ aF "turn" (ae 1)) ak)) (af (ae 4) ak)))))))))
def uf{st st':ag}{f:Bool}(h0:st[0]?=some (gT f))(fr:∀m,m<st.length->m≠0->st'[m]?=st[m]?){d:D}{xs:List D}(h:items? st d=some xs):items? st' d=some xs:=by
 cases d with
 |ref n=>
  have e:=tS h;have n0:n≠0:=uk e h0;rw[aO ((fr n (Sg.mp e).1 n0).trans e)]
 |_=>exact h
def yn{st st':ag}{f:Bool}(h0:st[0]?=some (gT f))(fr:∀m,m<st.length->m≠0->st'[m]?=st[m]?):∀ {ds:List D} {A:List (List Int)},cK st ds A->cK st' ds A
 | [],[],_=>trivial
 |_::_,_::_,h=>⟨uf h0 fr h.1,yn h0 fr h.2⟩
def vZ{st st':ag}{f:Bool}(h0:st[0]?=some (gT f))(fr:∀m,m<st.length->m≠0->st'[m]?=st[m]?){d:D}{A:List (List Int)}(h:jc st d A):jc st' d A:=by
 obtain⟨ds,h1,h2⟩:=h.ex;exact⟨ds,uf h0 fr h1,yn h0 fr h2⟩
def wM{xs:List D}{j:Nat}:L3.cutD xs none (some (j:Int))=xs.take j:=by
 unfold L3.cutD;rw[HT.CG,HT.Be,List.drop_zero,Nat.sub_zero];by_cases h:j<=xs.length
 . rw[Xl h]
 . rw[Nat.min_eq_right (by omega),List.take_length,Vv (by omega)]
def BS:R9 nX 1 Dx n_:=by
 rintro ds st K ⟨d,N,w,e0,A,f,rfl,hd,hA,hN1,hN,hw,hlo,hsz,h0,kk⟩;refine⟨rfl,?_⟩;have lA:=hA.len;have h0l:0<st.length:=(Sg.mp h0).1;have hd1:jc (st++[Cell.ins aF []]) d A:=vZ h0 (λ m hm _=>Sk hm) hd;refine⟨st.length,N,d,A,rfl,by simp,hd1,lA,hN,λ st1 B1 l1 f1=>⟨rfl,?_⟩⟩;have hl1:(st++[Cell.ins aF []]).length=st.length+1:=by simp
 have fr1:∀m,m<st.length->st1[m]?=st[m]?:=λ m hm=>by rw[f1 m (by omega) (by omega),Sk hm]
 have O1:Bo st.length st st1 st.length (st.length+1) (st.length+1+1) (st.length+1+2):=⟨⟨h0l,by omega,by omega,by omega,by omega⟩,λ m hm _=>fr1 m hm,f,(fr1 0 h0l).trans h0⟩
 rw[hl1]at B1;have hdk:∀ {st':ag},(∀m,m<st.length->m≠0->st'[m]?=st[m]?)->jc st' d A:=λ h=>vZ h0 h hd;obtain⟨da,hda,hra⟩:=(hdk O1.fr).ex;have hdl:=hra.len
 have hrow0:∃d0,da[0]?=some d0/\items? st1 d0=some (az (A.getD 0 [])):=by
  have hi:0<da.length:=by omega
  obtain⟨r,e1,e2⟩:=cK.get hra (Sm hi);refine⟨da[0],Sm hi,?_⟩;have:A.getD 0 []=r:=by rw[Sd,e1];rfl
  rw[this];exact e2
 obtain⟨d0,hd0,hi0⟩:=hrow0;have er:(az (A.getD 0 [])).length=w:=by unfold az;rw[Sb];exact Mx.du hA (by omega)
 try dsimp only[ak]
 refine iX (A:=a9 2 _) (λ σ st'=>σ=[some d,some (.ref st.length),some (.int 0),none,none]/\st'=st1) (λ nx h=>h _ _ ⟨rfl,rfl⟩) ?_;rintro _ _ ⟨rfl,rfl⟩;refine iX (A:=jz _ _ _) (λ σ st'=>∃(top xb xu xc:Nat) (v3:Option D) (c:Mx.B3) (ld:Nat->Nat),σ=[some d,some (.ref st.length),some (.int top),v3,none]/\Bn st' st.length xb xu xc c.A c.U c.C/\Bo st.length st st' st.length xb xu xc/\Mx.ir A N w top c/\Mx.fZ A N w c top w ld (Mx.Ez N e0 top) (Mx.Vz N e0 top)) (λ nx hnx=>?_) ?_
 . refine aB hda (show eV da 0=some d0 from kX (j:=0) hd0) (dO hi0 ?_);rw[er];refine fh ⟨by omega,by omega⟩ ?_;rw[SH];refine kM w (λ p σ st'=>∃(top xb xu xc:Nat) (v3:Option D) (c:Mx.B3) (ld:Nat->Nat),σ=[some d,some (.ref st.length),some (.int top),v3,none]/\Bn st' st.length xb xu xc c.A c.U c.C/\Bo st.length st st' st.length xb xu xc/\Mx.ir A N p top c/\Mx.fZ A N w c top p ld (Mx.Ez N e0 top) (Mx.Vz N e0 top)) ?_ ?_ ⟨0,_,_,_,none,⟨A,Mx.units N,Mx.units N⟩,λ _=>0,rfl,B1,O1,.start,Mx.fZ.start hA hlo⟩
   . rintro σ st' ⟨top,xb,xu,xc,v3,c,ld,rfl,B,O,hC,S⟩;exact hnx _ _ ⟨top,xb,xu,xc,v3,c,ld,rfl,B,O,hC,S⟩
   . rintro p σ st' rest hp ⟨top,xb,xu,xc,v3,c,ld,rfl,B,O,hC,S⟩ next
     refine⟨_,rfl,?_⟩;have hle:=S.le
     have hz1:(N-top+1)*(Mx.Ez N e0 top+1)<=60000000:=by
      by_cases ht:top<N
      . exact Se (hsz (top+1) ht).1 (by decide)
      . have e:N-top=0:=by omega
        rw[e];have:=(hsz top hle).1;omega
     refine k6 B.eb rfl ?_;refine⟨st.length,st.length,xb,xu,xc,N,w,top,p,_,_,A,c.A,c.U,c.C,ld,rfl,B,⟨O.lo,λ _ _ _=>rfl,O.tb⟩,S,hN,hw,hp,hz1,λ st2 B2 O2 hL=>?_,λ st2 xb2 xu2 xc2 c2 r B2 O2 hR hL ht s1=>?_⟩
     . exact xo (next _ _ ⟨top,xb,xu,xc,_,c,ld,rfl,B2,⟨O2.lo,λ m h1 h2=>(O2.fr m h1 h2).trans (O.fr m h1 h2),O2.tb⟩,.next hC (.none hL),S.skip hL⟩)
     . refine fT ?_;have O2':Bo st.length st st2 st.length xb2 xu2 xc2:=⟨O2.lo,λ m h1 h2=>(O2.fr m h1 h2).trans (O.fr m h1 h2),O2.tb⟩
       have hup:∀i q,i<top->Mx.g (Mx.setB c2 p top r).A i q=Mx.g c.A i q/\Mx.g (Mx.setB c2 p top r).U i q=Mx.g c.U i q/\Mx.g (Mx.setB c2 p top r).C i q=Mx.g c.C i q:=λ i q hi=>by
        obtain⟨a1,a2,a3⟩:=s1.up i hi;unfold Mx.g;rw[a1,a2,a3];exact⟨rfl,rfl,rfl⟩
       refine k6 B2.eb rfl ?_;refine⟨st.length,xb2,xu2,xc2,N,w,top,p,Mx.Ez N e0 (top+1),Mx.Vz N e0 top,A,_,_,_,rfl,B2,s1.tn,hN,hw,hp,ht,s1.tp,λ q hq=>s1.zs top q (R_ _) ht hq,λ q=>⟨s1.lo.1 top q (R_ _) ht,s1.lo.2.1 top q (R_ _) ht,s1.lo.2.2 top q (R_ _) ht⟩,λ i q hi=>?_,Se (hsz (top+1) ht).1 (by decide),Se (hsz top hle).2 (by decide),λ st3 B3 f3 I=>?_⟩
       . obtain⟨a1,a2,a3⟩:=hup i q hi;rw[a1,a2,a3];exact S.hi i q hi
       . have hS:=Mx.jC.next (e':=Mx.Ez N e0 (top+1)) (u':=Mx.Vz N e0 (top+1)) S s1 ht I hN (by show _<=Mx.Vz N e0 top+Mx.Vz N e0 top+Mx.Ez N e0 (top+1)+5;omega) (by show _<=Mx.Vz N e0 top+Mx.Vz N e0 top+Mx.Ez N e0 (top+1)+5;omega);exact next _ _ ⟨top+1,xb2,xu2,xc2,_,_,_,rfl,B3,O2'.low f3,.next hC (.one hR hL),hS⟩
 . rintro σ st2 ⟨top,xb,xu,xc,v3,c,ld,rfl,B,O,hC,S⟩;have T:=S.tn;have lN:=T.isA.len;refine dc B.eb rfl ?_;obtain⟨da2,hda2,hra2⟩:=(hdk O.fr).ex;refine dO hda2 ?_;rw[hra2.len,lA];refine⟨_,c.C,N,rfl,⟨_,aO B.e3,cK.lst⟩,T.gD.fE,by rw[T.gD.len];omega,by omega,?_⟩;refine dc B.eb rfl (EN B.e1 ?_);rw[wM,<-WV];refine⟨_,c.A.take top,rfl,⟨_,rfl,cK.lst⟩,by rw[Tr];omega,?_⟩;refine dc B.eb rfl ?_;refine⟨_,c.U,rfl,⟨_,aO B.e2,cK.lst⟩,by rw[T.fv.len];omega,?_⟩;refine⟨by show 3<=sizeLine;decide,?_⟩;refine kk st2 top c ld hC S ⟨?_,O.fr,O.tb⟩;have:=(Sg.mp B.eb).1;omega
structure Wg(F:List (List Int))(m w f:Nat):Prop where
 is:Mx.cG m w F
 st:Mx.bc F m w (Mx.bz F)
 m8:m<=8
 w8:w<=8
 sm:∀k c,k<m->c<w->(Mx.g F k c).natAbs<=2^f
abbrev Wf(F:List (List Int))(m w:Nat):Prop:=Wg F m w 887
def Wg.lead{F:List (List Int)}{m w f i:Nat}(h:Wg F m w f)(hi:i<m):Mx.bz F i<w/\0<Mx.g F i (Mx.bz F i)/\(F.getD i []).length=w/\jW (F.getD i [])= .int ((Mx.bz F i:Nat):Int):=by
 obtain⟨l1,l2,l3⟩:=h.st.lead i hi;refine⟨l1,l2,h.is.row hi,?_⟩;unfold jW;rw[yH l3 (Vf l2)]
def Wg.row{F:List (List Int)}{m w f i:Nat}(h:Wg F m w f)(hi:i<m):∀x∈F.getD i [],x.natAbs<=2^f:=λ x hx=>by
 obtain⟨c,hc,rfl⟩:=SV.mp hx;have hw:=h.is.row hi;have:=h.sm i c hi (by omega);unfold Mx.g at this;rwa [Mx.aP hc]at this
def zN{i:Nat}{σ:cm}{st:ag}{K:DK}{d:D}(h:σ[i]?=some (some d))(k:K d st):ae i σ st K:=by
 unfold ae;simp only[h];exact k
def p7:cY:=λ ds st K=>∃(dr:D) (F:List (List Int)) (r:List Int) (m w f:Nat),ds=[c7 F,dr]/\Wg F m w f/\items? st dr=some (az r)/\r.length=w/\(∀i,i<m->∀b∈F.getD i [],IntMulOk (-(Mx.j9 F (Mx.cZ F r i) i)) b)/\∀st',Ext st st'->K (.tup [aY (Mx.nJ F r m),aY (Mx.cZ F r m)]) st'
def pH:List Str:=["form","row","weights","left","each","lead","weight"]
def Ga:DS:=(aJ (a9 2 (Ax ak))
 (aJ (a9 3 (b_ mP (af (ae 1) ak)))
 (aJ (jz (dz (ae 0)) (a8 4) (aJ (a9 5 (aH js (af (ae 4) ak)))
 (aJ (a9 6 (aw gN (aw aU (ae 3) (ae 5)) (aw aU (ae 4) (ae 5))))
 (aJ (mW (oB (ae 2) (ae 6)))
 (a9 3 (aH my (af (ae 3) (af (pD ka (ae 6)) (af (ae 4) ak)))))))))
 (cy (jb (af (b_ c6 (af (ae 2) ak)) (af (b_ c6 (af (ae 3) ak)) ak)))))))
def C4:R9 p7 2 Ga pH:=by
 rintro ds st K ⟨dr,F,r,m,w,f,rfl,hW,hr,lr,hm,k⟩;refine⟨rfl,?_⟩;have lF:=hW.is.len;have m8:=hW.m8;have w8:=hW.w8;refine⟨Ss rfl,?_⟩;have X0:Ext st (st++[.lst []]):=Ext.push;have e0:(st++[Cell.lst []])[st.length]?=some (.lst (az [])):=by simp
 refine om (X0.items hr) (iq ?_);refine iS (λ rest σ st'=>∃(i:Nat) (v4 v5 v6:Option D),i<=m/\rest=(F.map aY).drop i/\σ=[some (c7 F),some dr,some (.ref st.length),some (aI (Mx.cZ F r i)),v4,v5,v6]/\Ext st st'/\st'[st.length]?=some (.lst (az (Mx.nJ F r i)))) ?_ ?_ _ _ _ ⟨0,none,none,none,SM _,rfl,rfl,X0,e0⟩
 . rintro σ st' ⟨i,v4,v5,v6,hi,hrest,rfl,X,ew⟩;have e1:i=m:=Xk hi (by rw[<-lF];exact drop_nil hrest);subst e1;exact⟨trivial,cH (aO ew) (cH rfl ⟨Ss rfl,k st' X⟩)⟩
 . rintro x rest σ st' ⟨i,v4,v5,v6,hi,hrest,rfl,X,ew⟩ next
   obtain⟨hiF,rfl,rfl⟩:=drop_cons hrest;have him:i<m:=by rw[<-lF];exact hiF
   obtain⟨l1,l2,wF,eld⟩:=hW.lead him;have lL:=Mx.jX hW.is lr (i:=i) (Tz him);refine⟨trivial,_,rfl,_,F.getD i [],rfl,rfl,?_⟩;rw[eld];have at1:eV (az (F.getD i [])) ((Mx.bz F i:Nat):Int)=some (.int (Mx.g F i (Mx.bz F i))):=dF (by omega);have at2:eV (az (Mx.cZ F r i)) ((Mx.bz F i:Nat):Int)=some (.int ((Mx.cZ F r i).getD (Mx.bz F i) 0)):=dF (by omega);refine aB rfl at2 (aB rfl at1 (gR (by omega) ?_));show aJ _ _ _ [_,_,_,_,_,_,some (.int (Mx.j9 F (Mx.cZ F r i) i))] _;have lW:(Mx.nJ F r i).length=i:=by unfold Mx.nJ;simp
   refine FG (by rfl) ew (zN rfl (CV ew (by rw[Uc,Sb,lW];omega) ?_));have hlt:=(Sg.mp ew).1;refine jx ?_;refine⟨_,_,_,Mx.cZ F r i,F.getD i [],rfl,rfl,rfl,by omega,hm i him,?_⟩;refine next _ _ ⟨i+1,_,_,_,him,rfl,rfl,X.set (R_ _),?_⟩
   rw[Sy hlt,ints_app];congr 3;unfold Mx.nJ;rw[WA,UG];rfl
def xF:cY:=λ ds st K=>∃(dr:D) (F:List (List Int)) (r:List Int) (m w f:Nat),ds=[c7 F,dr]/\Wg F m w f/\items? st dr=some (az r)/\r.length=w/\(∀i,i<m->∀b∈F.getD i [],IntMulOk (-(Mx.j9 F (Mx.cZ F r i) i)) b)/\∀st',Ext st st'->K (aY (Mx.cZ F r m)) st'
def uw:List Str:=["form","row"]
def KI:DS:=(cy (aw aU (aH p7 (af (ae 0) (af (ae 1) ak))) (dC (.int 1))))
def HA:R9 xF 2 KI uw:=by
 rintro ds st K ⟨dr,F,r,m,w,f,rfl,hW,hr,lr,hm,k⟩;exact⟨rfl,dr,F,r,m,w,f,rfl,hW,hr,lr,hm,λ st' X=>aB rfl rfl (k st' X)⟩
def zJ(st:ag):List D->List Rat->Prop
 | [],[]=>True
 |d::ds,q::qs=>items? st d=some [.int q.num,.int ((q.den:Nat):Int)]/\zJ st ds qs
 |_,_=>False
def zJ.of{st:ag}:∀ {ps:List Rat},zJ st (ps.map je) ps
 | []=>trivial
 |_::_=>⟨rfl,zJ.of⟩
def qi:cY:=λ ds st K=>∃(dp dr:D) (xs:List D) (ps:List Rat) (r:List Int) (t e:Nat),ds=[dp,dr]/\items? st dp=some xs/\zJ st xs ps/\items? st dr=some (az r)/\Mx.Pb ps t/\(∀x∈r,x.natAbs<=2^e)/\t+ps.length*(e+1)<=60000000/\K (je (Mx.lX 0 ps r)) st
def mX:List Str:=["parts","row","total","one","number"]
def BM:DS:=(aJ (a9 2 (aH mG (af (dC (.int 0)) ak)))
 (aJ (jz (tu (af (ae 0) (af (ae 1) ak))) (gz 3 4) (a9 2 (aH AA (af (ae 2) (af (aH yh (af (ae 3) (af (aH mG (af (ae 4) ak)) ak))) ak)))))
 (cy (ae 2))))
def AO:R9 qi 2 BM mX:=by
 rintro ds st K ⟨dp,dr,xs,ps,r,t,e,rfl,hp,hx,hr,hP,hsm,hB,k⟩;refine⟨rfl,?_⟩;refine⟨_,rfl,?_⟩;refine qG hp hr λ ok aL=>?_;refine iS (λ rest σ st'=>st'=st/\∃(xs':List D) (ps':List Rat) (r':List Int) (tot:Rat) (T C:Nat) (v3 v4:Option D),rest=gg xs' (az r')/\zJ st xs' ps'/\σ=[some dp,some dr,some (je tot),v3,v4]/\Mx.Sz tot T/\Mx.Pb ps' C/\(∀x∈r',x∈r)/\Mx.lX tot ps' r'=Mx.lX 0 ps r/\T+C+ps'.length*(e+1)<=60000000) ?_ ?_ _ _ _ ⟨rfl,xs,ps,r,0,0,t,none,none,rfl,hx,rfl,⟨by decide,by decide⟩,hP,λ _ h=>h,rfl,by omega⟩
 . rintro σ st' ⟨rfl,xs',ps',r',tot,T,C,v3,v4,he,hx',rfl,hT,hC,_,hd,hle⟩;refine⟨aL _ hp hr,?_⟩
   have:Mx.lX tot ps' r'=tot:=by
    match xs',ps',r',hx',he with
    | [],[],_,_,_=>unfold Mx.lX;rfl
    |_::_,_::_,[],_,_=>unfold Mx.lX;rfl
    |_::_,_::_,_::_,_,he=>cases he
   rw[<-hd,this]at k;exact k
 . rintro x rest σ st' ⟨rfl,xs',ps',r',tot,T,C,v3,v4,he,hx',rfl,hT,hC,hm,hd,hle⟩ next
   match xs',ps',r',he,hx',hC,hm,hd,hle with
   | [],[],_,he,_,_,_,_,_=>cases he
   |_::_,_::_,[],he,_,_,_,_,_=>cases he
   |d::xs',p::ps',n::r',he,hx',⟨a,C',ha,hC',hbC⟩,hm,hd,hle=>
    have hz:gg (d::xs') (az (n::r'))= .tup [d,.int n]::gg xs' (az r'):=rfl;rw[hz,Vo]at he;obtain⟨rfl,rfl⟩:=he;have hn:=hsm n (hm n SD);rw[SY,VR]at hle;have s1:=Mx.Sz.int hn;refine⟨aL _ hp hr,_,rfl,?_⟩;refine⟨_,rfl,d,_,p,(n:Rat),a,e,rfl,⟨hx'.1,ha⟩,Fq.of s1,by omega,?_⟩;refine⟨_,_,tot,p*(n:Rat),T,a+e,rfl,Fq.of hT,Fq.of (ha.mul s1),by omega,?_⟩;exact next _ _ ⟨rfl,xs',ps',r',_,_,C',_,_,rfl,hx'.2,rfl,hT.add (ha.mul s1),hC',λ x hx=>hm x (SG _ hx),hd,by omega⟩
def qp:cY:=λ ds st K=>∃(F:List (List Int)) (R:List Int) (m w l:Nat),ds=[c7 F,aY R,.int l]/\Wf F m w/\R.length=w/\l<w/\∀b:Int,Mx.u9 F m l (R.getD l 0) b->K (.int b) st
def mH:List Str:=["form","rest","place","row"]
def BW:DS:=(aJ (jz (dz (ae 0)) (a8 3) (ft (bS (aw kP (aH js (af (ae 3) ak)) (ae 2))) (cy (aw aU (ae 3) (ae 2))) fk))
 (cy (aw dh (dC (.int 2)) (b_ qh (af (aw aU (ae 1) (ae 2)) ak)))))
def Bs:R9 qp 3 BW mH:=by
 rintro ds st K ⟨F,R,m,w,l,rfl,hW,lR,hl,k⟩;refine⟨rfl,?_⟩;have lF:=hW.is.len;refine iq ?_;refine iS (λ rest σ st'=>st'=st/\∃(i:Nat) (v3:Option D),i<=m/\rest=(F.map aY).drop i/\σ=[some (c7 F),some (aY R),some (.int l),v3]/\∀k,k<i->Mx.bz F k≠l) ?_ ?_ _ _ _ ⟨rfl,0,none,SM _,rfl,rfl,λ k h=>absurd h (SN _)⟩
 . rintro σ st' ⟨rfl,i,v3,hi,hrest,rfl,hn⟩;have:=drop_nil hrest;exact⟨trivial,aB rfl (dF (by omega)) (qy (dm (iV (by decide) (by decide)) (k _ (.inr ⟨λ k hk=>hn k (by omega),rfl⟩))))⟩
 . rintro x rest σ st' ⟨rfl,i,v3,hi,hrest,rfl,hn⟩ next
   obtain⟨hiF,rfl,rfl⟩:=drop_cons hrest;have him:i<m:=by rw[<-lF];exact hiF
   obtain⟨l1,l2,wF,eld⟩:=hW.lead him;refine⟨trivial,_,rfl,_,F.getD i [],rfl,rfl,?_⟩;rw[eld];refine eq2 (λ h=>fT ?_) λ h=>next _ _ ⟨rfl,i+1,_,him,rfl,rfl,λ k hk=>?_⟩
   . have hh:Mx.bz F i=l:=by omega
     exact aB rfl (dF (by omega)) (k _ (.inl ⟨i,him,hh,rfl⟩))
   . by_cases q:k=i
     . subst q;omega
     . exact hn k (by omega)
def yq:∀(r:List Int) (i l:Nat),gB r i=some l->∃k,l=i+k/\k<r.length/\r.getD k 0≠0/\∀c,c<k->r.getD c 0=0
 | [],_,_,h=>by cases h
 |x::r,i,l,h=>by
  unfold gB at h;split at h
  . rename_i hx;obtain⟨k,e,hk,hr,hz⟩:=yq r (i+1) l h;refine⟨k+1,by omega,Xf hk,hr,λ c hc=>?_⟩;cases c with
    |zero=>exact hx
    |succ c=>exact hz c (Nat.lt_of_succ_lt_succ hc)
  . cases h;exact⟨0,rfl,Nat.succ_pos _,by assumption,λ c hc=>absurd hc (SN _)⟩
def vh{r:List Int}{l:Nat}(h:iP r=some l):l<r.length/\r.getD l 0≠0/\∀c,c<l->r.getD c 0=0:=by
 obtain⟨k,e,h1,h2,h3⟩:=yq r 0 l h;rw[VA]at e;subst e;exact⟨h1,h2,h3⟩
def lM:cY:=λ ds st K=>∃(F:List (List Int)) (R:List Int) (m w e l:Nat),ds=[c7 F,aY R]/\Wf F m w/\R.length=w/\iP R=some l/\(∀c,c<w->(R.getD c 0).natAbs<=2^e)/\e<=10000/\∀st' b,Ext st st'->Mx.u9 F m l (R.getD l 0) b->Mx.Pb (Mx.nv F m w l (Mx.j6 w l b) m) 10000000->K (.tup ((Mx.nv F m w l (Mx.j6 w l b) m).map je)) st'
def jf:List Str:=["form","rest","place","parts","k","lead","owed"]
def wx:DS:=(aJ (a9 2 (aH js (af (ae 1) ak)))
 (aJ (a9 3 (aw xl (nD (af (aH mG (af (dC (.int 0)) ak)) ak)) (b_ fG (af (ae 1) ak))))
 (aJ (gm (ae 3) (ae 2) (aH pd (af (dC (.int 1)) (af (aH qp (af (ae 0) (af (ae 1) (af (ae 2) ak)))) ak))))
 (aJ (jz (xC (af (aw kJ (b_ fG (af (ae 0) ak)) (dC (.int 1))) (af (pD ka (dC (.int 1))) (af (pD ka (dC (.int 1))) ak)))) (a8 4) (aJ (a9 5 (aH js (af (aw aU (ae 0) (ae 4)) ak)))
 (ft (bS (aw sA (ae 5) (ae 2))) (aJ (a9 6 (aH xq (af (aH mG (af (dC (.int 0)) ak)) (af (aH qi (af (ae 3) (af (aw aU (ae 0) (ae 4)) ak))) ak))))
 (gm (ae 3) (ae 5) (aH Av (af (ae 6) (af (aH mG (af (aw aU (aw aU (ae 0) (ae 4)) (ae 5)) ak)) ak))))) fk)))
 (cy (b_ c6 (af (ae 3) ak)))))))
def nq(a:Int)(n:Nat):(iG a n).length=n:=by unfold iG;simp
def F_{m i:Nat}{d:D}{rest:List D}(hr:d::rest=(iG ((m:Int)-1) m).drop i):i<m/\d= .int ((m-1-i:Nat):Int)/\rest=(iG ((m:Int)-1) m).drop (i+1):=by
 have hi:i<m:=by
  rcases Ul i m with h|h
  . exact h
  . rw[Ud (by rw[nq];exact h)]at hr;cases hr
 have hl:i<(iG ((m:Int)-1) m).length:=by rw[nq];exact hi
 rw[TL hl]at hr;obtain⟨h1,h2⟩:=VH hr;refine⟨hi,?_,h2⟩;have h3:(iG ((m:Int)-1) m)[i]=D.int ((m:Int)-1+(i:Nat)*(-1)):=by simp[iG]
 rw[h1,h3];congr 1;omega
def qQ{A:List (List Int)}{k:Nat}(h:k<A.length):eV (A.map aY) (k:Int)=some (aY (A.getD k [])):=by
 refine kX ?_;rw[SF,Sm h,Mx.aP h];rfl
def AL{α:Type}(d:α):∀n:Nat,(List.replicate n [d]).flatten=List.replicate n d
 |0=>rfl
 |n+1=>by rw[TQ,Uq,AL d n,TQ];rfl
def Q6{ps:List Rat}{r:List Int}{w:Nat}(h1:ps.length=w)(h2:r.length=w):Mx.lX 0 ps r=Mx.dq ps w λ c=>r.getD c 0:=by
 rw[Mx.Gv ps r 0 h1 h2];grind
def vR:R9 lM 2 wx jf:=by
 rintro ds st K ⟨F,R,m,w,e,l,rfl,hW,lR,el,bR,he,k⟩;refine⟨rfl,?_⟩;have lF:=hW.is.len;have m8:=hW.m8;have w8:=hW.w8;obtain⟨hl,hne,_⟩:=vh el;rw[lR]at hl;have el':jW R= .int (l:Int):=by unfold jW;rw[el]
 refine⟨_,R,rfl,rfl,?_⟩;rw[el'];refine⟨_,rfl,Ss rfl,dO rfl (KN ⟨by omega,by rw[Sb];omega,bZ (by simp;omega)⟩ ?_)⟩;rw[Sb,lR,SH,AL];have er:List.replicate w (je ((0:Int):Rat))=(List.replicate w (0:Rat)).map je:=by rw[List.map_replicate];rfl
 rw[er];have X0:Ext st (st++[.lst ((List.replicate w (0:Rat)).map je)]):=Ext.push;have e0:(st++[Cell.lst ((List.replicate w (0:Rat)).map je)])[st.length]?=some (.lst ((List.replicate w (0:Rat)).map je)):=by simp
 generalize st++[Cell.lst ((List.replicate w (0:Rat)).map je)]=st1 at X0 e0⊢;refine⟨F,R,m,w,l,rfl,hW,lR,hl,λ b hb=>?_⟩;have b0:=hb.pos hW.st hne
 have bb:b.natAbs<=2^(e+888):=by
  rcases hb with⟨k,hk,_,rfl⟩|⟨_,rfl⟩
  . exact Se (hW.sm k l hk hl) (Sv (by decide) (by omega))
  . have:=bR l hl;rw[show e+888=e+887+1 by omega,T3];have p:2^e<=2^(e+887):=Sv (by decide) (by omega);omega
 refine⟨_,_,rfl,by omega,?_⟩
 have hix:∀ {n i:Nat},i<n->j7 n (i:Int)=some i:=λ{n i} h=>by
  unfold j7;simp only[VX,SH];simp[h]
 refine jD e0 (hix (by simpa using hl)) ?_;have hlt:=(Sg.mp e0).1;refine dO rfl (lg (jx (jx ?_)));rw[Sb,lF];refine KQ ⟨by omega,by omega,by decide,by decide⟩ ?_;rw[show((m:Int)-1- -1).toNat=m by omega]
 have p0:Mx.Pb (Mx.j6 w l b) (e+888):=by
  have:=(Mx.Pb.rep w).set (k:=l) (Mx.Sz.of (t:=1) (by omega) (show(1:Int).natAbs<=2^(e+888)from VJ (by decide)) bb);rwa [VA]at this
 refine iS (λ rest σ st'=>∃(i t:Nat) (v4 v5 v6:Option D),i<=m/\rest=(iG ((m:Int)-1) m).drop i/\σ=[some (c7 F),some (aY R),some (.int l),some (.ref st.length),v4,v5,v6]/\Ext st st'/\st'[st.length]?=some (.lst ((Mx.nv F m w l (Mx.j6 w l b) i).map je))/\Mx.Pb (Mx.nv F m w l (Mx.j6 w l b) i) t/\t+8000<=2^i*(e+8888)) ?_ ?_ _ _ _ ⟨0,e+888,none,none,none,SM _,rfl,rfl,X0.set (R_ _),by rw[Sy hlt,<-XQ];rfl,p0,by omega⟩
 . rintro σ st' ⟨i,t,v4,v5,v6,hi,hrest,rfl,X,ep,hP,ht⟩
   have e1:i=m:=by
    have:=Ui List.length hrest;rw[TJ,nq,UW]at this;omega
   subst e1;have h2i:2^i<=256:=Se (Sv (by decide) m8) (by decide);have:=Tb h2i (show e+8888<=18888 by omega);exact⟨trivial,cH (aO ep) (k st' b X hb (hP.mono (by omega)))⟩
 . rintro x rest σ st' ⟨i,t,v4,v5,v6,hi,hrest,rfl,X,ep,hP,ht⟩ next
   obtain⟨him,rfl,rfl⟩:=F_ hrest;have P:=Mx.oY.all b hW.st hl (i:=i) hi;have hstep:Mx.nv F m w l (Mx.j6 w l b) (i+1)=Mx.FW F w l (Mx.nv F m w l (Mx.j6 w l b) i) (m-1-i):=rfl;generalize Mx.nv F m w l (Mx.j6 w l b) i=ps at P hP ep hstep;generalize hj:m-1-i=j at hstep;have hjm:j<m:=by omega
   obtain⟨l1,l2,wF,eld⟩:=hW.lead hjm;have lp:=P.len;have hat:eV (F.map aY) (j:Int)=some (aY (F.getD j [])):=qQ (by omega);refine⟨trivial,_,rfl,aB rfl hat ⟨_,F.getD j [],rfl,rfl,?_⟩⟩;rw[eld];have h2i:2^i<=128:=Se (Sv (by decide) (show i<=7 by omega)) (by decide);have ht2:=Tb h2i (show e+8888<=18888 by omega);have e2:2^(i+1)*(e+8888)=2^i*(e+8888)+2^i*(e+8888):=by rw[T3,Nat.mul_two,VI]
   unfold Mx.FW at hstep;refine F0 (λ hlp=>fT ?_) λ hlp=>?_
   . rw[Si (by omega)]at hstep;have hpl:ps.length*(887+1)<=8*888:=Tb (by omega) (by decide);refine⟨_,rfl,aB rfl hat ⟨_,_,_,ps,F.getD j [],t,887,rfl,aO ep,zJ.of,rfl,hP,hW.row hjm,by omega,?_⟩⟩;have sd:=Mx.Pb.lX (r:=F.getD j []) (x:=0) (s:=0) ⟨by decide,by decide⟩ hP (hW.row hjm);rw[Q6 lp wF]at sd⊢;refine⟨_,_,0,_,0,_,rfl,Fq.of ⟨by decide,by decide⟩,Fq.of sd,by omega,?_⟩
     have hnum:(((Mx.g F j (Mx.bz F j):Int)):Rat).num≠0:=by
      show Mx.g F j (Mx.bz F j)≠0;omega
     have sg:=Mx.Sz.int (hW.sm j _ hjm l1);refine aB rfl hat (aB rfl (dF (by omega)) ⟨_,rfl,_,_,_,_,_,_,rfl,Fq.of sd.neg,Fq.of sg,by omega,hnum,?_⟩);refine jD ep (hix (by rw[Sb];omega)) ?_;have hlt2:=(Sg.mp ep).1;refine next _ _ ⟨i+1,t+(0+t+ps.length*(887+1)+887),_,_,_,him,rfl,rfl,X.set (R_ _),?_,?_,?_⟩
     . rw[Sy hlt2,<-XQ,hstep];rfl
     . rw[hstep];exact hP.set (sd.neg.div sg hnum)
     . omega
   . rw[Sf (by omega)]at hstep;refine next _ _ ⟨i+1,t,_,_,_,him,rfl,rfl,X,?_,?_,?_⟩
     . rw[hstep];exact ep
     . rw[hstep];exact hP
     . omega
def Gf(U:List (List Int))(m N:Nat)(G:List (List Int)):Prop:=(m<N/\∃t c,Mx.ir (U.drop m) (N-m) N t c/\G=c.A.take t)\/(¬m<N/\G=[])
def ma:cY:=λ ds st K=>∃(U:List (List Int)) (N m e1:Nat) (f:Bool),ds=[c7 U,.int m]/\Mx.cG N N U/\m<=N/\N<=8/\Mx.g0 (U.drop m) (N-m) 0 (2^e1)/\(∀t,t<=N-m->Mx.Ez (N-m) e1 t<=50000000/\Mx.Vz (N-m) e1 t<=60000000)/\st[0]?=some (gT f)/\∀st' F m',Bk st st'->m'<=N-m->Wg F m' N (Mx.Uz (N-m) e1 m')->Mx.kb F m' (Mx.bz F)->Mx.og (U.drop m) (N-m) F m' N->Gf U m N F->K (c7 F) st'
def jU:List Str:=["turn","many"]
def xV:DS:=(cy (ES (bS (aw sA (ae 1) (b_ fG (af (ae 0) ak)))) (aw aU (aH nX (af (jF (ae 0) (lV (ae 1)) ia) ak)) (dC (.int 0))) (jb ak)))
def Br{xs:List D}{j:Nat}:L3.cutD xs (some (j:Int)) none=xs.drop j:=by
 unfold L3.cutD;rw[HT.CG,HT.Be];by_cases h:j<=xs.length
 . rw[Xl h,Vv (by rw[TJ];omega)]
 . rw[Nat.min_eq_right (by omega),Xx (R_ _),Xx (by omega)];simp
def Bk.ext{st st1 st2:ag}(B:Bk st st1)(X:Ext st1 st2):Bk st st2:=by
 have l1:=B.le;obtain⟨f,e⟩:=B.tb;have l0:=(Sg.mp e).1;exact⟨by have:=X.len;omega,λ m hm h0=>by rw[X.same m (by omega),B.fr m hm h0],f,by rw[X.same 0 l0];exact e⟩
def Mb:8*((9*2^48)^9*(9*2^48)^8)<=2^887:=by decide+kernel
def d9{A:List (List Int)}{t i c:Nat}(h:i<t):Mx.g (A.take t) i c=Mx.g A i c:=by
 have e:(A.take t).getD i []=A.getD i []:=by rw[Sd,Sd,List.getElem?_take,Si h]
 unfold Mx.g;rw[e]
def NK{A:List (List Int)}{N w top e u:Nat}{c:Mx.B3}{ld:Nat->Nat}(H:Mx.fZ A N w c top w ld e u)(hA:Mx.cG N w A)(n8:N<=8)(w8:w<=8)(bA:∀r∈A,∀x∈r,x.natAbs<=2^48):Wf (c.A.take top) top w:=by
 have le:=H.le;have lA:=H.tn.isA.len
 have s:Mx.bc (c.A.take top) top w ld:=⟨λ i hi=>by
  obtain⟨h1,h2,h3⟩:=H.lead i hi;exact⟨h1,by rw[d9 hi];exact h2,λ c hc=>by rw[d9 hi];exact h3 c hc⟩,H.mono⟩
 have sm:=(H.small n8 (b:=2^48) (VJ (by decide)) λ i c hi hc=>by
  have lN:=hA.len;have hr:=hA.row hi;unfold Mx.g;refine bA _ (by rw[Mx.aP (by omega)];exact Tg _) _ (getD_mem (by omega))).2
 exact⟨⟨by rw[Tr];omega,λ r hr=>H.tn.isA.fE r (U_ hr)⟩,s.Bq,by omega,w8,λ k q hk hq=>by rw[d9 hk];exact Se (sm k q hk hq) Mb⟩
def xh:R9 ma 2 xV jU:=by
 rintro ds st K ⟨U,N,m,e1,f,rfl,iU,hm,n8,lo,sz,t0,k⟩;refine⟨rfl,?_⟩;refine dO rfl ?_;rw[Sb,iU.len];refine F0 (λ h=>fT ?_) λ h=>?_
 . refine jB ?_;rw[Br,<-List.map_drop];have iT:Mx.cG (N-m) N (U.drop m):=⟨by rw[TJ,iU.len],λ r hr=>iU.fE r (List.mem_of_mem_drop hr)⟩
   refine⟨_,N-m,N,e1,U.drop m,f,rfl,oN,iT,by omega,by omega,by omega,lo,sz,t0,λ st1 top c ld hC H B=>aB rfl rfl ?_⟩;obtain⟨ld2,S2⟩:=hC.QV iT lo (by omega) (R_ _);have le:=H.le;have lA:=H.tn.isA.len
   have s:Mx.bc (c.A.take top) top N ld:=⟨λ i hi=>by
    obtain⟨h1,h2,h3⟩:=H.lead i hi;exact⟨h1,by rw[d9 hi];exact h2,λ c hc=>by rw[d9 hi];exact h3 c hc⟩,H.mono⟩
   exact k st1 _ top B le ⟨⟨by rw[Tr];omega,λ r hr=>H.tn.isA.fE r (U_ hr)⟩,s.Bq,by omega,n8,λ k q hk _=>by rw[d9 hk];exact(S2.hi k q hk).1⟩ (λ i j hij hj=>by rw[s.bz hj,d9 (Ub hij hj),d9 hj];exact H.red i j hij hj) ⟨λ k hk=>by
    obtain⟨z,hz⟩:=H.out k hk;exact⟨z,λ q hq=>(hz q hq).trans (Mx.ax λ i hi=>by rw[d9 hi])⟩,λ k hk=>(H.in k hk).eq λ q _=>d9 hk⟩ (.inl ⟨by omega,top,c,hC,rfl⟩)
 . exact⟨SM _,k st [] 0 ⟨R_ _,λ _ _ _=>rfl,f,t0⟩ (SM _) ⟨⟨rfl,λ r hr=>by cases hr⟩,⟨λ i h=>absurd h (SN _),λ i j _ h=>absurd h (SN _)⟩,SM _,n8,λ k c h=>absurd h (SN _)⟩ (λ i j _ h=>absurd h (SN _)) ⟨λ k h=>absurd h (by omega),λ k h=>absurd h (SN _)⟩ (.inr ⟨by omega,rfl⟩)⟩
def wk(N e0 m:Nat):Nat:=if m=0 then 0 else Mx.Ez N e0 m
def CQ(N e0:Nat):Prop:=(∀t,t<N+1->Mx.Ez N e0 t<=50000000/\Mx.Vz N e0 t<=60000000)/\∀m,m<N+1->∀t,t<N-m+1->(Mx.Ez (N-m) (wk N e0 m) t<=50000000/\Mx.Vz (N-m) (wk N e0 m) t<=60000000)/\Mx.Vz N e0 m+8000+t*(Mx.Uz (N-m) (wk N e0 m) t+1)<=130000000/\wk N e0 m+t*(Mx.Uz (N-m) (wk N e0 m) t+1)<=130000000
structure QE(A:List (List Int))(N w:Nat)(r:List Int)(e0:Nat):Prop where
 is:Mx.cG N w A
 n1:1<=N
 n8:N<=8
 w8:w<=8
 bA:∀r∈A,∀x∈r,x.natAbs<=2^e0
 lr:r.length=w
 br:∀x∈r,x.natAbs<=2^70
 he:e0<=48
 sz:CQ N e0
structure Jh(A:List (List Int))(N w:Nat)(r a:List Int)(F:List (List Int))(m f:Nat)(c:Mx.B3)(top:Nat):Prop where
 tn:Mx.Tn A c.A c.U c.C N w
 le:top<=N
 zs:∀i q,top<=i->i<N->q<w->Mx.g c.A i q=0
 wf:Wf (c.A.take top) top w
 rd:Mx.kb (c.A.take top) top (Mx.bz (c.A.take top))
 bU:∀i q,i<N->(Mx.g c.U i q).natAbs<=2^60000000
 bC:∀i q,i<N->(Mx.g c.C i q).natAbs<=2^60000000
 wg:Wg F m N f
 red:Mx.kb F m (Mx.bz F)
 pK:∀x,(∀q,q<w->(Mx.S N λ n=>x n*Mx.g A n q)=0)↔Mx.bT F m N x
 la:a.length=N
 sum:∀q,q<w->(Mx.S N λ n=>a.getD n 0*Mx.g A n q)=r.getD q 0
 z_:∀i,i<m->0<=a.getD (Mx.bz F i) 0/\a.getD (Mx.bz F i) 0<Mx.g F i (Mx.bz F i)
 tok:∀j,top<=j->j<N->∀i,i<m->∀b∈F.getD i [],IntMulOk (-(Mx.j9 F (Mx.cZ F (c.U.getD j []) i) i)) b
 rest:∀j,top<=j->j<N->Mx.bT F m N (Mx.g c.U j)
def R0(A:List (List Int))(N w:Nat)(r:List Int)(y:D):Prop:=
 (∃a F m f c top,Jh A N w r a F m f c top/\y= .tup [.str "told",aY a,c7 F,c7 c.U,c7 (Mx.gp c.C N)])\/
 (∃ps:List Rat,y= .tup [.str "none",.tup (ps.map je)]/\ps.length=w/\Mx.Pb ps 10000000/\(∀n,n<N->Mx.Wh (Mx.dq ps w (Mx.g A n)))/\¬Mx.Wh (Mx.dq ps w λ c=>r.getD c 0))
structure Jp(A:List (List Int))(N w:Nat)(r:List Int)(y:D):Prop where
 ex:∃top c,Mx.ir A N w top c/\((iP (Mx.cZ (c.A.take top) r top)=none/\∃G,Gf c.U top N G/\y= .tup [.str "told",aY (Mx.cZ G (Mx.fJ (Mx.nJ (c.A.take top) r top) (c.U.take top) (List.replicate N 0)) G.length),c7 G,c7 c.U,c7 (Mx.gp c.C N)])\/
  (∃l b,iP (Mx.cZ (c.A.take top) r top)=some l/\Mx.u9 (c.A.take top) top l ((Mx.cZ (c.A.take top) r top).getD l 0) b/\y= .tup [.str "none",.tup ((Mx.nv (c.A.take top) top w l (Mx.j6 w l b) top).map je)]))
def pq:cY:=λ ds st K=>∃(dr:D) (A:List (List Int)) (r:List Int) (N w e0:Nat) (f:Bool),ds=[c7 (Mx.gp A w),dr]/\items? st dr=some (az r)/\QE A N w r e0/\1<=w/\st[0]?=some (gT f)/\∀st' y,Bk st st'->R0 A N w r y->Jp A N w r y->K y st'
def pE:List Str:=["rows","due","wide","told","form","turn","fallen","steps","answer"]
def Gx:DS:=(aJ (a9 2 (b_ fG (af (aw aU (ae 0) (dC (.int 0))) ak)))
 (aJ (a9 3 (aH nX (af (aH kq (af (ae 0) (af (ae 2) ak))) ak)))
 (aJ (a9 4 (aw aU (ae 3) (dC (.int 0))))
 (aJ (a9 5 (aw aU (ae 3) (dC (.int 1))))
 (aJ (a9 6 (aH p7 (af (ae 4) (af (ae 1) ak))))
 (aJ (ft (bS (aw ur (aH js (af (aw aU (ae 6) (dC (.int 1))) ak)) (dC .aG))) (cy (jb (af (dC (.str "none")) (af (aH lM (af (ae 4) (af (aw aU (ae 6) (dC (.int 1))) ak))) ak)))) fk)
 (aJ (a9 7 (aH ma (af (ae 5) (af (b_ fG (af (ae 4) ak)) ak))))
 (aJ (a9 8 (aH xF (af (ae 7) (af (aH vG (af (aw aU (ae 6) (dC (.int 0))) (af (jF (ae 5) ia (lV (b_ fG (af (ae 4) ak)))) (af (ae 2) ak)))) ak))))
 (cy (jb (af (dC (.str "told")) (af (ae 8) (af (ae 7) (af (ae 5) (af (aw aU (ae 3) (dC (.int 2))) ak)))))))))))))))
def Cb{A:List (List Int)}{N w:Nat}(hA:Mx.cG N w A):Mx.gp (Mx.gp A w) N=A:=
 (Mx.rh (Mx.rh hA)).ext hA λ i j hi hj=>by rw[Mx.Ep (Mx.rh hA) hj hi,Mx.Ep hA hi hj]
def DG{F:List (List Int)}{r:List Int}{m w e f:Nat}(hW:Wg F m w f)(lr:r.length=w)(br:∀c,c<w->(r.getD c 0).natAbs<=2^e)(he:e+m*(f+1)<=130000000):∀i,i<m->∀b∈F.getD i [],IntMulOk (-(Mx.j9 F (Mx.cZ F r i) i)) b:=λ i hi b hb=>by
 obtain⟨l1,l2,_⟩:=hW.lead hi;have bx:=Mx.oH hW.is lr hW.st hW.sm br (Tz hi) _ l1;have bq:(Mx.j9 F (Mx.cZ F r i) i).natAbs<=2^(e+i*(f+1)):=Se (Mx.iK _ l2) bx;have h1:(i+1)*(f+1)<=m*(f+1):=Tx _ hi;rw[VR]at h1;exact dS (by rw[Uo];exact bq) (hW.row hi b hb) (by omega)
def Dr:R9 pq 2 Gx pE:=by
 rintro ds st K ⟨dr,A,r,N,w,e0,f,rfl,hr,⟨hA,n1,n8,w8,bA,lr,br,he0,sz⟩,w1,h0,k⟩;refine⟨rfl,?_⟩;have iT:=Mx.rh hA;have lT:=iT.len;refine aB rfl (show eV ((Mx.gp A w).map aY) 0=some (aY ((Mx.gp A w).getD 0 []))from qQ (k:=0) (by omega)) (dO rfl ?_);rw[Sb,iT.row (i:=0) w1];refine⟨_,Mx.gp A w,N,rfl,oN,iT.fE,by omega,by omega,?_⟩;rw[Cb hA]
 have lo28:Mx.g0 A N 0 (2^e0):=λ i c _ hi=>by
  have lA:=hA.len;unfold Mx.g;by_cases hc:c<(A.getD i []).length
  . exact bA _ (by rw[Mx.aP (by omega)];exact Tg _) _ (getD_mem hc)
  . rw[Mx.jJ (by omega)];exact SM _
 refine⟨_,N,w,e0,A,f,rfl,oN,hA,n1,n8,by omega,lo28,λ t ht=>sz.1 t (by omega),h0,λ st1 top c ld hC H B=>?_⟩;have hW:=NK H hA n8 w8 λ r hr x hx=>Se (bA r hr x hx) (Sv (by decide) he0);have lF:=hW.is.len;have hgF:∀i q,i<top->Mx.g (c.A.take top) i q=Mx.g c.A i q:=λ i q hi=>d9 hi;have t8:=hW.m8;have le:=H.le;have hW0:=hW
 have hrd:Mx.kb (c.A.take top) top (Mx.bz (c.A.take top)):=λ i j hij hj=>by
  have s:Mx.bc (c.A.take top) top w ld:=⟨λ i hi=>by
   obtain⟨h1,h2,h3⟩:=H.lead i hi;exact⟨h1,by rw[d9 hi];exact h2,λ c hc=>by rw[d9 hi];exact h3 c hc⟩,H.mono⟩
  rw[s.bz hj,d9 (Ub hij hj),d9 hj];exact H.red i j hij hj
 generalize hF:c.A.take top=F at hW lF hgF;have br':∀c,c<w->(r.getD c 0).natAbs<=2^70:=λ c hc=>br _ (getD_mem (by omega));refine aB rfl rfl (aB rfl rfl ?_);refine⟨dr,F,r,top,w,887,rfl,hW,uf h0 B.fr hr,lr,DG hW lr br' (by omega),λ st2 X=>?_⟩;have B2:=B.ext X;have lR:=Mx.jX hW.is lr (R_ top);have z_:=Mx.qM hW.is lr hW.st (R_ top);have sm:=Mx.xO hW.is lr (R_ top);have ab:=Mx.oH hW.is lr hW.st hW.sm br' (R_ top);refine aB rfl rfl ⟨_,Mx.cZ F r top,rfl,rfl,?_⟩;cases el:iP (Mx.cZ F r top)with
 |some l=>
  have eD:jW (Mx.cZ F r top)= .int (l:Int):=by unfold jW;rw[el]
  rw[eD];obtain⟨hl,hne,hz⟩:=vh el;rw[lR]at hl;refine sR rfl (fT (aB rfl rfl ⟨F,Mx.cZ F r top,top,w,70+top*(887+1),l,rfl,hW,lR,el,ab,by omega,λ st3 b X3 hb hP=>⟨Ss rfl,?_⟩⟩));have P:=Mx.oY.all b hW.st hl (R_ top);have wF:∀i,i<top->Mx.Wh (Mx.dq (Mx.nv F top w l (Mx.j6 w l b) top) w (Mx.g F i)):=λ i hi=>P.whole hW.st hl hb hne hi;refine k st3 _ (B2.ext X3) (.inr ⟨_,rfl,P.len,hP,λ n hn=>?_,λ z=>?_⟩) ⟨top,c,hC,.inr ⟨l,b,by rw[hF];exact el,by rw[hF];exact hb,by rw[hF]⟩⟩
  . have e1:Mx.dq (Mx.nv F top w l (Mx.j6 w l b) top) w (Mx.g A n)=Mx.dq (Mx.nv F top w l (Mx.j6 w l b) top) w λ q=>Mx.S top λ k=>Mx.g c.C k n*Mx.g F k q:=Mx.vj λ q hq=>by
     rw[H.back hn hq];exact Mx.ax λ k hk=>by rw[hgF k q hk]
    rw[e1,Mx.zU];exact Mx.C_ λ i hi=>(wF i hi).mul _
  . have e1:Mx.dq (Mx.nv F top w l (Mx.j6 w l b) top) w (λ q=>r.getD q 0)=Mx.dq (Mx.nv F top w l (Mx.j6 w l b) top) w (λ q=>(Mx.cZ F r top).getD q 0)+Mx.dq (Mx.nv F top w l (Mx.j6 w l b) top) w (λ q=>Mx.S top λ j=>Mx.j9 F (Mx.cZ F r j) j*Mx.g F j q):=by
     rw[<-Mx.Nq];exact Mx.vj λ q _=>sm q
    have w2:Mx.Wh (Mx.dq (Mx.nv F top w l (Mx.j6 w l b) top) w (λ q=>Mx.S top λ j=>Mx.j9 F (Mx.cZ F r j) j*Mx.g F j q)):=by
     rw[Mx.zU];exact Mx.C_ λ i hi=>(wF i hi).mul _
    refine P.not hW.st hl hb hne hz (λ i hi=>z_.red i hi) ?_;have:=z.add w2.neg;rw[e1]at this;have e2:∀a b:Rat,a+b+ -b=a:=by grind
    rwa [e2]at this
 |none=>
  have eD:jW (Mx.cZ F r top)= .aG:=by unfold jW;rw[el]
  rw[eD];refine sR rfl ?_;obtain⟨f2,t2⟩:=B2.tb;have lU:=H.tn.fv.len;refine dO rfl ?_;rw[Sb,lF]
  have e1lo:∀j q,top<=j->j<N->(Mx.g c.U j q).natAbs<=2^wk N e0 top:=λ j q h1 h2=>by
   unfold wk;by_cases h:top=0
   . rw[Si h,hC.Rq h];show(Mx.g (Mx.units N) j q).natAbs<=1;by_cases hq:q<N
     . rw[Mx.ji h2 hq];unfold Mx.dl;split<;>decide
     . unfold Mx.g;rw[Mx.jJ (by rw[(Mx.r_ N).row h2];omega)];decide
   . rw[Sf h];exact H.lo.2.1 j q h1 h2
  refine⟨c.U,N,top,wk N e0 top,f2,rfl,H.tn.fv,le,n8,λ i q _ hi=>by rw[Mx.Ay];exact e1lo (top+i) q (by omega) (by omega),λ t ht=>(sz.2 top (by omega) t (by omega)).1,t2,λ st3 G m B3 hm hG hred hSame hGf=>?_⟩;have B3':Bk st st3:=⟨Se B2.le B3.le,λ m hm h0=>(B3.fr m (Sw hm B2.le) h0).trans (B2.fr m hm h0),B3.tb⟩
  refine aB rfl rfl (dO rfl (jB ?_));rw[Sb,lF,wM,<-WV];have lw:(Mx.nJ F r top).length=top:=by unfold Mx.nJ;simp
  have wat:∀j,j<top->(Mx.nJ F r top).getD j 0=Mx.j9 F (Mx.cZ F r j) j:=λ j hj=>by
   unfold Mx.nJ;rw[Mx.aP (by simpa using hj),VF,WM]
  obtain⟨szE,szV⟩:=sz.1 top (by omega)
  have bw:∀j,j<top->((Mx.nJ F r top).getD j 0).natAbs<=2^(70+j*(887+1)):=λ j hj=>by
   rw[wat j hj];obtain⟨l1,l2,_⟩:=hW.lead hj;exact Se (Mx.iK _ l2) (Mx.oH hW.is lr hW.st hW.sm br' (Tz hj) _ l1)
  have bu:∀i p,i<top->(Mx.g (c.U.take top) i p).natAbs<=2^Mx.Vz N e0 top:=λ i p hi=>by
   rw[d9 hi];exact(H.hi i p hi).2.1
  have wU:∀q∈c.U.take top,q.length=N:=λ q hq=>H.tn.fv.fE q (U_ hq);have lUt:(c.U.take top).length=top:=by rw[Tr];omega
  refine⟨_,_,N,Mx.nJ F r top,c.U.take top,rfl,rfl,oN,wU,by omega,λ x hx q hq y hy=>?_,?_⟩
  . obtain⟨j,hj,rfl⟩:=SV.mp hx;have bj:=bw j (by omega);rw[Mx.aP hj]at bj;obtain⟨i,hi,rfl⟩:=SV.mp hq;obtain⟨p,hp,rfl⟩:=SV.mp hy;have hU:=bu i p (by omega);unfold Mx.g at hU;rw[Mx.aP hi,Mx.aP hp]at hU;exact dS bj hU (by omega)
  have lW:(Mx.fJ (Mx.nJ F r top) (c.U.take top) (List.replicate N 0)).length=N:=Mx.yo (by simp) wU
  have bW:∀n,n<N->((Mx.fJ (Mx.nJ F r top) (c.U.take top) (List.replicate N 0)).getD n 0).natAbs<=2^(Mx.Vz N e0 top+8000):=λ n hn=>by
   rw[Mx.vE (n:=N) n (by simp) wU (by omega),Mx.eQ,UD,lUt]
   have e3:top*2^(7174+Mx.Vz N e0 top)<=2^(Mx.Vz N e0 top+8000):=by
    refine Se (Tx _ (show top<=2^3 by omega)) ?_;rw[<-Um];exact Sv (by decide) (by omega)
   refine Se (Mx.zk λ j hj=>?_) e3;rw[Tc,Um];exact Tb (Se (bw j hj) (Sv (by decide) (by omega))) (bu j n hj)
  obtain⟨_,sz2,sz3⟩:=sz.2 top (by omega) m (by omega)
  have sum:∀q,q<w->(Mx.S N λ n=>(Mx.fJ (Mx.nJ F r top) (c.U.take top) (List.replicate N 0)).getD n 0*Mx.g A n q)=r.getD q 0:=λ q hq=>by
   refine Mx.GU H lw (λ q hq=>?_) hq;rw[sm q,xm _ 0 el q,UD];exact Mx.ax λ j hj=>by rw[wat j hj,hgF j q hj]
  generalize hWW:Mx.fJ (Mx.nJ F r top) (c.U.take top) (List.replicate N 0)=W at lW bW sum
  have pK:∀x,(∀q,q<w->(Mx.S N λ n=>x n*Mx.g A n q)=0)↔Mx.bT G m N x:=λ x=>by
   rw[H.kernel];exact⟨λ h=>Mx.bT.trans hSame.to h,λ h=>Mx.bT.trans hSame.of h⟩
  have gW:∀j,top<=j->j<N->∀q,q<N->((c.U.getD j []).getD q 0).natAbs<=2^wk N e0 top:=λ j h1 h2 q _=>e1lo j q h1 h2;have hE:2^Mx.Ez N e0 top<=2^60000000:=Sv (by decide) (by omega);have hV:2^Mx.Vz N e0 top<=2^60000000:=Sv (by decide) (by omega);have fl:=Mx.qM hG.is lW hG.st (R_ m);refine⟨_,G,W,m,N,_,rfl,hG,rfl,lW,DG hG lW bW sz2,λ st4 X4=>aB rfl rfl ⟨Ss rfl,?_⟩⟩;refine k st4 _ (B3'.ext X4) (.inl ⟨Mx.cZ G W m,G,m,_,c,top,⟨H.tn,le,H.zs,hW0,hrd,λ i q hi=>?_,λ i q hi=>?_,hG,hred,pK,Mx.jX hG.is lW (R_ m),λ q hq=>?_,λ i hi=>fl.red i hi,λ j h1 h2=>DG hG (H.tn.fv.row h2) (gW j h1 h2) sz3,λ j h1 h2=>?_⟩,rfl⟩) ⟨top,c,hC,.inl ⟨by rw[hF];exact el,G,hGf,by rw[hF,hWW,hG.is.len]⟩⟩
  . by_cases h:i<top
    . exact Se (H.hi i q h).2.1 hV
    . exact Se (H.lo.2.1 i q (Ux h) hi) hE
  . by_cases h:i<top
    . exact Se (H.hi i q h).2.2 hV
    . exact Se (H.lo.2.2 i q (Ux h) hi) hE
  . have d:=(pK λ n=>W.getD n 0-(Mx.cZ G W m).getD n 0).mpr fl.sum q hq
    have e5:(Mx.S N λ n=>(W.getD n 0-(Mx.cZ G W m).getD n 0)*Mx.g A n q)=(Mx.S N λ n=>W.getD n 0*Mx.g A n q)-Mx.S N λ n=>(Mx.cZ G W m).getD n 0*Mx.g A n q:=by
     rw[Tt,<-Mx.mV,<-Mx.f_];exact Mx.ax λ n _=>by rw[Wa,Tt]
    rw[e5,sum q hq]at d;omega
  . refine(pK (Mx.g c.U j)).mp λ q hq=>?_;rw[<-H.tn.ua j q h2 hq];exact H.zs j q h1 h2 hq
structure Hk(st:ag)(n:Nat)(b:Int):Prop where
 ex:∃(cs:List Int) (p q:Int),st[n]?=some (.lst [.lst (az cs),.int p,.int q])/\1<=cs.length/\0<=p/\p<=b/\0<=q
structure Upd(st:ag)(n:Nat)(st':ag):Prop where
 len:st'.length=st.length
 same:∀m,m≠n->st'[m]?=st[m]?
def Upd.refl{st:ag}{n:Nat}:Upd st n st:=⟨rfl,λ _ _=>rfl⟩
def Upd.trans{st st1 st2:ag}{n:Nat}(a:Upd st n st1)(b:Upd st1 n st2):Upd st n st2:=⟨b.len.trans a.len,λ m h=>(b.same m h).trans (a.same m h)⟩
def Upd.set{st:ag}{n:Nat}{c:Cell}:Upd st n (st.set n c):=⟨SO,λ m h=>Sj (Sq h)⟩
def Hk.mono{st:ag}{n:Nat}{b b':Int}(h:Hk st n b)(l:b<=b'):Hk st n b':=let⟨cs,p,q,e,h1,h2,h3,h4⟩:=h.ex;⟨cs,p,q,e,h1,h2,by omega,h4⟩
def Hk.lt{st:ag}{n:Nat}{b:Int}(B:Hk st n b):n<st.length:=by
 obtain⟨_,_,_,e,_⟩:=B.ex;exact(Sg.mp e).1
def Hk.cell{st st':ag}{n:Nat}{b:Int}(B:Hk st n b)(e:st'[n]?=st[n]?):Hk st' n b:=by
 obtain⟨cs,p,q,e1,r⟩:=B.ex;exact⟨cs,p,q,e.trans e1,r⟩
def Cg{st:ag}{n:Nat}{xs ys:List D}{i:Int}{j:Nat}{d:D}{K:ag->Prop}(h:st[n]?=some (.lst xs))(e:j7 xs.length i=some j)(ey:xs.set j d=ys)(k:∀st',st'[n]?=some (.lst ys)->Upd st n st'->K st'):zR (.ref n) (.int i) d st K:=jD h e (by
 rw[ey];exact k _ (Sy (Sg.mp h).1) Upd.set)
def rD:cY:=λ ds st K=>∃ns:List Int,ds=[.lst (ns.map .int)]/\ns.length<=63/\∀st',Hk st' st.length 0->Ext st st'->K (.ref st.length) st'
def nM:List Str:=["_law_script","_law_cells","_law_rest_here"]
def DR:DS:=(aJ (a9 1 (aw eC (jF (ae 0) ia (lV (dC (.int 63)))) (nD (af (dC (.int 7)) ak))))
 (aJ (a9 2 (b_ qh (af (aw aU (ae 1) (dC (.int 0))) ak)))
 (cy (Ax (af (ae 1) (af (dC (.int 0)) (af (aw dh (ae 2) (b_ xy (af (aw Bm (ae 2) (aw tm (dC (.int 10)) (dC (.int 18)))) ak))) ak)))))))
def BN:R9 rD 1 DR nM:=by
 rintro ds st K ⟨ns,rfl,hl,k⟩;refine⟨rfl,?_⟩;refine Ew ⟨Ss rfl,?_⟩;rw[show(63:Int)=((63:Nat):Int)from rfl,wM,<-WV];refine x3 (bZ (by rw[Sb,Tr];simp;omega)) ?_;rw[ints_app];have l1:1<=(ns.take 63++[7]).length:=by simp
 generalize ns.take 63++[7]=cs at l1;refine aB rfl (dF (k:=0) (by omega)) (qy ?_);generalize hx:(((cs.getD 0 0).natAbs:Nat):Int)=x;have x0:0<=x:=by omega
 refine vY ⟨by decide,by decide,by decide⟩ ?_;have fin:∀q:Int,0<=q->(K (.ref st.length) (st++[.lst [.lst (az cs),.int 0,.int q]])):=λ q hq=>k _ ⟨cs,0,q,by simp,l1,Vu _,Vu _,hq⟩ Ext.push;by_cases h:(10:Int)^(18:Int).toNat<=x
 . refine RX h (uj (dm (uF (by decide) (by decide)) ⟨Ss rfl,?_⟩));exact fin (x*1) (by omega)
 . refine Rz (by omega) (uj (dm (uF (by decide) (by decide)) ⟨Ss rfl,?_⟩));exact fin (x*0) (by omega)
def bV:cY:=λ ds st K=>∃(n:Nat) (m b:Int),ds=[.ref n,.int m]/\Hk st n b/\b<=1000000000/\0<m/\m<2^62/\∀r st',0<=r->r<m->Hk st' n (b+1)->Upd st n st'->K (.int r) st'
def nL:List Str:=["_law_hand_here","_law_many","_law_digit","_law_cell","_law_once"]
def Dv:DS:=(aJ (ft (bS (aw sU (aw aU (ae 0) (dC (.int 2))) (dC (.int 0)))) (aJ (a9 2 (aw kF (aw aU (ae 0) (dC (.int 2))) (ae 1)))
 (aJ (gm (ae 0) (dC (.int 2)) (aw si (aw aU (ae 0) (dC (.int 2))) (ae 1)))
 (cy (ae 2)))) fk)
 (aJ (gm (ae 0) (dC (.int 1)) (aw eC (aw aU (ae 0) (dC (.int 1))) (dC (.int 1))))
 (aJ (a9 3 (aw aU (aw aU (ae 0) (dC (.int 0))) (aw kF (aw aU (ae 0) (dC (.int 1))) (b_ fG (af (aw aU (ae 0) (dC (.int 0))) ak)))))
 (aJ (a9 4 (aw kF (aw dh (aw eC (aw eC (aw kF (ae 3) (dC (.int 2147483647))) (aw dh (dC (.int 7919)) (aw aU (ae 0) (dC (.int 1))))) (dC (.int 1))) (dC (.int 48271))) (dC (.int 2147483647))))
 (cy (aw kF (aw si (aw kF (aw dh (ae 4) (aw eC (aw kF (ae 4) (dC (.int 1009))) (dC (.int 1)))) (dC (.int 2147483629))) (dC (.int 3))) (ae 1)))))))
def Fx{m:Int}(h0:0<m)(h:m<2^62):m.natAbs.log2<9000:=by
 have:m.natAbs.log2<62:=(Nat.log2_lt (by omega)).mpr (by omega);omega
def Ev(A:DE)(σ:cm)(st:ag)(d:D):Prop:=∀K:DK,K d st->A σ st K
def rB{x:D->D->ag->DK->Prop}{A B:DE}{σ:cm}{st:ag}{a b d:D}(hA:Ev A σ st a)(hB:Ev B σ st b)(hx:∀K:DK,K d st->x a b st K):Ev (aw x A B) σ st d:=λ K k=>hA _ (hB _ (hx K k))
def xU{σ:cm}{st:ag}{d:D}:Ev (dC d) σ st d:=λ K k=>k
def Gp{i:Nat}{σ:cm}{st:ag}{d:D}(h:σ[i]?=some (some d)):Ev (ae i) σ st d:=λ K k=>zN h k
def Ng{i:Nat}{A:DE}{B:DS}{E:oi}{σ:cm}{st:ag}{d:D}(h:Ev A σ st d)(k:B E (σ.set i (some d)) st):aJ (a9 i A) B E σ st:=h _ k
def FY{σ:cm}{st:ag}{n:Nat}{cs:List Int}{x p q:Int}(h3:σ[3]?=some (some (.int x)))(h0:σ[0]?=some (some (.ref n)))(e:st[n]?=some (.lst [.lst (az cs),.int p,.int q])):Ev (aw kF (aw dh (aw eC (aw eC (aw kF (ae 3) (dC (.int 2147483647))) (aw dh (dC (.int 7919)) (aw aU (ae 0) (dC (.int 1))))) (dC (.int 1))) (dC (.int 48271))) (dC (.int 2147483647))) σ st (.int (((x.fmod 2147483647+7919*p+1)*48271).fmod 2147483647)):=by
 have a1:Ev (aw kF (ae 3) (dC (.int 2147483647))) σ st (.int (x.fmod 2147483647)):=rB (Gp h3) xU λ K k=>nh (by decide) k;have a0:Ev (aw aU (ae 0) (dC (.int 1))) σ st (.int p):=rB (Gp h0) xU λ K k=>aB (aO e) (by rfl) k;have a2:Ev (aw dh (dC (.int 7919)) (aw aU (ae 0) (dC (.int 1)))) σ st (.int (7919*p)):=rB xU a0 λ K k=>dm (iV (by decide) (by decide)) k;have a3:=rB (d:= .int (x.fmod 2147483647+7919*p)) a1 a2 λ K k=>fY k;have a4:=rB (d:= .int (x.fmod 2147483647+7919*p+1)) a3 (xU (d:= .int 1)) λ K k=>fY k;have a5:=rB (d:= .int ((x.fmod 2147483647+7919*p+1)*48271)) a4 (xU (d:= .int 48271)) λ K k=>dm (uF (by decide) (by decide)) k;exact rB a5 (xU (d:= .int 2147483647)) λ K k=>nh (by decide) k
def BQ:R9 bV 2 Dv nL:=by
 rintro ds st K ⟨n,m,b,rfl,⟨cs,p,q,e,hl,hp,hb,hq⟩,hb2,hm0,hm1,k⟩;refine⟨rfl,?_⟩;refine aB (aO e) (by rfl) (Jg (λ h=>fT ?_) λ h=>?_)
 . refine aB (aO e) (by rfl) (nh (by omega) (aB (aO e) (by rfl) (xH (by omega) (Fx hm0 hm1) ?_)));refine Cg (ys:=[.lst (az cs),.int p,.int (q.fdiv m)]) e (by rfl) (by rfl) λ st1 e1 U1=>?_;exact k _ _ (Th _ hm0) (TC _ hm0) ⟨cs,p,_,e1,hl,hp,by omega,by rw[UY _ (by omega)];exact Int.ediv_nonneg hq (by omega)⟩ U1
 . refine aB (aO e) (by rfl) (fY (Cg (ys:=[.lst (az cs),.int (p+1),.int q]) e (by rfl) (by rfl) λ st1 e1 U1=>?_));have hcl:(0:Int)<((cs.length:Nat):Int):=by omega
   refine aB (aO e1) (by rfl) (aB (aO e1) (by rfl) (aB (aO e1) (by rfl) (dO rfl ?_)));rw[Sb];refine nh (by omega) ?_;obtain⟨j,hj⟩:=Up (Th (p+1) hcl);have hj2:=TC (p+1) hcl;rw[hj]at hj2⊢;refine aB rfl (dF (by omega)) ?_;generalize cs.getD j 0=x;refine Ng (σ:=[some (.ref n),some (.int m),none,some (.int x),none]) (FY (x:=x) (p:=p+1) rfl rfl e1) ?_;have y0:=Th ((x.fmod 2147483647+7919*(p+1)+1)*48271) (show(0:Int)<2147483647 by decide);have y1:=TC ((x.fmod 2147483647+7919*(p+1)+1)*48271) (show(0:Int)<2147483647 by decide);generalize((x.fmod 2147483647+7919*(p+1)+1)*48271).fmod 2147483647=u at y0 y1⊢;refine nh (by decide) (fY (dm (iV (by omega) (by omega)) (nh (by decide) (xH (by decide) (by decide+kernel) (nh (by omega) ?_)))));exact k _ _ (Th _ hm0) (TC _ hm0) ⟨cs,p+1,q,e1,hl,by omega,by omega,hq⟩ U1
def tH:cY:=λ ds st K=>∃(x y:D) (r s:List Int),ds=[x,y]/\items? st x=some (az r)/\items? st y=some (az s)/\r.length<=1000/\(∀a∈r,∀b∈s,IntMulOk a b)/\K (.int (Mx.qj r s)) st
def pX:List Str:=["_law_one","_law_other"]
def FD:DS:=(cy (b_ Bu (af (cT (tu (af (ae 0) (af (ae 1) ak))) [none,none] (gz 0 1) cF (aw dh (ae 0) (ae 1))) ak)))
def CL:∀(r s:List Int),∃ns:List Int,(gg (az r) (az s)).map (λ d=>match d with| .tup [.int a,.int b]=> .int (a*b)|_=> .aG)=az ns/\ns.sum=Mx.qj r s
 | [],_=>⟨[],rfl,rfl⟩
 |_::_,[]=>⟨[],rfl,rfl⟩
 |a::r,b::s=>by
  obtain⟨ns,h1,h2⟩:=CL r s;refine⟨a*b::ns,?_,?_⟩
  . have e:gg (az (a::r)) (az (b::s))= .tup [.int a,.int b]::gg (az r) (az s):=rfl;rw[e,TH,h1];rfl
  . rw[List.sum_cons,h2];rfl
def D8:R9 tH 2 FD pX:=by
 rintro ds st K ⟨x,y,r,s,rfl,hx,hy,hl,hm,k⟩;refine⟨rfl,?_⟩;refine qG hx hy λ ok aL=>⟨bZ (by rw[pe];simp;omega),?_⟩
 obtain⟨ns,h1,h2⟩:=CL r s;refine comp_map (g:=λ d=>match d with| .tup [.int a,.int b]=> .int (a*b)|_=> .aG) (aL st hx hy) _ (λ d hd K' q=>?_) ?_
 . obtain⟨a,b,ha,hb,rfl⟩:=sf hd;exact⟨_,rfl,dm (hm a ha b hb) q⟩
 . rw[h1];refine Mi (ints_map _) ?_;rw[h2];exact k
structure XU(st:ag)(n:Nat)(st':ag):Prop where
 len:st.length<=st'.length
 same:∀m,m<st.length->m≠n->st'[m]?=st[m]?
def XU.trans{st st1 st2:ag}{n:Nat}(a:XU st n st1)(b:XU st1 n st2):XU st n st2:=⟨Se a.len b.len,λ m h g=>(b.same m (Sw h a.len) g).trans (a.same m h g)⟩
def XU.upd{st st1:ag}{n:Nat}(a:Upd st n st1):XU st n st1:=⟨by rw[a.len];exact R_ _,λ m _ g=>a.same m g⟩
def XU.ext{st st1:ag}{n:Nat}(a:Ext st st1):XU st n st1:=⟨a.len,λ m h _=>a.same m h⟩
def XU.set{st st1:ag}{n k:Nat}{c:Cell}(a:XU st n st1)(h:st.length<=k):XU st n (st1.set k c):=⟨by rw[SO];exact a.len,λ m hm g=>by rw[Sj (by omega)];exact a.same m hm g⟩
def lh:cY:=λ ds st K=>∃(x y:D) (r s:List Int) (t:Int),ds=[x,y,.int t]/\items? st x=some (az r)/\items? st y=some (az s)/\r.length<=1000/\(∀b∈s,IntMulOk t b)/\K (aI (Mx.fR r (-t) s)) st
def nS:List Str:=["_law_row","_law_other","_law_many"]
def D5:DS:=(cy (cT (tu (af (ae 0) (af (ae 1) ak))) [none,none,some 2] (gz 0 1) cF (aw kJ (ae 0) (aw dh (ae 2) (ae 1)))))
def BA{t:Int}:∀(r s:List Int),(gg (az r) (az s)).map (λ d=>match d with| .tup [.int a,.int b]=> .int (a-t*b)|_=> .aG)=az (Mx.fR r (-t) s)
 | [],_=>rfl
 |_::_,[]=>rfl
 |a::r,b::s=>by
  have:=BA (t:=t) r s;unfold gg Mx.fR at this⊢;simp only[az,TH,WN,Wb]at this⊢;rw[this,UC,Tt]
def BK:R9 lh 3 D5 nS:=by
 rintro ds st K ⟨x,y,r,s,t,rfl,hx,hy,hl,hm,k⟩;refine⟨rfl,?_⟩;refine qG hx hy λ ok aL=>⟨bZ (by rw[pe];simp;omega),?_⟩
 refine comp_map (g:=λ d=>match d with| .tup [.int a,.int b]=> .int (a-t*b)|_=> .aG) (aL st hx hy) _ (λ d hd K' q=>?_) ?_
 . obtain⟨a,b,ha,hb,rfl⟩:=sf hd;exact⟨_,rfl,dm (hm b hb) (lg q)⟩
 . rw[BA];exact k
def gc{p:List Int->Bool}{f mk:List Int->D}{tg:f9}{c:DT}{te:DE}{ok:ag->Prop}{σc:cm}{st:ag}{K:List D->ag->Prop}(aL:ok st)(X:List (List Int))(hx:∀r∈X,∃σ2,tg (mk r) σc=some σ2/\(∀K',K' (p r) st->c σ2 st K')/\∀K',K' (f r) st->te σ2 st K')(k:K ((X.filter p).map f) st):dA tg c te ok σc (X.map mk) [] st K:=by
 refine gu (λ rest acc st'=>st=st'/\∃X1 X2,X1++X2=X/\rest=X2.map mk/\acc=(X1.filter p).map f) ?_ ?_ _ _ _ ⟨rfl,[],X,rfl,rfl,rfl⟩
 . rintro acc st' ⟨rfl,X1,X2,e,e2,rfl⟩;match X2,e2 with
   | [],_=>rw[TZ]at e;rw[e];exact⟨aL,k⟩
 . rintro x rest acc st' ⟨rfl,X1,X2,e,e2,rfl⟩ next
   match X2,e2,e with
   |y::X2,e2,e=>
    obtain⟨rfl,rfl⟩:=VH e2;obtain⟨σ2,h1,h2,h3⟩:=hx y (by rw[<-e];simp);refine⟨aL,σ2,h1,h2 _ ?_⟩;by_cases hp:p y=true
    . rw[Si hp];refine h3 _ (next _ _ ⟨rfl,X1++[y],X2,by rw[UZ];exact e,rfl,?_⟩);rw[US,V2 hp];simp
    . rw[Sf hp];refine next _ _ ⟨rfl,X1++[y],X2,by rw[UZ];exact e,rfl,?_⟩
      rw[US,V3 hp,List.filter_nil,TZ]
structure F6(X O:List (List Int))(f:List Int)(p W e:Nat):Prop where
 same:Mx.jL X (O++[f]) W
 wO:∀r∈O,r.length=W
 wf:f.length=W
 zO:∀r∈O,∀c,c<p+1->r.getD c 0=0
 zf:∀c,c<p->f.getD c 0=0
 f0:f.getD p 0≠0
 ln:O.length+1=X.length
 bO:∀r∈O,∀c,(r.getD c 0).natAbs<=2^e
 bf:∀c,(f.getD c 0).natAbs<=2^e
def ui:cY:=λ ds st K=>∃(X:List (List Int)) (p W e:Nat),ds=[.lst (X.map aI),.int p]/\(∀r∈X,r.length=W)/\p<W/\W<=16/\X.length<=8/\(∀r∈X,∀c,(r.getD c 0).natAbs<=2^e)/\(∀r∈X,∀c,c<p->r.getD c 0=0)/\e<=10000000/\
 ((∀r∈X,r.getD p 0=0)->∀st',Ext st st'->K (.tup [.lst (X.map aI),.aG]) st')/\∀st' O f,Ext st st'->F6 X O f p W (6*e+4)->K (.tup [.lst (O.map aI),aI f]) st'
def pR:List Str:=["_law_rows","_law_column","_law_others","_law_some","_law_sizes","_law_first"]
def Fb:DS:=(aJ (a9 2 (cT (dz (ae 0)) [none,some 1] (a8 0) (bS (aw kP (aw aU (ae 0) (ae 1)) (dC (.int 0)))) (ae 0)))
 (aJ (a9 3 (lS (dz (ae 0)) [none,some 1] (a8 0) (bS (aw nG (aw aU (ae 0) (ae 1)) (dC (.int 0)))) (ae 0)))
 (aJ (tO (bS (aw sU (b_ fG (af (ae 3) ak)) (dC (.int 1)))) (aJ (a9 4 (cT (dz (ae 3)) [none,some 1] (a8 0) cF (b_ qh (af (aw aU (ae 0) (ae 1)) ak))))
 (aJ (a9 5 (se pQ (ae 3) (af (yd (ae 4) (af (b_ wa (af (ae 4) ak)) ak)) ak)))
 (aJ (a9 3 (lS (dz (ae 3)) [none,some 5,some 1] (a8 0) cF (aH lh (af (ae 0) (af (ae 1) (af (aw gN (aw aU (ae 0) (ae 2)) (aw aU (ae 1) (ae 2))) ak))))))
 (aJ (a9 2 (aw eC (ae 2) (cT (dz (ae 3)) [none,some 1] (a8 0) (bS (aw kP (aw aU (ae 0) (ae 1)) (dC (.int 0)))) (ae 0))))
 (a9 3 (aw wb (nD (af (ae 5) ak)) (cT (dz (ae 3)) [none,some 1] (a8 0) (bS (aw nG (aw aU (ae 0) (ae 1)) (dC (.int 0)))) (ae 0)))))))))
 (cy (jb (af (ae 2) (af (aw aU (aw vX (ae 3) (nD (af (dC .aG) ak))) (dC (.int 0))) ak)))))))
def QL{σ:cm}{st:ag}{K:DK}{n:Nat}{xs:List D}{to:DE}{ta:DA}(ho:∀K',K' (.ref n) st->to σ st K')(e:st[n]?=some (.lst xs))(ha:ta σ st λ ds st2=>(∃ys,st2[n]?=some (.lst ys))/\pQ n ds st2 K):se pQ to ta σ st K:=by
 unfold se;refine ho _ ?_;simp only[e];exact ha
def QT{st2:ag}{K:DK}{n:Nat}{ys:List D}{i:Int}{j:Nat}{d:D}(e2:st2[n]?=some (.lst ys))(h63: -(2^63)<=i/\i<2^63)(ej:j7 ys.length i=some j)(ed:ys[j]?=some d)(k:K d (st2.set n (.lst (ys.eraseIdx j)))):(∃ys,st2[n]?=some (.lst ys))/\pQ n [.int i] st2 K:=by
 refine⟨⟨ys,e2⟩,?_⟩;unfold pQ;simp only[e2,ej,ed];exact⟨h63,k⟩
def pY:∀(l:List (List Int)) (j:Nat),(l.map aI).eraseIdx j=(l.eraseIdx j).map aI
 | [],_=>rfl
 |_::_,0=>rfl
 |x::l,j+1=>by
  show aI x::(l.map aI).eraseIdx j=aI x::(l.eraseIdx j).map aI;rw[pY l j]
def vP(p:Nat):∀Y:List (List Int),(Y.filter λ r=>decide (r.getD p 0=0)).length+(Y.filter λ r=>decide (r.getD p 0≠0)).length=Y.length
 | []=>rfl
 |y::Y=>by
  have ih:=vP p Y;by_cases h:y.getD p 0=0
  . rw[V2 (by simpa using h),V3 (by simpa using h),SY,SY];omega
  . rw[V3 (by simpa using h),V2 (by simpa using h),SY,SY];omega
def Ko{O Y:List (List Int)}{r0:List Int}{p n:Nat}(h:O.length+(Y.length+1)=n):(O++Y.filter λ r=>decide (r.getD p 0=0)).length+(r0::Y.filter λ r=>decide (r.getD p 0≠0)).length=n:=by
 rw[TB,SY];have:=vP p Y;omega
def GW{p w c:Nat}{f r:List Int}(hf:f.length=w)(hr:r.length=w)(zf:f.getD c 0=0)(zr:r.getD c 0=0):(Mx.cU p f r).getD c 0=0:=by
 rw[Mx.ot hf hr,zf,zr,SX];rfl
def Dj:R9 ui 2 Fb pR:=by
 rintro ds st K ⟨X,p,W,e,rfl,wX,hp,W16,l8,bX,zX,he,kn,ks⟩;refine⟨rfl,?_⟩;have eqz:∀(r:List Int),r.length=W->∀(st:ag) (K':Bool->ag->Prop),K' (decide (r.getD p 0=0)) st->aU (aI r) (.int p) st λ x st1=>kP x (.int 0) st1 λ d st2=>match d with| .bl b=>K' b st2|_=>False:=λ r hr st K' q=>aB rfl (dF (by rw[hr];exact hp)) (eq2 (λ h=>by rw[TF h]at q;exact q) λ h=>by rw[Tf h]at q;exact q)
 have nez:∀(r:List Int),r.length=W->∀(st:ag) (K':Bool->ag->Prop),K' (decide (r.getD p 0≠0)) st->aU (aI r) (.int p) st λ x st1=>nG x (.int 0) st1 λ d st2=>match d with| .bl b=>K' b st2|_=>False:=λ r hr st K' q=>aB rfl (dF (by rw[hr];exact hp)) (ne2 (λ h=>by rw[TF h]at q;exact q) λ h=>by rw[Tf (by simpa using h)]at q;exact q)
 refine oM ⟨bZ (by rw[Sb];omega),?_⟩;refine gc (p:=λ r=>decide (r.getD p 0=0)) (f:=aI) (mk:=aI) trivial X (λ r hr=>⟨_,rfl,λ K' q=>eqz r (wX r hr) st K' q,λ K' q=>q⟩) ?_;refine oM ⟨bZ (by rw[Sb];omega),?_⟩;refine gc (p:=λ r=>decide (r.getD p 0≠0)) (f:=aI) (mk:=aI) trivial X (λ r hr=>⟨_,rfl,λ K' q=>nez r (wX r hr) st K' q,λ K' q=>q⟩) ?_;have B0:9*2^(6*e)<=2^(6*e+4):=by rw[Um,Uj];exact TR _ (by decide)
 have eup:2^e<=2^(6*e+4):=Sv (by decide) (by omega);refine⟨λ m σ st'=>∃(O X':List (List Int)) (n B:Nat) (sg:Bool) (v4 v5:Option D),σ=[some (.lst (X.map aI)),some (.int p),some (.lst (O.map aI)),some (.ref n),v4,v5]/\st'[n]?=some (.lst (X'.map aI))/\st.length<=n/\Ext st st'/\Mx.jL X (O++X') W/\(∀r∈O,r.length=W/\(∀c,c<p+1->r.getD c 0=0)/\∀c,(r.getD c 0).natAbs<=2^(6*e+4))/\(∀r∈X',∀c,c<p->r.getD c 0=0)/\Mx.Pt X' p W B sg/\(if sg then B else 3*B)<=3*2^(6*e)/\O.length+X'.length=X.length/\(X'.length<=1\/∃r∈X',(r.getD p 0).natAbs<=m)/\(X'=[]->O=X),⟨2^e,X.filter (λ r=>decide (r.getD p 0=0)),X.filter (λ r=>decide (r.getD p 0≠0)),st.length,2^(6*e),false,none,none,rfl,VB,R_ _,Ext.push,⟨λ r hr=>?_,λ r hr=>?_⟩,λ r hr=>?_,λ r hr=>?_,.start (λ r hr=>wX r (Td.mp hr).1) (λ r hr=>by simpa using(Td.mp hr).2) λ r hr=>bX r (Td.mp hr).1,R_ _,?_,?_,λ z=>?_⟩,?_⟩
 . by_cases z:r.getD p 0=0
   . exact Mx.cS.mem (SS _ (Td.mpr ⟨hr,TF z⟩))
   . exact Mx.cS.mem (So _ (Td.mpr ⟨hr,TF z⟩))
 . rcases SE.mp hr with h|h<;>exact Mx.cS.mem (Td.mp h).1
 . obtain⟨h1,h2⟩:=Td.mp hr;refine⟨wX r h1,λ c hc=>?_,λ c=>Se (bX r h1 c) eup⟩;by_cases z:c=p
   . subst z;simpa using h2
   . exact zX r h1 c (by omega)
 . exact zX r (Td.mp hr).1
 . exact vP p X
 . cases hX:X.filter (λ r=>decide (r.getD p 0≠0))with
   |nil=>exact .inl (SM _)
   |cons r rs=>
    have hr:r∈X.filter (λ r=>decide (r.getD p 0≠0)):=by rw[hX];exact SD
    exact .inr ⟨r,SD,bX r (Td.mp hr).1 p⟩
 . refine UK.mpr λ r hr=>?_;have:=Wc.mp z r hr;simpa using this
 rintro m σ st' ⟨O,X',n,B,sg,v4,v5,rfl,en,hn,XX,sam,hO,zX',pt,hB,ln,ms,hnil⟩;have lX':X'.length<=8:=by omega
 refine dO (aO en) ?_;rw[Sb];refine Jg (λ h=>?_) λ h=>?_
 . have h2:2<=X'.length:=by omega
   refine fT ?_;refine qv (aO en) λ ok aL=>⟨bZ (by rw[Sb];omega),?_⟩
   refine gc (p:=λ _=>true) (f:=λ r=> .int ((r.getD p 0).natAbs:Nat)) (mk:=aI) (aL _ (aO en)) X' (λ r hr=>⟨_,rfl,λ K' q=>q,λ K' q=>aB rfl (dF (by rw[pt.fE r hr];exact hp)) (qy q)⟩) ?_
   have ef:(X'.filter λ _=>true).map (λ r=>D.int (((r.getD p 0).natAbs:Nat):Int))=az (X'.map λ r=>(((r.getD p 0).natAbs:Nat):Int)):=by
    rw[UK.mpr λ _ _=>rfl];unfold az;rw[Ta];rfl
   rw[ef];refine QL (λ K' q=>q) en ?_;refine J_ (λ K' q=>q) ?_;refine KJ (ints_map _) (λ z=>by have:=Ui List.length z;rw[Sb,UW]at this;omega) λ mm hm hle=>?_;dsimp only[ak];refine J3 (ints_map _) hm λ j hj ej=>?_;rw[Sb]at hj;have ej':X'[j]?=some (X'.getD j []):=by rw[Mx.aP hj];exact Sm hj
   generalize hr0:X'.getD j []=r0 at ej';have m0:r0∈X':=S8 ej'
   have emm:mm=(((r0.getD p 0).natAbs:Nat):Int):=by
    rw[SF,ej']at ej;exact(Tq ej).symm
   have least:∀r∈X',(r0.getD p 0).natAbs<=(r.getD p 0).natAbs:=λ r hr=>by
    have:=hle _ (SJ.mpr ⟨r,hr,rfl⟩);omega
   have w0:=pt.fE r0 m0;have n0:=pt.nz r0 m0;refine QT en ⟨by omega,by omega⟩ (Et (by omega) (by rw[Sb];omega)) (show(X'.map aI)[(j:Int).toNat]?=some (aI r0) by rw[SH,SF,ej'];rfl) ?_;rw[SH,pY];have hnl:=(Sg.mp en).1;have en2:(st'.set n (.lst ((X'.eraseIdx j).map aI)))[n]?=some (.lst ((X'.eraseIdx j).map aI)):=Sy hnl;have XX2:=XX.set (c:= .lst ((X'.eraseIdx j).map aI)) hn;generalize st'.set n (.lst ((X'.eraseIdx j).map aI))=st2 at en2 XX2;have sub:∀r∈X'.eraseIdx j,r∈X':=λ r hr=>VW hr;have le':(X'.eraseIdx j).length+1=X'.length:=by rw[List.length_eraseIdx,Si hj];omega
   obtain⟨pt2,hY⟩:=pt.pass h2 m0 least sub
   have b3:3*B<=2^(6*e+4):=by
    cases sg with
    |true=>have:B<=3*2^(6*e):=hB
           omega
    |false=>have:3*B<=3*2^(6*e):=hB
            omega
   refine qv (aO en2) λ ok2 hok2=>⟨bZ (by rw[Sb];omega),?_⟩
   refine gc (p:=λ _=>true) (f:=λ r=>aI (Mx.cU p r0 r)) (mk:=aI) (hok2 _ (aO en2)) (X'.eraseIdx j) (λ r hr=>⟨_,rfl,λ K' q=>q,λ K' q=>?_⟩) ?_
   . have wr:=pt.fE r (sub r hr);refine aB rfl (dF (by rw[wr];exact hp)) (aB rfl (dF (by rw[w0];exact hp)) (gR n0 ⟨_,_,r,r0,_,rfl,rfl,rfl,by omega,λ b hb=>?_,q⟩))
     have h1:((r.getD p 0).fdiv (r0.getD p 0)).natAbs<=2^(6*e+5):=by
      have ee:=TU (r.getD p 0) (r0.getD p 0);have s2:=(Mx.mF (a:=r.getD p 0) n0).2;have br:=Se (pt.bd r (sub r hr) p) b3;have b0:=Se (pt.bd r0 m0 p) b3;have:(r0.getD p 0*(r.getD p 0).fdiv (r0.getD p 0)).natAbs<=2^(6*e+4)+2^(6*e+4):=by omega
      rw[Tc]at this;have h4:2^(6*e+5)=2^(6*e+4)+2^(6*e+4):=by rw[T3];omega
      rw[h4];exact Se (Vw _ (by omega)) this
     obtain⟨cc,hcc,rfl⟩:=SV.mp hb;have hb0:=Se (pt.bd r0 m0 cc) b3;rw[Mx.aP hcc]at hb0;exact dS h1 hb0 (by omega)
   rw[UK.mpr λ _ _=>rfl];have eY:(X'.eraseIdx j).map (λ r=>aI (Mx.cU p r0 r))=((X'.eraseIdx j).map (Mx.cU p r0)).map aI:=by rw[Ta];rfl
   rw[eY];have lY:((X'.eraseIdx j).map (Mx.cU p r0)).length+1=X'.length:=by rw[Sb];exact le'
   have samP:=Mx.jL.pass (O:=O) (p:=p) ej' pt.fE
   have zY:∀r∈(X'.eraseIdx j).map (Mx.cU p r0),∀c,c<p->r.getD c 0=0:=λ r hr c hc=>by
    obtain⟨s,hs,rfl⟩:=SJ.mp hr;exact GW w0 (pt.fE s (sub s hs)) (zX' r0 m0 c hc) (zX' s (sub s hs) c hc)
   generalize hYY:(X'.eraseIdx j).map (Mx.cU p r0)=Y at lY samP zY hY pt2;have en3:(st2++[Cell.lst (Y.map aI)])[st2.length]?=some (.lst (Y.map aI)):=VB;have XX3:=XX2.trans (Ext.push (c:=[Cell.lst (Y.map aI)]));have l2n:=XX2.len;generalize hst3:st2++[Cell.lst (Y.map aI)]=st3 at en3 XX3;refine qv (aO en3) λ ok3 hok3=>⟨bZ (by rw[Sb];omega),?_⟩
   refine gc (p:=λ r=>decide (r.getD p 0=0)) (f:=aI) (mk:=aI) (hok3 _ (aO en3)) Y (λ r hr=>⟨_,rfl,λ K' q=>eqz r (hY r hr).1 st3 K' q,λ K' q=>q⟩) ?_;have lf:∀q:List Int->Bool,(Y.filter q).length<=8:=λ q=>Se (List.length_filter_le ..) (by omega);refine x3 (by rw[Uc,Sb,Sb];exact Se (Nat.add_le_add (show O.length<=8 by omega) (lf _)) (by decide)) ?_;rw[<-UG];refine⟨Ss rfl,?_⟩;refine qv (aO en3) λ ok4 hok4=>⟨bZ (by rw[Sb];omega),?_⟩
   refine gc (p:=λ r=>decide (r.getD p 0≠0)) (f:=aI) (mk:=aI) (hok4 _ (aO en3)) Y (λ r hr=>⟨_,rfl,λ K' q=>nez r (hY r hr).1 st3 K' q,λ K' q=>q⟩) ?_;refine Kh (by rw[Uc,Sb];exact Se (Nat.add_le_add_left (lf _) 1) (by decide)) ?_;refine⟨(r0.getD p 0).natAbs-1,?_,O++Y.filter (λ r=>decide (r.getD p 0=0)),r0::Y.filter (λ r=>decide (r.getD p 0≠0)),st3.length,if sg then B else 3*B,true,_,_,rfl,VB,by have:=XX3.len;omega,XX3.trans Ext.push,sam.trans samP,λ r hr=>?_,λ r hr=>?_,pt2,hB,?_,?_,λ z=>by cases z⟩
   . rcases ms with z|⟨r,hr,z⟩
     . omega
     . have:=least r hr;omega
   . rcases SE.mp hr with z|z
     . exact hO r z
     . obtain⟨z1,z2⟩:=Td.mp z;refine⟨(hY r z1).1,λ c hc=>?_,λ c=>Se ((hY r z1).2 c) b3⟩;by_cases q:c=p
       . subst q;simpa using z2
       . exact zY r z1 c (by omega)
   . rcases SA.mp hr with rfl|z
     . exact zX' r m0
     . exact zY r (Td.mp z).1
   . exact Ko (by omega)
   . cases hZ:Y.filter (λ r=>decide (r.getD p 0≠0))with
     |nil=>exact .inl (R_ _)
     |cons y ys=>
      have hy:y∈Y.filter (λ r=>decide (r.getD p 0≠0)):=by rw[hZ];exact SD
      have hy1:=(Td.mp hy).1;refine .inr ⟨y,SG _ SD,?_⟩;rw[<-hYY]at hy1;obtain⟨s,hs,rfl⟩:=SJ.mp hy1;have:=(Mx.mF (a:=s.getD p 0) n0).2;rw[Mx.Gh w0 (pt.fE s (sub s hs))];omega
 . have l1:X'.length<=1:=by omega
   refine⟨Ss rfl,KU en (by rw[Uc,Sb];simp;omega) ?_⟩;match X',l1 with
   | [],_=>
     have:=hnil rfl;subst this;refine aB rfl rfl ⟨Ss rfl,kn (λ r hr=>(hO r hr).2.1 p (S0 p)) st' XX⟩
   | [f],_=>
     have m1:f∈[f]:=Te.mpr rfl
     have b3:3*B<=2^(6*e+4):=by
      cases sg with
      |true=>have:B<=3*2^(6*e):=hB
             omega
      |false=>have:3*B<=3*2^(6*e):=hB
              omega
     refine aB rfl rfl ⟨Ss rfl,ks st' O f XX ⟨sam,λ r hr=>(hO r hr).1,pt.fE f m1,λ r hr=>(hO r hr).2.1,zX' f m1,pt.nz f m1,by simpa using ln,λ r hr=>(hO r hr).2.2,λ c=>Se (pt.bd f m1 c) b3⟩⟩
def Ac(e:Nat):Nat->Nat
 |0=>e
 |t+1=>6*Ac e t+4
def MP(e:Nat):Nat->Nat
 |0=>0
 |t+1=>MP e t+Ac e (t+1)+1
def AG(N e:Nat):Prop:=∀t,t<N->Ac e t<=10000000/\MP e t+Ac e (t+1)<=130000000
def md:cY:=λ ds st K=>∃(d:D) (X:List (List Int)) (W e:Nat),ds=[d,.int W]/\jc st d X/\(∀r∈X,r.length=W)/\W<=16/\X.length<=8/\(∀r∈X,∀x∈r,x.natAbs<=2^e)/\AG X.length e/\∀st' F,Ext st st'->F.length<=X.length->Mx.cG F.length W F->Mx.bc F F.length W (Mx.bz F)->Mx.kb F F.length (Mx.bz F)->Mx.og X X.length F F.length W->K (c7 F) st'
def jI:List Str:=["_law_rows","_law_wide","_law_form","_law_column","_law_first"]
def yj:DS:=(aJ (a9 0 (cT (dz (ae 0)) [none] (a8 0) cF (b_ mP (af (ae 0) ak))))
 (aJ (a9 2 (nD ak))
 (aJ (jz (dR (af (ae 1) ak)) (a8 3) (aJ (tP (gz 0 4) (aH ui (af (ae 0) (af (ae 3) ak))))
 (ft (bS (aw ur (ae 4) (dC .aG))) (aJ (ft (bS (aw sA (aw aU (ae 4) (ae 3)) (dC (.int 0)))) (a9 4 (cT (dz (ae 4)) [none] (a8 0) cF (aw kJ (dC (.int 0)) (ae 0)))) fk)
 (a9 2 (aw eC (cT (dz (ae 2)) [none,some 4,some 3] (a8 0) cF (aH lh (af (ae 0) (af (ae 1) (af (aw gN (aw aU (ae 0) (ae 2)) (aw aU (ae 1) (ae 2))) ak))))) (nD (af (ae 4) ak))))) fk)))
 (cy (b_ c6 (af (cT (dz (ae 2)) [none] (a8 0) cF (b_ c6 (af (ae 0) ak))) ak))))))
def Cy{X:List (List Int)}{w:Nat}{r:List Int}(h:Mx.cS X w r):Mx.cS X w (r.map λ x=>0-x):=by
 obtain⟨z,hz⟩:=h;refine⟨λ k=> -z k,λ c hc=>?_⟩
 have e:(r.map λ x=>0-x).getD c 0= -r.getD c 0:=by
  rw[Sd,SF,Sd];cases r[c]? with
  |none=>rfl
  |some y=>show 0-y= -y;omega
 have:r.getD c 0=Mx.S X.length λ k=>z k*Mx.g X k c:=hz c hc;show(r.map λ x=>0-x).getD c 0=Mx.S X.length λ k=> -z k*Mx.g X k c;rw[e,this,<-Mx.mV];exact Mx.ax λ k _=>(UC _ _).symm
def kE{r:List Int}{c:Nat}:(r.map λ x=>0-x).getD c 0= -r.getD c 0:=by
 rw[Sd,SF,Sd];cases r[c]? with
 |none=>rfl
 |some y=>show 0-y= -y;omega
def F6.neg{X O:List (List Int)}{f:List Int}{p W e:Nat}(h:F6 X O f p W e):F6 X O (f.map λ x=>0-x) p W e:=by
 refine⟨⟨λ r hr=>Mx.cS.sub (λ s hs=>?_) (h.same.to r hr),λ r hr=>?_⟩,h.wO,by rw[Sb];exact h.wf,h.zO,λ c hc=>by rw[kE,h.zf c hc];rfl,by rw[kE];have:=h.f0;omega,h.ln,h.bO,λ c=>by rw[kE,Uo];exact h.bf c⟩
 . rcases SE.mp hs with q|q
   . exact Mx.cS.mem (SS _ q)
   . rw[Te.mp q];have:=Cy (w:=W) (Mx.cS.mem (X:=O++[f.map λ x=>0-x]) (r:=f.map λ x=>0-x) (by simp));rw[Ta]at this
     have e:f.map ((λ x:Int=>0-x)∘λ x=>0-x)=f:=by
      conv=>rhs;rw[<-List.map_id f]
      exact Ue λ x _=>by show 0-(0-x)=x;omega
     rwa [e]at this
 . rcases SE.mp hr with q|q
   . exact h.same.of r (SS _ q)
   . rw[Te.mp q];exact Cy (h.same.of f (by simp))
def xi:R9 md 2 yj jI:=by
 rintro ds st K ⟨d,X,W,e,rfl,hd,wX,W16,l8,bX,fq,k⟩;refine⟨rfl,?_⟩;obtain⟨da,hda,ra⟩:=hd.ex;refine o8 hda λ ok aL=>⟨bZ (by rw[ra.len];omega),?_⟩
 refine iI aI aL ra (λ d r _ he K' t=>⟨_,rfl,om he t⟩) ?_;refine⟨SM _,?_⟩;refine fh ⟨by omega,by omega⟩ ?_;rw[SH]
 have bX':∀r∈X,∀c,(r.getD c 0).natAbs<=2^e:=λ r hr c=>by
  by_cases h:c<r.length
  . exact bX r hr _ (getD_mem h)
  . rw[Mx.jJ (by omega)];exact SM _
 refine kM W (λ p σ st'=>∃(R F:List (List Int)) (v3 v4:Option D),σ=[some (.lst (R.map aI)),some (.int W),some (.lst (F.map aI)),v3,v4]/\Ext st st'/\Mx.Ld X R F p W (Ac e F.length) (MP e F.length)) ?_ ?_ ⟨X,[],none,none,rfl,Ext.refl,Mx.Ld.start wX bX'⟩
 . rintro σ st' ⟨R,F,v3,v4,rfl,XX,L⟩;have lF:=L.len;refine oM ⟨bZ (by rw[Sb];omega),?_⟩;refine iI aY trivial cK.lst (λ d r _ he K' t=>⟨_,rfl,cH he t⟩) ?_;obtain⟨h1,h2,h3,h4⟩:=L.end;exact cH rfl (k st' F XX (by omega) h1 h2 h3 h4)
 . rintro p σ st' rest hp ⟨R,F,v3,v4,rfl,XX,L⟩ next
   have lF:=L.len;refine⟨_,rfl,?_⟩;rcases Nat.eq_zero_or_pos R.length with r0|r0
   . have eR:R=[]:=T_.mp r0;subst eR;refine⟨[],p,W,0,rfl,L.wR,hp,W16,by simp,(λ r hr=>by cases hr),L.zs,by decide,λ z st1 X1=>⟨_,rfl,?_⟩,λ st1 O f X1 h=>?_⟩
     . exact sR rfl (next _ _ ⟨[],F,_,_,rfl,XX.trans X1,L.skip z⟩)
     . have:=h.ln;simp at this
   have hf:=fq F.length (by omega);refine⟨R,p,W,Ac e F.length,rfl,L.wR,hp,W16,by omega,L.bR,L.zs,hf.1,λ z st1 X1=>⟨_,rfl,?_⟩,λ st1 O f X1 h=>⟨_,rfl,?_⟩⟩
   . exact sR rfl (next _ _ ⟨R,F,_,_,rfl,XX.trans X1,L.skip z⟩)
   . refine sR rfl (fT ?_);refine iX (A:=ft _ _ _) (λ σ' st2=>st2=st1/\∃f':List Int,σ'=[some (.lst (O.map aI)),some (.int W),some (.lst (F.map aI)),some (.int p),some (aI f')]/\F6 R O f' p W (6*Ac e F.length+4)/\0<f'.getD p 0) (λ nx hnx=>?_) ?_
     . refine aB rfl (dF (by rw[h.wf];exact hp)) (F0 (λ hl=>fT ?_) λ hl=>?_)
       . refine oM ⟨bZ (by rw[Sb];have:=h.wf;omega),?_⟩;refine comp_map (g:=λ d=>match d with| .int x=> .int (0-x)|_=> .aG) trivial _ (λ d hd K' q=>?_) ?_
         . obtain⟨x,_,rfl⟩:=SJ.mp hd;exact⟨_,rfl,lg q⟩
         . have em:(az f).map (λ d=>match d with| .int x=>D.int (0-x)|_=> .aG)=az (f.map λ x=>0-x):=by
            unfold az;rw[Ta,Ta];rfl
           rw[em];exact hnx _ _ ⟨rfl,_,rfl,h.neg,by rw[kE];omega⟩
       . exact hnx _ _ ⟨rfl,f,rfl,h,by have:=h.f0;omega⟩
     rintro σ' st2 ⟨rfl,f',rfl,h',f0⟩;refine oM ⟨bZ (by rw[Sb];omega),?_⟩;refine gc (p:=λ _=>true) (f:=λ r=>aI (Mx.cU p f' r)) (mk:=aI) trivial F (λ r hr=>⟨_,rfl,λ K' q=>q,λ K' q=>?_⟩) ?_
     . have wr:=L.wF r hr;refine aB rfl (dF (by rw[wr];exact hp)) (aB rfl (dF (by rw[h'.wf];exact hp)) (gR (by omega) ⟨_,_,r,f',_,rfl,rfl,rfl,by omega,λ b hb=>?_,q⟩));obtain⟨cc,hcc,rfl⟩:=SV.mp hb;have hb0:=h'.bf cc;rw[Mx.aP hcc]at hb0;exact dS (Se (Mx.iK _ f0) (L.bF r hr p)) hb0 hf.2
     rw[UK.mpr λ _ _=>rfl];have eY:F.map (λ r=>aI (Mx.cU p f' r))=(F.map (Mx.cU p f')).map aI:=by rw[Ta];rfl
     rw[eY];refine⟨Ss rfl,x3 (by rw[Uc,Sb,Sb];exact Se (Nat.add_le_add_right (show F.length<=8 by omega) 1) (by decide)) ?_⟩;have e1:(F.map (Mx.cU p f')).map aI++[aI f']=(F.map (Mx.cU p f')++[f']).map aI:=by rw[UG];rfl
     have Ln:=L.next hp h'.same h'.wO h'.wf h'.zO h'.zf f0 h'.ln h'.bO h'.bf (R_ _);show ij _ _ _ _ _ _ _;refine next _ _ ⟨O,F.map (Mx.cU p f')++[f'],_,_,by rw[<-e1];rfl,XX.trans X1,?_⟩
     have l1:(F.map (Mx.cU p f')++[f']).length=F.length+1:=by rw[TB,Sb];rfl
     rw[l1];exact Ln
def nQ:cY:=λ ds st K=>∃(d dr:D) (F:List (List Int)) (r:List Int) (m w f:Nat),ds=[d,dr]/\jc st d F/\Mx.cG m w F/\Mx.bc F m w (Mx.bz F)/\m<=8/\w<=16/\(∀k c,k<m->c<w->(Mx.g F k c).natAbs<=2^f)/\items? st dr=some (az r)/\r.length=w/\(∀c,c<w->(r.getD c 0).natAbs<=2^5000)/\f<=2000/\∀st',Ext st st'->K (aY (Mx.cZ F r m)) st'
def nR:List Str:=["_law_form","_law_row","_law_one","_law_lead"]
def DC:DS:=(aJ (a9 1 (b_ mP (af (ae 1) ak)))
 (aJ (jz (dz (ae 0)) (a8 2) (aJ (a9 3 (aw aU (cT (dR (af (b_ fG (af (ae 2) ak)) ak)) [none,some 2] (a8 0) (bS (aw nG (aw aU (ae 1) (ae 0)) (dC (.int 0)))) (ae 0)) (dC (.int 0))))
 (a9 1 (aH lh (af (ae 1) (af (ae 2) (af (aw gN (aw aU (ae 1) (ae 3)) (aw aU (ae 2) (ae 3))) ak)))))))
 (cy (b_ c6 (af (ae 1) ak)))))
def wJ:∀(r:List Int) (i:Nat),gB r (i+1)=(gB r i).map (· +1)
 | [],_=>rfl
 |x::r,i=>by
  unfold gB;split
  . exact wJ r (i+1)
  . rfl
def u5:∀r:List Int,((List.range r.length).filter λ j=>decide (r.getD j 0≠0)).head?=iP r
 | []=>rfl
 |x::r=>by
  have ih:=u5 r;rw[SY,Tw,List.filter_cons];by_cases h:x=0
  . have h1:decide ((x::r).getD 0 0≠0)=false:=by simpa using h
    rw[h1,Sf Ts,List.filter_map,List.head?_map]
    have e:(λ j=>decide ((x::r).getD j 0≠0))∘Nat.succ=λ j=>decide (r.getD j 0≠0):=by
     funext j;simp
    rw[e,ih];unfold iP;conv=>rhs;unfold gB
    rw[Si h,wJ]
  . have h1:decide ((x::r).getD 0 0≠0)=true:=by simpa using h
    rw[h1,Si rfl,List.head?_cons];unfold iP gB;rw[Sf h]
def BR{n:Nat}{p:Nat->Bool}{c:DT}{te:DE}{σc:cm}{st:ag}{K:List D->ag->Prop}(h:∀i:Nat,i<n->∃σ2,a8 0 (.int (i:Int)) σc=some σ2/\(∀K',K' (p i) st->c σ2 st K')/\∀K',K' (.int (i:Int)) st->te σ2 st K')(k:K (((List.range n).filter p).map λ(j:Nat)=>D.int (j:Int)) st):dA (a8 0) c te (λ _=>True) σc (fe 0 n) [] st K:=by
 refine gu (λ rest acc st'=>st'=st/\∃j:Nat,j<=n/\rest=(List.range (n-j)).map (λ i=>D.int (((j+i:Nat):Int)))/\acc=((List.range j).filter p).map λ(j:Nat)=>D.int (j:Int)) ?_ ?_ _ _ _ ⟨rfl,0,SM _,by unfold fe;simp,rfl⟩
 . rintro acc st' ⟨rfl,j,hj,hr,rfl⟩
   have:n-j=0:=by
    cases q:n-j with
    |zero=>rfl
    |succ m=>rw[q,Tw]at hr;cases hr
   have hjn:j=n:=by omega
   subst hjn;exact⟨trivial,k⟩
 . rintro d rest acc st' ⟨rfl,j,hj,hr,rfl⟩ next
   cases q:n-j with
   |zero=>rw[q]at hr;cases hr
   |succ m=>
    rw[q,Tw,TH,Ta]at hr;simp only[Vo]at hr;obtain⟨rfl,hrest⟩:=hr;obtain⟨σ2,e2,hc,ht⟩:=h j (by omega)
    have hrest':rest=(List.range (n-(j+1))).map (λ i=>D.int (((j+1+i:Nat):Int))):=by
     have:n-(j+1)=m:=by omega
     rw[this,hrest];refine Ue λ i _=>?_;show D.int (((j+(i+1):Nat):Int))=D.int (((j+1+i:Nat):Int));congr 2;omega
    refine⟨trivial,σ2,e2,hc _ ?_⟩;cases ep:p j with
    |false=>
     refine next _ _ ⟨rfl,j+1,by omega,hrest',?_⟩
     rw[WA,US,UG];simp[ep]
    |true=>
     refine fT (ht _ (next _ _ ⟨rfl,j+1,by omega,hrest',?_⟩));rw[WA,US,UG];simp[ep]
def BC:R9 nQ 2 DC nR:=by
 rintro ds st K ⟨d,dr,F,r,m,w,f,rfl,hF,isF,sF,m8,w16,bF,hr,lr,br,hf,k⟩;refine⟨rfl,?_⟩;have lF:=isF.len;obtain⟨da,hda,ra⟩:=hF.ex;have lda:=ra.len;refine om hr ?_;refine qv hda λ ok aL=>?_;refine iS (λ rest σ st'=>st=st'/\∃(i:Nat) (v2 v3:Option D),i<=m/\rest=da.drop i/\σ=[some d,some (aI (Mx.cZ F r i)),v2,v3]) ?_ ?_ _ _ _ ⟨rfl,0,none,none,SM _,rfl,rfl⟩
 . rintro σ st' ⟨rfl,i,v2,v3,hi,hrest,rfl⟩
   have e1:i=m:=by
    have:=Ui List.length hrest;rw[TJ,UW]at this;omega
   subst e1;exact⟨aL _ hda,cH rfl (k st Ext.refl)⟩
 . rintro x rest σ st' ⟨rfl,i,v2,v3,hi,hrest,rfl⟩ next
   have Jr:i<da.length:=by
    rcases Ul i da.length with h|h
    . exact h
    . rw[Ud h]at hrest;cases hrest
   have him:i<m:=by omega
   rw[TL Jr]at hrest;obtain⟨rfl,rfl⟩:=VH hrest;obtain⟨q,e1,e2⟩:=cK.get ra (Sm Jr);have eq:q=F.getD i []:=by rw[Sd,e1];rfl
   subst eq;have wF:=isF.row him;obtain⟨l1,l2,l3⟩:=sF.lead i him;have lL:=Mx.jX isF lr (i:=i) (Tz him);refine⟨aL _ hda,_,rfl,dO e2 ?_⟩;rw[Sb,wF];refine fh ⟨by omega,by omega⟩ ⟨bZ (by rw[cf];omega),?_⟩;rw[SH];refine BR (p:=λ j=>decide ((F.getD i []).getD j 0≠0)) (λ j hj=>⟨_,rfl,λ K' q=>?_,λ K' q=>q⟩) ?_
   . refine aB e2 (dF (by omega)) (ne2 (λ h=>?_) λ h=>?_)
     . rw[TF h]at q;exact q
     . rw[Tf (by simpa using h)]at q;exact q
   have hfl:=u5 (F.getD i []);rw[wF,yH l3 (Vf l2)]at hfl;generalize((List.range w).filter λ j=>decide ((F.getD i []).getD j 0≠0))=fl at hfl;match fl,hfl with
   |l::fl,hfl=>
    have hl:l=Mx.bz F i:=by simpa using hfl
    subst hl;refine aB rfl (show eV ((Mx.bz F i::fl).map λ(j:Nat)=>D.int (j:Int)) 0=some (.int ((Mx.bz F i:Nat):Int))from kX (j:=0) rfl) ?_;refine aB rfl (dF (by omega)) (aB e2 (dF (by omega)) (gR (Vf l2) ?_));have bx:=Mx.oH isF lr sF bF br (Tz him) _ l1;have bq:(Mx.j9 F (Mx.cZ F r i) i).natAbs<=2^(5000+i*(f+1)):=Se (Mx.iK _ l2) bx;have i8:i*(f+1)<=8*2001:=Tb (by omega) (by omega);refine⟨_,_,Mx.cZ F r i,F.getD i [],Mx.j9 F (Mx.cZ F r i) i,rfl,rfl,e2,by omega,λ b hb=>?_,?_⟩
    . obtain⟨c,hc,rfl⟩:=SV.mp hb;have:=bF i c him (by omega);unfold Mx.g at this;rw[Mx.aP hc]at this;exact dS bq this (by omega)
    . show ij _ _ _ _ _ _ _;exact next _ _ ⟨rfl,i+1,_,_,him,rfl,rfl⟩
def p9:cY:=λ ds st K=>∃n:Int,ds=[.int n]/\K (.bl true) st
def mI:List Str:=["_law_found"]
def BF:DS:=(cy (CZ (b_ rN (af (ae 0) (af (dC (.ty "int")) ak))) (D_ (bS (b_ rN (af (ae 0) (af (dC (.ty "bool")) ak)))))))
def zS:R9 p9 1 BF mI:=by
 rintro ds st K ⟨n,rfl,k⟩;exact⟨rfl,uc rfl (by decide) (fT (uc rfl (by decide) k))⟩
def jS:cY:=λ ds st K=>∃(F:List (List Int)) (m w:Nat),ds=[c7 F,.int m,.int w]/\Mx.cG m w F/\w<=1000/\K (.bl true) st
def jQ:List Str:=["_law_found","_law_many","_law_wide","_law_row"]
def x_:DS:=(aJ (ft (qk (nP (bS (b_ rN (af (ae 0) (af (dC (.ty "tuple")) ak))))) (bS (aw nG (b_ fG (af (ae 0) ak)) (ae 1)))) (cy (dC (.bl false))) fk)
 (aJ (jz (dz (ae 0)) (a8 3) (ft (qk (nP (bS (b_ rN (af (ae 3) (af (dC (.ty "tuple")) ak))))) (qk (bS (aw nG (b_ fG (af (ae 3) ak)) (ae 2))) (nP (bS (b_ Bg (af (cT (dz (ae 3)) [none] (a8 0) cF (aH p9 (af (ae 0) ak))) ak)))))) (cy (dC (.bl false))) fk))
 (cy (dC (.bl true)))))
def Cs:∀l:List D,m4 (l.map λ _=>D.bl true)=some (l.map λ _=>true)
 | []=>rfl
 |_::l=>by simp[m4,Cs l]
def PU(l:List D):(l.map λ _=>true).all id=true:=by simp
def vU:R9 jS 3 x_ jQ:=by
 rintro ds st K ⟨F,m,w,rfl,hF,hw,k⟩;refine⟨rfl,?_⟩;refine uc rfl (by decide) ?_;refine dO rfl (Mv (by rw[Sb,hF.len]) ?_);refine iq ?_;refine iS (λ rest σ st'=>st=st'/\∃(i:Nat) (v3:Option D),i<=F.length/\rest=(F.map aY).drop i/\σ=[some (c7 F),some (.int m),some (.int w),v3]) ?_ ?_ _ _ _ ⟨rfl,0,none,SM _,rfl,rfl⟩
 . rintro σ st' ⟨rfl,i,v3,_,_,rfl⟩;exact⟨trivial,k⟩
 . rintro x rest σ st' ⟨rfl,i,v3,hi,hrest,rfl⟩ next
   obtain⟨hiF,rfl,rfl⟩:=drop_cons hrest;have lw:(F.getD i []).length=w:=by rw[Mx.aP hiF];exact hF.fE _ (Tg _)
   refine⟨trivial,_,rfl,?_⟩;refine uc rfl (by decide) ?_;refine dO rfl (Mv (by rw[Sb,lw]) ?_);refine iq ⟨bZ (by rw[Sb];omega),?_⟩;refine comp_map (g:=λ _=> .bl true) trivial _ (λ d hd K' q=>?_) ?_
   . obtain⟨i,_,rfl⟩:=SJ.mp hd;exact⟨_,rfl,i,rfl,q⟩
   refine NA (Cs (az (F.getD i []))) ?_;rw[PU];exact next _ _ ⟨rfl,i+1,_,hiF,rfl,rfl⟩
def rm:cY:=λ ds st K=>∃(d:D) (A:List (List Int)) (N w:Nat),ds=[d]/\jc st d A/\Mx.cG N w A/\1<=N/\N<=1000/\w<=1000/\K (.lst ((Mx.gp A w).map aY)) st
def oa:List Str:=["_law_rows"]
def Ek:DS:=(cy (cT (dR (af (b_ fG (af (aw aU (ae 0) (dC (.int 0))) ak)) ak)) [none,some 0] (a8 0) cF (b_ c6 (af (cT (dz (ae 1)) [none,some 0] (a8 0) cF (aw aU (ae 0) (ae 1))) ak))))
def BI:R9 rm 1 Ek oa:=by
 rintro ds st K ⟨d,A,N,w,rfl,hd,hA,n1,n8,w8,k⟩;refine⟨rfl,?_⟩;have lA:=hA.len;obtain⟨da,hda,ra⟩:=hd.ex;obtain⟨e0,ee0,he0⟩:=ra.at (k:=0) (by omega);refine aB hda ee0 (dO he0 ?_);rw[Sb,hA.row (i:=0) n1];refine fh ⟨by omega,by omega⟩ ⟨bZ (by rw[cf];omega),?_⟩;rw[SH];refine lj (λ j=>aY (Mx.nE A j)) w (λ j hj K' q=>⟨_,rfl,?_⟩) ?_
 . refine o8 hda λ ok aL=>⟨bZ (by rw[ra.len];omega),?_⟩
   refine tX (λ r=> .int (r.getD j 0)) aL ra (λ e r hr he K' q=>⟨_,rfl,aB he (dF (by rw[hA.fE r hr];exact hj)) q⟩) ?_;rw[yJ];exact cH rfl q
 . have e:(List.range w).map (λ j=>aY (Mx.nE A j))=(Mx.gp A w).map aY:=by unfold Mx.gp;rw[Ta];rfl
   rw[e];exact k
structure Rk(A:List (List Int))(N w:Nat)(r:List Int)(y:D)(G:List (List Int))(k:Nat):Prop where
 is:Mx.cG k N G
 st:Mx.bc G k N (Mx.bz G)
 red:Mx.kb G k (Mx.bz G)
 pK:∀x:Nat->Int,(∀q,q<w->(Mx.S N λ n=>x n*Mx.g A n q)=0)↔Mx.bT G k N x
 or:(y= .aG/\∀x:Nat->Int,¬ ∀q,q<w->(Mx.S N λ n=>x n*Mx.g A n q)=r.getD q 0)\/∃a:List Int,y=aY a/\a.length=N/\(∀q,q<w->(Mx.S N λ n=>a.getD n 0*Mx.g A n q)=r.getD q 0)/\∀i,i<k->0<=a.getD (Mx.bz G i) 0/\a.getD (Mx.bz G i) 0<Mx.g G i (Mx.bz G i)
def l6:cY:=λ ds st K=>∃(R:List (List Int)) (r:List Int) (N w e:Nat),ds=[c7 R,aY r]/\Mx.cG w N R/\1<=N/\N<=8/\1<=w/\w<=8/\(∀q∈R,∀x∈q,x.natAbs<=2^e)/\e<=40/\AG N e/\r.length=w/\(∀x∈r,x.natAbs<=2^70)/\∀st' y G k,Ext st st'->Rk (Mx.gp R N) N w r y G k->K (.tup [y,c7 G]) st'
def j4:List Str:=["_law_rows","_law_due","_law_many","_law_size","_law_lined","_law_form","_law_heads","_law_steps","_law_rest_here"]
def x9:DS:=(aJ (a9 2 (b_ fG (af (ae 0) ak)))
 (aJ (a9 3 (b_ fG (af (aw aU (ae 0) (dC (.int 0))) ak)))
 (aJ (a9 4 (cT (zz (af (aH rm (af (ae 0) ak)) ak)) [none,none,some 3] (gz 0 1) cF (aw eC (b_ c6 (af (ae 1) ak)) (b_ c6 (af (cT (dR (af (ae 2) ak)) [none,some 0] (a8 0) cF (b_ xy (af (aw kP (ae 0) (ae 1)) ak))) ak)))))
 (aJ (a9 5 (aH md (af (ae 4) (af (aw eC (ae 2) (ae 3)) ak))))
 (aJ (a9 6 (cT (dz (ae 5)) [none,some 2] (a8 0) (bS (b_ rq (af (jF (ae 0) ia (lV (ae 1))) ak))) (ae 0)))
 (aJ (a9 7 (b_ c6 (af (cT (dz (ae 5)) [none,some 2] (a8 0) (nP (bS (b_ rq (af (jF (ae 0) ia (lV (ae 1))) ak)))) (jF (ae 0) (lV (ae 1)) ia)) ak)))
 (aJ (a9 8 (aH nQ (af (ae 6) (af (aw eC (b_ c6 (af (ae 1) ak)) (aw dh (jb (af (dC (.int 0)) ak)) (ae 3))) ak))))
 (aJ (ft (bS (b_ rq (af (jF (ae 8) ia (lV (ae 2))) ak))) (cy (jb (af (dC .aG) (af (ae 7) ak)))) fk)
 (cy (jb (af (aH nQ (af (ae 7) (af (cT (dz (jF (ae 8) (lV (ae 2)) ia)) [none] (a8 0) cF (aw kJ (dC (.int 0)) (ae 0))) ak))) (af (ae 7) ak))))))))))))
def enum_rows{A:List (List Int)}{i:Nat}{d:D}{rest:List D}(hr:d::rest=hJ i ((A.map aY).drop i)):i<A.length/\d= .tup [.int (i:Int),aY (A.getD i [])]/\rest=hJ (i+1) ((A.map aY).drop (i+1)):=by
 rcases Ul i A.length with h|h
 . rw[TL (by rw[Sb];exact h),VF]at hr;unfold hJ at hr;obtain⟨h1,h2⟩:=VH hr;exact⟨h,by rw[Mx.aP h];exact h1,h2⟩
 . rw[Ud (by rw[Sb];exact h)]at hr;cases hr
def qf{r:List Int}{j:Nat}:L3.cutD (az r) none (some (j:Int))=az (r.take j):=by rw[wM];exact(WV ..).symm
def sv{r:List Int}{j:Nat}:L3.cutD (az r) (some (j:Int)) none=az (r.drop j):=by rw[Br];exact(List.map_drop ..).symm
def pz(w:Nat)(r:List Int):Bool:=(r.take w).any λ n=>decide (n≠0)
def wz{w:Nat}{r:List Int}(hl:w<=r.length):pz w r=true↔∃c,c<w/\r.getD c 0≠0:=by
 unfold pz;rw[List.any_eq_true];constructor
 . rintro⟨x,hx,h⟩;obtain⟨i,hi,rfl⟩:=SV.mp hx;rw[Tr]at hi;refine⟨i,by omega,?_⟩;rw[Mx.aP (by omega)];rw[V8]at h;simpa using h
 . rintro⟨c,hc,h⟩;rw[Mx.aP (by omega)]at h;exact⟨r[c],SV.mpr ⟨c,by rw[Tr];omega,by rw[V8]⟩,by simpa using h⟩
def Jv{R:List (List Int)}{N w b:Nat}(iR:Mx.cG w N R)(h:∀r∈R,∀x∈r,x.natAbs<=b):∀q∈Mx.gp R N,∀x∈q,x.natAbs<=b:=λ q hq x hx=>by
 unfold Mx.gp at hq;obtain⟨j,hj,rfl⟩:=SJ.mp hq;rw[UA]at hj;unfold Mx.nE at hx;obtain⟨s,hs,rfl⟩:=SJ.mp hx;exact h s hs _ (getD_mem (by rw[iR.fE s hs];exact hj))
def O8:∀m,m<9->m*(9*2^40)^m<=2^400:=by decide+kernel
def HS{F:List (List Int)}{p:List Int->Bool}{h:Nat}(hh:h<=F.length)(h1:∀i,i<h->p (F.getD i [])=true)(h2:∀i,h<=i->i<F.length->p (F.getD i [])=false):F.filter p=F.take h/\(F.filter λ r=> !p r)=F.drop h:=by
 have a:∀r∈F.take h,p r=true:=λ r hr=>by
  obtain⟨i,hi,rfl⟩:=SV.mp hr;rw[Tr]at hi;rw[V8];have:=h1 i (by omega);rwa [Mx.aP (by omega)]at this
 have b:∀r∈F.drop h,p r=false:=λ r hr=>by
  obtain⟨i,hi,rfl⟩:=SV.mp hr;rw[TJ]at hi;rw[List.getElem_drop];have:=h2 (h+i) (by omega) (by omega);rwa [Mx.aP (by omega)]at this
 constructor
 . conv=>lhs;rw[<-Wm h F]
   rw[US,UK.mpr a,Wc.mpr λ r hr=>by rw[b r hr];decide,TZ]
 . conv=>lhs;rw[<-Wm h F]
   rw[US,Wc.mpr λ r hr=>by rw[a r hr];decide,UK.mpr λ r hr=>by rw[b r hr];rfl,Ws]
def w_:R9 l6 2 x9 j4:=by
 rintro ds st K ⟨R,r,N,w,e,rfl,iR,n1,n8,w1,w8,bR,he,fq,lr,br,k⟩;refine⟨rfl,?_⟩;have lR:=iR.len;have iA:=Mx.rh iR;refine dO rfl ?_;rw[Sb,lR];refine aB rfl (show eV (R.map aY) 0=some (aY (R.getD 0 []))from qQ (k:=0) (by omega)) (dO rfl ?_);rw[Sb,iR.row (i:=0) (by omega)];refine⟨_,R,w,N,rfl,oN,iR,w1,by omega,by omega,B9 rfl λ ok aL=>?_⟩;have bA:=Jv iR bR;generalize Mx.gp R N=A at iA k bA;have lA:=iA.len;refine⟨bZ (by rw[pv,Sb];omega),?_⟩;refine gu (λ rest acc st'=>st=st'/\∃i:Nat,i<=N/\rest=hJ i ((A.map aY).drop i)/\acc=((Mx.Ln A N).take i).map aY) ?_ ?_ _ _ _ ⟨rfl,0,SM _,rfl,rfl⟩;rotate_left 1
 . rintro d rest acc st' ⟨rfl,i,hi,hrest,rfl⟩ next
   obtain⟨hiA,rfl,rfl⟩:=enum_rows hrest;have hiN:i<N:=by omega
   refine⟨aL _ rfl,_,rfl,cH rfl ?_⟩;refine fh ⟨by omega,by omega⟩ ⟨bZ (by rw[cf];omega),?_⟩;rw[SH];refine lj (λ j=> .int (Mx.dl j i)) N (λ j hj K2 q2=>⟨_,rfl,?_⟩) ?_
   . refine eq2 (λ h=>uj ?_) λ h=>uj ?_
     . have:j=i:=by omega
       subst this;rw[Mx.dE]at q2;exact q2
     . rw[Mx.eH (by omega)]at q2;exact q2
   have eu:(List.range N).map (λ j=>D.int (Mx.dl j i))=az (Mx.d6 N i):=by unfold Mx.d6 az;rw[Ta];rfl
   rw[eu];have lu:(Mx.d6 N i).length=N:=by simp[Mx.d6]
   refine cH rfl (CN (by rw[Uc,Sb,Sb,lu,iA.row hiN];omega) ?_);show dA _ _ _ _ _ _ _ _ _;refine next _ _ ⟨rfl,i+1,hiN,rfl,?_⟩
   rw[List.take_succ_eq_append_getElem (by rw[(Mx.zj iA).len];exact hiN),UG]
   have eL:(Mx.Ln A N)[i]'(by rw[(Mx.zj iA).len];exact hiN)=A.getD i []++Mx.d6 N i:=by
    have:=Mx.Am (A:=A) hiN;rwa [Mx.aP (by rw[(Mx.zj iA).len];exact hiN)]at this
   rw[eL];simp[az]
 rintro acc st' ⟨rfl,i,hi,hrest,rfl⟩
 have iN:i=N:=by
  have:=Ui List.length hrest;rw[pv,TJ,Sb,UW]at this;omega
 subst iN;refine⟨aL _ rfl,?_⟩;have iL:=Mx.zj iA;rw[Vv (by rw[iL.len];omega)];refine fY ?_
 have bL:∀q∈Mx.Ln A i,∀x∈q,x.natAbs<=2^e:=λ q hq x hx=>by
  unfold Mx.Ln at hq;obtain⟨n,hn,rfl⟩:=SJ.mp hq;rw[UA]at hn;rcases SE.mp hx with z|z
  . exact bA _ (by rw[Mx.aP (by omega)];exact Tg _) x z
  . unfold Mx.d6 at z;obtain⟨j,_,rfl⟩:=SJ.mp z;have:1<=2^e:=VJ (by decide);unfold Mx.dl;split
    . exact this
    . exact SM _
 refine⟨_,Mx.Ln A i,w+i,e,rfl,⟨_,rfl,cK.tup⟩,iL.fE,by omega,by rw[iL.len];omega,bL,by rw[iL.len];exact fq,λ st1 F X1 lF isF stF redF sameF=>?_⟩;rw[iL.len]at lF sameF;obtain⟨h,hh,hlo,hhi⟩:=Mx.Bx (Mx.bz F) w F.length stF.mono;have L:Mx.tU A F i w F.length h:=⟨iA,isF,stF,redF,sameF,hh,hlo,hhi⟩
 have wF:=isF.fE
 have cut:=HS (p:=pz w) hh (λ j hj=>(wz (by rw[isF.row (show j<F.length by omega)];omega)).mpr ⟨Mx.bz F j,hlo j hj,Vf (stF.lead j (by omega)).2.1⟩) λ j h1 h2=>by
  cases hb:pz w (F.getD j [])with
  |false=>rfl
  |true=>
   obtain⟨c,hc,hne⟩:=(wz (by rw[isF.row h2];omega)).mp hb;exact absurd (L.zero h1 h2 hc) hne
 have eG:(F.drop h).map (λ q=>aY (q.drop w))=(Mx.Gd F h w).map aY:=by unfold Mx.Gd;rw[Ta];rfl
 obtain⟨hI,hS,hg,hl⟩:=L.heads
 have bF:∀j c,j<F.length->c<w+i->(Mx.g F j c).natAbs<=2^400:=λ j c hj hc=>Se (Mx.og.abs (b:=2^40) (by omega) stF redF sameF (λ a b ha hb=>by
  have lr:=iL.row ha;unfold Mx.g;exact Se (bL _ (by rw[Mx.aP (by rw[iL.len];exact ha)];exact Tg _) _ (getD_mem (by omega))) (Sv (by decide) he)) j c hj hc) (O8 _ (by omega))
 have lr0:(r++List.replicate i (0:Int)).length=w+i:=by simp[lr]
 have br0:∀c,c<w+i->((r++List.replicate i (0:Int)).getD c 0).natAbs<=2^70:=λ c hc=>by
  rcases Ul c w with q|q
  . rw[Sd,Sk (by omega),<-Sd];exact br _ (getD_mem (by omega))
  . rw[Sd,S7 (by omega),<-Sd,Mx.eQ];exact SM _
 refine iq ⟨bZ (by rw[Sb];omega),?_⟩;refine gc (p:=pz w) (f:=aY) (mk:=aY) trivial F (λ q hq=>⟨_,rfl,λ K' t=>jB (by rw[qf];exact xR (ints_map _) t),λ K' t=>t⟩) ?_;rw[cut.1];refine iq ⟨bZ (by rw[Sb];omega),?_⟩;refine gc (p:=λ q=> !pz w q) (f:=λ q=>aY (q.drop w)) (mk:=aY) trivial F (λ q hq=>⟨_,rfl,λ K' t=>jB (by rw[qf];exact xR (ints_map _) t),λ K' t=>jB (by rw[sv];exact t)⟩) ?_;rw[cut.2,eG];refine cH rfl ?_;refine cH rfl ⟨Ss rfl,LH ⟨by omega,by omega,by rw[Uc];simp;omega⟩ ?_⟩
 have ez:(List.replicate (i:Int).toNat [D.int 0]).flatten=az (List.replicate i 0):=by
  rw[SH];simp[az]
 rw[ez];refine CN (by rw[Uc,Sb,Sb,Xy,lr];omega) ?_;rw[show az r++az (List.replicate i 0)=az (r++List.replicate i 0) by simp[az]];refine⟨_,_,F.take h,r++List.replicate i 0,h,w+i,400,rfl,⟨_,rfl,cK.tup⟩,hI,hS,by omega,by omega,λ j c hj hc=>by rw[hg j c hj];exact bF j c (by omega) hc,rfl,lr0,λ c hc=>Se (br0 c hc) (Sv (by decide) (by decide)),by decide,λ st2 X2=>?_⟩;obtain⟨hr1,hr2⟩:=L.rest lr;have lv:=Mx.jX hI lr0 (R_ h);have bv:=Mx.oH hI lr0 hS (f:=400) (λ j c hj hc=>by rw[hg j c hj];exact bF j c (by omega) hc) br0 (R_ h);have h401:h*(400+1)<=8*401:=Tx _ (by omega);generalize Mx.cZ (F.take h) (r++List.replicate i 0) h=v at hr1 hr2 lv bv;refine jB ?_;rw[qf];refine xR (ints_map _) ?_;have XX:=X1.trans X2;cases hb:pz w v with
 |true=>
  have hb':(v.take w).any (λ n=>decide (n≠0))=true:=hb;rw[hb'];refine fT ⟨Ss rfl,?_⟩;exact k st2 .aG _ _ XX ⟨L.Gj,L.MG.Bq,L.N_,L.pK,.inl ⟨rfl,hr2 ((wz (by omega)).mp hb)⟩⟩
 |false=>
  have hb':(v.take w).any (λ n=>decide (n≠0))=false:=hb;rw[hb']
  have z0:∀c,c<w->v.getD c 0=0:=λ c hc=>Ug λ z=>by
   rw[(wz (by omega)).mpr ⟨c,hc,z⟩]at hb;cases hb
  have sx:=hr1 z0;dsimp only[fk,TM,Uw];refine jB ?_;rw[sv];refine iq ⟨bZ (by rw[Sb,TJ];omega),?_⟩;refine comp_map (g:=λ d=>match d with| .int x=> .int (0-x)|_=> .aG) trivial _ (λ d hd K' q=>?_) ?_
  . obtain⟨x,_,rfl⟩:=SJ.mp hd;exact⟨_,rfl,lg q⟩
  have em:(az (v.drop w)).map (λ d=>match d with| .int x=>D.int (0-x)|_=> .aG)=az ((v.drop w).map λ x=>0-x):=by
   unfold az;rw[Ta,Ta];rfl
  rw[em];have lx:((v.drop w).map λ x=>0-x).length=i:=by rw[Sb,TJ];omega
  have ex:∀n,((v.drop w).map λ x=>0-x).getD n 0=0-v.getD (w+n) 0:=λ n=>by rw[kE,Mx.CT];omega
  have sx':∀q,q<w->(Mx.S i λ n=>((v.drop w).map λ x=>0-x).getD n 0*Mx.g A n q)=r.getD q 0:=λ q hq=>by
   rw[<-sx q hq];exact Mx.ax λ n _=>by rw[ex n]
  have bx:∀c,c<i->(((v.drop w).map λ x=>0-x).getD c 0).natAbs<=2^5000:=λ c hc=>by
   rw[ex c,Int.zero_sub,Uo];exact Se (bv (w+c) (by omega)) (Sv (by decide) (by omega))
  generalize(v.drop w).map (λ x=>0-x)=x at lx sx' bx;have gS:=L.MG.Bq;refine⟨_,_,Mx.Gd F h w,x,F.length-h,i,400,rfl,oN,L.Gj,gS,by omega,by omega,λ j c hj hc=>by rw[L.oX hj];exact bF (h+j) (w+c) (by omega) (by omega),rfl,lx,bx,by decide,λ st3 X3=>⟨Ss rfl,?_⟩⟩;have fl:=Mx.qM L.Gj lx gS (R_ (F.length-h));refine k st3 _ _ _ (XX.trans X3) ⟨L.Gj,gS,L.N_,L.pK,.inr ⟨_,rfl,Mx.jX L.Gj lx (R_ _),λ q hq=>?_,λ j hj=>fl.red j hj⟩⟩;have d:=(L.pK λ n=>x.getD n 0-(Mx.cZ (Mx.Gd F h w) x (F.length-h)).getD n 0).mpr fl.sum q hq
  have e5:(Mx.S i λ n=>(x.getD n 0-(Mx.cZ (Mx.Gd F h w) x (F.length-h)).getD n 0)*Mx.g A n q)=(Mx.S i λ n=>x.getD n 0*Mx.g A n q)-Mx.S i λ n=>(Mx.cZ (Mx.Gd F h w) x (F.length-h)).getD n 0*Mx.g A n q:=by
   rw[Tt,<-Mx.mV,<-Mx.f_];exact Mx.ax λ n _=>by rw[Wa,Tt]
  rw[e5,sx' q hq]at d;omega
def tj:cY:=λ ds st K=>∃(n:Nat) (b:Int),ds=[.ref n]/\Hk st n b/\b<=400000000/\∀(R:List (List Int)) (r:List Int) (N w:Nat) st',Mx.cG w N R->1<=N->N<=8->1<=w->w<=8->(∀r∈R,∀x∈r,x.natAbs<=119)->r.length=w->(∀x∈r,x.natAbs<=2^13)->Hk st' n (b+200)->XU st n st'->K (.tup [c7 R,aY r]) st'
def pA:List Str:=["_law_hand_here","_law_size","_law_many","_law_most","_law_rows","_law_k","_law_row","_law_due","_law_numbers"]
def FP:DS:=(aJ (Dk 1 2 (af (aw eC (dC (.int 1)) (aH bV (af (ae 0) (af (dC (.int 5)) ak)))) (af (aw eC (dC (.int 1)) (aH bV (af (ae 0) (af (dC (.int 4)) ak)))) ak)))
 (aJ (ft (bS (aw kP (aH bV (af (ae 0) (af (dC (.int 8)) ak))) (dC (.int 0)))) (Dk 1 2 (af (aw eC (dC (.int 6)) (aH bV (af (ae 0) (af (dC (.int 3)) ak)))) (af (aw eC (dC (.int 6)) (aH bV (af (ae 0) (af (dC (.int 3)) ak)))) ak))) fk)
 (aJ (a9 3 (aw aU (nD (af (dC (.int 2)) (af (dC (.int 3)) (af (dC (.int 7)) ak)))) (aH bV (af (ae 0) (af (dC (.int 3)) ak)))))
 (aJ (a9 4 (Ax ak))
 (aJ (jz (dR (af (ae 2) ak)) (a8 5) (aJ (a9 6 (b_ c6 (af (cT (dR (af (ae 1) ak)) [none,some 0,some 3] (a8 0) cF (aw kJ (aH bV (af (ae 1) (af (aw eC (aw dh (dC (.int 2)) (ae 2)) (dC (.int 1))) ak))) (ae 2))) ak)))
 (aJ (ft (zE (bS (aw sU (ae 5) (dC (.int 0)))) (bS (aw kP (aH bV (af (ae 0) (af (dC (.int 4)) ak))) (dC (.int 0))))) (a9 6 (b_ c6 (af (cT (tu (af (aw aU (ae 4) (dC (.int 0))) (af (aw aU (ae 4) (pD ka (dC (.int 1)))) ak))) [none,none] (gz 0 1) cF (aw kJ (aw dh (dC (.int 2)) (ae 0)) (ae 1))) ak))) fk)
 (mW (oB (ae 4) (ae 6))))))
 (aJ (a9 7 (b_ c6 (af (cT (dR (af (ae 2) ak)) [none,some 0,some 3] (a8 0) cF (aw kJ (aH bV (af (ae 1) (af (aw eC (aw dh (dC (.int 2)) (ae 2)) (dC (.int 1))) ak))) (ae 2))) ak)))
 (aJ (ft (bS (aw kP (aH bV (af (ae 0) (af (dC (.int 2)) ak))) (dC (.int 0)))) (aJ (a9 8 (cT (dR (af (ae 1) ak)) [none,some 0] (a8 0) cF (aw kJ (aH bV (af (ae 1) (af (dC (.int 9)) ak))) (dC (.int 4)))))
 (a9 7 (b_ c6 (af (cT (dz (ae 4)) [none,some 8] (a8 0) cF (aH tH (af (ae 1) (af (ae 0) ak)))) ak)))) fk)
 (cy (jb (af (b_ c6 (af (ae 4) ak)) (af (ae 7) ak)))))))))))
def Hb{A:List (List Int)}{n:Nat}(h:A.length=n+1):eV (A.map aY) (-1)=some (aY (A.getD n [])):=by
 have e:j7 (n+1) (-1)=some n:=by unfold j7;simp;omega
 unfold eV;rw[Sb,h,e];show(A.map aY)[n]?=_;rw[SF,Sm (by omega),Mx.aP (by omega)];rfl
def sS{n:Nat}{b m o:Int}{xs:List D}{σc:cm}{st:ag}{te:DE}{K:List D->ag->Prop}(te_:∀(x:D) (st':ag) (K':DK),bV [.ref n,.int m] st' (λ d s=>∃i,d= .int i/\K' (.int (i-o)) s)->te (σc.set 0 (some x)) st' K')(B:Hk st n b)(hb:b<=900000000)(m0:0<m)(m1:m<2^62)(hx:xs.length<=8)(hs:(λ(x:D)=>a8 0 x σc)=λ x=>some (σc.set 0 (some x)))
 (k:∀r st',r.length=xs.length->(∀x∈r,-o<=x/\x<m-o)->Hk st' n (b+8)->Upd st n st'->K (az r) st'):dA (a8 0) cF te (λ _=>True) σc xs [] st K:=by
 refine gu (λ rest acc st'=>∃l:List Int,acc=az l/\l.length+rest.length=xs.length/\(∀x∈l,-o<=x/\x<m-o)/\Hk st' n (b+l.length)/\Upd st n st') ?_ ?_ _ _ _ ⟨[],rfl,by simp,by simp,B.mono (by simp),Upd.refl⟩
 . rintro acc st' ⟨l,rfl,hl,h2,B',U'⟩;have hl:l.length=xs.length:=by simpa using hl
   exact⟨trivial,k l st' hl h2 (B'.mono (by omega)) U'⟩
 . rintro d rest acc st' ⟨l,rfl,hl,h2,B',U'⟩ next
   have hl2:l.length<8:=by simp at hl;omega
   refine⟨trivial,σc.set 0 (some d),congrFun hs d,te_ d st' _ ⟨n,m,_,rfl,B',by omega,m0,m1,λ i st2 i0 i1 B2 U2=>⟨i,rfl,?_⟩⟩⟩;show dA _ _ _ _ _ _ _ _ _;rw[ints_app];refine next _ _ ⟨l++[i-o],rfl,by simp at hl⊢;omega,λ z hz=>?_,B2.mono (by simp;omega),U'.trans U2⟩
   rcases SE.mp hz with hz|hz
   . exact h2 z hz
   . rw[Te.mp hz];omega
def AK{p q:Nat}:∀ {r s:List Int},(∀x∈r,x.natAbs<=p)->(∀x∈s,x.natAbs<=q)->(Mx.qj r s).natAbs<=r.length*(p*q)
 | [],_,_,_=>SM _
 |_::_,[],_,_=>SM _
 |a::r,b::s,h1,h2=>by
  have ih:=AK (r:=r) (s:=s) (λ x hx=>h1 x (SG _ hx)) λ x hx=>h2 x (SG _ hx);have h3:=Tb (h1 a SD) (h2 b SD);have h4:=Int.natAbs_add_le (a*b) (Mx.qj r s);rw[Tc]at h4;show(a*b+Mx.qj r s).natAbs<=_;rw[SY,VI,Vb];omega
def Je(f:Int->Int->Int):∀(r s:List Int),(gg (az r) (az s)).map (λ d=>match d with| .tup [.int a,.int b]=> .int (f a b)|_=> .aG)=az (List.zipWith f r s)
 | [],_=>rfl
 |_::_,[]=>rfl
 |a::r,b::s=>by
  have:=Je f r s;unfold gg at this⊢;simp only[az,TH,WN,Wb]at this⊢;rw[this]
def BZ{f:Int->Int->Int}{r s:List Int}{x:Int}(h:x∈List.zipWith f r s):∃a∈r,∃b∈s,x=f a b:=by
 obtain⟨i,hi,e⟩:=SV.mp h;rw[List.getElem_zipWith]at e;exact⟨_,Tg _,_,Tg _,e.symm⟩
def Ec:R9 tj 1 FP pA:=by
 rintro ds st K ⟨n,b,rfl,B,hb,k⟩;refine⟨rfl,?_⟩;have hn:=B.lt;refine⟨n,5,b,rfl,B,by omega,by decide,by decide,λ r1 st1 a0 a1 B1 U1=>fY ⟨n,4,_,rfl,B1,by omega,by decide,by decide,λ r2 st2 b0 b1 B2 U2=>fY ?_⟩⟩;dsimp only;refine iX (A:=ft _ _ _) (λ σ st'=>∃N w:Nat,σ=[some (.ref n),some (.int N),some (.int w),none,none,none,none,none,none]/\1<=N/\N<=8/\1<=w/\w<=8/\Hk st' n (b+5)/\Upd st n st') (λ nx hnx=>?_) ?_
 . refine⟨n,8,_,rfl,B2,by omega,by decide,by decide,λ r3 st3 c0 c1 B3 U3=>?_⟩;refine eq2 (λ h=>fT ?_) λ h=>?_
   . refine⟨n,3,_,rfl,B3,by omega,by decide,by decide,λ r4 st4 d0 d1 B4 U4=>fY ⟨n,3,_,rfl,B4,by omega,by decide,by decide,λ r5 st5 e0 e1 B5 U5=>fY ?_⟩⟩;obtain⟨x,rfl⟩:=Up d0;obtain⟨y,rfl⟩:=Up e0;exact hnx _ _ ⟨6+x,6+y,rfl,by omega,by omega,by omega,by omega,B5.mono (by omega),(U1.trans U2).trans (U3.trans (U4.trans U5))⟩
   . obtain⟨x,rfl⟩:=Up a0;obtain⟨y,rfl⟩:=Up b0;exact hnx _ _ ⟨1+x,1+y,rfl,by omega,by omega,by omega,by omega,B3.mono (by omega),(U1.trans U2).trans U3⟩
 clear a0 a1 b0 b1 B1 B2 U1 U2;rintro _ st3 ⟨N,w,rfl,N1,N8,w1,w8,B3,U3⟩;refine⟨Ss rfl,n,3,_,rfl,B3,by omega,by decide,by decide,λ r4 st4 c0 c1 B4 U4=>?_⟩
 obtain⟨M,eM,M2,M7⟩:∃M:Int,eV [D.int 2,.int 3,.int 7] r4=some (.int M)/\2<=M/\M<=7:=by
  have:r4=0\/r4=1\/r4=2:=by omega
  rcases this with rfl|rfl|rfl
  . exact⟨2,rfl,by decide,by decide⟩
  . exact⟨3,rfl,by decide,by decide⟩
  . exact⟨7,rfl,by decide,by decide⟩
 refine aB rfl eM ⟨Ss rfl,?_⟩;have U4':=U3.trans U4;have l4:=U4'.len
 have drawn:∀(x:D) (s:ag) (K':DK),bV [.ref n,.int (2*M+1)] s (λ d s=>∃i,d= .int i/\K' (.int (i-M)) s)->(aw kJ (aH bV (af (ae 1) (af (aw eC (aw dh (dC (.int 2)) (ae 2)) (dC (.int 1))) ak))) (ae 2)) [some x,some (.ref n),some (.int M)] s K':=λ x s K' h=>by
  obtain⟨n',m',b',e1,h1,h2,h3,h4,h5⟩:=h;cases e1
  exact dm (iV (by decide) (by decide)) (fY ⟨_,_,b',rfl,h1,h2,h3,h4,λ r s r0 r1 H U=>by
   obtain⟨i,ei,hi⟩:=h5 r s r0 r1 H U;cases ei;exact lg hi⟩)
 dsimp only;refine iX (A:=jz _ _ _) (λ σ s=>∃(A:List (List Int)) (v5 v6:Option D),σ=[some (.ref n),some (.int N),some (.int w),some (.int M),some (.ref st4.length),v5,v6,none,none]/\s[st4.length]?=some (.lst (A.map aY))/\Mx.cG w N A/\(∀r∈A,∀x∈r,x.natAbs<=119)/\Hk s n (b+100)/\XU st n s) (λ nx hnx=>?_) ?_
 . refine fh ⟨by omega,by omega⟩ ?_;rw[SH];refine kM w (λ j σ st'=>∃(A:List (List Int)) (v5 v6:Option D),σ=[some (.ref n),some (.int N),some (.int w),some (.int M),some (.ref st4.length),v5,v6,none,none]/\st'[st4.length]?=some (.lst (A.map aY))/\A.length=j/\(∀r∈A,r.length=N)/\(∀r∈A,∀x∈r,x.natAbs<=7+14*(j-1))/\(∀x∈A.getD 0 [],x.natAbs<=7)/\Hk st' n (b+6+9*j)/\XU st n st') ?_ ?_ ⟨[],none,none,rfl,by simp,rfl,by simp,by simp,by simp,(B4.cell (Sk (by rw[l4];exact hn))).mono (by simp;omega),(XU.upd U4').trans (XU.ext Ext.push)⟩
   . rintro σ st' ⟨A,v5,v6,rfl,e,hl,hA,hbd,_,B',X⟩;exact hnx _ _ ⟨A,v5,v6,rfl,e,⟨hl,hA⟩,λ r hr x hx=>Se (hbd r hr x hx) (by omega),B'.mono (by omega),X⟩
   rintro j σ st' rest hj ⟨A,v5,v6,rfl,e,hl,hA,hbd,h7,B',X⟩ next
   have hlen:=(Sg.mp e).1;refine⟨_,rfl,?_⟩;refine fh ⟨by omega,by omega⟩ ⟨bZ (by rw[cf];omega),?_⟩;rw[SH];refine sS (n:=n) (m:=2*M+1) (o:=M) drawn B' (by omega) (by omega) (by omega) (by rw[cf];omega) rfl λ r0 st5 hr0 hr1 B5 U5=>?_;rw[cf]at hr0;refine cH rfl ?_;have e5:st5[st4.length]?=some (.lst (A.map aY)):=(U5.same _ (by omega)).trans e;dsimp only;refine iX (A:=ft _ _ _) (λ σ s=>∃r:List Int,σ=[some (.ref n),some (.int N),some (.int w),some (.int M),some (.ref st4.length),some (.int (j:Int)),some (aY r),none,none]/\r.length=N/\(∀x∈r,x.natAbs<=7+14*j)/\s[st4.length]?=some (.lst (A.map aY))/\Hk s n (b+6+9*j+9)/\XU st n s) (λ nx hnx=>?_) ?_
   . have l9:∀s,s[st4.length]?=some (.lst (A.map aY))->Hk s n (b+6+9*j+9)->XU st n s->nx [some (.ref n),some (.int N),some (.int w),some (.int M),some (.ref st4.length),some (.int (j:Int)),some (aY r0),none,none] s:=λ s h1 h2 h3=>hnx _ _ ⟨r0,rfl,hr0,λ x hx=>by
      have:=hr1 x hx;omega,h1,h2,h3⟩
     have X5:=X.trans (XU.upd U5);refine Jg (λ h=>fT ?_) λ h=>l9 _ e5 (B5.mono (by omega)) X5;refine⟨n,4,_,rfl,B5,by omega,by decide,by decide,λ r6 st6 d0 d1 B6 U6=>?_⟩;have e6:st6[st4.length]?=some (.lst (A.map aY)):=(U6.same _ (by omega)).trans e5;have X6:=X5.trans (XU.upd U6);refine eq2 (λ h2=>fT ?_) λ h2=>l9 _ e6 (B6.mono (by omega)) X6;obtain⟨i,rfl⟩:∃i,j=i+1:=⟨j-1,by omega⟩
     have hm:A.getD i []∈A:=by rw[Mx.aP (by omega)];exact Tg _
     have hm0:A.getD 0 []∈A:=by rw[Mx.aP (by omega)];exact Tg _
     have lr:=hA _ hm;have lr0:=hA _ hm0;refine aB (aO e6) (show eV (A.map aY) 0=some (aY (A.getD 0 []))from qQ (k:=0) (by omega)) (jx (aB (aO e6) (Hb hl) ?_));refine qG rfl rfl λ ok aL=>⟨bZ (by rw[pe,Sb,Sb];omega),?_⟩
     refine comp_map (g:=λ d=>match d with| .tup [.int x,.int z]=> .int (2*x-z)|_=> .aG) (aL _ rfl rfl) _ (λ d hd K' q=>?_) ?_
     . obtain⟨x,z,_,_,rfl⟩:=sf hd;exact⟨_,rfl,dm (iV (by decide) (by decide)) (lg q)⟩
     rw[Je λ x z=>2*x-z];refine cH rfl (hnx _ _ ⟨_,rfl,by rw[List.length_zipWith];omega,λ y hy=>?_,e6,B6.mono (by omega),X6⟩);obtain⟨x,hx,z,hz,rfl⟩:=BZ hy;have h1:=h7 x hx;have h2:=hbd _ hm z hz;omega
   rintro _ st6 ⟨r,rfl,lr,br,e6,B6,X6⟩;refine FG (by rfl) e6 (zN rfl (CV e6 (by rw[Uc,Sb];omega) ?_));have hl6:=(Sg.mp e6).1;refine next _ _ ⟨A++[r],_,_,rfl,by rw[Sy hl6,zK],by simp[hl],λ q hq=>?_,λ q hq x hx=>?_,λ x hx=>?_,(B6.cell (Sj (by omega))).mono (by omega),X6.set (by omega)⟩
   . rcases SE.mp hq with h|h
     . exact hA q h
     . rw[Te.mp h];exact lr
   . rcases SE.mp hq with h|h
     . have:=hbd q h x hx;omega
     . rw[Te.mp h]at hx;have:=br x hx;omega
   . match A,hl,h7,hx with
     | [],hl,_,hx=>
       have:j=0:=by simpa using hl.symm
       have:=br x hx;omega
     |a::A',_,h7,hx=>exact h7 x hx
 rintro _ st5 ⟨A,v5,v6,rfl,e5,iA,bA,B5,X5⟩;have lx:=X5.len;refine fh ⟨by omega,by omega⟩ ⟨bZ (by rw[cf];omega),?_⟩;rw[SH];refine sS (n:=n) (m:=2*M+1) (o:=M) drawn B5 (by omega) (by omega) (by omega) (by rw[cf];omega) rfl λ r0 st6 hr0 hr1 B6 U6=>?_;rw[cf]at hr0;refine cH rfl ?_;have e6:st6[st4.length]?=some (.lst (A.map aY)):=(U6.same _ (by omega)).trans e5;have X6:=X5.trans (XU.upd U6);dsimp only;refine iX (A:=ft _ _ _) (λ σ s=>∃(r:List Int) (v8:Option D),σ=[some (.ref n),some (.int N),some (.int w),some (.int M),some (.ref st4.length),v5,v6,some (aY r),v8]/\r.length=w/\(∀x∈r,x.natAbs<=2^13)/\s[st4.length]?=some (.lst (A.map aY))/\Hk s n (b+150)/\XU st n s) (λ nx hnx=>?_) ?_
 . refine⟨n,2,_,rfl,B6,by omega,by decide,by decide,λ r7 st7 d0 d1 B7 U7=>?_⟩;have e7:st7[st4.length]?=some (.lst (A.map aY)):=(U7.same _ (by omega)).trans e6;have X7:=X6.trans (XU.upd U7);refine eq2 (λ h=>fT ?_) λ h=>hnx _ _ ⟨r0,none,rfl,hr0,λ x hx=>by have:=hr1 x hx;omega,e7,B7.mono (by omega),X7⟩;refine fh ⟨by omega,by omega⟩ ⟨bZ (by rw[cf];omega),?_⟩;rw[SH];refine sS (n:=n) (m:=9) (o:=4) (λ x st' K' h=>?_) B7 (by omega) (by decide) (by decide) (by rw[cf];omega) rfl λ ws st8 hw0 hw1 B8 U8=>?_
   . obtain⟨n',m',b',e1,h1,h2,h3,h4,h5⟩:=h;cases e1
     exact⟨_,9,b',rfl,h1,h2,h3,h4,λ r s r0 r1 H U=>by
      obtain⟨i,ei,hi⟩:=h5 r s r0 r1 H U;cases ei;exact lg hi⟩
   rw[cf]at hw0;have e8:st8[st4.length]?=some (.lst (A.map aY)):=(U8.same _ (by omega)).trans e7;have bw:∀x∈ws,x.natAbs<=4:=λ x hx=>by have:=hw1 x hx;omega
   refine o8 (aO e8) λ ok aL=>⟨bZ (by rw[Sb,iA.len];omega),?_⟩
   refine tX (λ r=> .int (Mx.qj ws r)) aL cK.tup (λ d r hr he K' t=>⟨_,rfl,_,_,ws,r,rfl,rfl,he,by omega,λ x hx y hy=>iV (by have:=bw x hx;omega) (by have:=bw x hx;omega),t⟩) ?_;have ed:A.map (λ r=>D.int (Mx.qj ws r))=az (A.map (Mx.qj ws)):=by unfold az;rw[Ta];rfl
   rw[ed];refine cH rfl (hnx _ _ ⟨_,_,rfl,by rw[Sb];exact iA.len,λ x hx=>?_,e8,B8.mono (by omega),X7.trans (XU.upd U8)⟩);obtain⟨r,hr,rfl⟩:=SJ.mp hx;refine Se (AK bw (bA r hr)) ?_;rw[hw0];exact Se (Tx _ N8) (by decide)
 rintro _ st7 ⟨r,v8,rfl,lr,br,e7,B7,X7⟩;exact cH (aO e7) ⟨Ss rfl,k A r N w st7 iA N1 N8 w1 w8 bA lr br (B7.mono (by omega)) X7⟩
def f7:cY:=λ ds st K=>∃(n:Nat) (b:Int),ds=[.ref n]/\Hk st n b/\b<=900000000/\∀x st',x.natAbs<=1000000000000->Hk st' n (b+4)->Upd st n st'->K (.int x) st'
def g6:List Str:=["_law_hand_here","_law_number"]
def uQ:DS:=(aJ (a9 1 (aw eC (aw dh (aH bV (af (ae 0) (af (aw tm (dC (.int 10)) (dC (.int 6))) ak))) (aw tm (dC (.int 10)) (dC (.int 6)))) (aH bV (af (ae 0) (af (aw tm (dC (.int 10)) (dC (.int 6))) ak)))))
 (cy (aw dh (aw aU (nD (af (dC (.int 1)) (af (pD ka (dC (.int 1))) ak))) (aH bV (af (ae 0) (af (dC (.int 2)) ak)))) (aw aU (nD (af (ae 1) (af (aw si (ae 1) (dC (.int 1000003))) (af (dC (.int 0)) (af (ae 1) ak))))) (aH bV (af (ae 0) (af (dC (.int 4)) ak)))))))
def sQ:R9 f7 1 uQ g6:=by
 rintro ds st K ⟨n,b,rfl,B,hb,k⟩;refine⟨rfl,?_⟩;have e6:(10:Int)^(6:Int).toNat=1000000:=by decide
 refine vY ⟨by decide,by decide,by decide⟩ ?_;rw[e6];refine⟨n,1000000,b,rfl,B,by omega,by decide,by decide,λ y1 st1 a0 a1 B1 U1=>vY ⟨by decide,by decide,by decide⟩ (dm (uF (by rw[e6];decide) (by rw[e6];decide)) (vY ⟨by decide,by decide,by decide⟩ ?_))⟩;rw[e6];refine⟨n,1000000,_,rfl,B1,by omega,by decide,by decide,λ y2 st2 b0 b1 B2 U2=>fY ?_⟩;have h0:0<=y1*1000000+y2:=by omega
 have h1:y1*1000000+y2<1000000000000:=by omega
 generalize y1*1000000+y2=z at h0 h1;refine jx ⟨Ss rfl,n,2,_,rfl,B2,by omega,by decide,by decide,λ y3 st3 c0 c1 B3 U3=>?_⟩
 obtain⟨s,es,hs⟩:∃s:Int,eV [D.int 1,.int (-1)] y3=some (.int s)/\(s=1\/s= -1):=by
  have:y3=0\/y3=1:=by omega
  rcases this with rfl|rfl
  . exact⟨1,rfl,.inl rfl⟩
  . exact⟨-1,rfl,.inr rfl⟩
 refine aB rfl es (xH (by decide) (by decide) ⟨Ss rfl,n,4,_,rfl,B3,by omega,by decide,by decide,λ y4 st4 d0 d1 B4 U4=>?_⟩)
 have q0:0<=z.fdiv 1000003/\z.fdiv 1000003<=z:=by
  rw[UY _ (by decide)];omega
 obtain⟨t,et,ht⟩:∃t:Int,eV [D.int z,.int (z.fdiv 1000003),.int 0,.int z] y4=some (.int t)/\0<=t/\t<=z:=by
  have:y4=0\/y4=1\/y4=2\/y4=3:=by omega
  rcases this with rfl|rfl|rfl|rfl
  . exact⟨z,rfl,h0,Vu _⟩
  . exact⟨_,rfl,q0⟩
  . exact⟨0,rfl,Vu _,h0⟩
  . exact⟨z,rfl,h0,Vu _⟩
 refine aB rfl et (dm (iV (by omega) (by omega)) (k _ _ ?_ (B4.mono (by omega)) (U1.trans (U2.trans (U3.trans U4)))));rcases hs with rfl|rfl
 . rw[UB];omega
 . rw[UC,UB];omega
def tI:cY:=λ ds st K=>∃(n:Nat) (b:Int),ds=[.ref n]/\Hk st n b/\b<=400000000/\∀(R:List (List Int)) (r:List Int) (N w:Nat) st',Mx.cG w N R->1<=N->N<=5->1<=w->w<=3->(∀r∈R,∀x∈r,x.natAbs<=1000000000000)->r.length=w->(∀x∈r,x.natAbs<=1000000000000)->Hk st' n (b+200)->Upd st n st'->K (.tup [c7 R,aY r]) st'
def pw:List Str:=["_law_hand_here","_law_size","_law_many","_law_rows","_law_due","_law_place","_law_sign"]
def Gu:DS:=(aJ (tP (gz 1 2) (jb (af (aw eC (dC (.int 1)) (aH bV (af (ae 0) (af (dC (.int 5)) ak)))) (af (aw eC (dC (.int 1)) (aH bV (af (ae 0) (af (dC (.int 3)) ak)))) ak))))
 (aJ (a9 3 (b_ c6 (af (cT (dR (af (ae 2) ak)) [none,some 1,some 0] (a8 0) cF (b_ c6 (af (cT (dR (af (ae 1) ak)) [none,some 2] (a8 0) cF (aH f7 (af (ae 1) ak))) ak))) ak)))
 (aJ (a9 4 (b_ c6 (af (cT (dR (af (ae 2) ak)) [none,some 0] (a8 0) cF (aH f7 (af (ae 1) ak))) ak)))
 (aJ (ft (bS (aw kP (aH bV (af (ae 0) (af (dC (.int 2)) ak))) (dC (.int 0)))) (aJ (tP (gz 5 6) (jb (af (aH bV (af (ae 0) (af (ae 1) ak))) (af (aw kJ (aH bV (af (ae 0) (af (dC (.int 3)) ak))) (dC (.int 1))) ak))))
 (a9 4 (b_ c6 (af (cT (dz (ae 3)) [none,some 6,some 5] (a8 0) cF (aw dh (ae 1) (aw aU (ae 0) (ae 2)))) ak)))) fk)
 (cy (jb (af (ae 3) (af (ae 4) ak))))))))
def yW{n:Nat}{b:Int}{σc:cm}{st:ag}{te:DE}{K:List D->ag->Prop}{xs:List D}(ei:∀(x:D) (st':ag) (K':DK),f7 [.ref n] st' K'->te (σc.set 0 (some x)) st' K')(B:Hk st n b)(hb:b+4*xs.length<=900000000)(hs:(λ(x:D)=>a8 0 x σc)=λ x=>some (σc.set 0 (some x)))
 (k:∀r st',r.length=xs.length->(∀x∈r,x.natAbs<=1000000000000)->Hk st' n (b+4*xs.length)->Upd st n st'->K (az r) st'):dA (a8 0) cF te (λ _=>True) σc xs [] st K:=by
 refine gu (λ rest acc st'=>∃r:List Int,acc=az r/\r.length+rest.length=xs.length/\(∀x∈r,x.natAbs<=1000000000000)/\Hk st' n (b+4*r.length)/\Upd st n st') ?_ ?_ _ _ _ ⟨[],rfl,by simp,(λ x hx=>by cases hx),by simpa using B,Upd.refl⟩
 . rintro acc st' ⟨r,rfl,hl,hr,B',U⟩;have hl:r.length=xs.length:=by simpa using hl
   exact⟨trivial,k r st' hl hr (B'.mono (by omega)) U⟩
 . rintro x rest acc st' ⟨r,rfl,hl,hr,B',U⟩ next
   have hl2:r.length<xs.length:=by simp at hl;omega
   refine⟨trivial,_,congrFun hs x,?_⟩;refine ei x st' _ ⟨n,_,rfl,B',by omega,λ y st2 a B2 U2=>?_⟩;show dA _ _ _ _ _ _ _ _ _;rw[ints_app];refine next _ _ ⟨r++[y],rfl,by simp at hl⊢;omega,λ z hz=>?_,B2.mono (by simp;omega),U.trans U2⟩
   rcases SE.mp hz with h|h
   . exact hr z h
   . rw[Te.mp h];exact a
def DV:R9 tI 1 Gu pw:=by
 rintro ds st K ⟨n,b,rfl,B,hb,k⟩;refine⟨rfl,?_⟩;refine⟨n,5,b,rfl,B,by omega,by decide,by decide,λ r1 st1 a0 a1 B1 U1=>fY ⟨n,3,_,rfl,B1,by omega,by decide,by decide,λ r2 st2 b0 b1 B2 U2=>fY ?_⟩⟩;obtain⟨N,eN,N1,N5⟩:∃N:Nat,(1:Int)+r1=(N:Int)/\1<=N/\N<=5:=⟨(1+r1).toNat,by omega,by omega,by omega⟩
 obtain⟨w,ew,w1,w3⟩:∃w:Nat,(1:Int)+r2=(w:Int)/\1<=w/\w<=3:=⟨(1+r2).toNat,by omega,by omega,by omega⟩
 rw[eN,ew];have U12:=U1.trans U2;clear a0 a1 b0 b1 B1 U1 U2 eN ew;refine⟨Ss rfl,_,rfl,?_⟩;refine fh ⟨by omega,by omega⟩ ⟨bZ (by rw[cf];omega),?_⟩;rw[SH];refine gu (λ rest acc st'=>∃A:List (List Int),acc=A.map aY/\A.length+rest.length=w/\(∀r∈A,r.length=N)/\(∀r∈A,∀x∈r,x.natAbs<=1000000000000)/\Hk st' n (b+2+20*A.length)/\Upd st n st') ?_ ?_ _ _ _ ⟨[],rfl,by rw[cf];simp,(λ r hr=>by cases hr),(λ r hr=>by cases hr),(B2.mono (by simp;omega)),U12⟩;rotate_left 1
 . rintro x rest acc st' ⟨A,rfl,hl,hA,bA,B',U⟩ next
   have hl2:A.length<w:=by simp at hl;omega
   refine⟨trivial,_,rfl,?_⟩;refine fh ⟨by omega,by omega⟩ ⟨bZ (by rw[cf];omega),?_⟩;rw[SH];refine yW (n:=n) (λ x st' K' h=>h) B' (by rw[cf];omega) rfl λ r st3 lr br B3 U3=>?_;rw[cf]at lr B3;refine cH rfl ?_;show dA _ _ _ _ _ _ _ _ _;rw[zK];refine next _ _ ⟨A++[r],rfl,by simp at hl⊢;omega,λ q hq=>?_,λ q hq=>?_,B3.mono (by simp;omega),U.trans U3⟩
   . rcases SE.mp hq with h|h
     . exact hA q h
     . rw[Te.mp h];exact lr
   . rcases SE.mp hq with h|h
     . exact bA q h
     . rw[Te.mp h];exact br
 rintro acc st3 ⟨A,rfl,hl,hA,bA,B3,U3⟩;have lA:A.length=w:=by simpa using hl
 refine⟨trivial,cH rfl ?_⟩;refine fh ⟨by omega,by omega⟩ ⟨bZ (by rw[cf];omega),?_⟩;rw[SH];refine yW (n:=n) (λ x st' K' h=>h) B3 (by rw[cf];omega) rfl λ r st4 lr br B4 U4=>?_;rw[cf]at lr B4;refine cH rfl ?_;have U34:=U3.trans U4;dsimp only[ak];refine iX (A:=ft _ _ _) (λ σ st'=>∃(r':List Int) (v5 v6:Option D),σ=[some (.ref n),some (.int N),some (.int w),some (c7 A),some (aY r'),v5,v6]/\r'.length=w/\(∀x∈r',x.natAbs<=1000000000000)/\Hk st' n (b+200)/\Upd st n st') (λ nx hnx=>?_) ?_
 . refine⟨n,2,_,rfl,B4,by omega,by decide,by decide,λ y st5 c0 c1 B5 U5=>?_⟩;refine eq2 (λ h=>fT ?_) λ h=>hnx _ _ ⟨r,_,_,rfl,lr,br,B5.mono (by omega),U34.trans U5⟩;refine⟨n,N,_,rfl,B5,by omega,by omega,by omega,λ p st6 p0 p1 B6 U6=>⟨n,3,_,rfl,B6,by omega,by decide,by decide,λ s st7 s0 s1 B7 U7=>lg ⟨Ss rfl,_,rfl,?_⟩⟩⟩;obtain⟨p',rfl⟩:=Up p0;refine iq ⟨bZ (by rw[Sb];omega),?_⟩;refine iI (λ q=> .int ((s-1)*q.getD p' 0)) trivial cK.tup (λ d q hq he K' t=>⟨_,rfl,aB he (dF (by rw[hA q hq];omega)) (dm (iV (by omega) (by omega)) t)⟩) ?_;have em:A.map (λ q=>D.int ((s-1)*q.getD p' 0))=az (A.map λ q=>(s-1)*q.getD p' 0):=by unfold az;rw[Ta];rfl
   rw[em];refine cH rfl (hnx _ _ ⟨_,_,_,rfl,by rw[Sb];exact lA,λ x hx=>?_,B7.mono (by omega),U34.trans (U5.trans (U6.trans U7))⟩);obtain⟨q,hq,rfl⟩:=SJ.mp hx;have hb:=bA q hq _ (getD_mem (k:=p') (by rw[hA q hq];omega));have:s-1= -1\/s-1=0\/s-1=1:=by omega
   rcases this with z|z|z<;>rw[z]<;>omega
 rintro σ st5 ⟨r',v5,v6,rfl,lr',br',B5,U5⟩;exact⟨Ss rfl,k A r' N w st5 ⟨lA,hA⟩ N1 N5 w1 w3 bA lr' br' B5 U5⟩
abbrev JD:cY:=EG Mg
def zl:List Str:=["_law_script","_law_hand_here","_law_turn","_law_rows","_law_due","_law_answer","_law_steps","_law_found"]
def OK:DS:=(aJ (a9 1 (aH rD (af (ae 0) ak)))
 (aJ (jz (dR (af (dC (.int 2)) ak)) (a8 2) (aJ (tP (gz 3 4) (ES (bS (aw kP (aH bV (af (ae 1) (af (dC (.int 8)) ak))) (dC (.int 0)))) (aH tI (af (ae 1) ak)) (aH tj (af (ae 1) ak))))
 (aJ (tP (gz 5 6) (aH l6 (af (ae 3) (af (ae 4) ak))))
 (aJ (a9 7 (aH pq (af (ae 3) (af (ae 4) ak))))
 (aJ (ft (qk (nP (bS (b_ rN (af (ae 7) (af (dC (.ty "tuple")) ak))))) (bS (aw p_ (ae 7) (aH pq (af (ae 3) (af (ae 4) ak)))))) (cy (dC (.bl false))) fk)
 (ft (bS (aw Gm (ae 5) (dC .aG))) (ft (bS (aw p_ (aw aU (ae 7) (dC (.int 0))) (dC (.str "none")))) (cy (dC (.bl false))) fk) (ft (qk (bS (aw p_ (aw aU (ae 7) (dC (.int 0))) (dC (.str "told")))) (qk (nP (bS (aH jS (af (jb (af (aw aU (ae 7) (dC (.int 1))) ak)) (af (dC (.int 1)) (af (b_ fG (af (aw aU (ae 3) (dC (.int 0))) ak)) ak)))))) (bS (aw p_ (aw aU (ae 7) (dC (.int 1))) (ae 5))))) (cy (dC (.bl false))) (ft (qk (nP (bS (aH jS (af (aw aU (ae 7) (dC (.int 2))) (af (b_ fG (af (ae 6) ak)) (af (b_ fG (af (aw aU (ae 3) (dC (.int 0))) ak)) ak)))))) (bS (aw p_ (aw aU (ae 7) (dC (.int 2))) (ae 6)))) (cy (dC (.bl false))) fk))))))))
 (cy (dC (.bl true)))))
def Jh.not{A':List (List Int)}{N w':Nat}{r':List Int}{x:Nat->Int}{ps:List Rat}(hw:∀n,n<N->Mx.Wh (Mx.dq ps w' (Mx.g A' n)))(hn:¬Mx.Wh (Mx.dq ps w' λ c=>r'.getD c 0))(h:∀q,q<w'->(Mx.S N λ n=>x n*Mx.g A' n q)=1*r'.getD q 0):False:=by
 have e:Mx.dq ps w' (λ c=>r'.getD c 0)=Mx.dq ps w' λ q=>Mx.S N λ n=>x n*Mx.g A' n q:=Mx.vj λ q hq=>by rw[h q hq,UB]
 rw[e,Mx.zU]at hn;exact hn (Mx.C_ λ i hi=>(hw i hi).mul _)
def xM{n:Nat}{r:List Int}:pl (n+1) (aY r)=true:=by
 unfold pl;exact JY
def rS{n:Nat}{A:List (List Int)}:pl (n+2) (c7 A)=true:=by
 unfold pl;refine Tp.mpr λ d hd=>?_;obtain⟨r,_,rfl⟩:=SJ.mp hd;exact xM
def Jp.one{A:List (List Int)}{N w:Nat}{r:List Int}{y y':D}(iA:Mx.cG N w A)(lr:r.length=w)(hst:∀top c,Mx.ir A N w top c->Mx.bc (c.A.take top) top w (Mx.bz (c.A.take top)))(h:Jp A N w r y)(h':Jp A N w r y'):y=y':=by
 obtain⟨top,c,hC,h⟩:=h.ex;obtain⟨top',c',hC',h'⟩:=h'.ex;obtain⟨rfl,rfl⟩:=hC.unique hC';rcases h with⟨e1,G,hG,rfl⟩|⟨l,b,e1,hb,rfl⟩
 . rcases h' with⟨e2,G',hG',rfl⟩|⟨l',b',e2,_,_⟩
   . have eG:G=G':=by
      rcases hG with⟨q,t,d,hD,rfl⟩|⟨q,rfl⟩
      . rcases hG' with⟨_,t',d',hD',rfl⟩|⟨q',_⟩
        . obtain⟨rfl,rfl⟩:=hD.unique hD';rfl
        . exact absurd q q'
      . rcases hG' with⟨q',_⟩|⟨_,rfl⟩
        . exact absurd q' q
        . rfl
     subst eG;rfl
   . rw[e1]at e2;cases e2
 . rcases h' with⟨e2,_⟩|⟨l',b',e2,hb',rfl⟩
   . rw[e1]at e2;cases e2
   . rw[e1]at e2;cases e2;rw[hb.unique (hst top c hC) hb']
instance (N e:Nat):Decidable (CQ N e):=by unfold CQ;infer_instance
instance (N e:Nat):Decidable (AG N e):=by unfold AG;infer_instance
def IH:∀N,N<9->CQ N 14/\AG N 14:=by decide+kernel
def Ju:∀N,N<6->CQ N 40/\AG N 40:=by decide+kernel
def Km{A:List (List Int)}{N w m f top k:Nat}{r a a':List Int}{F G:List (List Int)}{c:Mx.B3}(T:Jh A N w r a F m f c top)(is:Mx.cG k N G)(st:Mx.bc G k N (Mx.bz G))(red:Mx.kb G k (Mx.bz G))(pK:∀x:Nat->Int,(∀q,q<w->(Mx.S N λ n=>x n*Mx.g A n q)=0)↔Mx.bT G k N x)(la:a'.length=N)(sum:∀q,q<w->(Mx.S N λ n=>a'.getD n 0*Mx.g A n q)=r.getD q 0)(z_:∀i,i<k->0<=a'.getD (Mx.bz G i) 0/\a'.getD (Mx.bz G i) 0<Mx.g G i (Mx.bz G i)):F=G/\a=a':=by
 have L:∀x,Mx.bT F m N x↔Mx.bT G k N x:=λ x=>by rw[<-T.pK x,pK x]
 have h1:∀k',k'<m->Mx.bT G k N (Mx.g F k'):=λ k' hk=>(L _).mp (Mx.bT.row hk);have h2:∀k',k'<k->Mx.bT F m N (Mx.g G k'):=λ k' hk=>(L _).mpr (Mx.bT.row hk);have em:=T.wg.st.many st h1 h2;subst em;have eF:F=G:=T.wg.is.ext is λ i j hi hj=>T.wg.st.only st h1 h2 T.red red hi j hj;subst eF;refine⟨rfl,Mx.x6 T.la la λ q hq=>?_⟩
 have v:Mx.bT F m N λ n=>a.getD n 0-a'.getD n 0:=(T.pK _).mp λ q hq=>by
  have e5:(Mx.S N λ n=>(a.getD n 0-a'.getD n 0)*Mx.g A n q)=(Mx.S N λ n=>a.getD n 0*Mx.g A n q)-Mx.S N λ n=>a'.getD n 0*Mx.g A n q:=by
   rw[Tt,<-Mx.mV,<-Mx.f_];exact Mx.ax λ n _=>by rw[Wa,Tt]
  rw[e5,T.sum q hq,sum q hq,Xe]
 have z:=T.wg.st.Iu v (λ k hk=>by
  obtain⟨x1,x2⟩:=T.z_ k hk;obtain⟨y1,y2⟩:=z_ k hk;omega) q hq
 omega
def Hc{a:List Int}{F U C:List (List Int)}:pl 40 (.tup [.str "told",aY a,c7 F,c7 U,c7 C])=true:=by
 unfold pl;simp only[Vj,List.all_nil,WR];rw[xM,rS,rS,rS];rfl
def Hz{ps:List Rat}:pl 40 (.tup [.str "none",.tup (ps.map je)])=true:=by
 have h:pl 39 (.tup (ps.map je))=true:=by
  unfold pl;refine Tp.mpr λ d hd=>?_;obtain⟨q,_,rfl⟩:=SJ.mp hd;rfl
 unfold pl;simp only[Vj,List.all_nil,WR];rw[h];rfl
def MA:R9 JD 1 OK zl:=by
 rintro ds st K ⟨ns,rfl,hl,hst,k⟩;refine⟨rfl,?_⟩;have l0:st.length=1:=by rw[hst];rfl
 have t0:st[0]?=some (gT false):=by rw[hst];rfl
 clear hst;refine⟨ns,rfl,hl,λ st1 B1 X1=>?_⟩;have t1:st1[0]?=some (gT false):=(X1.same 0 (by omega)).trans t0;rw[l0]at B1⊢;refine fh ⟨by decide,by decide⟩ ?_;refine kM 2 (λ j σ s=>∃(v2 v3 v4 v5 v6 v7:Option D) (f:Bool),σ=[some (.lst (az ns)),some (.ref 1),v2,v3,v4,v5,v6,v7]/\Hk s 1 (1000*j)/\s[0]?=some (gT f)) ?_ ?_ ⟨none,none,none,none,none,none,false,rfl,B1.mono (by omega),t1⟩
 . rintro σ s ⟨v2,v3,v4,v5,v6,v7,f,rfl,_,_⟩;exact k s
 rintro j σ s rest hj ⟨v2,v3,v4,v5,v6,v7,f,rfl,B,t⟩ next
 refine⟨_,rfl,?_⟩;refine iX (A:=tP _ _) (λ σ' s'=>∃(R:List (List Int)) (r:List Int) (N w e:Nat),σ'=[some (.lst (az ns)),some (.ref 1),some (.int (j:Int)),some (c7 R),some (aY r),v5,v6,v7]/\Mx.cG w N R/\1<=N/\N<=8/\1<=w/\w<=8/\(∀q∈R,∀x∈q,x.natAbs<=2^e)/\e<=40/\CQ N e/\AG N e/\r.length=w/\(∀x∈r,x.natAbs<=2^70)/\Hk s' 1 (1000*j+500)/\s'[0]?=some (gT f)) (λ nx hnx=>?_) ?_
 . have hB:=B.lt;refine⟨1,8,_,rfl,B,by omega,by decide,by decide,λ y s2 y0 y8 B2 U2=>?_⟩;have t2:=(U2.same 0 (by decide)).trans t;refine eq2 (λ h=>fT ?_) λ h=>?_
   . refine⟨1,_,rfl,B2,by omega,λ R r N w s3 iR N1 N5 w1 w3 bR lr br B3 U3=>⟨_,rfl,?_⟩⟩;exact hnx _ _ ⟨R,r,N,w,40,rfl,iR,N1,by omega,w1,by omega,λ q hq x hx=>Se (bR q hq x hx) (by decide),by decide,(Ju N (by omega)).1,(Ju N (by omega)).2,lr,λ x hx=>Se (br x hx) (by decide),B3.mono (by omega),(U3.same 0 (by decide)).trans t2⟩
   . refine⟨1,_,rfl,B2,by omega,λ R r N w s3 iR N1 N8 w1 w8 bR lr br B3 X3=>⟨_,rfl,?_⟩⟩;have hl2:=U2.len;exact hnx _ _ ⟨R,r,N,w,14,rfl,iR,N1,N8,w1,w8,λ q hq x hx=>Se (bR q hq x hx) (by decide),by decide,(IH N (by omega)).1,(IH N (by omega)).2,lr,λ x hx=>Se (br x hx) (by decide),B3.mono (by omega),(X3.same 0 (by omega) (by decide)).trans t2⟩
 rintro σ' s3 ⟨R,r,N,w,e,rfl,iR,N1,N8,w1,w8,bR,he,sz,fq,lr,br,B3,t3⟩;clear B t;have lR:=iR.len;refine⟨R,r,N,w,e,rfl,iR,N1,N8,w1,w8,bR,he,fq,lr,br,λ s4 y G kk X4 rk=>⟨_,rfl,?_⟩⟩;have t4:=(X4.same 0 (Sg.mp t3).1).trans t3;have B4:=B3.cell (X4.same 1 B3.lt);have iA:=Mx.rh iR;have eR:Mx.gp (Mx.gp R N) w=R:=Cb iR;have bA:=Jv iR bR;have inp:QE (Mx.gp R N) N w r e:=⟨iA,N1,N8,w8,bA,lr,br,by omega,sz⟩
 have A7:eV (R.map aY) 0=some (aY (R.getD 0 [])):=qQ (k:=0) (by omega);have len0:((R.getD 0 []).map D.int).length=N:=by rw[Sb,iR.row (i:=0) (by omega)]
 refine⟨_,Mx.gp R N,r,N,w,e,f,by rw[eR],rfl,inp,w1,t4,λ s5 y1 B5 an1 af1=>?_⟩;obtain⟨f5,t5⟩:=B5.tb;have B5':=B4.cell (B5.fr 1 B4.lt (by decide))
 have tup:∃ys,y1= .tup ys/\pl 40 y1=true:=by
  rcases an1 with⟨a,F,m,fb,c,top,T,e⟩|⟨ps,e,_⟩
  . exact⟨_,e,by rw[e];exact Hc⟩
  . exact⟨_,e,by rw[e];exact Hz⟩
 obtain⟨ys,rfl,hpl⟩:=tup;refine uc rfl (by decide) ?_;refine⟨_,Mx.gp R N,r,N,w,e,f5,by rw[eR],rfl,inp,w1,t5,λ s6 y2 B6 _ af2=>?_⟩;obtain⟨f6,t6⟩:=B6.tb;have B6':=B5'.cell (B6.fr 1 B5'.lt (by decide))
 have hst:∀top c,Mx.ir (Mx.gp R N) N w top c->Mx.bc (c.A.take top) top w (Mx.bz (c.A.take top)):=λ top c hC=>by
  obtain⟨ld,S⟩:=hC.RI iA (e0:=e) (λ i c _ hi=>by
   have lr':=iA.row hi;unfold Mx.g;by_cases hc:c<w
   . exact bA _ (by rw[Mx.aP (by rw[iA.len];exact hi)];exact Tg _) _ (getD_mem (by omega))
   . rw[Mx.jJ (by omega)];exact SM _) N8 (R_ w)
  have s:Mx.bc (c.A.take top) top w ld:=⟨λ i hi=>by
   obtain⟨h1,h2,h3⟩:=S.lead i hi;exact⟨h1,by rw[d9 hi];exact h2,λ c hc=>by rw[d9 hi];exact h3 c hc⟩,S.mono⟩
  exact s.Bq
 have e2:y2= .tup ys:=af2.one iA lr hst af1;subst e2;refine vQ hpl ?_;have fin:∀(v5 v6 v7:Option D),ij (a8 2) _ (λ _=>True) _ rest [some (.lst (az ns)),some (.ref 1),some (.int (j:Int)),some (c7 R),some (aY r),v5,v6,v7] s6:=λ v5 v6 v7=>next _ _ ⟨_,_,_,v5,v6,v7,f6,rfl,B6'.mono (by omega),t6⟩
 rcases rk.or with⟨rfl,no⟩|⟨a',rfl,la',sum',fal'⟩
 . refine Gg rfl (fT ?_);rcases an1 with⟨a,F,m,fb,c,top,T,e⟩|⟨ps,e,lps,hP,hw,hn⟩
   . exact absurd T.sum (no _)
   . cases e;refine aB rfl rfl (AE rfl rfl ?_);exact fin _ _ _
 . refine Gg rfl ?_;rcases an1 with⟨a,F,m,fb,c,top,T,e⟩|⟨ps,e,lps,hP,hw,hn⟩
   . cases e;obtain⟨rfl,rfl⟩:=Km T rk.is rk.st rk.red rk.pK la' sum' fal';refine aB rfl rfl (AE rfl rfl ?_);refine aB rfl rfl ⟨Ss rfl,aB rfl A7 (dO rfl ?_)⟩;rw[len0];refine⟨[a],1,N,rfl,⟨rfl,λ q hq=>by rw[Te.mp hq];exact la'⟩,by omega,?_⟩;refine aB rfl rfl (vQ (xM (n:=39)) ?_);refine aB rfl rfl (dO rfl (aB rfl A7 (dO rfl ?_)));rw[len0,Sb];refine⟨F,F.length,N,rfl,⟨rfl,rk.is.fE⟩,by omega,?_⟩;refine aB rfl rfl (vQ (rS (n:=38)) ?_);exact fin _ _ _
   . exact(Jh.not (x:=λ n=>a'.getD n 0) hw hn λ q hq=>by rw[UB];exact sum' q hq).elim
end Prog
namespace Row
open PySem L2 L3 Prog
open PySem.Spec hiding items?
open PyProof.Rows hiding St
def qF:(("abs":Str))≠"__name__":=by decide+kernel
def cj:(("tuple":Str))≠"__name__":=by decide+kernel
def l_:(("list":Str))≠"__name__":=by decide+kernel
def dP:(("len":Str))≠"__name__":=by decide+kernel
def Bp:(("int":Str))≠"__name__":=by decide+kernel
def Nz:(("sum":Str))≠"__name__":=by decide+kernel
def N2:(("min":Str))≠"__name__":=by decide+kernel
def iO:(("isinstance":Str))≠"__name__":=by decide+kernel
def KO:(("bool":Str))≠"__name__":=by decide+kernel
def N7:(("all":Str))≠"__name__":=by decide+kernel
def AY:(("any":Str))≠"__name__":=by decide+kernel
structure Bl(mg:Str->Option Value):Prop where
 ux:mg "abs"=none
 cN:mg "tuple"=none
 uD:mg "zip"=none
 d8:mg "range"=none
 vb:mg "enumerate"=none
 o5:mg "list"=none
 fm:mg "len"=none
 HC:mg "sorted"=none
 D9:mg "int"=none
 OI:mg "sum"=none
 OT:mg "min"=none
 jr:mg "isinstance"=none
 Nx:mg "bool"=none
 O7:mg "all"=none
 DY:mg "any"=none
structure Kl(K:PySem.W.Frag)(mg:Str->Option Value):Prop where
 bg:ClsAt K mg "Bench" aF
 cP:gL K aF "body"
 fB:gL K aF "turn"
 cV:gL K aF "back_columns"
def dZ:VS (ai mz) rl ["abs"]:=⟨by decide+kernel⟩
def kU:aR rl ["one","other"] (ai mz):=⟨rfl,rfl,rfl,by decide+kernel,rfl,by decide+kernel,by decide+kernel⟩
def iM:VS (ai rf) wV ["common"]:=⟨by decide+kernel⟩
def mh:aR wV ["top","bottom"] (ai rf):=⟨rfl,rfl,rfl,by decide+kernel,rfl,by decide+kernel,by decide+kernel⟩
def nB:VS (ai qC) wj ["part"]:=⟨by decide+kernel⟩
def JU:aR wj ["one","other"] (ai qC):=⟨rfl,rfl,rfl,by decide+kernel,rfl,by decide+kernel,by decide+kernel⟩
def kQ:VS (ai oq) uK ["part"]:=⟨by decide+kernel⟩
def Ii:aR uK ["one","other"] (ai oq):=⟨rfl,rfl,rfl,by decide+kernel,rfl,by decide+kernel,by decide+kernel⟩
def oF:VS (ai oE) uG ["part"]:=⟨by decide+kernel⟩
def HE:aR uG ["one","other"] (ai oE):=⟨rfl,rfl,rfl,by decide+kernel,rfl,by decide+kernel,by decide+kernel⟩
def qW:VS (ai qL) vT ["part"]:=⟨by decide+kernel⟩
def KL:aR vT ["one","other"] (ai qL):=⟨rfl,rfl,rfl,by decide+kernel,rfl,by decide+kernel,by decide+kernel⟩
def K3:VS (ai oy) uB []:=⟨by decide+kernel⟩
def HY:aR uB ["n"] (ai oy):=⟨rfl,rfl,rfl,by decide+kernel,rfl,by decide+kernel,by decide+kernel⟩
def sT:VS (ai jv) pW ["tuple"]:=⟨by decide+kernel⟩
def Dc:aR pW ["rows"] (ai jv):=⟨rfl,rfl,rfl,by decide+kernel,rfl,by decide+kernel,by decide+kernel⟩
def xw:VS (ai mn) uL ["zip"]:=⟨by decide+kernel⟩
def HB:aR uL ["row","times","other"] (ai mn):=⟨rfl,rfl,rfl,by decide+kernel,rfl,by decide+kernel,by decide+kernel⟩
def fx:VS (ai mq) sr ["zip","added","tuple"]:=⟨by decide+kernel⟩
def pG:aR sr ["weights","rows","wide"] (ai mq):=⟨rfl,rfl,rfl,by decide+kernel,rfl,by decide+kernel,by decide+kernel⟩
def vt:VS (ai kC) sq ["tuple"]:=⟨by decide+kernel⟩
def F2:aR sq ["rows","place"] (ai kC):=⟨rfl,rfl,rfl,by decide+kernel,rfl,by decide+kernel,by decide+kernel⟩
def kr:VS (ai fW) ku ["range","tuple"]:=⟨by decide+kernel⟩
def xZ:aR ku ["rows","wide"] (ai fW):=⟨rfl,rfl,rfl,by decide+kernel,rfl,by decide+kernel,by decide+kernel⟩
def nZ:VS (ai iJ) nN ["range","tuple"]:=⟨by decide+kernel⟩
def BH:aR nN ["n","place"] (ai iJ):=⟨rfl,rfl,rfl,by decide+kernel,rfl,by decide+kernel,by decide+kernel⟩
def mO:VS (ai gZ) mK ["range","tuple"]:=⟨by decide+kernel⟩
def Ab:aR mK ["n"] (ai gZ):=⟨rfl,rfl,rfl,by decide+kernel,rfl,by decide+kernel,by decide+kernel⟩
def pS:VS (ai kW) pP ["enumerate"]:=⟨by decide+kernel⟩
def vW:aR pP ["row"] (ai kW):=⟨rfl,rfl,rfl,by decide+kernel,rfl,by decide+kernel,by decide+kernel⟩
def jt:VS (ai ff) gH []:=⟨by decide+kernel⟩
def i9:aR gH ["top","bottom"] (ai ff):=⟨rfl,rfl,rfl,by decide+kernel,rfl,by decide+kernel,by decide+kernel⟩
def dG:VS (ai i3) mT ["list"]:=⟨by decide+kernel⟩
def ue:aR mT ["rows","k","other"] (ai i3):=⟨rfl,rfl,rfl,by decide+kernel,rfl,by decide+kernel,by decide+kernel⟩
def GF:VS (ai jo) pZ []:=⟨by decide+kernel⟩
def Dg:aR pZ ["row"] (ai jo):=⟨rfl,rfl,rfl,by decide+kernel,rfl,by decide+kernel,by decide+kernel⟩
def cp:VS (ai dv) iC ["len","unit_rows"]:=⟨by decide+kernel⟩
def uU:aR iC ["self","rows"] (ai dv):=⟨rfl,rfl,rfl,by decide+kernel,rfl,by decide+kernel,by decide+kernel⟩
def a_:VS (ai ip) lQ ["added"]:=⟨by decide+kernel⟩
def za:aR lQ ["self","k","times","other"] (ai ip):=⟨rfl,rfl,rfl,by decide+kernel,rfl,by decide+kernel,by decide+kernel⟩
def bD:VS (ai fL) iB ["exchanged"]:=⟨by decide+kernel⟩
def uR:aR iB ["self","k","other"] (ai fL):=⟨rfl,rfl,rfl,by decide+kernel,rfl,by decide+kernel,by decide+kernel⟩
def aV:VS (ai eK) gy ["negated"]:=⟨by decide+kernel⟩
def r9:aR gy ["self","k"] (ai eK):=⟨rfl,rfl,rfl,by decide+kernel,rfl,by decide+kernel,by decide+kernel⟩
def dJ:VS (ai dH) g9 ["len","range","sorted"]:=⟨by decide+kernel⟩
def nA:aR g9 ["self","top","place"] (ai dH):=⟨rfl,rfl,rfl,by decide+kernel,rfl,by decide+kernel,by decide+kernel⟩
def aD:VS (ai gh) jZ ["len","nearest_quotient"]:=⟨by decide+kernel⟩
def gK:aR jZ ["self","top","place"] (ai gh):=⟨rfl,rfl,rfl,by decide+kernel,rfl,by decide+kernel,by decide+kernel⟩
def cC:VS (ai eO) gv ["range"]:=⟨by decide+kernel⟩
def gb:aR gv ["self","top","place"] (ai eO):=⟨rfl,rfl,rfl,by decide+kernel,rfl,by decide+kernel,by decide+kernel⟩
def bo:VS (ai jK) n_ ["Bench","len","range","turned_over","as_rows"]:=⟨by decide+kernel⟩
def iZ:aR n_ ["rows"] (ai jK):=⟨rfl,rfl,rfl,by decide+kernel,rfl,by decide+kernel,by decide+kernel⟩
def bY:VS (ai kK) pH ["list","lead_of","added","tuple"]:=⟨by decide+kernel⟩
def gf:aR pH ["form","row"] (ai kK):=⟨rfl,rfl,rfl,by decide+kernel,rfl,by decide+kernel,by decide+kernel⟩
def um:VS (ai oo) uw ["weighed"]:=⟨by decide+kernel⟩
def Hi:aR uw ["form","row"] (ai oo):=⟨rfl,rfl,rfl,by decide+kernel,rfl,by decide+kernel,by decide+kernel⟩
def cW:VS (ai iW) mX ["whole","zip","times","plus"]:=⟨by decide+kernel⟩
def k_:aR mX ["parts","row"] (ai iW):=⟨rfl,rfl,rfl,by decide+kernel,rfl,by decide+kernel,by decide+kernel⟩
def eS:VS (ai i5) mH ["lead_of","abs"]:=⟨by decide+kernel⟩
def tF:aR mH ["form","rest","place"] (ai i5):=⟨rfl,rfl,rfl,by decide+kernel,rfl,by decide+kernel,by decide+kernel⟩
def aq:VS (ai fU) jf ["lead_of","whole","len","bottom_at","part","range","parts_dot","minus","over","tuple"]:=⟨by decide+kernel⟩
def fM:aR jf ["form","rest"] (ai fU):=⟨rfl,rfl,rfl,by decide+kernel,rfl,by decide+kernel,by decide+kernel⟩
def fi:VS (ai gj) jU ["len","standing"]:=⟨by decide+kernel⟩
def w6:aR jU ["turn","many"] (ai gj):=⟨rfl,rfl,rfl,by decide+kernel,rfl,by decide+kernel,by decide+kernel⟩
def aK:VS (ai kO) pE ["len","turned_over","standing","weighed","lead_of","parts_against","steps_behind","sum_by","falls"]:=⟨by decide+kernel⟩
def gF:aR pE ["rows","due"] (ai kO):=⟨rfl,rfl,rfl,by decide+kernel,rfl,by decide+kernel,by decide+kernel⟩
def fy:VS (ai jP) nM ["abs","int"]:=⟨by decide+kernel⟩
def qo:aR nM ["_law_script"] (ai jP):=⟨rfl,rfl,rfl,by decide+kernel,rfl,by decide+kernel,by decide+kernel⟩
def cA:VS (ai jT) nL ["len"]:=⟨by decide+kernel⟩
def mJ:aR nL ["_law_hand_here","_law_many"] (ai jT):=⟨rfl,rfl,rfl,by decide+kernel,rfl,by decide+kernel,by decide+kernel⟩
def nt:VS (ai jn) pX ["zip","sum"]:=⟨by decide+kernel⟩
def Dz:aR pX ["_law_one","_law_other"] (ai jn):=⟨rfl,rfl,rfl,by decide+kernel,rfl,by decide+kernel,by decide+kernel⟩
def rG:VS (ai iF) nS ["zip"]:=⟨by decide+kernel⟩
def BD:aR nS ["_law_row","_law_other","_law_many"] (ai iF):=⟨rfl,rfl,rfl,by decide+kernel,rfl,by decide+kernel,by decide+kernel⟩
def cw:VS (ai fF) pR ["len","min"]:=⟨by decide+kernel⟩
def fP:aR pR ["_law_rows","_law_column"] (ai fF):=⟨rfl,rfl,rfl,by decide+kernel,rfl,by decide+kernel,by decide+kernel⟩
def bH:VS (ai dB) jI ["range","_law_led","tuple"]:=⟨by decide+kernel⟩
def dN:aR jI ["_law_rows","_law_wide"] (ai dB):=⟨rfl,rfl,rfl,by decide+kernel,rfl,by decide+kernel,by decide+kernel⟩
def cB:VS (ai iD) nR ["list","len","range","_law_less","tuple"]:=⟨by decide+kernel⟩
def gX:aR nR ["_law_form","_law_row"] (ai iD):=⟨rfl,rfl,rfl,by decide+kernel,rfl,by decide+kernel,by decide+kernel⟩
def fw:VS (ai iY) mI ["int","isinstance","bool"]:=⟨by decide+kernel⟩
def Al:aR mI ["_law_found"] (ai iY):=⟨rfl,rfl,rfl,by decide+kernel,rfl,by decide+kernel,by decide+kernel⟩
def bh:VS (ai fN) jQ ["tuple","isinstance","len","all"]:=⟨by decide+kernel⟩
def pU:aR jQ ["_law_found","_law_many","_law_wide"] (ai fN):=⟨rfl,rfl,rfl,by decide+kernel,rfl,by decide+kernel,by decide+kernel⟩
def nY:VS (ai iy) oa ["len","range"]:=⟨by decide+kernel⟩
def BE:aR oa ["_law_rows"] (ai iy):=⟨rfl,rfl,rfl,by decide+kernel,rfl,by decide+kernel,by decide+kernel⟩
def ay:VS (ai dD) j4 ["len","_law_over","enumerate","_law_standing","tuple","_law_rest","any"]:=⟨by decide+kernel⟩
def eJ:aR j4 ["_law_rows","_law_due"] (ai dD):=⟨rfl,rfl,rfl,by decide+kernel,rfl,by decide+kernel,by decide+kernel⟩
def aE:VS (ai dX) pA ["_law_take","range","tuple","zip"]:=⟨by decide+kernel⟩
def fA:aR pA ["_law_hand_here"] (ai dX):=⟨rfl,rfl,rfl,by decide+kernel,rfl,by decide+kernel,by decide+kernel⟩
def bI:VS (ai fC) g6 ["_law_take"]:=⟨by decide+kernel⟩
def nk:aR g6 ["_law_hand_here"] (ai fC):=⟨rfl,rfl,rfl,by decide+kernel,rfl,by decide+kernel,by decide+kernel⟩
def bE:VS (ai gI) pw ["_law_take","range","tuple"]:=⟨by decide+kernel⟩
def jM:aR pw ["_law_hand_here"] (ai gI):=⟨rfl,rfl,rfl,by decide+kernel,rfl,by decide+kernel,by decide+kernel⟩
def bQ:VS (ai pL) zl ["_law_hand","range","_law_take","_law_far","_law_any","_law_reckoned","answers","tuple","isinstance","len","_law_are_rows"]:=⟨by decide+kernel⟩
def qI:aR zl ["_law_script"] (ai pL):=⟨rfl,rfl,rfl,by decide+kernel,rfl,by decide+kernel,by decide+kernel⟩
structure Ev(w:World)(mg:Str->Option Value)(h:Heap):Prop where
 X:(KX w.params).In h
 G:h.Ns mainGlobals mg
section
variable {w:World}{mg:Str->Option Value}{h base:Heap}(e:Ev w mg h)
include e
theorem Bt:Bl mg:=⟨Tj e.X e.G (by kernel_rfl),Tj e.X e.G (by kernel_rfl),Tj e.X e.G (by kernel_rfl),Tj e.X e.G (by kernel_rfl),Tj e.X e.G (by kernel_rfl),Tj e.X e.G (by kernel_rfl),Tj e.X e.G (by kernel_rfl),Tj e.X e.G (by kernel_rfl),Tj e.X e.G (by kernel_rfl),Tj e.X e.G (by kernel_rfl),Tj e.X e.G (by kernel_rfl),Tj e.X e.G (by kernel_rfl),Tj e.X e.G (by kernel_rfl),Tj e.X e.G (by kernel_rfl),Tj e.X e.G (by kernel_rfl)⟩
theorem Qt:Kl (KX w.params) mg:=⟨⟨⟨by kernel_rfl,by kernel_rfl,by kernel_rfl,by kernel_rfl⟩,PySem.W.mg_of e.X e.G (by kernel_rfl),by kernel_rfl,by kernel_rfl⟩,Hd.na (by kernel_rfl),Hd.na (by kernel_rfl),Hd.na (by kernel_rfl)⟩
theorem As:cq (KX w.params) mg "common" "common" mz ["one","other"] 21 (Hd.fd mz "common" "common" kj 20):=Hd.j5 e.X e.G (by kernel_rfl) λ _ _ _ _ _ _ _ _=>rfl
theorem Ij:bN PW w (KX w.params) mg base c5 1 21 (Hd.fd mz "common" "common" kj 20) ["one","other"] (c_ vN):=by
 have B:=Bt e;have Q:=Qt e
 exact cn (N:=rl) (As e).fn kU (λ cdv A outer s H E hr=>(au (aQ kU.nd (dZ.l 2) (de uP (aa (dZ.nm 0) aj) B.ux rfl qF (dZ.d 0) (dZ.g 0)))
  (au (aQ kU.nd (dZ.l 3) (de uP (aa (dZ.nm 1) aj) B.ux rfl qF (dZ.d 0) (dZ.g 0)))
  (au (vB (cR ug (cu _) (dZ.nm 3) av) (au (aQ kU.nd (dZ.l 4) (aZ pk (dZ.nm 2) (dZ.nm 3)))
  (au (aQ kU.nd (dZ.l 2) (dZ.nm 3))
  (aC (aQ kU.nd (dZ.l 3) (dZ.nm 4))))))
  (aC (ba (dZ.nm 2))))))) Fc
theorem qH:cq (KX w.params) mg "part" "part" rf ["top","bottom"] 28 (Hd.fd rf "part" "part" kj 27):=Hd.j5 e.X e.G (by kernel_rfl) λ _ _ _ _ _ _ _ _=>rfl
theorem tT:bN PW w (KX w.params) mg base c5 2 28 (Hd.fd rf "part" "part" kj 27) ["top","bottom"] (c_ pd):=by
 have B:=Bt e;have Q:=Qt e
 exact cn (N:=wV) (qH e).fn mh (λ cdv A outer s H E hr=>(au (aQ mh.nd (iM.l 2) (aS (As e) (Ij e) (hr.mono (by decide)) (aa (iM.nm 0) (aa (iM.nm 1) aj)) (iM.d 0) (iM.g 0)))
  (au (fz (cR AS (cu _) (iM.nm 1) av) (aC (aQ mh.nd (iM.l 2) (lG (iM.nm 2)))) eZ)
  (aC (ba (g8 (aa (aZ (oz hr rfl mh.gen mh.co) (iM.nm 0) (iM.nm 2)) (aa (aZ (oz hr rfl mh.gen mh.co) (iM.nm 1) (iM.nm 2)) aj)))))))) La
theorem EE:cq (KX w.params) mg "plus" "plus" qC ["one","other"] 35 (Hd.fd qC "plus" "plus" kj 34):=Hd.j5 e.X e.G (by kernel_rfl) λ _ _ _ _ _ _ _ _=>rfl
theorem NN:bN PW w (KX w.params) mg base c5 3 35 (Hd.fd qC "plus" "plus" kj 34) ["one","other"] (c_ AA):=by
 have B:=Bt e;have Q:=Qt e;exact cn (N:=wj) (EE e).fn JU (λ cdv A outer s H E hr=>(aC (ba (aS (qH e) (tT e) (hr.mono (by decide)) (aa (aZ fH (aZ dU (aM (nB.nm 0) av) (aM (nB.nm 1) av)) (aZ dU (aM (nB.nm 1) av) (aM (nB.nm 0) av))) (aa (aZ dU (aM (nB.nm 0) av) (aM (nB.nm 1) av)) aj)) (nB.d 0) (nB.g 0))))) Le
theorem Ce:cq (KX w.params) mg "minus" "minus" oq ["one","other"] 42 (Hd.fd oq "minus" "minus" kj 41):=Hd.j5 e.X e.G (by kernel_rfl) λ _ _ _ _ _ _ _ _=>rfl
theorem Lf:bN PW w (KX w.params) mg base c5 3 42 (Hd.fd oq "minus" "minus" kj 41) ["one","other"] (c_ xq):=by
 have B:=Bt e;have Q:=Qt e;exact cn (N:=uK) (Ce e).fn Ii (λ cdv A outer s H E hr=>(aC (ba (aS (qH e) (tT e) (hr.mono (by decide)) (aa (aZ mL (aZ dU (aM (kQ.nm 0) av) (aM (kQ.nm 1) av)) (aZ dU (aM (kQ.nm 1) av) (aM (kQ.nm 0) av))) (aa (aZ dU (aM (kQ.nm 0) av) (aM (kQ.nm 1) av)) aj)) (kQ.d 0) (kQ.g 0))))) HI
theorem Ca:cq (KX w.params) mg "times" "times" oE ["one","other"] 49 (Hd.fd oE "times" "times" kj 48):=Hd.j5 e.X e.G (by kernel_rfl) λ _ _ _ _ _ _ _ _=>rfl
theorem J0:bN PW w (KX w.params) mg base c5 3 49 (Hd.fd oE "times" "times" kj 48) ["one","other"] (c_ yh):=by
 have B:=Bt e;have Q:=Qt e;exact cn (N:=uG) (Ca e).fn HE (λ cdv A outer s H E hr=>(aC (ba (aS (qH e) (tT e) (hr.mono (by decide)) (aa (aZ dU (aM (oF.nm 0) av) (aM (oF.nm 1) av)) (aa (aZ dU (aM (oF.nm 0) av) (aM (oF.nm 1) av)) aj)) (oF.d 0) (oF.g 0))))) Ie
theorem F5:cq (KX w.params) mg "over" "over" qL ["one","other"] 56 (Hd.fd qL "over" "over" kj 55):=Hd.j5 e.X e.G (by kernel_rfl) λ _ _ _ _ _ _ _ _=>rfl
theorem MM:bN PW w (KX w.params) mg base c5 3 56 (Hd.fd qL "over" "over" kj 55) ["one","other"] (c_ Av):=by
 have B:=Bt e;have Q:=Qt e;exact cn (N:=vT) (F5 e).fn KL (λ cdv A outer s H E hr=>(aC (ba (aS (qH e) (tT e) (hr.mono (by decide)) (aa (aZ dU (aM (qW.nm 0) av) (aM (qW.nm 1) av)) (aa (aZ dU (aM (qW.nm 0) av) (aM (qW.nm 1) av)) aj)) (qW.d 0) (qW.g 0))))) Ki
theorem oK:cq (KX w.params) mg "whole" "whole" oy ["n"] 63 (Hd.fd oy "whole" "whole" kj 62):=Hd.qw e.X e.G (by kernel_rfl) λ _ _ _ _ _ _ _=>rfl
theorem qR:bN PW w (KX w.params) mg base c5 1 63 (Hd.fd oy "whole" "whole" kj 62) ["n"] (c_ mG):=by
 have B:=Bt e;have Q:=Qt e;exact cn (N:=uB) (oK e).fn HY (λ cdv A outer s H E hr=>(aC (ba (g8 (aa (K3.nm 0) (aa av aj)))))) Ib
theorem tG:cq (KX w.params) mg "as_rows" "as_rows" jv ["rows"] 68 (Hd.fd jv "as_rows" "as_rows" ki 67):=Hd.qw e.X e.G (by kernel_rfl) λ _ _ _ _ _ _ _=>rfl
theorem yV:bN PW w (KX w.params) mg base c5 1 68 (Hd.fd jv "as_rows" "as_rows" ki 67) ["rows"] (c_ pV):=by
 have B:=Bt e;have Q:=Qt e;exact cn (N:=pW) (tG e).fn Dc (λ cdv A outer s H E hr=>(aC (ba (dQ cX (aa (c9 (Nc:=["row"]) (aW.look (ai jv) ["rows"] (by decide+kernel)) (eg (sT.nm 0)) (λ _ _ _ _=>(c8 (show(["row"]:List Str).Nodup by decide+kernel))) (λ _ _ _ _=>cv) (λ _ _ _ _=>(dQ cX (aa bK aj) B.cN rfl cj (by decide+kernel) rfl)) bG) aj) B.cN rfl cj (sT.d 0) (sT.g 0))))) DF
theorem oj:cq (KX w.params) mg "added" "added" mn ["row","times","other"] 73 (Hd.fd mn "added" "added" ki 72):=Hd.CB e.X e.G (by kernel_rfl) λ _ _ _ _ _ _ _ _ _=>rfl
theorem qD:bN PW w (KX w.params) mg base c5 1 73 (Hd.fd mn "added" "added" ki 72) ["row","times","other"] (c_ my):=by
 have B:=Bt e;have Q:=Qt e;exact cn (N:=uL) (oj e).fn HB (λ cdv A outer s H E hr=>(aC (ba (c9 (Nc:=["one","two","times"]) (aW.look (ai mn) ["row","times","other"] (by decide+kernel)) (uI (xw.g 0) B.uD (aa (xw.nm 0) (aa (xw.nm 2) aj))) (λ _ _ _ _=>(jV rfl (show(["one","two","times"]:List Str).Nodup by decide+kernel))) (λ _ _ _ _=>cv) (λ _ _ _ _=>(aZ fH bK (aZ dU bK bK))) qO)))) GH
theorem zL:cq (KX w.params) mg "sum_by" "sum_by" mq ["weights","rows","wide"] 80 (Hd.fd mq "sum_by" "sum_by" ki 79):=Hd.CB e.X e.G (by kernel_rfl) λ _ _ _ _ _ _ _ _ _=>rfl
theorem Hw:bN PW w (KX w.params) mg base c5 2 80 (Hd.fd mq "sum_by" "sum_by" ki 79) ["weights","rows","wide"] (c_ vG):=by
 have B:=Bt e;have Q:=Qt e
 exact cn (N:=sr) (zL e).fn pG (λ cdv A outer s H E hr=>(au (aQ pG.nd (fx.l 3) (aZ dU (mQ (aa av aj)) (fx.nm 2)))
  (au (ib (uI (fx.g 0) B.uD (aa (fx.nm 0) (aa (fx.nm 1) aj))) (jV rfl pG.nd) (aC (aQ pG.nd (fx.l 3) (aS (oj e) (qD e) (hr.mono (by decide)) (aa (fx.nm 3) (aa (fx.nm 4) (aa (fx.nm 5) aj))) (fx.d 1) (fx.g 1)))))
  (aC (ba (dQ cX (aa (fx.nm 3) aj) B.cN rfl cj (fx.d 2) (fx.g 2))))))) EB
theorem A3:cq (KX w.params) mg "column" "column" kC ["rows","place"] 85 (Hd.fd kC "column" "column" ki 84):=Hd.j5 e.X e.G (by kernel_rfl) λ _ _ _ _ _ _ _ _=>rfl
theorem GS:bN PW w (KX w.params) mg base c5 1 85 (Hd.fd kC "column" "column" ki 84) ["rows","place"] (c_ vp):=by
 have B:=Bt e;have Q:=Qt e;exact cn (N:=sq) (A3 e).fn F2 (λ cdv A outer s H E hr=>(aC (ba (dQ cX (aa (c9 (Nc:=["row","place"]) (aW.look (ai kC) ["rows","place"] (by decide+kernel)) (eg (vt.nm 0)) (λ _ _ _ _=>(c8 (show(["row","place"]:List Str).Nodup by decide+kernel))) (λ _ _ _ _=>cv) (λ _ _ _ _=>(aM bK bK)) bG) aj) B.cN rfl cj (vt.d 0) (vt.g 0))))) EA
theorem nF:cq (KX w.params) mg "turned_over" "turned_over" fW ["rows","wide"] 90 (Hd.fd fW "turned_over" "turned_over" ki 89):=Hd.j5 e.X e.G (by kernel_rfl) λ _ _ _ _ _ _ _ _=>rfl
theorem sD:bN PW w (KX w.params) mg base c5 2 90 (Hd.fd fW "turned_over" "turned_over" ki 89) ["rows","wide"] (c_ kq):=by
 have B:=Bt e;have Q:=Qt e;exact cn (N:=ku) (nF e).fn xZ (λ cdv A outer s H E hr=>(aC (ba (dQ cX (aa (c9 (Nc:=["place","rows"]) (aW.look (ai fW) ["rows","wide"] (by decide+kernel)) (dY (kr.g 0) B.d8 (aa (kr.nm 1) aj)) (λ _ _ _ _=>(c8 (show(["place","rows"]:List Str).Nodup by decide+kernel))) (λ _ _ _ _=>cv) (λ _ _ _ _=>(aS (A3 e) (GS e) (hr.mono (by decide)) (aa bK (aa bK aj)) (by decide+kernel) rfl)) bG) aj) B.cN rfl cj (kr.d 1) (kr.g 1))))) xD
theorem wQ:cq (KX w.params) mg "unit_row" "unit_row" iJ ["n","place"] 95 (Hd.fd iJ "unit_row" "unit_row" ki 94):=Hd.j5 e.X e.G (by kernel_rfl) λ _ _ _ _ _ _ _ _=>rfl
theorem C2:bN PW w (KX w.params) mg base c5 1 95 (Hd.fd iJ "unit_row" "unit_row" ki 94) ["n","place"] (c_ r8):=by
 have B:=Bt e;have Q:=Qt e;exact cn (N:=nN) (wQ e).fn BH (λ cdv A outer s H E hr=>(aC (ba (dQ cX (aa (c9 (Nc:=["k","place"]) (aW.look (ai iJ) ["n","place"] (by decide+kernel)) (dY (nZ.g 0) B.d8 (aa (nZ.nm 0) aj)) (λ _ _ _ _=>(c8 (show(["k","place"]:List Str).Nodup by decide+kernel))) (λ _ _ _ _=>cv) (λ _ _ _ _=>(D1 (cR (o6 hr) (cu _) bK bK) av av)) bG) aj) B.cN rfl cj (nZ.d 1) (nZ.g 1))))) BX
theorem qb:cq (KX w.params) mg "unit_rows" "unit_rows" gZ ["n"] 100 (Hd.fd gZ "unit_rows" "unit_rows" ki 99):=Hd.qw e.X e.G (by kernel_rfl) λ _ _ _ _ _ _ _=>rfl
theorem vd:bN PW w (KX w.params) mg base c5 2 100 (Hd.fd gZ "unit_rows" "unit_rows" ki 99) ["n"] (c_ mR):=by
 have B:=Bt e;have Q:=Qt e;exact cn (N:=mK) (qb e).fn Ab (λ cdv A outer s H E hr=>(aC (ba (dQ cX (aa (c9 (Nc:=["place","n"]) (aW.look (ai gZ) ["n"] (by decide+kernel)) (dY (mO.g 0) B.d8 (aa (mO.nm 0) aj)) (λ _ _ _ _=>(c8 (show(["place","n"]:List Str).Nodup by decide+kernel))) (λ _ _ _ _=>cv) (λ _ _ _ _=>(aS (wQ e) (C2 e) (hr.mono (by decide)) (aa bK (aa bK aj)) (by decide+kernel) rfl)) bG) aj) B.cN rfl cj (mO.d 1) (mO.g 1))))) AQ
theorem kL:cq (KX w.params) mg "lead_of" "lead_of" kW ["row"] 107 (Hd.fd kW "lead_of" "lead_of" e9 106):=Hd.qw e.X e.G (by kernel_rfl) λ _ _ _ _ _ _ _=>rfl
theorem ni:bN PW w (KX w.params) mg base c5 1 107 (Hd.fd kW "lead_of" "lead_of" e9 106) ["row"] (c_ js):=by
 have B:=Bt e;have Q:=Qt e
 exact cn (N:=pP) (kL e).fn vW (λ cdv A outer s H E hr=>(au (ib (F1 (pS.g 0) B.vb (aa (pS.nm 0) aj)) (jV rfl vW.nd) (aC (fz (cR ug (cu _) (pS.nm 2) av) (aC (ba (pS.nm 1))) eZ)))
  (aC (ba uo)))) DB
theorem nu:cq (KX w.params) mg "nearest_quotient" "nearest_quotient" ff ["top","bottom"] 114 (Hd.fd ff "nearest_quotient" "nearest_quotient" e9 113):=Hd.j5 e.X e.G (by kernel_rfl) λ _ _ _ _ _ _ _ _=>rfl
theorem tf:bN PW w (KX w.params) mg base c5 1 114 (Hd.fd ff "nearest_quotient" "nearest_quotient" e9 113) ["top","bottom"] (c_ jG):=by
 have B:=Bt e;have Q:=Qt e;exact cn (N:=gH) (nu e).fn i9 (λ cdv A outer s H E hr=>(aC (ba (aZ (oz hr rfl i9.gen i9.co) (aZ fH (aZ dU av (jt.nm 0)) (jt.nm 1)) (aZ dU av (jt.nm 1)))))) sG
theorem mN:cq (KX w.params) mg "exchanged" "exchanged" i3 ["rows","k","other"] 121 (Hd.fd i3 "exchanged" "exchanged" e9 120):=Hd.CB e.X e.G (by kernel_rfl) λ _ _ _ _ _ _ _ _ _=>rfl
theorem qc:bN PW w (KX w.params) mg base c5 1 121 (Hd.fd i3 "exchanged" "exchanged" e9 120) ["rows","k","other"] (c_ kg):=by
 have B:=Bt e;have Q:=Qt e
 exact cn (N:=mT) (mN e).fn ue (λ cdv A outer s H E hr=>(au (aQ ue.nd (dG.l 3) (dQ JM (aa (dG.nm 0) aj) B.o5 rfl l_ (dG.d 0) (dG.g 0)))
  (au (fV (aM (dG.nm 0) (dG.nm 2)) (dG.nm 3) (dG.nm 1))
  (au (fV (aM (dG.nm 0) (dG.nm 1)) (dG.nm 3) (dG.nm 2))
  (aC (ba (dG.nm 3))))))) zV
theorem pC:cq (KX w.params) mg "negated" "negated" jo ["row"] 126 (Hd.fd jo "negated" "negated" e9 125):=Hd.qw e.X e.G (by kernel_rfl) λ _ _ _ _ _ _ _=>rfl
theorem sO:bN PW w (KX w.params) mg base c5 1 126 (Hd.fd jo "negated" "negated" e9 125) ["row"] (c_ nj):=by
 have B:=Bt e;have Q:=Qt e;exact cn (N:=pZ) (pC e).fn Dg (λ cdv A outer s H E hr=>(aC (ba (c9 (Nc:=["number"]) (aW.look (ai jo) ["row"] (by decide+kernel)) (eg (GF.nm 0)) (λ _ _ _ _=>(c8 (show(["number"]:List Str).Nodup by decide+kernel))) (λ _ _ _ _=>cv) (λ _ _ _ _=>(lG bK)) bG)))) Dq
theorem iE:MethAt (KX w.params) aF "__init__" "Bench.__init__" dv ["self","rows"] 138 (Hd.fd dv "__init__" "Bench.__init__" e9 137):=Hd.Qj (by kernel_rfl) λ _ _ _ _ _ _ _ _=>rfl
theorem vM:bN PW w (KX w.params) mg base c5 3 138 (Hd.fd dv "__init__" "Bench.__init__" e9 137) ["self","rows"] (c_ ky):=by
 have B:=Bt e;have Q:=Qt e
 exact cn (N:=iC) (iE e).fn uU (λ cdv A outer s H E hr=>(au (oA Q.bg.cl Q.cP (cp.nm 0) (xI (Nc:=["row"]) (aW.look (ai dv) ["self","rows"] (by decide+kernel)) (eg (cp.nm 1)) (λ _ _ _ _=>(c8 (show(["row"]:List Str).Nodup by decide+kernel))) (λ _ _ _ _=>cv) (λ _ _ _ _=>(dQ qx (aa bK aj) B.o5 rfl l_ (by decide+kernel) rfl)) bG))
  (au (oA Q.bg.cl Q.fB (cp.nm 0) (xI (Nc:=["row"]) (aW.look (ai dv) ["self","rows"] (by decide+kernel)) (eg (aS (qb e) (vd e) (hr.mono (by decide)) (aa (de fo (aa (cp.nm 1) aj) B.fm rfl dP (cp.d 0) (cp.g 0)) aj) (cp.d 1) (cp.g 1))) (λ _ _ _ _=>(c8 (show(["row"]:List Str).Nodup by decide+kernel))) (λ _ _ _ _=>cv) (λ _ _ _ _=>(dQ qx (aa bK aj) B.o5 rfl l_ (by decide+kernel) rfl)) bG))
  (aC (oA Q.bg.cl Q.cV (cp.nm 0) (xI (Nc:=["row"]) (aW.look (ai dv) ["self","rows"] (by decide+kernel)) (eg (aS (qb e) (vd e) (hr.mono (by decide)) (aa (de fo (aa (cp.nm 1) aj) B.fm rfl dP (cp.d 0) (cp.g 0)) aj) (cp.d 1) (cp.g 1))) (λ _ _ _ _=>(c8 (show(["row"]:List Str).Nodup by decide+kernel))) (λ _ _ _ _=>cv) (λ _ _ _ _=>(dQ qx (aa bK aj) B.o5 rfl l_ (by decide+kernel) rfl)) bG)))))) uW
theorem jj:MethAt (KX w.params) aF "take" "Bench.take" ip ["self","k","times","other"] 145 (Hd.fd ip "take" "Bench.take" e9 144):=Hd.RC (by kernel_rfl) λ _ _ _ _ _ _ _ _ _ _=>rfl
theorem s_:bN PW w (KX w.params) mg base c5 2 145 (Hd.fd ip "take" "Bench.take" e9 144) ["self","k","times","other"] (c_ lE):=by
 have B:=Bt e;have Q:=Qt e
 exact cn (N:=lQ) (jj e).fn za (λ cdv A outer s H E hr=>(au (fV (aS (oj e) (qD e) (hr.mono (by decide)) (aa (aM (dM Q.bg.cl Q.cP (a_.nm 0)) (a_.nm 1)) (aa (lG (a_.nm 2)) (aa (aM (dM Q.bg.cl Q.cP (a_.nm 0)) (a_.nm 3)) aj))) (a_.d 0) (a_.g 0)) (dM Q.bg.cl Q.cP (a_.nm 0)) (a_.nm 1))
  (au (fV (aS (oj e) (qD e) (hr.mono (by decide)) (aa (aM (dM Q.bg.cl Q.fB (a_.nm 0)) (a_.nm 1)) (aa (lG (a_.nm 2)) (aa (aM (dM Q.bg.cl Q.fB (a_.nm 0)) (a_.nm 3)) aj))) (a_.d 0) (a_.g 0)) (dM Q.bg.cl Q.fB (a_.nm 0)) (a_.nm 1))
  (aC (fV (aS (oj e) (qD e) (hr.mono (by decide)) (aa (aM (dM Q.bg.cl Q.cV (a_.nm 0)) (a_.nm 3)) (aa (a_.nm 2) (aa (aM (dM Q.bg.cl Q.cV (a_.nm 0)) (a_.nm 1)) aj))) (a_.d 0) (a_.g 0)) (dM Q.bg.cl Q.cV (a_.nm 0)) (a_.nm 3)))))) y6
theorem kv:MethAt (KX w.params) aF "exchange" "Bench.exchange" fL ["self","k","other"] 152 (Hd.fd fL "exchange" "Bench.exchange" e9 151):=Hd.JF (by kernel_rfl) λ _ _ _ _ _ _ _ _ _=>rfl
theorem vx:bN PW w (KX w.params) mg base c5 2 152 (Hd.fd fL "exchange" "Bench.exchange" e9 151) ["self","k","other"] (c_ kI):=by
 have B:=Bt e;have Q:=Qt e
 exact cn (N:=iB) (kv e).fn uR (λ cdv A outer s H E hr=>(au (oA Q.bg.cl Q.cP (bD.nm 0) (aS (mN e) (qc e) (hr.mono (by decide)) (aa (dM Q.bg.cl Q.cP (bD.nm 0)) (aa (bD.nm 1) (aa (bD.nm 2) aj))) (bD.d 0) (bD.g 0)))
  (au (oA Q.bg.cl Q.fB (bD.nm 0) (aS (mN e) (qc e) (hr.mono (by decide)) (aa (dM Q.bg.cl Q.fB (bD.nm 0)) (aa (bD.nm 1) (aa (bD.nm 2) aj))) (bD.d 0) (bD.g 0)))
  (aC (oA Q.bg.cl Q.cV (bD.nm 0) (aS (mN e) (qc e) (hr.mono (by decide)) (aa (dM Q.bg.cl Q.cV (bD.nm 0)) (aa (bD.nm 1) (aa (bD.nm 2) aj))) (bD.d 0) (bD.g 0))))))) uS
theorem i6:MethAt (KX w.params) aF "change_sign" "Bench.change_sign" eK ["self","k"] 159 (Hd.fd eK "change_sign" "Bench.change_sign" e9 158):=Hd.Qj (by kernel_rfl) λ _ _ _ _ _ _ _ _=>rfl
theorem sL:bN PW w (KX w.params) mg base c5 2 159 (Hd.fd eK "change_sign" "Bench.change_sign" e9 158) ["self","k"] (c_ i_):=by
 have B:=Bt e;have Q:=Qt e
 exact cn (N:=gy) (i6 e).fn r9 (λ cdv A outer s H E hr=>(au (fV (aS (pC e) (sO e) (hr.mono (by decide)) (aa (aM (dM Q.bg.cl Q.cP (aV.nm 0)) (aV.nm 1)) aj) (aV.d 0) (aV.g 0)) (dM Q.bg.cl Q.cP (aV.nm 0)) (aV.nm 1))
  (au (fV (aS (pC e) (sO e) (hr.mono (by decide)) (aa (aM (dM Q.bg.cl Q.fB (aV.nm 0)) (aV.nm 1)) aj) (aV.d 0) (aV.g 0)) (dM Q.bg.cl Q.fB (aV.nm 0)) (aV.nm 1))
  (aC (fV (aS (pC e) (sO e) (hr.mono (by decide)) (aa (aM (dM Q.bg.cl Q.cV (aV.nm 0)) (aV.nm 1)) aj) (aV.d 0) (aV.g 0)) (dM Q.bg.cl Q.cV (aV.nm 0)) (aV.nm 1)))))) rQ
theorem g_:MethAt (KX w.params) aF "live_rows" "Bench.live_rows" dH ["self","top","place"] 164 (Hd.fd dH "live_rows" "Bench.live_rows" e9 163):=Hd.JF (by kernel_rfl) λ _ _ _ _ _ _ _ _ _=>rfl
theorem nH:bN PW w (KX w.params) mg base c5 3 164 (Hd.fd dH "live_rows" "Bench.live_rows" e9 163) ["self","top","place"] (c_ g7):=by
 have B:=Bt e;have Q:=Qt e;have hC:PySem.W.codeHdIn (KX w.params) 163 161=true:=by kernel_rfl
 exact Mp (N:=g9) (Hd.fc (by kernel_rfl)) nA (λ A outer s H E hr=>(au (ou nA.nd (dJ.l 3) (Nc:=["k","self","place"]) (aW.look (ai dH) ["self","top","place","live"] (by decide+kernel)) (GO (dJ.g 1) B.d8 (aa (dJ.nm 1) (aa (de fo (aa (dM Q.bg.cl Q.cP (dJ.nm 0)) aj) B.fm rfl dP (dJ.d 0) (dJ.g 0)) aj))) (λ _ _ _ _=>(c8 (show(["k","self","place"]:List Str).Nodup by decide+kernel))) (λ _ _ _ _=>(m5 (cR ug (cu _) (aM (aM (dM Q.bg.cl Q.cP bK) bK) bK) av))) (λ _ _ _ _=>bK) bG)
  (aC (ba (Lz (c0:=163) (oh.look (Nc:=["k","self","place"]) (fr:=[none,some 0,some 2]) (p:="k") (aW.look (ai dH) ["self","top","place","live"] (by decide+kernel))) rfl hr rfl hC (λ _ _ _ _=>(de uP (aa (aM (aM (dM Q.bg.cl Q.cP bK) bK) bK) aj) B.ux rfl qF (by decide+kernel) rfl)) (dJ.nm 3) (dJ.g 2) B.HC))))) t9
theorem mB:MethAt (KX w.params) aF "gather" "Bench.gather" gh ["self","top","place"] 171 (Hd.fd gh "gather" "Bench.gather" e9 170):=Hd.JF (by kernel_rfl) λ _ _ _ _ _ _ _ _ _=>rfl
theorem xX:bN PW w (KX w.params) mg base c5 4 171 (Hd.fd gh "gather" "Bench.gather" e9 170) ["self","top","place"] (c_ mw):=by
 have B:=Bt e;have Q:=Qt e
 exact cn (N:=jZ) (mB e).fn gK (λ cdv A outer s H E hr=>(au (aQ gK.nd (aD.l 3) (ng (aD.nm 0) Q.bg.cl (g_ e).me (nH e) (hr.mono (by decide)) (g_ e).bd (aa (aD.nm 1) (aa (aD.nm 2) aj))))
  (au (vB (cR DW (cu _) (de fo (aa (aD.nm 3) aj) B.fm rfl dP (aD.d 0) (aD.g 0)) av) (au (aQ gK.nd (aD.l 4) (aM (aD.nm 3) (lG av)))
  (au (aQ gK.nd (aD.l 5) (aM (aD.nm 3) (lG av)))
  (au (mx (ng (aD.nm 0) Q.bg.cl (jj e).me (s_ e) (hr.mono (by decide)) (jj e).bd (aa (aD.nm 4) (aa (aS (nu e) (tf e) (hr.mono (by decide)) (aa (aM (aM (dM Q.bg.cl Q.cP (aD.nm 0)) (aD.nm 4)) (aD.nm 2)) (aa (aM (aM (dM Q.bg.cl Q.cP (aD.nm 0)) (aD.nm 5)) (aD.nm 2)) aj)) (aD.d 1) (aD.g 1)) (aa (aD.nm 5) aj)))))
  (aC (aQ gK.nd (aD.l 3) (ng (aD.nm 0) Q.bg.cl (g_ e).me (nH e) (hr.mono (by decide)) (g_ e).bd (aa (aD.nm 1) (aa (aD.nm 2) aj)))))))))
  (au (fz (cR (o6 hr) (cu _) (de fo (aa (aD.nm 3) aj) B.fm rfl dP (aD.d 0) (aD.g 0)) av) (aC (ba ql)) eZ)
  (au (mx (ng (aD.nm 0) Q.bg.cl (kv e).me (vx e) (hr.mono (by decide)) (kv e).bd (aa (aD.nm 1) (aa (aM (aD.nm 3) av) aj))))
  (au (fz (cR AS (cu _) (aM (aM (dM Q.bg.cl Q.cP (aD.nm 0)) (aD.nm 1)) (aD.nm 2)) av) (aC (mx (ng (aD.nm 0) Q.bg.cl (i6 e).me (sL e) (hr.mono (by decide)) (i6 e).bd (aa (aD.nm 1) aj)))) eZ)
  (aC (ba ql)))))))) v9
theorem i7:MethAt (KX w.params) aF "lower_above" "Bench.lower_above" eO ["self","top","place"] 178 (Hd.fd eO "lower_above" "Bench.lower_above" e9 177):=Hd.JF (by kernel_rfl) λ _ _ _ _ _ _ _ _ _=>rfl
theorem sM:bN PW w (KX w.params) mg base c5 3 178 (Hd.fd eO "lower_above" "Bench.lower_above" e9 177) ["self","top","place"] (c_ ja):=by
 have B:=Bt e;have Q:=Qt e;exact cn (N:=gv) (i7 e).fn gb (λ cdv A outer s H E hr=>(aC (ib (dY (cC.g 0) B.d8 (aa (cC.nm 1) aj)) (c8 gb.nd) (aC (mx (ng (cC.nm 0) Q.bg.cl (jj e).me (s_ e) (hr.mono (by decide)) (jj e).bd (aa (cC.nm 3) (aa (aZ (oz hr rfl gb.gen gb.co) (aM (aM (dM Q.bg.cl Q.cP (cC.nm 0)) (cC.nm 3)) (cC.nm 2)) (aM (aM (dM Q.bg.cl Q.cP (cC.nm 0)) (cC.nm 1)) (cC.nm 2))) (aa (cC.nm 1) aj))))))))) rO
theorem rP:cq (KX w.params) mg "standing" "standing" jK ["rows"] 192 (Hd.fd jK "standing" "standing" e9 191):=Hd.qw e.X e.G (by kernel_rfl) λ _ _ _ _ _ _ _=>rfl
theorem xf:bN PW w (KX w.params) mg base c5 5 192 (Hd.fd jK "standing" "standing" e9 191) ["rows"] (c_ nX):=by
 have B:=Bt e;have Q:=Qt e
 exact cn (N:=n_) (rP e).fn iZ (λ cdv A outer s H E hr=>(au (aQ iZ.nd (bo.l 1) (NV ⟨Q.bg.RK,(iE e).me.at_,(iE e).me.fn,Q.bg.kp⟩ (vM e) (hr.mono (by decide)) (bo.g 0) Q.bg.mg (iE e).bd (aa (bo.nm 0) aj) (bo.d 0)))
  (au (aQ iZ.nd (bo.l 2) av)
  (au (ib (dY (bo.g 2) B.d8 (aa (de fo (aa (aM (bo.nm 0) av) aj) B.fm rfl dP (bo.d 1) (bo.g 1)) aj)) (c8 iZ.nd) (aC (fz (kh (ng (bo.nm 1) Q.bg.cl (mB e).me (xX e) (hr.mono (by decide)) (mB e).bd (aa (bo.nm 2) (aa (bo.nm 3) aj)))) (au (mx (ng (bo.nm 1) Q.bg.cl (i7 e).me (sM e) (hr.mono (by decide)) (i7 e).bd (aa (bo.nm 2) (aa (bo.nm 3) aj))))
  (aC (MQ iZ.nd (bo.l 2) av Mw))) eZ)))
  (au (aQ iZ.nd (bo.l 4) (aS (nF e) (sD e) (hr.mono (by decide)) (aa (dM Q.bg.cl Q.cV (bo.nm 1)) (aa (de fo (aa (bo.nm 0) aj) B.fm rfl dP (bo.d 1) (bo.g 1)) aj)) (bo.d 3) (bo.g 3)))
  (aC (ba (g8 (aa (aS (tG e) (yV e) (hr.mono (by decide)) (aa (j0 (dM Q.bg.cl Q.cP (bo.nm 1)) jY (jO (bo.nm 2))) aj) (bo.d 4) (bo.g 4)) (aa (aS (tG e) (yV e) (hr.mono (by decide)) (aa (dM Q.bg.cl Q.fB (bo.nm 1)) aj) (bo.d 4) (bo.g 4)) (aa (bo.nm 4) aj))))))))))) BS
theorem tK:cq (KX w.params) mg "weighed" "weighed" kK ["form","row"] 199 (Hd.fd kK "weighed" "weighed" e9 198):=Hd.j5 e.X e.G (by kernel_rfl) λ _ _ _ _ _ _ _ _=>rfl
theorem yu:bN PW w (KX w.params) mg base c5 2 199 (Hd.fd kK "weighed" "weighed" e9 198) ["form","row"] (c_ p7):=by
 have B:=Bt e;have Q:=Qt e
 exact cn (N:=pH) (tK e).fn gf (λ cdv A outer s H E hr=>(au (aQ gf.nd (bY.l 2) (Ds aj))
  (au (aQ gf.nd (bY.l 3) (dQ qx (aa (bY.nm 1) aj) B.o5 rfl l_ (bY.d 0) (bY.g 0)))
  (au (ib (eg (bY.nm 0)) (c8 gf.nd) (au (aQ gf.nd (bY.l 5) (aS (kL e) (ni e) (hr.mono (by decide)) (aa (bY.nm 4) aj) (bY.d 1) (bY.g 1)))
  (au (aQ gf.nd (bY.l 6) (aZ (oz hr rfl gf.gen gf.co) (aM (bY.nm 3) (bY.nm 5)) (aM (bY.nm 4) (bY.nm 5))))
  (au (mx (yA (bY.nm 2) (bY.nm 6)))
  (aC (aQ gf.nd (bY.l 3) (aS (oj e) (qD e) (hr.mono (by decide)) (aa (bY.nm 3) (aa (lG (bY.nm 6)) (aa (bY.nm 4) aj))) (bY.d 2) (bY.g 2))))))))
  (aC (ba (g8 (aa (dQ cX (aa (bY.nm 2) aj) B.cN rfl cj (bY.d 3) (bY.g 3)) (aa (dQ cX (aa (bY.nm 3) aj) B.cN rfl cj (bY.d 3) (bY.g 3)) aj))))))))) C4
theorem CD:cq (KX w.params) mg "falls" "falls" oo ["form","row"] 206 (Hd.fd oo "falls" "falls" e9 205):=Hd.j5 e.X e.G (by kernel_rfl) λ _ _ _ _ _ _ _ _=>rfl
theorem Lh:bN PW w (KX w.params) mg base c5 3 206 (Hd.fd oo "falls" "falls" e9 205) ["form","row"] (c_ xF):=by
 have B:=Bt e;have Q:=Qt e;exact cn (N:=uw) (CD e).fn Hi (λ cdv A outer s H E hr=>(aC (ba (aM (aS (tK e) (yu e) (hr.mono (by decide)) (aa (um.nm 0) (aa (um.nm 1) aj)) (um.d 0) (um.g 0)) av)))) HA
theorem u3:cq (KX w.params) mg "parts_dot" "parts_dot" iW ["parts","row"] 213 (Hd.fd iW "parts_dot" "parts_dot" v_ 212):=Hd.j5 e.X e.G (by kernel_rfl) λ _ _ _ _ _ _ _ _=>rfl
theorem BV:bN PW w (KX w.params) mg base c5 4 213 (Hd.fd iW "parts_dot" "parts_dot" v_ 212) ["parts","row"] (c_ qi):=by
 have B:=Bt e;have Q:=Qt e
 exact cn (N:=mX) (u3 e).fn k_ (λ cdv A outer s H E hr=>(au (aQ k_.nd (cW.l 2) (aS (oK e) (qR e) (hr.mono (by decide)) (aa av aj) (cW.d 0) (cW.g 0)))
  (au (ib (uI (cW.g 1) B.uD (aa (cW.nm 0) (aa (cW.nm 1) aj))) (jV rfl k_.nd) (aC (aQ k_.nd (cW.l 2) (aS (EE e) (NN e) (hr.mono (by decide)) (aa (cW.nm 2) (aa (aS (Ca e) (J0 e) (hr.mono (by decide)) (aa (cW.nm 3) (aa (aS (oK e) (qR e) (hr.mono (by decide)) (aa (cW.nm 4) aj) (cW.d 0) (cW.g 0)) aj)) (cW.d 2) (cW.g 2)) aj)) (cW.d 3) (cW.g 3)))))
  (aC (ba (cW.nm 2)))))) AO
theorem u4:cq (KX w.params) mg "bottom_at" "bottom_at" i5 ["form","rest","place"] 220 (Hd.fd i5 "bottom_at" "bottom_at" v_ 219):=Hd.CB e.X e.G (by kernel_rfl) λ _ _ _ _ _ _ _ _ _=>rfl
theorem BG:bN PW w (KX w.params) mg base c5 2 220 (Hd.fd i5 "bottom_at" "bottom_at" v_ 219) ["form","rest","place"] (c_ qp):=by
 have B:=Bt e;have Q:=Qt e
 exact cn (N:=mH) (u4 e).fn tF (λ cdv A outer s H E hr=>(au (ib (eg (eS.nm 0)) (c8 tF.nd) (aC (fz (cR (o6 hr) (cu _) (aS (kL e) (ni e) (hr.mono (by decide)) (aa (eS.nm 3) aj) (eS.d 0) (eS.g 0)) (eS.nm 2)) (aC (ba (aM (eS.nm 3) (eS.nm 2)))) eZ)))
  (aC (ba (aZ dU av (de uP (aa (aM (eS.nm 1) (eS.nm 2)) aj) B.ux rfl qF (eS.d 1) (eS.g 1))))))) Bs
theorem pM:cq (KX w.params) mg "parts_against" "parts_against" fU ["form","rest"] 227 (Hd.fd fU "parts_against" "parts_against" v_ 226):=Hd.j5 e.X e.G (by kernel_rfl) λ _ _ _ _ _ _ _ _=>rfl
theorem xn:bN PW w (KX w.params) mg base c5 5 227 (Hd.fd fU "parts_against" "parts_against" v_ 226) ["form","rest"] (c_ lM):=by
 have B:=Bt e;have Q:=Qt e
 exact cn (N:=jf) (pM e).fn fM (λ cdv A outer s H E hr=>(au (aQ fM.nd (aq.l 2) (aS (kL e) (ni e) (hr.mono (by decide)) (aa (aq.nm 1) aj) (aq.d 0) (aq.g 0)))
  (au (aQ fM.nd (aq.l 3) (aZ MV (mQ (aa (aS (oK e) (qR e) (hr.mono (by decide)) (aa av aj) (aq.d 1) (aq.g 1)) aj)) (de fo (aa (aq.nm 1) aj) B.fm rfl dP (aq.d 2) (aq.g 2))))
  (au (fV (aS (qH e) (tT e) (hr.mono (by decide)) (aa av (aa (aS (u4 e) (BG e) (hr.mono (by decide)) (aa (aq.nm 0) (aa (aq.nm 1) (aa (aq.nm 2) aj))) (aq.d 3) (aq.g 3)) aj)) (aq.d 4) (aq.g 4)) (aq.nm 3) (aq.nm 2))
  (au (ib (Im (aq.g 5) B.d8 (aa (aZ mL (de fo (aa (aq.nm 0) aj) B.fm rfl dP (aq.d 2) (aq.g 2)) av) (aa (lG av) (aa (lG av) aj)))) (c8 fM.nd) (au (aQ fM.nd (aq.l 5) (aS (kL e) (ni e) (hr.mono (by decide)) (aa (aM (aq.nm 0) (aq.nm 4)) aj) (aq.d 0) (aq.g 0)))
  (aC (fz (cR AS (cu _) (aq.nm 5) (aq.nm 2)) (au (aQ fM.nd (aq.l 6) (aS (Ce e) (Lf e) (hr.mono (by decide)) (aa (aS (oK e) (qR e) (hr.mono (by decide)) (aa av aj) (aq.d 1) (aq.g 1)) (aa (aS (u3 e) (BV e) (hr.mono (by decide)) (aa (aq.nm 3) (aa (aM (aq.nm 0) (aq.nm 4)) aj)) (aq.d 6) (aq.g 6)) aj)) (aq.d 7) (aq.g 7)))
  (aC (fV (aS (F5 e) (MM e) (hr.mono (by decide)) (aa (aq.nm 6) (aa (aS (oK e) (qR e) (hr.mono (by decide)) (aa (aM (aM (aq.nm 0) (aq.nm 4)) (aq.nm 5)) aj) (aq.d 1) (aq.g 1)) aj)) (aq.d 8) (aq.g 8)) (aq.nm 3) (aq.nm 5)))) eZ))))
  (aC (ba (dQ cX (aa (aq.nm 3) aj) B.cN rfl cj (aq.d 9) (aq.g 9))))))))) vR
theorem qu:cq (KX w.params) mg "steps_behind" "steps_behind" gj ["turn","many"] 234 (Hd.fd gj "steps_behind" "steps_behind" CU 233):=Hd.j5 e.X e.G (by kernel_rfl) λ _ _ _ _ _ _ _ _=>rfl
theorem xJ:bN PW w (KX w.params) mg base c5 6 234 (Hd.fd gj "steps_behind" "steps_behind" CU 233) ["turn","many"] (c_ ma):=by
 have B:=Bt e;have Q:=Qt e;exact cn (N:=jU) (qu e).fn w6 (λ cdv A outer s H E hr=>(aC (ba (D1 (cR AS (cu _) (fi.nm 1) (de fo (aa (fi.nm 0) aj) B.fm rfl dP (fi.d 0) (fi.g 0))) (aM (aS (rP e) (xf e) (hr.mono (by decide)) (aa (j0 (fi.nm 0) (jO (fi.nm 1)) jY) aj) (fi.d 1) (fi.g 1)) av) (g8 aj))))) xh
theorem tM:cq (KX w.params) mg "answers" "answers" kO ["rows","due"] 241 (Hd.fd kO "answers" "answers" CU 240):=Hd.j5 e.X e.G (by kernel_rfl) λ _ _ _ _ _ _ _ _=>rfl
theorem yP:bN PW w (KX w.params) mg base c5 7 241 (Hd.fd kO "answers" "answers" CU 240) ["rows","due"] (c_ pq):=by
 have B:=Bt e;have Q:=Qt e
 exact cn (N:=pE) (tM e).fn gF (λ cdv A outer s H E hr=>(au (aQ gF.nd (aK.l 2) (de fo (aa (aM (aK.nm 0) av) aj) B.fm rfl dP (aK.d 0) (aK.g 0)))
  (au (aQ gF.nd (aK.l 3) (aS (rP e) (xf e) (hr.mono (by decide)) (aa (aS (nF e) (sD e) (hr.mono (by decide)) (aa (aK.nm 0) (aa (aK.nm 2) aj)) (aK.d 1) (aK.g 1)) aj) (aK.d 2) (aK.g 2)))
  (au (aQ gF.nd (aK.l 4) (aM (aK.nm 3) av))
  (au (aQ gF.nd (aK.l 5) (aM (aK.nm 3) av))
  (au (aQ gF.nd (aK.l 6) (aS (tK e) (yu e) (hr.mono (by decide)) (aa (aK.nm 4) (aa (aK.nm 1) aj)) (aK.d 3) (aK.g 3)))
  (au (fz (cR EF (cu _) (aS (kL e) (ni e) (hr.mono (by decide)) (aa (aM (aK.nm 6) av) aj) (aK.d 4) (aK.g 4)) uo) (aC (ba (g8 (aa zt (aa (aS (pM e) (xn e) (hr.mono (by decide)) (aa (aK.nm 4) (aa (aM (aK.nm 6) av) aj)) (aK.d 5) (aK.g 5)) aj))))) eZ)
  (au (aQ gF.nd (aK.l 7) (aS (qu e) (xJ e) (hr.mono (by decide)) (aa (aK.nm 5) (aa (de fo (aa (aK.nm 4) aj) B.fm rfl dP (aK.d 0) (aK.g 0)) aj)) (aK.d 6) (aK.g 6)))
  (au (aQ gF.nd (aK.l 8) (aS (CD e) (Lh e) (hr.mono (by decide)) (aa (aK.nm 7) (aa (aS (zL e) (Hw e) (hr.mono (by decide)) (aa (aM (aK.nm 6) av) (aa (j0 (aK.nm 5) jY (jO (de fo (aa (aK.nm 4) aj) B.fm rfl dP (aK.d 0) (aK.g 0)))) (aa (aK.nm 2) aj))) (aK.d 7) (aK.g 7)) aj)) (aK.d 8) (aK.g 8)))
  (aC (ba (g8 (aa zt (aa (aK.nm 8) (aa (aK.nm 7) (aa (aK.nm 5) (aa (aM (aK.nm 3) av) aj))))))))))))))))) Dr
theorem xk:cq (KX w.params) mg "_law_hand" "_law_hand" jP ["_law_script"] 248 (Hd.fd jP "_law_hand" "_law_hand" d5 247):=Hd.qw e.X e.G (by kernel_rfl) λ _ _ _ _ _ _ _=>rfl
theorem DH:bN PW w (KX w.params) mg base c5 1 248 (Hd.fd jP "_law_hand" "_law_hand" d5 247) ["_law_script"] (c_ rD):=by
 have B:=Bt e;have Q:=Qt e
 exact cn (N:=nM) (xk e).fn qo (λ cdv A outer s H E hr=>(au (aQ qo.nd (fy.l 1) (aZ fH (j0 (fy.nm 0) jY (jO av)) (mQ (aa av aj))))
  (au (aQ qo.nd (fy.l 2) (de uP (aa (aM (fy.nm 1) av) aj) B.ux rfl qF (fy.d 0) (fy.g 0)))
  (aC (ba (Ds (aa (fy.nm 1) (aa av (aa (aZ dU (fy.nm 2) (dQ I_ (aa (IA Rm (cu _) (fy.nm 2) (aZ zi av av)) aj) B.D9 rfl Bp (fy.d 1) (fy.g 1))) aj))))))))) BN
theorem cz:cq (KX w.params) mg "_law_take" "_law_take" jT ["_law_hand_here","_law_many"] 255 (Hd.fd jT "_law_take" "_law_take" d5 254):=Hd.j5 e.X e.G (by kernel_rfl) λ _ _ _ _ _ _ _ _=>rfl
theorem cL:bN PW w (KX w.params) mg base c5 1 255 (Hd.fd jT "_law_take" "_law_take" d5 254) ["_law_hand_here","_law_many"] (c_ bV):=by
 have B:=Bt e;have Q:=Qt e
 exact cn (N:=nL) (cz e).fn mJ (λ cdv A outer s H E hr=>(au (fz (cR DW (cu _) (aM (cA.nm 0) av) av) (au (aQ mJ.nd (cA.l 2) (aZ pk (aM (cA.nm 0) av) (cA.nm 1)))
  (au (fV (aZ Aa (aM (cA.nm 0) av) (cA.nm 1)) (cA.nm 0) av)
  (aC (ba (cA.nm 2))))) eZ)
  (au (fV (aZ fH (aM (cA.nm 0) av) av) (cA.nm 0) av)
  (au (aQ mJ.nd (cA.l 3) (aM (aM (cA.nm 0) av) (aZ pk (aM (cA.nm 0) av) (de fo (aa (aM (cA.nm 0) av) aj) B.fm rfl dP (cA.d 0) (cA.g 0)))))
  (au (aQ mJ.nd (cA.l 4) (aZ pk (aZ dU (aZ fH (aZ fH (aZ pk (cA.nm 3) av) (aZ dU av (aM (cA.nm 0) av))) av) av) av))
  (aC (ba (aZ pk (aZ Aa (aZ pk (aZ dU (cA.nm 4) (aZ fH (aZ pk (cA.nm 4) av) av)) av) av) (cA.nm 1))))))))) BQ
theorem ym:cq (KX w.params) mg "_law_dot" "_law_dot" jn ["_law_one","_law_other"] 260 (Hd.fd jn "_law_dot" "_law_dot" d5 259):=Hd.j5 e.X e.G (by kernel_rfl) λ _ _ _ _ _ _ _ _=>rfl
theorem Ey:bN PW w (KX w.params) mg base c5 1 260 (Hd.fd jn "_law_dot" "_law_dot" d5 259) ["_law_one","_law_other"] (c_ tH):=by
 have B:=Bt e;have Q:=Qt e;exact cn (N:=pX) (ym e).fn Dz (λ cdv A outer s H E hr=>(aC (ba (de (OW rfl) (aa (c9 (Nc:=["_law_a","_law_b"]) (aW.look (ai jn) ["_law_one","_law_other"] (by decide+kernel)) (uI (nt.g 0) B.uD (aa (nt.nm 0) (aa (nt.nm 1) aj))) (λ _ _ _ _=>(jV rfl (show(["_law_a","_law_b"]:List Str).Nodup by decide+kernel))) (λ _ _ _ _=>cv) (λ _ _ _ _=>(aZ dU bK bK)) qO) aj) B.OI rfl Nz (nt.d 1) (nt.g 1))))) D8
theorem nO:cq (KX w.params) mg "_law_less" "_law_less" iF ["_law_row","_law_other","_law_many"] 265 (Hd.fd iF "_law_less" "_law_less" d5 264):=Hd.CB e.X e.G (by kernel_rfl) λ _ _ _ _ _ _ _ _ _=>rfl
theorem rW:bN PW w (KX w.params) mg base c5 1 265 (Hd.fd iF "_law_less" "_law_less" d5 264) ["_law_row","_law_other","_law_many"] (c_ lh):=by
 have B:=Bt e;have Q:=Qt e;exact cn (N:=nS) (nO e).fn BD (λ cdv A outer s H E hr=>(aC (ba (c9 (Nc:=["_law_a","_law_b","_law_many"]) (aW.look (ai iF) ["_law_row","_law_other","_law_many"] (by decide+kernel)) (uI (rG.g 0) B.uD (aa (rG.nm 0) (aa (rG.nm 1) aj))) (λ _ _ _ _=>(jV rfl (show(["_law_a","_law_b","_law_many"]:List Str).Nodup by decide+kernel))) (λ _ _ _ _=>cv) (λ _ _ _ _=>(aZ mL bK (aZ dU bK bK))) qO)))) BK
theorem yC:cq (KX w.params) mg "_law_led" "_law_led" fF ["_law_rows","_law_column"] 270 (Hd.fd fF "_law_led" "_law_led" d5 269):=Hd.j5 e.X e.G (by kernel_rfl) λ _ _ _ _ _ _ _ _=>rfl
theorem EO:bN PW w (KX w.params) mg base c5 2 270 (Hd.fd fF "_law_led" "_law_led" d5 269) ["_law_rows","_law_column"] (c_ ui):=by
 have B:=Bt e;have Q:=Qt e
 exact cn (N:=pR) (yC e).fn fP (λ cdv A outer s H E hr=>(au (ou fP.nd (cw.l 2) (Nc:=["_law_row","_law_column"]) (aW.look (ai fF) ["_law_rows","_law_column","_law_others","_law_some","_law_sizes","_law_first"] (by decide+kernel)) (eg (cw.nm 0)) (λ _ _ _ _=>(c8 (show(["_law_row","_law_column"]:List Str).Nodup by decide+kernel))) (λ _ _ _ _=>(m5 (cR (o6 hr) (cu _) (aM bK bK) av))) (λ _ _ _ _=>bK) bG)
  (au (Bh fP.nd (cw.l 3) (Nc:=["_law_row","_law_column"]) (aW.look (ai fF) ["_law_rows","_law_column","_law_others","_law_some","_law_sizes","_law_first"] (by decide+kernel)) (eg (cw.nm 0)) (λ _ _ _ _=>(c8 (show(["_law_row","_law_column"]:List Str).Nodup by decide+kernel))) (λ _ _ _ _=>(m5 (cR ug (cu _) (aM bK bK) av))) (λ _ _ _ _=>bK) bG)
  (au (vB (cR DW (cu _) (de fo (aa (cw.nm 3) aj) B.fm rfl dP (cw.d 0) (cw.g 0)) av) (au (ou fP.nd (cw.l 4) (Nc:=["_law_row","_law_column"]) (aW.look (ai fF) ["_law_rows","_law_column","_law_others","_law_some","_law_sizes","_law_first"] (by decide+kernel)) (eg (cw.nm 3)) (λ _ _ _ _=>(c8 (show(["_law_row","_law_column"]:List Str).Nodup by decide+kernel))) (λ _ _ _ _=>cv) (λ _ _ _ _=>(de uP (aa (aM bK bK) aj) B.ux rfl qF (by decide+kernel) rfl)) bG)
  (au (aQ fP.nd (cw.l 5) (Nt (cw.nm 3) (Po (cw.nm 4) (de (NP rfl) (aa (cw.nm 4) aj) B.OT rfl N2 (cw.d 1) (cw.g 1)))))
  (au (Bh fP.nd (cw.l 3) (Nc:=["_law_row","_law_first","_law_column"]) (aW.look (ai fF) ["_law_rows","_law_column","_law_others","_law_some","_law_sizes","_law_first"] (by decide+kernel)) (eg (cw.nm 3)) (λ _ _ _ _=>(c8 (show(["_law_row","_law_first","_law_column"]:List Str).Nodup by decide+kernel))) (λ _ _ _ _=>cv) (λ _ _ _ _=>(aS (nO e) (rW e) (hr.mono (by decide)) (aa bK (aa bK (aa (aZ (Cm hr rfl fP.gen fP.co) (aM bK bK) (aM bK bK)) aj))) (by decide+kernel) rfl)) bG)
  (au (aQ fP.nd (cw.l 2) (aZ fH (cw.nm 2) (c9 (Nc:=["_law_row","_law_column"]) (aW.look (ai fF) ["_law_rows","_law_column","_law_others","_law_some","_law_sizes","_law_first"] (by decide+kernel)) (eg (cw.nm 3)) (λ _ _ _ _=>(c8 (show(["_law_row","_law_column"]:List Str).Nodup by decide+kernel))) (λ _ _ _ _=>(m5 (cR (o6 hr) (cu _) (aM bK bK) av))) (λ _ _ _ _=>bK) bG)))
  (aC (aQ fP.nd (cw.l 3) (aZ Nu (mQ (aa (cw.nm 5) aj)) (c9 (Nc:=["_law_row","_law_column"]) (aW.look (ai fF) ["_law_rows","_law_column","_law_others","_law_some","_law_sizes","_law_first"] (by decide+kernel)) (eg (cw.nm 3)) (λ _ _ _ _=>(c8 (show(["_law_row","_law_column"]:List Str).Nodup by decide+kernel))) (λ _ _ _ _=>(m5 (cR ug (cu _) (aM bK bK) av))) (λ _ _ _ _=>bK) bG)))))))))
  (aC (ba (g8 (aa (cw.nm 2) (aa (aM (aZ LY (cw.nm 3) (mQ (aa uo aj))) av) aj))))))))) Dj
theorem q_:cq (KX w.params) mg "_law_standing" "_law_standing" dB ["_law_rows","_law_wide"] 275 (Hd.fd dB "_law_standing" "_law_standing" d5 274):=Hd.j5 e.X e.G (by kernel_rfl) λ _ _ _ _ _ _ _ _=>rfl
theorem yf:bN PW w (KX w.params) mg base c5 3 275 (Hd.fd dB "_law_standing" "_law_standing" d5 274) ["_law_rows","_law_wide"] (c_ md):=by
 have B:=Bt e;have Q:=Qt e
 exact cn (N:=jI) (q_ e).fn dN (λ cdv A outer s H E hr=>(au (ou dN.nd (bH.l 0) (Nc:=["_law_row"]) (aW.look (ai dB) ["_law_rows","_law_wide","_law_form","_law_column","_law_first"] (by decide+kernel)) (eg (bH.nm 0)) (λ _ _ _ _=>(c8 (show(["_law_row"]:List Str).Nodup by decide+kernel))) (λ _ _ _ _=>cv) (λ _ _ _ _=>(dQ qx (aa bK aj) B.o5 rfl l_ (by decide+kernel) rfl)) bG)
  (au (aQ dN.nd (bH.l 2) (mQ aj))
  (au (ib (dY (bH.g 0) B.d8 (aa (bH.nm 1) aj)) (c8 dN.nd) (au (sN (aS (yC e) (EO e) (hr.mono (by decide)) (aa (bH.nm 0) (aa (bH.nm 3) aj)) (bH.d 1) (bH.g 1)) (jV rfl dN.nd))
  (aC (fz (cR EF (cu _) (bH.nm 4) uo) (au (fz (cR AS (cu _) (aM (bH.nm 4) (bH.nm 3)) av) (aC (CP dN.nd (bH.l 4) (c9 (Nc:=["_law_number"]) (aW.look (ai dB) ["_law_rows","_law_wide","_law_form","_law_column","_law_first"] (by decide+kernel)) (eg (bH.nm 4)) (λ _ _ _ _=>(c8 (show(["_law_number"]:List Str).Nodup by decide+kernel))) (λ _ _ _ _=>cv) (λ _ _ _ _=>(aZ mL av bK)) bG))) eZ)
  (aC (aQ dN.nd (bH.l 2) (aZ fH (c9 (Nc:=["_law_row","_law_first","_law_column"]) (aW.look (ai dB) ["_law_rows","_law_wide","_law_form","_law_column","_law_first"] (by decide+kernel)) (eg (bH.nm 2)) (λ _ _ _ _=>(c8 (show(["_law_row","_law_first","_law_column"]:List Str).Nodup by decide+kernel))) (λ _ _ _ _=>cv) (λ _ _ _ _=>(aS (nO e) (rW e) (hr.mono (by decide)) (aa bK (aa bK (aa (aZ (Cm hr rfl dN.gen dN.co) (aM bK bK) (aM bK bK)) aj))) (by decide+kernel) rfl)) bG) (mQ (aa (bH.nm 4) aj)))))) eZ))))
  (aC (ba (dQ cX (aa (c9 (Nc:=["_law_row"]) (aW.look (ai dB) ["_law_rows","_law_wide","_law_form","_law_column","_law_first"] (by decide+kernel)) (eg (bH.nm 2)) (λ _ _ _ _=>(c8 (show(["_law_row"]:List Str).Nodup by decide+kernel))) (λ _ _ _ _=>cv) (λ _ _ _ _=>(dQ cX (aa bK aj) B.cN rfl cj (by decide+kernel) rfl)) bG) aj) B.cN rfl cj (bH.d 2) (bH.g 2)))))))) xi
theorem rp:cq (KX w.params) mg "_law_rest" "_law_rest" iD ["_law_form","_law_row"] 280 (Hd.fd iD "_law_rest" "_law_rest" d5 279):=Hd.j5 e.X e.G (by kernel_rfl) λ _ _ _ _ _ _ _ _=>rfl
theorem wY:bN PW w (KX w.params) mg base c5 2 280 (Hd.fd iD "_law_rest" "_law_rest" d5 279) ["_law_form","_law_row"] (c_ nQ):=by
 have B:=Bt e;have Q:=Qt e
 exact cn (N:=nR) (rp e).fn gX (λ cdv A outer s H E hr=>(au (aQ gX.nd (cB.l 1) (dQ qx (aa (cB.nm 1) aj) B.o5 rfl l_ (cB.d 0) (cB.g 0)))
  (au (ib (eg (cB.nm 0)) (c8 gX.nd) (au (aQ gX.nd (cB.l 3) (aM (c9 (Nc:=["_law_place","_law_one"]) (aW.look (ai iD) ["_law_form","_law_row","_law_one","_law_lead"] (by decide+kernel)) (dY (cB.g 2) B.d8 (aa (de fo (aa (cB.nm 2) aj) B.fm rfl dP (cB.d 1) (cB.g 1)) aj)) (λ _ _ _ _=>(c8 (show(["_law_place","_law_one"]:List Str).Nodup by decide+kernel))) (λ _ _ _ _=>(m5 (cR ug (cu _) (aM bK bK) av))) (λ _ _ _ _=>bK) bG) av))
  (aC (aQ gX.nd (cB.l 1) (aS (nO e) (rW e) (hr.mono (by decide)) (aa (cB.nm 1) (aa (cB.nm 2) (aa (aZ (oz hr rfl gX.gen gX.co) (aM (cB.nm 1) (cB.nm 3)) (aM (cB.nm 2) (cB.nm 3))) aj))) (cB.d 3) (cB.g 3))))))
  (aC (ba (dQ cX (aa (cB.nm 1) aj) B.cN rfl cj (cB.d 4) (cB.g 4))))))) BC
theorem ve:cq (KX w.params) mg "_law_whole" "_law_whole" iY ["_law_found"] 287 (Hd.fd iY "_law_whole" "_law_whole" d5 286):=Hd.qw e.X e.G (by kernel_rfl) λ _ _ _ _ _ _ _=>rfl
theorem BL:bN PW w (KX w.params) mg base c5 1 287 (Hd.fd iY "_law_whole" "_law_whole" d5 286) ["_law_found"] (c_ p9):=by
 have B:=Bt e;have Q:=Qt e;exact cn (N:=mI) (ve e).fn Al (λ cdv A outer s H E hr=>(aC (ba (PF (de xa (aa (fw.nm 0) (aa (A9 B.D9 rfl Bp (fw.d 0) (fw.g 0)) aj)) B.jr rfl iO (fw.d 1) (fw.g 1)) (PZ (Qg (de xa (aa (fw.nm 0) (aa (A9 B.Nx rfl KO (fw.d 2) (fw.g 2)) aj)) B.jr rfl iO (fw.d 1) (fw.g 1)))))))) zS
theorem mr:cq (KX w.params) mg "_law_are_rows" "_law_are_rows" fN ["_law_found","_law_many","_law_wide"] 292 (Hd.fd fN "_law_are_rows" "_law_are_rows" d5 291):=Hd.CB e.X e.G (by kernel_rfl) λ _ _ _ _ _ _ _ _ _=>rfl
theorem qZ:bN PW w (KX w.params) mg base c5 2 292 (Hd.fd fN "_law_are_rows" "_law_are_rows" d5 291) ["_law_found","_law_many","_law_wide"] (c_ jS):=by
 have B:=Bt e;have Q:=Qt e
 exact cn (N:=jQ) (mr e).fn pU (λ cdv A outer s H E hr=>(au (fz (uH (rR (pf (kh (de xa (aa (bh.nm 0) (aa (A9 B.cN rfl cj (bh.d 0) (bh.g 0)) aj)) B.jr rfl iO (bh.d 1) (bh.g 1)))) (uh (cR ug (cu _) (de fo (aa (bh.nm 0) aj) B.fm rfl dP (bh.d 2) (bh.g 2)) (bh.nm 1))))) (aC (ba ql)) eZ)
  (au (ib (eg (bh.nm 0)) (c8 pU.nd) (aC (fz (uH (rR (pf (kh (de xa (aa (bh.nm 3) (aa (A9 B.cN rfl cj (bh.d 0) (bh.g 0)) aj)) B.jr rfl iO (bh.d 1) (bh.g 1)))) (rR (cR ug (cu _) (de fo (aa (bh.nm 3) aj) B.fm rfl dP (bh.d 2) (bh.g 2)) (bh.nm 2)) (uh (pf (kh (de (OQ rfl) (aa (c9 (Nc:=["_law_number"]) (aW.look (ai fN) ["_law_found","_law_many","_law_wide","_law_row"] (by decide+kernel)) (eg (bh.nm 3)) (λ _ _ _ _=>(c8 (show(["_law_number"]:List Str).Nodup by decide+kernel))) (λ _ _ _ _=>cv) (λ _ _ _ _=>(aS (ve e) (BL e) (hr.mono (by decide)) (aa bK aj) (by decide+kernel) rfl)) bG) aj) B.O7 rfl N7 (bh.d 3) (bh.g 3)))))))) (aC (ba ql)) eZ)))
  (aC (ba ql))))) vU
theorem wm:cq (KX w.params) mg "_law_over" "_law_over" iy ["_law_rows"] 297 (Hd.fd iy "_law_over" "_law_over" d5 296):=Hd.qw e.X e.G (by kernel_rfl) λ _ _ _ _ _ _ _=>rfl
theorem Dh:bN PW w (KX w.params) mg base c5 1 297 (Hd.fd iy "_law_over" "_law_over" d5 296) ["_law_rows"] (c_ rm):=by
 have B:=Bt e;have Q:=Qt e;exact cn (N:=oa) (wm e).fn BE (λ cdv A outer s H E hr=>(aC (ba (c9 (Nc:=["_law_k","_law_rows"]) (aW.look (ai iy) ["_law_rows"] (by decide+kernel)) (dY (nY.g 1) B.d8 (aa (de fo (aa (aM (nY.nm 0) av) aj) B.fm rfl dP (nY.d 0) (nY.g 0)) aj)) (λ _ _ _ _=>(c8 (show(["_law_k","_law_rows"]:List Str).Nodup by decide+kernel))) (λ _ _ _ _=>cv) (λ _ _ _ _=>(dQ cX (aa (c9 (Nc:=["_law_row","_law_k"]) (aW.Eg (by decide+kernel)) (eg bK) (λ _ _ _ _=>(c8 (show(["_law_row","_law_k"]:List Str).Nodup by decide+kernel))) (λ _ _ _ _=>cv) (λ _ _ _ _=>(aM bK bK)) bG) aj) B.cN rfl cj (by decide+kernel) rfl)) bG)))) BI
theorem qP:cq (KX w.params) mg "_law_reckoned" "_law_reckoned" dD ["_law_rows","_law_due"] 302 (Hd.fd dD "_law_reckoned" "_law_reckoned" d5 301):=Hd.j5 e.X e.G (by kernel_rfl) λ _ _ _ _ _ _ _ _=>rfl
theorem yc:bN PW w (KX w.params) mg base c5 4 302 (Hd.fd dD "_law_reckoned" "_law_reckoned" d5 301) ["_law_rows","_law_due"] (c_ l6):=by
 have B:=Bt e;have Q:=Qt e
 exact cn (N:=j4) (qP e).fn eJ (λ cdv A outer s H E hr=>(au (aQ eJ.nd (ay.l 2) (de fo (aa (ay.nm 0) aj) B.fm rfl dP (ay.d 0) (ay.g 0)))
  (au (aQ eJ.nd (ay.l 3) (de fo (aa (aM (ay.nm 0) av) aj) B.fm rfl dP (ay.d 0) (ay.g 0)))
  (au (ou eJ.nd (ay.l 4) (Nc:=["_law_k","_law_column","_law_size"]) (aW.look (ai dD) ["_law_rows","_law_due","_law_many","_law_size","_law_lined","_law_form","_law_heads","_law_steps","_law_rest_here"] (by decide+kernel)) (F1 (ay.g 2) B.vb (aa (aS (wm e) (Dh e) (hr.mono (by decide)) (aa (ay.nm 0) aj) (ay.d 1) (ay.g 1)) aj)) (λ _ _ _ _=>(jV rfl (show(["_law_k","_law_column","_law_size"]:List Str).Nodup by decide+kernel))) (λ _ _ _ _=>cv) (λ _ _ _ _=>(aZ fH (dQ cX (aa bK aj) B.cN rfl cj (by decide+kernel) rfl) (dQ cX (aa (c9 (Nc:=["_law_j","_law_k"]) (aW.Eg (by decide+kernel)) (dY rfl B.d8 (aa bK aj)) (λ _ _ _ _=>(c8 (show(["_law_j","_law_k"]:List Str).Nodup by decide+kernel))) (λ _ _ _ _=>cv) (λ _ _ _ _=>(dQ I_ (aa (IA (o6 hr) (cu _) bK bK) aj) B.D9 rfl Bp (by decide+kernel) rfl)) bG) aj) B.cN rfl cj (by decide+kernel) rfl))) qO)
  (au (aQ eJ.nd (ay.l 5) (aS (q_ e) (yf e) (hr.mono (by decide)) (aa (ay.nm 4) (aa (aZ fH (ay.nm 2) (ay.nm 3)) aj)) (ay.d 3) (ay.g 3)))
  (au (ou eJ.nd (ay.l 6) (Nc:=["_law_row","_law_many"]) (aW.look (ai dD) ["_law_rows","_law_due","_law_many","_law_size","_law_lined","_law_form","_law_heads","_law_steps","_law_rest_here"] (by decide+kernel)) (eg (ay.nm 5)) (λ _ _ _ _=>(c8 (show(["_law_row","_law_many"]:List Str).Nodup by decide+kernel))) (λ _ _ _ _=>(m5 (kh (de (AV rfl) (aa (j0 bK jY (jO bK)) aj) B.DY rfl AY (by decide+kernel) rfl)))) (λ _ _ _ _=>bK) bG)
  (au (aQ eJ.nd (ay.l 7) (dQ cX (aa (c9 (Nc:=["_law_row","_law_many"]) (aW.look (ai dD) ["_law_rows","_law_due","_law_many","_law_size","_law_lined","_law_form","_law_heads","_law_steps","_law_rest_here"] (by decide+kernel)) (eg (ay.nm 5)) (λ _ _ _ _=>(c8 (show(["_law_row","_law_many"]:List Str).Nodup by decide+kernel))) (λ _ _ _ _=>(m5 (pf (kh (de (AV rfl) (aa (j0 bK jY (jO bK)) aj) B.DY rfl AY (by decide+kernel) rfl))))) (λ _ _ _ _=>(j0 bK (jO bK) jY)) bG) aj) B.cN rfl cj (ay.d 4) (ay.g 4)))
  (au (aQ eJ.nd (ay.l 8) (aS (rp e) (wY e) (hr.mono (by decide)) (aa (ay.nm 6) (aa (aZ fH (dQ cX (aa (ay.nm 1) aj) B.cN rfl cj (ay.d 4) (ay.g 4)) (aZ dU (g8 (aa av aj)) (ay.nm 3))) aj)) (ay.d 5) (ay.g 5)))
  (au (fz (kh (de (AV rfl) (aa (j0 (ay.nm 8) jY (jO (ay.nm 2))) aj) B.DY rfl AY (ay.d 6) (ay.g 6))) (aC (ba (g8 (aa uo (aa (ay.nm 7) aj))))) eZ)
  (aC (ba (g8 (aa (aS (rp e) (wY e) (hr.mono (by decide)) (aa (ay.nm 7) (aa (c9 (Nc:=["_law_number"]) (aW.look (ai dD) ["_law_rows","_law_due","_law_many","_law_size","_law_lined","_law_form","_law_heads","_law_steps","_law_rest_here"] (by decide+kernel)) (eg (j0 (ay.nm 8) (jO (ay.nm 2)) jY)) (λ _ _ _ _=>(c8 (show(["_law_number"]:List Str).Nodup by decide+kernel))) (λ _ _ _ _=>cv) (λ _ _ _ _=>(aZ mL av bK)) bG) aj)) (ay.d 5) (ay.g 5)) (aa (ay.nm 7) aj)))))))))))))) w_
theorem yI:cq (KX w.params) mg "_law_any" "_law_any" dX ["_law_hand_here"] 307 (Hd.fd dX "_law_any" "_law_any" d5 306):=Hd.qw e.X e.G (by kernel_rfl) λ _ _ _ _ _ _ _=>rfl
theorem EJ:bN PW w (KX w.params) mg base c5 2 307 (Hd.fd dX "_law_any" "_law_any" d5 306) ["_law_hand_here"] (c_ tj):=by
 have B:=Bt e;have Q:=Qt e
 exact cn (N:=pA) (yI e).fn fA (λ cdv A outer s H E hr=>(au (FV fA.nd (by decide) (show(ai dX).names.lookup ("_law_size":Str)=some .local by decide+kernel) (show(ai dX).names.lookup ("_law_many":Str)=some .local by decide+kernel) (aa (aZ fH av (aS (cz e) (cL e) (hr.mono (by decide)) (aa (aE.nm 0) (aa av aj)) (aE.d 0) (aE.g 0))) (aa (aZ fH av (aS (cz e) (cL e) (hr.mono (by decide)) (aa (aE.nm 0) (aa av aj)) (aE.d 0) (aE.g 0))) aj)))
  (au (fz (cR (o6 hr) (cu _) (aS (cz e) (cL e) (hr.mono (by decide)) (aa (aE.nm 0) (aa av aj)) (aE.d 0) (aE.g 0)) av) (aC (FV fA.nd (by decide) (show(ai dX).names.lookup ("_law_size":Str)=some .local by decide+kernel) (show(ai dX).names.lookup ("_law_many":Str)=some .local by decide+kernel) (aa (aZ fH av (aS (cz e) (cL e) (hr.mono (by decide)) (aa (aE.nm 0) (aa av aj)) (aE.d 0) (aE.g 0))) (aa (aZ fH av (aS (cz e) (cL e) (hr.mono (by decide)) (aa (aE.nm 0) (aa av aj)) (aE.d 0) (aE.g 0))) aj)))) eZ)
  (au (aQ fA.nd (aE.l 3) (aM (mQ (aa av (aa av (aa av aj)))) (aS (cz e) (cL e) (hr.mono (by decide)) (aa (aE.nm 0) (aa av aj)) (aE.d 0) (aE.g 0))))
  (au (aQ fA.nd (aE.l 4) (Ds aj))
  (au (ib (dY (aE.g 1) B.d8 (aa (aE.nm 2) aj)) (c8 fA.nd) (au (aQ fA.nd (aE.l 6) (dQ cX (aa (c9 (Nc:=["_law_j","_law_hand_here","_law_most"]) (aW.look (ai dX) ["_law_hand_here","_law_size","_law_many","_law_most","_law_rows","_law_k","_law_row","_law_due","_law_numbers"] (by decide+kernel)) (dY (aE.g 1) B.d8 (aa (aE.nm 1) aj)) (λ _ _ _ _=>(c8 (show(["_law_j","_law_hand_here","_law_most"]:List Str).Nodup by decide+kernel))) (λ _ _ _ _=>cv) (λ _ _ _ _=>(aZ mL (aS (cz e) (cL e) (hr.mono (by decide)) (aa bK (aa (aZ fH (aZ dU av bK) av) aj)) (by decide+kernel) rfl) bK)) bG) aj) B.cN rfl cj (aE.d 2) (aE.g 2)))
  (au (fz (uH (MF (cR DW (cu _) (aE.nm 5) av) (Kk (cR (o6 hr) (cu _) (aS (cz e) (cL e) (hr.mono (by decide)) (aa (aE.nm 0) (aa av aj)) (aE.d 0) (aE.g 0)) av)))) (aC (aQ fA.nd (aE.l 6) (dQ cX (aa (c9 (Nc:=["_law_a","_law_b"]) (aW.look (ai dX) ["_law_hand_here","_law_size","_law_many","_law_most","_law_rows","_law_k","_law_row","_law_due","_law_numbers"] (by decide+kernel)) (uI (aE.g 3) B.uD (aa (aM (aE.nm 4) av) (aa (aM (aE.nm 4) (lG av)) aj))) (λ _ _ _ _=>(jV rfl (show(["_law_a","_law_b"]:List Str).Nodup by decide+kernel))) (λ _ _ _ _=>cv) (λ _ _ _ _=>(aZ mL (aZ dU av bK) bK)) qO) aj) B.cN rfl cj (aE.d 2) (aE.g 2)))) eZ)
  (aC (mx (yA (aE.nm 4) (aE.nm 6)))))))
  (au (aQ fA.nd (aE.l 7) (dQ cX (aa (c9 (Nc:=["_law_k","_law_hand_here","_law_most"]) (aW.look (ai dX) ["_law_hand_here","_law_size","_law_many","_law_most","_law_rows","_law_k","_law_row","_law_due","_law_numbers"] (by decide+kernel)) (dY (aE.g 1) B.d8 (aa (aE.nm 2) aj)) (λ _ _ _ _=>(c8 (show(["_law_k","_law_hand_here","_law_most"]:List Str).Nodup by decide+kernel))) (λ _ _ _ _=>cv) (λ _ _ _ _=>(aZ mL (aS (cz e) (cL e) (hr.mono (by decide)) (aa bK (aa (aZ fH (aZ dU av bK) av) aj)) (by decide+kernel) rfl) bK)) bG) aj) B.cN rfl cj (aE.d 2) (aE.g 2)))
  (au (fz (cR (o6 hr) (cu _) (aS (cz e) (cL e) (hr.mono (by decide)) (aa (aE.nm 0) (aa av aj)) (aE.d 0) (aE.g 0)) av) (au (CP fA.nd (aE.l 8) (c9 (Nc:=["_law_j","_law_hand_here"]) (aW.look (ai dX) ["_law_hand_here","_law_size","_law_many","_law_most","_law_rows","_law_k","_law_row","_law_due","_law_numbers"] (by decide+kernel)) (dY (aE.g 1) B.d8 (aa (aE.nm 1) aj)) (λ _ _ _ _=>(c8 (show(["_law_j","_law_hand_here"]:List Str).Nodup by decide+kernel))) (λ _ _ _ _=>cv) (λ _ _ _ _=>(aZ mL (aS (cz e) (cL e) (hr.mono (by decide)) (aa bK (aa av aj)) (by decide+kernel) rfl) av)) bG))
  (aC (aQ fA.nd (aE.l 7) (dQ cX (aa (c9 (Nc:=["_law_row","_law_numbers"]) (aW.look (ai dX) ["_law_hand_here","_law_size","_law_many","_law_most","_law_rows","_law_k","_law_row","_law_due","_law_numbers"] (by decide+kernel)) (eg (aE.nm 4)) (λ _ _ _ _=>(c8 (show(["_law_row","_law_numbers"]:List Str).Nodup by decide+kernel))) (λ _ _ _ _=>cv) (λ _ _ _ _=>(aS (ym e) (Ey e) (hr.mono (by decide)) (aa bK (aa bK aj)) (by decide+kernel) rfl)) bG) aj) B.cN rfl cj (aE.d 2) (aE.g 2))))) eZ)
  (aC (ba (g8 (aa (dQ cX (aa (aE.nm 4) aj) B.cN rfl cj (aE.d 2) (aE.g 2)) (aa (aE.nm 7) aj))))))))))))) Ec
theorem j_:cq (KX w.params) mg "_law_wide_number" "_law_wide_number" fC ["_law_hand_here"] 314 (Hd.fd fC "_law_wide_number" "_law_wide_number" d5 313):=Hd.qw e.X e.G (by kernel_rfl) λ _ _ _ _ _ _ _=>rfl
theorem nI:bN PW w (KX w.params) mg base c5 2 314 (Hd.fd fC "_law_wide_number" "_law_wide_number" d5 313) ["_law_hand_here"] (c_ f7):=by
 have B:=Bt e;have Q:=Qt e
 exact cn (N:=g6) (j_ e).fn nk (λ cdv A outer s H E hr=>(au (aQ nk.nd (bI.l 1) (aZ fH (aZ dU (aS (cz e) (cL e) (hr.mono (by decide)) (aa (bI.nm 0) (aa (aZ zi av av) aj)) (bI.d 0) (bI.g 0)) (aZ zi av av)) (aS (cz e) (cL e) (hr.mono (by decide)) (aa (bI.nm 0) (aa (aZ zi av av) aj)) (bI.d 0) (bI.g 0))))
  (aC (ba (aZ dU (aM (mQ (aa av (aa (lG av) aj))) (aS (cz e) (cL e) (hr.mono (by decide)) (aa (bI.nm 0) (aa av aj)) (bI.d 0) (bI.g 0))) (aM (mQ (aa (bI.nm 1) (aa (aZ Aa (bI.nm 1) av) (aa av (aa (bI.nm 1) aj))))) (aS (cz e) (cL e) (hr.mono (by decide)) (aa (bI.nm 0) (aa av aj)) (bI.d 0) (bI.g 0)))))))) sQ
theorem yG:cq (KX w.params) mg "_law_far" "_law_far" gI ["_law_hand_here"] 319 (Hd.fd gI "_law_far" "_law_far" d5 318):=Hd.qw e.X e.G (by kernel_rfl) λ _ _ _ _ _ _ _=>rfl
theorem Fm:bN PW w (KX w.params) mg base c5 3 319 (Hd.fd gI "_law_far" "_law_far" d5 318) ["_law_hand_here"] (c_ tI):=by
 have B:=Bt e;have Q:=Qt e
 exact cn (N:=pw) (yG e).fn jM (λ cdv A outer s H E hr=>(au (sN (g8 (aa (aZ fH av (aS (cz e) (cL e) (hr.mono (by decide)) (aa (bE.nm 0) (aa av aj)) (bE.d 0) (bE.g 0))) (aa (aZ fH av (aS (cz e) (cL e) (hr.mono (by decide)) (aa (bE.nm 0) (aa av aj)) (bE.d 0) (bE.g 0))) aj))) (jV rfl jM.nd))
  (au (aQ jM.nd (bE.l 3) (dQ cX (aa (c9 (Nc:=["_law_k","_law_size","_law_hand_here"]) (aW.look (ai gI) ["_law_hand_here","_law_size","_law_many","_law_rows","_law_due","_law_place","_law_sign"] (by decide+kernel)) (dY (bE.g 1) B.d8 (aa (bE.nm 2) aj)) (λ _ _ _ _=>(c8 (show(["_law_k","_law_size","_law_hand_here"]:List Str).Nodup by decide+kernel))) (λ _ _ _ _=>cv) (λ _ _ _ _=>(dQ cX (aa (c9 (Nc:=["_law_j","_law_hand_here"]) (aW.Eg (by decide+kernel)) (dY rfl B.d8 (aa bK aj)) (λ _ _ _ _=>(c8 (show(["_law_j","_law_hand_here"]:List Str).Nodup by decide+kernel))) (λ _ _ _ _=>cv) (λ _ _ _ _=>(aS (j_ e) (nI e) (hr.mono (by decide)) (aa bK aj) (by decide+kernel) rfl)) bG) aj) B.cN rfl cj (by decide+kernel) rfl)) bG) aj) B.cN rfl cj (bE.d 2) (bE.g 2)))
  (au (aQ jM.nd (bE.l 4) (dQ cX (aa (c9 (Nc:=["_law_k","_law_hand_here"]) (aW.look (ai gI) ["_law_hand_here","_law_size","_law_many","_law_rows","_law_due","_law_place","_law_sign"] (by decide+kernel)) (dY (bE.g 1) B.d8 (aa (bE.nm 2) aj)) (λ _ _ _ _=>(c8 (show(["_law_k","_law_hand_here"]:List Str).Nodup by decide+kernel))) (λ _ _ _ _=>cv) (λ _ _ _ _=>(aS (j_ e) (nI e) (hr.mono (by decide)) (aa bK aj) (by decide+kernel) rfl)) bG) aj) B.cN rfl cj (bE.d 2) (bE.g 2)))
  (au (fz (cR (o6 hr) (cu _) (aS (cz e) (cL e) (hr.mono (by decide)) (aa (bE.nm 0) (aa av aj)) (bE.d 0) (bE.g 0)) av) (au (sN (g8 (aa (aS (cz e) (cL e) (hr.mono (by decide)) (aa (bE.nm 0) (aa (bE.nm 1) aj)) (bE.d 0) (bE.g 0)) (aa (aZ mL (aS (cz e) (cL e) (hr.mono (by decide)) (aa (bE.nm 0) (aa av aj)) (bE.d 0) (bE.g 0)) av) aj))) (jV rfl jM.nd))
  (aC (aQ jM.nd (bE.l 4) (dQ cX (aa (c9 (Nc:=["_law_row","_law_sign","_law_place"]) (aW.look (ai gI) ["_law_hand_here","_law_size","_law_many","_law_rows","_law_due","_law_place","_law_sign"] (by decide+kernel)) (eg (bE.nm 3)) (λ _ _ _ _=>(c8 (show(["_law_row","_law_sign","_law_place"]:List Str).Nodup by decide+kernel))) (λ _ _ _ _=>cv) (λ _ _ _ _=>(aZ dU bK (aM bK bK))) bG) aj) B.cN rfl cj (bE.d 2) (bE.g 2))))) eZ)
  (aC (ba (g8 (aa (bE.nm 3) (aa (bE.nm 4) aj)))))))))) DV
theorem PB:cq (KX w.params) mg "law" "law" pL ["_law_script"] 326 (Hd.fd pL "law" "law" d5 325):=Hd.qw e.X e.G (by kernel_rfl) λ _ _ _ _ _ _ _=>rfl
theorem Pn:bN PW w (KX w.params) mg base c5 8 326 (Hd.fd pL "law" "law" d5 325) ["_law_script"] (c_ JD):=by
 have B:=Bt e;have Q:=Qt e
 exact cn (N:=zl) (PB e).fn qI (λ cdv A outer s H E hr=>(au (aQ qI.nd (bQ.l 1) (aS (xk e) (DH e) (hr.mono (by decide)) (aa (bQ.nm 0) aj) (bQ.d 0) (bQ.g 0)))
  (au (ib (dY (bQ.g 1) B.d8 (aa av aj)) (c8 qI.nd) (au (sN (D1 (cR (o6 hr) (cu _) (aS (cz e) (cL e) (hr.mono (by decide)) (aa (bQ.nm 1) (aa av aj)) (bQ.d 2) (bQ.g 2)) av) (aS (yG e) (Fm e) (hr.mono (by decide)) (aa (bQ.nm 1) aj) (bQ.d 3) (bQ.g 3)) (aS (yI e) (EJ e) (hr.mono (by decide)) (aa (bQ.nm 1) aj) (bQ.d 4) (bQ.g 4))) (jV rfl qI.nd))
  (au (sN (aS (qP e) (yc e) (hr.mono (by decide)) (aa (bQ.nm 3) (aa (bQ.nm 4) aj)) (bQ.d 5) (bQ.g 5)) (jV rfl qI.nd))
  (au (aQ qI.nd (bQ.l 7) (aS (tM e) (yP e) (hr.mono (by decide)) (aa (bQ.nm 3) (aa (bQ.nm 4) aj)) (bQ.d 6) (bQ.g 6)))
  (au (fz (uH (rR (pf (kh (de xa (aa (bQ.nm 7) (aa (A9 B.cN rfl cj (bQ.d 7) (bQ.g 7)) aj)) B.jr rfl iO (bQ.d 8) (bQ.g 8)))) (uh (cR (w4 hr) (cu _) (bQ.nm 7) (aS (tM e) (yP e) (hr.mono (by decide)) (aa (bQ.nm 3) (aa (bQ.nm 4) aj)) (bQ.d 6) (bQ.g 6)))))) (aC (ba ql)) eZ)
  (aC (fz (cR Rr (cu _) (bQ.nm 5) uo) (aC (fz (cR (w4 hr) (cu _) (aM (bQ.nm 7) av) zt) (aC (ba ql)) eZ)) (aC (fz (uH (rR (cR (w4 hr) (cu _) (aM (bQ.nm 7) av) zt) (rR (pf (kh (aS (mr e) (qZ e) (hr.mono (by decide)) (aa (g8 (aa (aM (bQ.nm 7) av) aj)) (aa av (aa (de fo (aa (aM (bQ.nm 3) av) aj) B.fm rfl dP (bQ.d 9) (bQ.g 9)) aj))) (bQ.d 10) (bQ.g 10)))) (uh (cR (w4 hr) (cu _) (aM (bQ.nm 7) av) (bQ.nm 5)))))) (aC (ba ql)) (aC (fz (uH (rR (pf (kh (aS (mr e) (qZ e) (hr.mono (by decide)) (aa (aM (bQ.nm 7) av) (aa (de fo (aa (bQ.nm 6) aj) B.fm rfl dP (bQ.d 9) (bQ.g 9)) (aa (de fo (aa (aM (bQ.nm 3) av) aj) B.fm rfl dP (bQ.d 9) (bQ.g 9)) aj))) (bQ.d 10) (bQ.g 10)))) (uh (cR (w4 hr) (cu _) (aM (bQ.nm 7) av) (bQ.nm 6))))) (aC (ba ql)) eZ)))))))))))
  (aC (ba ql))))) MA
end
def dL:DefRec:=match pL with
 | .FunctionDef n a b _ _ _ sc _ _ pos=>⟨n,a,b,sc,pos⟩
 |_=>⟨"",L2.kY (.Pass ⟨0,0,0,0⟩),[],L2.ai (.Pass ⟨0,0,0,0⟩),⟨0,0,0,0⟩⟩
def HK:PySem.Challenge.rw_latticeworks_k53_any_equations.wellSaid=true:=by decide+kernel
end Row
open PySem PySem.W PyProof.Rows
set_option maxRecDepth 100000 in
set_option maxHeartbeats 0 in
theorem PySem.Challenge.cw_latticeworks_k53_any_equations_holds : PySem.Challenge.rw_latticeworks_k53_any_equations.Holds := by
 refine PySem.W.holds_law Row.HK λ HK=>?_;refine PySem.W.holds_open (r:=PySem.Challenge.rw_latticeworks_k53_any_equations.row) (q:=PySem.W.view Row.PW [1,2,3,4,5,6,7,9,10,11,12,13,14,15,17,18,19,20,21,22,23,24,26,27,28,30,31,33,34,35,36,37,38,39,40,41,42,43,44,45,46,47]) (loose:=[]) (Xt:=λ _=>true) (XP:=λ _ _=>True) (YP:=(PySem.W.kmHook Row.KX Row.KA (λ _=>rfl) [161]).says) (d:=Row.dL) (kwd:=[]) Row.left ((PySem.W.kmHook Row.KX Row.KA (λ _=>rfl) [161]).of) ((PySem.W.kmHook Row.KX Row.KA (λ _=>rfl) [161]).keeps) (λ _ _=>trivial) (λ _ _ _ _ _=>trivial) (by kernel_rfl) (by kernel_rfl) (by kernel_rfl) (λ s _=>PySem.W.recFacts_of (R:=[]) rfl) (by kernel_rfl) HK (by decide+kernel) ⟨rfl,rfl,rfl,rfl,rfl,by decide+kernel⟩ ?hw ?hc;case hw=>w_witness2
 refine L2.Ph (n:=63) (k:=8) (x:="_law_script") (ts:=[(163,161)]) (K:=Row.KX) (sp:=λ w=>L3.GA (Row.KX w.params) [(163,161)]) rfl (by decide) (by kernel_rfl) ⟨rfl,by decide,by decide⟩ (by kernel_rfl) rfl (λ w h Y=>⟨PySem.W.km_in_of Y,⟨(λ q hq=>by rcases SA.mp hq with rfl|hq;kernel_rfl;cases hq),(λ q hq=>by rcases SA.mp hq with rfl|hq;kernel_rfl;cases hq),λ q hq=>PySem.W.km_tabs_of Y _ (WD (f:=Prod.snd) hq)⟩⟩) ?F λ _ _ a ns hl hE=>⟨a,ns,rfl,hE,hl,λ _=>rfl⟩
 intro w mg fa h X G hmg;have e2:=hmg.symm.trans (PySem.W.mg_of (v:= .ref 326) X G (by kernel_rfl));cases e2;exact⟨Hd.fd Row.pL "law" "law" Row.d5 325,λ s v=> .of_eq rfl,λ base _ _=>(Row.Pn ⟨X,G⟩).imp λ vs H Q E h=>L3.Fv (tl:=[(161,⟨82,32,82,66⟩,"Bench.live_rows.<locals>.<lambda>")]) (by kernel_rfl) rfl (by decide) h⟩
